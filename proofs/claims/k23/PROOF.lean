import PyProof.Rows.All
import Wide.All
import OpenK.AllK
import Wide.FinOn
import Lean
import PyProof.EqAt
import PyProof.EqKinds
import PyProof.TupleCall
import Open.Tops
import KE.KIntText
import PyProof.ZipIter
import PyProof.ReprRoads
import PyProof.Draws
import KE.KDictSum
import KE.KSortedM
import OpenK.KRaise
import OpenK.KOwn
import PyProof.ExcBaseAll.ValueError
import KE.KTryMore
import PyProof.NsDelKeeps
import KE.KDictOf
import KE.KEqDict
import PyProof.DictWalks
import PyProof.TupleKey
import PyProof.MinMaxWalk
import KE.KSortTup
import PyProof.StrWalks
import KE.KRevIter
import KE.KListMore
import PyProof.StrLawsTight
import PyProof.StrLawsChain
import PySem.Challenge.RW_talejudge_k23_whole_strict_regular_safe
open PySem.W renaming Frag->d0,kia_one->W2,keepIn->j3,findIn->m3,instObj->N3,fnOf->c5,nsIn->S5,callWith_K->Y5,plainGet->D6,lookIn->p7,codeIn->v7,plainGet_of->L7,methodObj->X7,hasDictIn->Y7,takerIn->t8,isFn->j9,cellsFrom_some->m9,specialIn->X9,plainOver->Y9,kitx_list->Z9,kitx_dict->j00
open PySem.PyData renaming keyHash->j0,depthAll->y3,canLayAll0->z6
open PySem.Builtin.Tuple renaming tupleHashOf->o0,tupleExact->y4
open PySem renaming wpAny_bind->u0,Shared->A0,wpAny_pure->G0,Params->M0,World->Q0,wpAny->S0,model->B1,reduceHash->G1,starEach->K1,Around->X1,compareOp->A2,OsState->J2,wpAny_holding->K2,wpAny_truthy_bool->Q2,eval->X2,mainGlobals->Y2,treeTable->c3,wpAny_mono->E3,sysModules->F3,wpAny_newObj_type->L3,attributeBase->M3,wpAny_Call_Name_kw->O3,eqIsQuiet->S3,intKind->Y3,wpAny_pyNext_list_item->v4,backTo->w4,wpAny_passesOwn->G4,binaryOp->J4,mem_of_lookup->S4,bootBuiltins->V4,codeAny_builtin->j5,wpAny_pyIter_tuple->v5,tupleKind_room_in1->z5,tupleKind->C5,wpAny_seqItems->E5,wpAny_pyIter_list->F5,placesWithHash->G5,foldedSetIterable->J5,boot_len->K5,NameKind->M5,wpAny_pyNext_list_end->U5,wpAny_call_entry->W5,assignEach->X5,codeAny->Z5,wpAny_field->i6,sliceBounds->j6,callSpecialIfBoundUnlessNone?->l6,importedModules->v6,codeAny_mono->B6,Keyword->J6,swapsWith->K6,intKind_is->N6,SetTable->P6,wpAny_pyIter_enum->a7,relabel->b7,keywordEach->c7,plainId_quiet->m7,behindInMarks->o7,Paired->z7,wpAny_callSpecial?_slot->J7,atKey->K7,strKind_is->Q7,wpAny_execs_nil->T7,letOwnedTupleGo->U7,wpAny_tryCatch->d8,wpAny_of_eq->i8,valueAt->k8,getItem->m8,wpAny_standAt->z8,wpAny_tupleItemsOf->D8,wpAny_rule->E8,pyNext->F8,IsPart->G8,holding->K8,callerA->M8,call_meetsIn->N8,backToKw->O8,seqItems?->d9,noFill_tuple_add->i9,wpAny_letGo->t9,subscripted->u9,wpAny_updateSeq->D9,wpAny_specialOf->E9,Within->F9,standAt->L9,wpAny_letOwnedTupleGo_enum->N9,relayAll->O9,Thread->S9,ReadsAll->U9,evalArgs_none->W9
open List renaming mem_of_getElem?->v0,not_mem_nil->B0,length_append->D0,length_map->L0,size_toArray->T0,range->X0,map_cons->j1,getElem?_eq_getElem->v1,map_append->A1,getElem?_append_left->C1,length_cons->D1,getElem?_append_right->E1,mem_cons_of_mem->F1,mem_append_right->J1,mem_cons_self->N1,length_filter_le->T1,getElem?_modify->V1,forall_mem_cons->W1,getElem?_cons_succ->Z1,filter_cons_of_pos->C2,filter_cons_of_neg->D2,getElem?_map->E2,replicate->G2,getElem?_cons_zero->P2,mem_cons->T2,append_nil->Z2,map_map->u3,length_range->v3,length_replicate->B3,length_nil->P3,find?_cons->Q3,filter_append->Z3,drop_zero->M4,lookup_cons->O4,length_take->P4,drop_eq_getElem_cons->T4,range_succ->W4,forIn_cons->X4,foldl_cons->Y4,pairwise_lt_range->m5,nodup_append->n5,forIn_nil->o5,foldl_append->u5,filter_cons->D5,mem_append_left->P5,lookup->Q5,dropLast_concat_getLast->V5,map_nil->d6,length_modify->u6,length_erase_of_mem->L6,any_cons->M6,take_length->S6,length_drop->T6,getElem_mem->U6,getElem?_replicate->V6,take_of_length_le->d7,length_pos_of_mem->i7,nodup_cons->A7,mem_filter->B7,length_singleton->E7,getElem?_eq_none->F7,filterMap_cons->W7,append_assoc->n8,any_eq_true->A8,all_eq_true->B8,of_mem_zip->J8,take_zero->X8,nodup_nil->Y8,mem_range->Z8,length_filterMap_le->B9,getElem?_set_self->M9,mem_erase_of_ne->j02,getElem?_set_ne->j03
open Nat renaming le_refl->C0,le_trans->K0,lt_of_le_of_lt->U0,ne_of_lt->Y0,lt_of_lt_of_le->O1,lt_succ_of_lt->Q1,lt_succ_self->U1,zero_le->j2,not_lt_zero->U2,le_of_lt->A3,ne_of_gt->C3,lt_irrefl->o4,lt_trichotomy->F4,sub_self->A5,le_succ->T5,zero_add->n6,lt_trans->o6,lt_or_ge->r6,le_of_not_lt->Z6,mul_le_mul_right->S7,le_of_eq->u8,le_antisymm->S8,add_assoc->J9
open PySem.Heap renaming get?_push_of_some->F0,lt_size->P0,get?_push_size->V0,size_push->D3,get?_update_other->c4,get?_update_self->p4,SameBut->Q4
open Or renaming inr->N0,inl->O0
open PySem.Value renaming ref->W0,bool->U3,type->K4,str->c6,none->m6,isStrOf->C6,int->O6,isInt->P9,float->Q9
open Bool renaming false_ne_true->Z0,and_eq_true->V2,false_eq_true->d3,not_true->O5,false_or->b8,not_eq_true->C8,and_false->a9
open PySem.PassesOwn renaming never->L1
open Option.some renaming inj->P1
open PySem.NameKind renaming free->Y1
open PySem.SetTable renaming below->v2,grown->n4,insertAt->V7,advance->V9
open Array renaming length_toList->B2,getElem?_eq_getElem->A6,getElem?_eq_none->K9
open PyProof.Rows renaming callWith_type1->F2,IntsAre->J3,boot_isinstance->l5,AllBare->j7,slot_tuple_getitem->M7,callWith_builtin1->P7,envOfC->R7,wpAny_notIn_heap->c9
open ForInStep renaming yield->N2
open Sum.inl renaming inj->O2
open Pure renaming pure->G3,pure->G9
open False renaming elim->K3
open Ne renaming symm->R3
open PySem.Builtin.SmallTypes renaming nextOf->T3,ownedTupleFields->d4
open PySem.F renaming plain_max_loop->V3,slot_tuple_iterator_next->U4,args_tuple_add_2->w6,plainAttrs_list->E6,plainAttrs_dict->F6,entry_tuple_add->G6,slot_tuple_add->Q6,slot_dict_get->X6,slot_dict_values->Q8,entry_max_loop->T8,args_dict_get_2->V8,entry_dict_get->n9,args_tuple_iterator_next_1->s9,slot_dict_pop->A9,entry_tuple_iterator_next->C9
open PySem.Calls renaming spliced_cons->W3,callWith_builtin->X3,spliced_nil->u4,evalArgs_plain->N7,Name_function_global->U8
open Int renaming emod_lt_of_pos->i4,emod_nonneg->Z4,toNat_natCast->v8
open PySem.Builtin.Slice renaming slicePlaces->j4,sliceAdjust->N5,sliceApplied->a8
open PySem.W.Fast renaming tw16697807410369149715->A4,tw13926502685295537346->C4,tw13383273872528276517->D4,te14364793385576792824->E4,tw4214721358667687652->L4,tw14364793385576792824->W6
open PySem.Obj renaming mapSeq->N4,mapDictKeys->D7,putSet->j8
open List.Pairwise renaming filter->d5,nil->C7
open Option renaming isSome_map->i5,map_some->Y6
open PySem.Heap.SameBut renaming update->B5,refl->o9
open PySem.SetTable.below renaming go->L5
open PySem.Around renaming under_plainId->G7,under->c8
open PySem.Builtin.Builtins renaming bindParams->O7
open PUnit renaming unit->Z7
open PySem.Code renaming isFrame->o8,frames->j06
open Sum renaming inr->p8
open ForIn renaming forIn->L8
open PySem.SetTable.probe renaming go->P8
open PySem.Paired renaming length->W8
open PySem.SeqAt.EqAt renaming str_str->v9,str_int->w9,int_str->z9
open PySem.Str renaming ofString->T9
open Prod renaming ext->j01
open PyProof.Rows.F renaming entry_set_update_loop->j04
open PySem.Data renaming fields->j05
set_option maxRecDepth 100000
set_option maxHeartbeats 0
namespace PySem.W.Fast
def tw3094497357607955428:=0
def tw13698117733045660559:=0
def tw2951598288709562315:=0
def tw9948446175087222653:=0
def tw12492526540975435432:=0
def tw7350253690071813610:=0
def tw17399432387132291556:=0
def tw12250693549585827339:=0
def tw8613151902750566554:=0
def tw4606782336514652182:=0
def tw13712580570319220743:=0
def tw9577846102876838323:=0
def tw18205300727446052577:=0
def tw11983046490269528574:=0
def tw6273162282931815325:=0
def tw8942142148797253960:=0
def tw16679847777488990650:=0
end PySem.W.Fast
namespace K23
open_shared pre for PySem.Challenge.pw_talejudge_k23_whole_strict_regular_safe leaving 49
end K23
set_option maxHeartbeats 200000
-- CHANGE: your row's module here,as the last of these rows
set_option Elab.async false
set_option linter.all false
namespace L2
open PySem PySem.Spec PyProof.Rows
noncomputable abbrev Key:=Sum Int Str
noncomputable def keyIs:Key->Value->Bool
 | .inl k,v=>P9 k v
 | .inr x,v=>C6 x v
noncomputable def keyH (w:Q0):Key->Int
 | .inl k=>hashInt k
 | .inr x=>hashStr w x
theorem z0l :∀{k:Key} {v:Value},keyIs k v=true->(∃i t,k=Sum.inl i/\v=O6 i t)\/(∃x t,k=p8 x/\v=c6 x t)
 | .inl i,v,h=>by obtain ⟨t,e⟩:=Value.isInt_shape (k:=i) (v:=v) h;exact .inl ⟨i,t,rfl,e⟩
 | .inr x,v,h=>by obtain ⟨t,e⟩:=Value.isStrOf_shape (x:=x) (v:=v) h;exact .inr ⟨x,t,rfl,e⟩
theorem zfn (i:Int) (t:Tok):keyIs (.inl i) (.int i t)=true:=by simp [keyIs,P9]
theorem zg8 (x:Str) (t:Tok):keyIs (.inr x) (.str x t)=true:=by simp [keyIs,C6]
theorem key_ll (a b:Int):decide ((Sum.inl a:Key)=Sum.inl b)=(a == b):=by
 by_cases e:a=b
 ·subst e;simp
 ·have h:¬ (Sum.inl a:Key)=Sum.inl b:=λ q=>e (O2 q);rw [decide_eq_false h];exact (beq_eq_false_iff_ne.mpr e).symm
theorem key_rr (a b:Str):decide ((p8 a:Key)=p8 b)=decide (a=b):=by
 by_cases e:a=b
 ·subst e;simp
 ·have h:¬ (p8 a:Key)=p8 b:=λ q=>e (Sum.inr.inj q);rw [decide_eq_false h,decide_eq_false e]
theorem key_lr (a:Int) (b:Str):decide ((Sum.inl a:Key)=p8 b)=false:=decide_eq_false (λ q=>nomatch q)
theorem key_rl (a:Str) (b:Int):decide ((p8 a:Key)=Sum.inl b)=false:=decide_eq_false (λ q=>nomatch q)
noncomputable def z0p (prog:Program) (w:Q0):PySem.KeyKind prog w Key where
 is:=keyIs
 hash:=keyH w
 inj:=λ v a b ha hb=>by
  rcases z0l ha with ⟨i,t,rfl,rfl⟩|⟨x,t,rfl,rfl⟩
  ·rcases z0l hb with ⟨j,u,rfl,e⟩|⟨y,u,rfl,e⟩
   ·injection e with e1 _;rw [e1]
   ·exact nomatch e
  ·rcases z0l hb with ⟨j,u,rfl,e⟩|⟨y,u,rfl,e⟩
   ·exact nomatch e
   ·injection e with e1 _;rw [e1]
 byValue:=λ k v h=>by rcases z0l h with ⟨i,t,rfl,rfl⟩|⟨x,t,rfl,rfl⟩<;>rfl
 pyHash:=λ hv h=>by
  rcases z0l hv with ⟨i,t,rfl,rfl⟩|⟨x,t,rfl,rfl⟩
  ·exact wpAny_pyHash_int h
  ·exact wpAny_pyHash_str h
 eqBool:=λ hu hv h=>by
  rcases z0l hu with ⟨i,t,rfl,rfl⟩|⟨x,t,rfl,rfl⟩
  ·rcases z0l hv with ⟨j,u,rfl,rfl⟩|⟨y,u,rfl,rfl⟩
   ·rw [key_ll] at h;exact wpAny_eqBool_int h
   ·rw [key_lr] at h;exact z9 i t y u _ _ _ _ h
  ·rcases z0l hv with ⟨j,u,rfl,rfl⟩|⟨y,u,rfl,rfl⟩
   ·rw [key_rl] at h;exact w9 x t j u _ _ _ _ h
   ·rw [key_rr] at h;exact wpAny_eqBool_str h
 «strs»:=λ k x t v h=>by
  rcases z0l h with ⟨i,u,rfl,e⟩|⟨y,u,rfl,e⟩
  ·exact nomatch e
  ·injection e with e1 _;subst e1;cases v<;>rfl
theorem zcq (prog:Program) (w:Q0) (i:Int) (t:Tok):(z0p prog w).is (.inl i) (.int i t)=true:=zfn i t
theorem zcl (prog:Program) (w:Q0) (x:Str) (t:Tok):(z0p prog w).is (.inr x) (.str x t)=true:=zg8 x t
inductive V where
 | non|bl (b:Bool)|int (i:Int)|str (x:Str)|byt (b:Array UInt8)|flt (b:UInt64)|ref (a:Addr)|ty (n:String)
 deriving DecidableEq
noncomputable def RelV:V->Value->Prop
 | .non,u=>u=m6
 | .bl b,u=>u=U3 b
 | .int i,u=>∃t,u=O6 i t
 | .str x,u=>∃t,u=c6 x t
 | .byt b,u=>∃t,u=Value.bytes b t
 | .flt b,u=>∃t,u=Q9 b t
 | .ref a,u=>u=W0 a
 | .ty n,u=>u=K4 n
abbrev Vals:List V->List Value->Prop:=z7 RelV
theorem Vals.length {xs:List V} {us:List Value} (r:Vals xs us):xs.length=us.length:=W8 r
theorem Vals.get :∀{xs:List V} {us:List Value} {i:Nat} {x:V},Vals xs us->xs[i]? = some x->∃u,us[i]? = some u/\RelV x u
 | _,_,_,_,.nil,e=>by simp at e
 | _,_,0,_,.cons r _,e=>by simp at e;subst e;exact ⟨_,rfl,r⟩
 | _,_,i + 1,x,.cons _ t,e=>by obtain ⟨u,b,a⟩:=Vals.get (i:=i) (x:=x) t (by simpa using e);exact ⟨u,by simpa using b,a⟩
theorem Vals.set {x:V} {u:Value} (r:RelV x u) :∀{xs:List V} {us:List Value} (i:Nat),Vals xs us->Vals (xs.set i x) (us.set i u)
 | _,_,_,.nil=>.nil
 | _,_,0,.cons _ t=>.cons r t
 | _,_,i + 1,.cons q t=>.cons q (Vals.set r i t)
theorem Vals.append :∀{xs ys:List V} {us ws:List Value},Vals xs us->Vals ys ws->Vals (xs++ys) (us++ws)
 | _,_,_,_,.nil,s=>s
 | _,_,_,_,.cons r t,s=>.cons r (Vals.append t s)
theorem Vals.take :∀{xs:List V} {us:List Value} (n:Nat),Vals xs us->Vals (xs.take n) (us.take n)
 | _,_,0,_=>.nil
 | _,_,_ + 1,.nil=>.nil
 | _,_,n + 1,.cons r t=>.cons r (Vals.take n t)
theorem Vals.drop :∀{xs:List V} {us:List Value} (n:Nat),Vals xs us->Vals (xs.drop n) (us.drop n)
 | _,_,0,r=>r
 | _,_,_ + 1,.nil=>.nil
 | _,_,n + 1,.cons _ t=>Vals.drop n t
noncomputable def RelO:Option V->Option Value->Prop
 | some v,some u=>RelV v u
 | none,none=>True
 | _,_=>False
def KV {κ:Type}:List (κ×V)->List (κ×Value)->Prop:=z7 λ (p:κ×V) (q:κ×Value)=>p.1=q.1/\RelV p.2 q.2
noncomputable def kV:Key->V
 | .inl i=>.int i
 | .inr x=>.str x
inductive HO where
 | lst (xs:List V)
 | tup (xs:List V)
 | dK (kvs:List (Key×V))|dT (kvs:List (List Key×V))
 | set (S:Int->Bool) (n:Nat)
 | ins (C dx:Addr) (fs:List (Str×V))
 | own (x:Addr)
 | xd (fs:List (Str×V))
 | met (f x:Addr)
 | rng (lo hi:Int)
 | frz (o:Obj) (u:HO)
 | tbl (ps:Array Value)
 | ext (φ:Heap->Prop)
noncomputable abbrev Hp:=Addr->Option HO
noncomputable def upd (H:Hp) (a:Addr) (o:HO):Hp:=λ b=>if b=a then some o else H b
theorem upd_same {H:Hp} {a:Addr} {o:HO}:upd H a o a=some o:=by unfold upd;rw [if_pos rfl]
theorem upd_ne {H:Hp} {a b:Addr} {o:HO} (h:b≠a):upd H a o b=H b:=by unfold upd;rw [if_neg h]
theorem ne_of {H:Hp} {a b:Addr} {o u:HO} (h:H a=some o) (h':H b=some u) (d:o≠u):a≠b:=by intro e;subst e;rw [h] at h';exact d (P1 h')
theorem z0e {H:Hp} {a b:Addr} {o:HO} (h:H a=some o) (h':H b=none):a≠b:=by intro e;subst e;rw [h] at h';cases h'
section
variable (P:Program) (w:Q0)
def IsTupN (h:Heap) (a:Addr) (items:Array Value):Prop:=IsTup h a items/\∃o,h.get? a=some o/\o.dict=none
theorem IsTupN.new (h:Heap) (items:Array Value):IsTupN (h.push { cls:=.type "tuple",data:=.seq items }) h.objs.size items:=⟨IsTup.new _ _,_,V0 _ rfl,rfl⟩
noncomputable def ObjOk (H:Hp) (h:Heap) (a:Addr):HO->Prop
 | .lst xs=>xs.length<=sizeLine/\∃(its:List Value) (n:Nat),Vals xs its/\h.get? a=some { cls:=.type "list",data:=.seq its.toArray n }
 | .tup xs=>xs.length<=sizeLine/\∃its:List Value,Vals xs its/\IsTupN h a its.toArray
 | .dK kvs=>kvs.length<=sizeLine/\(a == F3)=false/\∃vs,KV kvs vs/\h.DictOf (z0p P w) a vs
 | .dT kvs=>kvs.length<=sizeLine/\(a == F3)=false/\∃xs:List (List Key×Addr×Value),
   z7 (λ (p:List Key×V) (q:List Key×Addr×Value)=>p.1=q.1/\H q.2.1=some (.tup (p.1.map kV))/\RelV p.2 q.2.2) kvs xs/\
   ∃o es ep,h.get? a=some o/\o.ExactDict/\o.data=.dict es ep/\es.toList=xs.map (entryOfKey (C5 (z0p P w)))/\(xs.map (·.1)).Nodup
 | .set S n=>h.SetOf (Y3 P w) a S n
 | .ins C dx fs=>H dx=some (.own a)/\fs.length<=1000/\dx≠a/\h.get? a=some (N3 C dx)/\
   ∃mA,h.Ns1 dx mA/\(∀f,RelO (fs.lookup f) (mA f))/\F9 mA (fs.map (·.1))
 | .own _=>∃o,h.get? a=some o
 | .xd fs=>∃mA,h.Ns1 a mA/\∀f,RelO (fs.lookup f) (mA f)
 | .rng lo hi=>∃t u v,h.get? a=some { cls:=.type "range",data:=.fields #[.int lo t,.int hi u,.int 1 v] }
 | .frz o u=>h.get? a=some o/\ObjOk H h a u
 | .tbl ps=>h.get? a=some { cls:=.none,data:=.fields ps }
 | .met f x=>h.get? a=some (X7 (.ref f) (.ref x))
 | .ext φ=>φ h/\(∃o,h.get? a=some o)/\∀h1 h2:Heap,φ h1->(∀o,h1.get? a=some o->h2.get? a=some o)->φ h2
def HOk (H:Hp) (h:Heap):Prop:=∀a o,H a=some o->ObjOk P w H h a o
end
section
variable {P:Program} {w:Q0} {H H':Hp} {h h':Heap} {a:Addr} {o:HO}
theorem ObjOk.lt (x:ObjOk P w H h a o):a < h.objs.size:=by
 cases o with
 | lst xs=>obtain ⟨_,_,_,_,e⟩:=x;exact P0 e
 | tup xs=>obtain ⟨_,_,_,p⟩:=x;exact p.1.lt
 | dK kvs=>obtain ⟨_,_,_,_,o,_,_,e,_⟩:=x;exact P0 e
 | dT kvs=>obtain ⟨_,_,_,_,o,_,_,e,_⟩:=x;exact P0 e
 | set S n=>obtain ⟨o,_,_,_,e,_⟩:=x;exact P0 e
 | ins C dx fs=>obtain ⟨_,_,_,e,_⟩:=x;exact P0 e
 | own y=>obtain ⟨_,e⟩:=x;exact P0 e
 | xd fs=>obtain ⟨_,⟨_,_,_,e,_⟩,_⟩:=x;exact P0 e
 | rng lo hi=>obtain ⟨_,_,_,e⟩:=x;exact P0 e
 | frz ob u=>obtain ⟨e,_⟩:=x;exact P0 e
 | tbl ps=>exact P0 (show h.get? a=some _ from x)
 | met f y=>exact P0 (show h.get? a=some _ from x)
 | ext φ=>obtain ⟨_,⟨_,e⟩,_⟩:=x;exact P0 e
theorem Paired.mapP {α β:Type} {F G:α->β->Prop} :∀{l₁:List α} {l₂:List β},z7 F l₁ l₂->(∀a b,F a b->G a b)->z7 G l₁ l₂
 | _,_,.nil,_=>.nil
 | _,_,.cons r t,f=>.cons (f _ _ r) (Paired.mapP t f)
theorem ObjOk.stay (x:ObjOk P w H h a o) (k :∀b u,(b=a\/H b=some (.own a))->h.get? b=some u->h'.get? b=some u)
  (ho :∀b,H b=some (.own a)->H' b=some (.own a)) (ht :∀b xs,H b=some (.tup xs)->H' b=some (.tup xs)):ObjOk P w H' h' a o:=by
 induction o with
 | lst xs=>obtain ⟨z,s,n,r,e⟩:=x;exact ⟨z,s,n,r,k _ _ (.inl rfl) e⟩
 | tup xs=>obtain ⟨z,s,r,⟨g,e,c⟩,G,A,E⟩:=x;exact ⟨z,s,r,⟨g,k _ _ (.inl rfl) e,c⟩,G,k _ _ (.inl rfl) A,E⟩
 | dK kvs=>obtain ⟨z,y,D,r,g,i,j,e,c⟩:=x;exact ⟨z,y,D,r,g,i,j,k _ _ (.inl rfl) e,c⟩
 | dT kvs=>obtain ⟨z,y,xs,r,g,i,j,e,c⟩:=x;exact ⟨z,y,xs,Paired.mapP r λ p q z=>⟨z.1,ht _ _ z.2.1,z.2.2⟩,g,i,j,k _ _ (.inl rfl) e,c⟩
 | set S n=>obtain ⟨g,i,j,t,e,c⟩:=x;exact ⟨g,i,j,t,k _ _ (.inl rfl) e,c⟩
 | ins C dx fs=>obtain ⟨d,z,F,e,m,⟨l,i,j,A,c⟩,r⟩:=x;exact ⟨ho _ d,z,F,k _ _ (.inl rfl) e,m,⟨l,i,j,k _ _ (.inr d) A,c⟩,r⟩
 | own y=>obtain ⟨g,e⟩:=x;exact ⟨g,k _ _ (.inl rfl) e⟩
 | xd fs=>obtain ⟨m,⟨l,i,j,e,c⟩,r⟩:=x;exact ⟨m,⟨l,i,j,k _ _ (.inl rfl) e,c⟩,r⟩
 | rng lo hi=>obtain ⟨t,u,v,e⟩:=x;exact ⟨t,u,v,k _ _ (.inl rfl) e⟩
 | frz g u ih=>obtain ⟨e,q⟩:=x;exact ⟨k _ _ (.inl rfl) e,ih q⟩
 | tbl ps=>have e:h.get? a=some { cls:=.none,data:=.fields ps }:=x;show h'.get? a=some { cls:=.none,data:=.fields ps };exact k a _ (.inl rfl) e
 | met f y=>have e:h.get? a=some (X7 (.ref f) (.ref y)):=x;show h'.get? a=some (X7 (.ref f) (.ref y));exact k a _ (.inl rfl) e
 | ext φ=>obtain ⟨p,⟨o,e⟩,B⟩:=x;exact ⟨B _ _ p λ o q=>k _ _ (.inl rfl) q,⟨o,k _ _ (.inl rfl) e⟩,B⟩
theorem HOk.lt (x:HOk P w H h) (e:H a=some o):a < h.objs.size:=(x a o e).lt
theorem HOk.fresh (x:HOk P w H h) (e:h.objs.size<=a):H a=none:=by
 cases q:H a with
 | none=>rfl
 | some u=>exact absurd (O1 (x.lt q) e) (o4 _)
theorem HOk.kept (x:HOk P w H h) (k :∀b u,h.get? b=some u->h'.get? b=some u):HOk P w H h':=λ a o e=>(x a o e).stay (λ b u _ q=>k b u q) (λ _ q=>q) λ _ _ q=>q
theorem HOk.laid (x:HOk P w H h) (k :∀b u,h.get? b=some u->h'.get? b=some u) (hp:h.objs.size<=a) (new:ObjOk P w (upd H a o) h' a o):HOk P w (upd H a o) h':=λ b u e=>by
 have d:=x.fresh hp;by_cases hb:b=a
 ·subst hb;rw [upd_same] at e;cases e;exact new
 ·rw [upd_ne hb] at e;exact (x b u e).stay (λ c v _ q=>k c v q) (λ c q=>by rw [upd_ne (z0e q d)];exact q) λ c f q=>by rw [upd_ne (z0e q d)];exact q
end
def Rd (H:Hp) (a:Addr) (u:HO):Prop:=H a=some u\/∃o,H a=some (.frz o u)
theorem Rd.ok {P:Program} {w:Q0} {H:Hp} {h:Heap} {a:Addr} {u:HO} (r:Rd H a u) (x:HOk P w H h):ObjOk P w H h a u:=by
 rcases r with r|⟨o,r⟩
 ·exact x a u r
 ·obtain ⟨_,q⟩:=x a _ r;exact q
noncomputable def Mut:Option HO->Prop
 | some (.lst _)=>True
 | some (.dK _)=>True
 | some (.dT _)=>True
 | some (.set _ _)=>True
 | some (.ins _ _ _)=>True
 | some (.ext _)=>True
 | _=>False
section
variable {P:Program} {w:Q0} {H:Hp} {h h':Heap} {x e:Addr} {o':HO}
theorem HOk.write (ok:HOk P w H h) (mu:Mut (H x)) (he:e=x\/H e=some (.own x)) (k :∀b u,b≠e->h.get? b=some u->h'.get? b=some u) (heo :∃u,h'.get? e=some u)
  (new:ObjOk P w (upd H x o') h' x o'):HOk P w (upd H x o') h':=λ b u q=>by
 have g :∀c y,H c=some (.own y)->c≠x:=λ c y r z=>by subst z;rw [r] at mu;exact mu
 have j :∀c d,H c=some (.tup d)->c≠x:=λ c d r z=>by subst z;rw [r] at mu;exact mu
 by_cases hb:b=x
 ·subst hb;rw [upd_same] at q;cases q;exact new
 ·rw [upd_ne hb] at q;by_cases hbe:b=e
  ·have f:H b=some (.own x):=by
    rcases he with z|z
    ·exact absurd (hbe.trans z) hb
    ·rw [hbe];exact z
   rw [q] at f;cases f;obtain ⟨v,i⟩:=heo;exact ⟨v,by rw [hbe];exact i⟩
  ·refine (ok b u q).stay (λ c v a r=>k c v ?_ r) (λ c r=>by rw [upd_ne (g c b r)];exact r) λ c d r=>by rw [upd_ne (j c d r)];exact r
   rcases a with rfl|a
   ·exact hbe
   ·rintro rfl;rcases he with z|z
    ·exact g c b a z
    ·rw [a] at z;cases z;exact hb rfl
end
structure Un (fs ex:List Addr) (H H':Hp) (h h':Heap):Prop where
 keep :∀b o,h.get? b=some o->H b=none->b∉fs->b∉ex->h'.get? b=some o
 slot :∀b o,h.get? b=some o->H b=none->b∈fs->b∉ex->∃sl,h'.get? b=some { o with slots:=sl }
 free :∀b o,h.get? b=some o->H b=none->b∉ex->H' b=none
 there :∀b o,h.get? b=some o->b∉ex->∃o',h'.get? b=some o'
 tups :∀b xs,H b=some (.tup xs)->H' b=some (.tup xs)
 frzs :∀b o u,H b=some (.frz o u)->H' b=some (.frz o u)
 tbls :∀b ps,H b=some (.tbl ps)->∃more,H' b=some (.tbl (ps++more))
section
variable {fs fs' ex ex':List Addr} {H H1 H2:Hp} {h h1 h2 h':Heap} {a x e:Addr} {o:HO}
theorem Un.any (u:Un fs ex H H1 h h1) {b:Addr} {ob:Obj} (q:h.get? b=some ob) (n:H b=none) (hx:b∉ex) :∃sl,h1.get? b=some { ob with slots:=sl }:=by
 by_cases hb:b∈fs
 ·exact u.slot b ob q n hb hx
 ·exact ⟨ob.slots,u.keep b ob q n hb hx⟩
theorem Un.kept (k :∀b u,h.get? b=some u->h'.get? b=some u):Un fs ex H H h h':=
 ⟨λ b a q _ _ _=>k b a q,λ b a q _ _ _=>⟨a.slots,k b a q⟩,λ _ _ _ n _=>n,λ b a q _=>⟨a,k b a q⟩,λ _ _ q=>q,λ _ _ _ q=>q,λ _ c q=>⟨#[],by rw [q];simp⟩⟩
theorem Un.refl:Un fs ex H H h h:=Un.kept λ _ _ q=>q
theorem Un.laid (k :∀b u,h.get? b=some u->h'.get? b=some u) (hp:h.objs.size<=a) (hn:H a=none):Un fs ex H (upd H a o) h h' where
 keep:=λ b u q _ _ _=>k b u q
 slot:=λ b u q _ _ _=>⟨u.slots,k b u q⟩
 free:=λ b u q n _=>by rw [upd_ne (Y0 (O1 (P0 q) hp))];exact n
 there:=λ b u q _=>⟨u,k b u q⟩
 tups:=λ b c q=>by rw [upd_ne (z0e q hn)];exact q
 frzs:=λ b u c q=>by rw [upd_ne (z0e q hn)];exact q
 tbls:=λ b d q=>⟨#[],by rw [upd_ne (z0e q hn),q];simp⟩
theorem Un.write (mu:Mut (H x)) (he:e=x\/H e=some (.own x)) (k :∀b u,b≠e->h.get? b=some u->h'.get? b=some u) (heo :∃u,h'.get? e=some u):Un fs ex H (upd H x o) h h':=by
 have d :∀b,H b=none->b≠x:=λ b n z=>by subst z;rw [n] at mu;exact mu
 have c :∀b,H b=none->b≠e:=λ b n z=>by
  subst z;rcases he with r|r
  ·exact d b n r
  ·rw [n] at r;cases r
 have a :∀b u,H b=some u->¬ Mut (some u)->b≠x:=λ b u q nm z=>by subst z;rw [q] at mu;exact nm mu
 refine ⟨λ b u q n _ _=>k b u (c b n) q,λ b u q n _ _=>⟨u.slots,k b u (c b n) q⟩,λ b u q n _=>by rw [upd_ne (d b n)];exact n,λ b u q _=>?_,
  λ b f q=>by rw [upd_ne (a b _ q λ z=>z)];exact q,λ b u f q=>by rw [upd_ne (a b _ q λ z=>z)];exact q,λ b g q=>⟨#[],by rw [upd_ne (a b _ q λ z=>z),q];simp⟩⟩
 by_cases hbe:b=e
 ·subst hbe;exact heo
 ·exact ⟨u,k b u hbe q⟩
end
noncomputable def trk (h:Heap) (H:Hp):List Addr:=(X0 h.objs.size).filter λ a=>(H a).isSome
noncomputable def hidT (h:Heap) (H:Hp):Heap:=PySem.W.hideAll h (trk h H)
theorem zey (h:Heap) (H:Hp):(hidT h H).objs.size=h.objs.size:=PySem.W.hideAll_size _ _
theorem zhw {h:Heap} {H:Hp} {b:Addr} {o:Obj} (e:h.get? b=some o) (n:H b=none):(hidT h H).get? b=some o:=
 PySem.W.hideAll_get _ e λ a=>by have q:(H b).isSome=true:=(List.mem_filter.mp a).2;rw [n] at q;simp at q
theorem zj4 {h:Heap} {H:Hp} {b:Addr} {o:Obj} (e:(hidT h H).get? b=some o):h.get? b=some o/\H b=none:=by
 have a:h.get? b=some o:=PySem.W.of_hideAll (trk h H) e;refine ⟨a,?_⟩;cases q:H b with
 | none=>rfl
 | some x=>have c:b∈trk h H:=List.mem_filter.mpr ⟨List.mem_range.mpr (P0 a),by simp [q]⟩;have z:(hidT h H).get? b=none:=PySem.W.hideAll_none (trk h H) c;rw [z] at e;cases e
noncomputable def zj5 (g h:Heap) (L:Addr):List (Addr×Obj):=(X0 h.objs.size).filterMap λ a=>if a=L\/(g.get? a).isSome=true then none else (h.get? a).map λ o=>(a,o)
noncomputable def rest (g h:Heap) (L d:Addr):List (Addr×Obj):=(zj5 g h L).filter λ p=>decide (p.1≠d)
structure Mod (K:d0) (mg:Str->Option Value) (base:Heap):Prop where
 kin:K.In base
 glob:base.Ns Y2 mg
 blt :∃mb,base.Ns builtinsNs mb/\∀x:Str,x≠"__name__"->mb x=V4 x
 nolimit:base.NoLimit
structure Cx where
 prog:Program
 w:Q0
 K:d0
 mg:Str->Option Value
 base:Heap
 A:X1
 N:List Str
 s₀:A0
 H₀:Hp
 env:Env
 outer:List Env
 stack:List Env
 ex:List Addr
 fn:Str->Bool
 calm:Bool
 pn:List (Addr×Obj)
 xe:Value->A0->Prop
noncomputable def frs (l:List Env):List Addr:=l.filterMap (·.frame)
noncomputable abbrev Cx.fs (X:Cx):List Addr:=frs X.outer
def Vis (sc:Scope) (x:Str):Prop:=sc.names.lookup x=some .local\/sc.names.lookup x=some .cell\/sc.names.lookup x=some .free
def Loc (sc:Scope) (x:Str):Prop:=sc.names.lookup x=some .local\/sc.names.lookup x=some .cell
def Look (env:Env) (h:Heap) (m:Str->Option Value) (x:Str) (u:Value):Prop:=
 (env.kindOf x=some .local/\m x=some u)\/((env.kindOf x=some .cell\/env.kindOf x=some .free)/\∃c,env.cells.lookup x=some c/\h.IsCell c (some u))
structure Cx.Ok (X:Cx):Prop where
 mod:Mod X.K X.mg X.base
 kind:X.env.scope.kind=.function
 glob:X.env.globals=Y2
 blt:X.env.builtins=builtinsNs
 above:X.s₀.heap.objs.size<=X.env.locals
 inj :∀x y c,X.env.cells.lookup x=some c->X.env.cells.lookup y=some c->x=y
 has :∀x,(X.env.kindOf x=some .cell\/X.env.kindOf x=some .free)->∃c,X.env.cells.lookup x=some c
 cab :∀x c,X.fn x=true->X.env.cells.lookup x=some c->X.s₀.heap.objs.size<=c
 hd:X.calm=true->X.A.handled=none
 frames:X.A.frames=some X.stack
 stk:X.stack=X.outer\/(X.stack=X.env :: X.outer/\X.env.frame=some X.env.locals)
 exf :∀b∈X.ex,b≠X.env.locals/\∀x c,X.env.cells.lookup x=some c->c≠b
 bs :∀b o,X.base.get? b=some o->X.s₀.heap.get? b=some o/\X.H₀ b=none
 bsz:X.base.objs.size<=X.s₀.heap.objs.size
 noex :∀b o,X.base.get? b=some o->b∉X.ex
 exfs :∀b∈X.ex,b∉X.fs
 funs:X.s₀.heap.FunFrames X.base X.outer
 frf :∀b∈X.fs,X.H₀ b=none
structure Inv (X:Cx) (pins:List (Addr×Obj)) (σ:List (Option V)) (H:Hp) (s:A0):Prop where
 ok:X.Ok
 os:s.os=X.s₀.os
 bare:j7 s.gens
 base:Un X.fs X.ex X.H₀ H X.s₀.heap s.heap
 loc :∃m,s.heap.Ns X.env.locals m/\∀(i:Nat) (x:Str) (v:V),X.N[i]? = some x->σ[i]? = some (some v)->Vis X.env.scope x->∃u,RelV v u/\Look X.env s.heap m x u
 cell :∀x c,X.env.cells.lookup x=some c->∃v,s.heap.IsCell c v
 free:H X.env.locals=none
 freeC :∀x c,X.env.cells.lookup x=some c->H c=none
 pin :∀p∈X.pn++pins,s.heap.get? p.1=some p.2/\H p.1=none/\p.1≠X.env.locals/\p.1∉X.fs/\∀v,p.2.data≠.cell v
 hok:HOk X.prog X.w H s.heap
 len:σ.length=X.N.length
section
variable {X:Cx} {pins:List (Addr×Obj)} {σ:List (Option V)} {H H':Hp} {s:A0} {h':Heap}
theorem Cx.Ok.nofr (ok:X.Ok) {b:Addr} {o:Obj} (e:X.base.get? b=some o):b∉X.fs:=λ a=>by have:=(ok.funs.mem a).1;rw [e] at this;cases this
theorem Inv.bs (I:Inv X pins σ H s) :∀b o,X.base.get? b=some o->s.heap.get? b=some o/\H b=none:=λ b o e=>⟨I.base.keep b o (I.ok.bs b o e).1 (I.ok.bs b o e).2 (I.ok.nofr e) (I.ok.noex b o e),I.base.free b o (I.ok.bs b o e).1 (I.ok.bs b o e).2 (I.ok.noex b o e)⟩
theorem Inv.bk (I:Inv X pins σ H s) :∀b o,X.base.get? b=some o->s.heap.get? b=some o:=λ b o e=>(I.bs b o e).1
theorem Inv.mod (I:Inv X pins σ H s):Mod X.K X.mg X.base:=I.ok.mod
theorem Inv.kIn (I:Inv X pins σ H s):X.K.In s.heap:=I.ok.mod.kin.keeps I.bk
theorem Inv.lt (I:Inv X pins σ H s):X.env.locals < s.heap.objs.size:=let ⟨_,hn,_⟩:=I.loc;hn.lt
theorem Inv.sz (I:Inv X pins σ H s):X.s₀.heap.objs.size<=s.heap.objs.size:=K0 I.ok.above (A3 I.lt)
theorem Inv.nofs (I:Inv X pins σ H s) {a:Addr} (h:s.heap.objs.size<=a):a∉X.fs:=λ b=>by obtain ⟨_,o,c,_⟩:=I.ok.funs.mem b;exact absurd (O1 (P0 c) (K0 I.sz h)) (o4 _)
theorem Inv.cne (I:Inv X pins σ H s) :∀x c,X.env.cells.lookup x=some c->c≠X.env.locals:=λ x c e z=>by obtain ⟨v,o,b,a⟩:=I.cell x c e;obtain ⟨m,⟨g,h,i,f,d,_⟩,_⟩:=I.loc;rw [z,f] at b;cases b;rw [d] at a;cases a
theorem Inv.funs (I:Inv X pins σ H s):s.heap.FunFrames X.base X.outer:=by
 have all :∀(l:List Env),(∀b∈frs l,b∈X.fs)->X.s₀.heap.FunFrames X.base l->s.heap.FunFrames X.base l:=by
  intro l;induction l with
  | nil=>intro _ _;trivial
  | cons env r ih=>intro f h;obtain ⟨k,⟨L,o,c,m,j,i⟩,g⟩:=h;have d:L∈X.fs:=f L (by unfold frs;rw [W7,c];exact N1);obtain ⟨n,e⟩:=I.base.slot L o j (I.ok.frf L d) d λ z=>I.ok.exfs L z d;exact ⟨k,⟨L,_,c,m,e,i⟩,ih (λ b a=>f b (by unfold frs;rw [W7,c];exact F1 _ a)) g⟩
 exact all X.outer (λ _ a=>a) I.ok.funs
theorem Inv.stack (I:Inv X pins σ H s):s.heap.FunFrames X.base X.stack:=by
 rcases I.ok.stk with e|⟨e,hf⟩
 ·rw [e];exact I.funs
 ·rw [e];obtain ⟨m,a,_⟩:=I.loc;refine .cons (by rw [I.ok.kind];decide) hf a ?_ I.funs;exact Heap.get?_none_of_le (K0 I.ok.bsz I.ok.above)
theorem Inv.stkSub (I:Inv X pins σ H s) :∀b∈frs X.stack,b∈X.env.locals :: X.fs:=λ b a=>by
 rcases I.ok.stk with e|⟨e,hf⟩
 ·rw [e] at a;exact F1 _ a
 ·rw [e] at a;unfold frs at a;rw [W7,hf] at a;exact a
theorem Inv.stkFree (I:Inv X pins σ H s) :∀b∈frs X.stack,H b=none:=λ b a=>by
 rcases List.mem_cons.mp (I.stkSub b a) with e|a
 ·rw [e];exact I.free
 ·obtain ⟨_,o,c,_⟩:=I.ok.funs.mem a;exact I.base.free b o c (I.ok.frf b a) λ z=>I.ok.exfs b z a
theorem Inv.step {g':Array GenState} {t':Nat} {d':Drawn} {ch:List Addr} (I:Inv X pins σ H s)
  (hch :∀b∈ch,(b∈X.ex\/X.s₀.heap.objs.size<=b)/\b≠X.env.locals/\(∀x c,X.env.cells.lookup x=some c->c≠b)/\∀p∈X.pn++pins,p.1≠b)
  (keep :∀b o,b≠X.env.locals->b∉X.fs->b∉ch->s.heap.get? b=some o->H b=none->h'.get? b=some o)
  (slot :∀b o,b≠X.env.locals->b∈X.fs->b∉ch->s.heap.get? b=some o->H b=none->∃sl,h'.get? b=some { o with slots:=sl }) (free :∀b o,b∉ch->s.heap.get? b=some o->H b=none->H' b=none)
  (there :∀b o,b∉ch->s.heap.get? b=some o->∃o',h'.get? b=some o')
  (tups :∀b xs,H b=some (.tup xs)->H' b=some (.tup xs)) (frzs :∀b o u,H b=some (.frz o u)->H' b=some (.frz o u)) (tbls :∀b ps,H b=some (.tbl ps)->∃more,H' b=some (.tbl (ps++more)))
  (ns :∀m,s.heap.Ns X.env.locals m->h'.Ns X.env.locals m) (hok:HOk X.prog X.w H' h') (hg:j7 g') :
  Inv X pins σ H' { s with heap:=h',gens:=g',drawn:=d',toks:=t' }:=by
 have B :∀b o,X.s₀.heap.get? b=some o->b≠X.env.locals:=λ b o e=>Y0 (O1 (P0 e) I.ok.above);have y :∀b o,X.s₀.heap.get? b=some o->b∉X.ex->b∉ch:=λ b o e a g=>by
  rcases (hch b g).1 with z|z
  ·exact a z
  ·exact absurd (O1 (P0 e) z) (o4 _)
 have F :∀x c,X.env.cells.lookup x=some c->∀v,s.heap.IsCell c v->h'.IsCell c v:=λ x c e v ⟨o,h,A⟩=>by
  have j:c∉ch:=λ z=>(hch c z).2.2.1 x c e rfl;by_cases hc:c∈X.fs
  ·obtain ⟨sl,q⟩:=slot c o (I.cne x c e) hc j h (I.freeC x c e);exact ⟨_,q,A⟩
  ·exact ⟨o,keep c o (I.cne x c e) hc j h (I.freeC x c e),A⟩
 refine ⟨I.ok,I.os,hg,⟨λ b o e n g a=>?_,λ b o e n g a=>?_,λ b o e n a=>?_,λ b o e a=>?_,λ b xs e=>tups b xs (I.base.tups b xs e),λ b o xs e=>frzs b o xs (I.base.frzs b o xs e),λ b ps e=>?_⟩,?_,λ x c e=>?_,?_,λ x c e=>?_,λ p E=>?_,hok,I.len⟩
 ·exact keep b o (B b o e) g (y b o e a) (I.base.keep b o e n g a) (I.base.free b o e n a)
 ·obtain ⟨sl,f⟩:=I.base.slot b o e n g a;obtain ⟨L,t⟩:=slot b _ (B b o e) g (y b o e a) f (I.base.free b o e n a);exact ⟨L,t⟩
 ·obtain ⟨o',f⟩:=I.base.there b o e a;exact free b o' (y b o e a) f (I.base.free b o e n a)
 ·obtain ⟨o',f⟩:=I.base.there b o e a;exact there b o' (y b o e a) f
 ·obtain ⟨G,f⟩:=I.base.tbls b ps e;obtain ⟨N,t⟩:=tbls b _ f;exact ⟨G++N,by rw [t,Array.append_assoc]⟩
 ·obtain ⟨m,J,K⟩:=I.loc;refine ⟨m,ns m J,λ i x v f t M=>?_⟩;obtain ⟨u,r,l⟩:=K i x v f t M;refine ⟨u,r,?_⟩;rcases l with l|⟨k,c,e,z⟩
  ·exact .inl l
  ·exact .inr ⟨k,c,e,F x c e _ z⟩
 ·obtain ⟨v,z⟩:=I.cell x c e;exact ⟨v,F x c e v z⟩
 ·obtain ⟨m,⟨o,_,_,h,_⟩,_⟩:=I.loc;exact free _ o (λ z=>(hch _ z).2.1 rfl) h I.free
 ·obtain ⟨v,o,h,A⟩:=I.cell x c e;exact free c o (λ z=>(hch c z).2.2.1 x c e rfl) h (I.freeC x c e)
 ·obtain ⟨e,n,D,C,d⟩:=I.pin p E;have j:p.1∉ch:=λ z=>(hch p.1 z).2.2.2 p E rfl;exact ⟨keep p.1 p.2 D C j e n,free p.1 p.2 j e n,D,C,d⟩
theorem Inv.un {t':Nat} (I:Inv X pins σ H s) (u:Un X.fs [] H H' s.heap h') (hok:HOk X.prog X.w H' h'):Inv X pins σ H' { s with heap:=h',toks:=t' }:=by obtain ⟨m,⟨o,q,t,d,r⟩,_⟩:=id I.loc;obtain ⟨k,j⟩:=u.any d I.free (by simp);exact I.step (g':=s.gens) (d':=s.drawn) (ch:=[]) (λ _ z=>nomatch z) (λ b o _ a _ e n=>u.keep b o e n a (by simp)) (λ b o _ a _ e n=>u.slot b o e n a (by simp)) (λ b o _ e n=>u.free b o e n (by simp)) (λ b o _ e=>u.there b o e (by simp)) u.tups u.frzs u.tbls (λ p h=>by obtain ⟨l,i,g,c,f⟩:=h;rw [d] at c;cases c;exact ⟨_,i,g,j,f⟩) hok I.bare
theorem Inv.call {g':Array GenState} {t':Nat} {d':Drawn} {ch:List Addr} (I:Inv X pins σ H s) (u:Un (frs X.stack) ch H H' s.heap h') (hok:HOk X.prog X.w H' h') (hg:j7 g')
  (hch :∀b∈ch,(b∈X.ex\/X.s₀.heap.objs.size<=b)/\b≠X.env.locals/\(∀x c,X.env.cells.lookup x=some c->c≠b)/\∀p∈X.pn++pins,p.1≠b) :
  Inv X pins σ H' { s with heap:=h',gens:=g',drawn:=d',toks:=t' }:=by
 obtain ⟨m,⟨o,y,A,g,r⟩,_⟩:=id I.loc;obtain ⟨q,d⟩:=u.any g I.free λ z=>(hch _ z).2.1 rfl;exact I.step (ch:=ch) hch (λ b o d h a e n=>u.keep b o e n (λ z=>(List.mem_cons.mp (I.stkSub b z)).elim d h) a) (λ b o _ _ a e n=>u.any e n a) (λ b o a e n=>u.free b o e n a) (λ b o a e=>u.there b o e a) u.tups u.frzs u.tbls (λ v k=>by obtain ⟨t,l,j,f,i⟩:=k;rw [g] at f;cases f;exact ⟨_,l,j,d,i⟩) hok hg
theorem Inv.turned {t':Nat} {it:Addr} (I:Inv X pins σ H s) (k :∀b o,b≠it->s.heap.get? b=some o->h'.get? b=some o) (hn:H it=none) (hL:it≠X.env.locals)
  (h1:it∈X.ex\/X.s₀.heap.objs.size<=it) (h2 :∀x c,X.env.cells.lookup x=some c->c≠it) (h3 :∀p∈X.pn++pins,p.1≠it):Inv X pins σ H { s with heap:=h',toks:=t' }:=by
 have d :∀b u,H b=some u->b≠it:=λ b u e z=>by rw [z,hn] at e;cases e
 refine I.step (g':=s.gens) (d':=s.drawn) (ch:=[it]) (λ b f=>?_) (λ b o _ _ a e _=>k b o (λ z=>a (by simp [z])) e) (λ b o _ _ a e _=>⟨o.slots,k b o (λ z=>a (by simp [z])) e⟩) (λ _ _ _ _ n=>n)
  (λ b o a e=>⟨o,k b o (λ z=>a (by simp [z])) e⟩) (λ _ _ e=>e) (λ _ _ _ e=>e) (λ b l e=>⟨#[],by rw [e];simp⟩) (λ m j=>?_) (λ b u e=>?_) I.bare
 ·have e:b=it:=by simpa using f
  subst e;exact ⟨h1,hL,h2,h3⟩
 ·obtain ⟨o,h,i,g,r⟩:=j;exact ⟨o,h,i,k _ o (R3 hL) g,r⟩
 ·refine (I.hok b u e).stay (λ c v a q=>k c v ?_ q) (λ _ q=>q) λ _ _ q=>q;rcases a with z|z
  ·rw [z];exact d b u e
  ·exact d c _ z
theorem Inv.tok (I:Inv X pins σ H s) (t:Nat):Inv X pins σ H { s with toks:=t }:=I.un (h':=s.heap) (t':=t) Un.refl I.hok
theorem Inv.kept {t':Nat} (I:Inv X pins σ H s) (k :∀b u,s.heap.get? b=some u->h'.get? b=some u):Inv X pins σ H { s with heap:=h',toks:=t' }:=I.un (Un.kept k) (I.hok.kept k)
theorem Inv.laid {a:Addr} {o:HO} {t':Nat} (I:Inv X pins σ H s) (k :∀b u,s.heap.get? b=some u->h'.get? b=some u) (hp:s.heap.objs.size<=a) (new:ObjOk X.prog X.w (upd H a o) h' a o) :
  Inv X pins σ (upd H a o) { s with heap:=h',toks:=t' }:=I.un (Un.laid k hp (I.hok.fresh hp)) (I.hok.laid k hp new)
theorem Inv.write {x e:Addr} {o:HO} {t':Nat} (I:Inv X pins σ H s) (mu:Mut (H x)) (he:e=x\/H e=some (.own x)) (k :∀b u,b≠e->s.heap.get? b=some u->h'.get? b=some u) (heo :∃u,h'.get? e=some u)
  (new:ObjOk X.prog X.w (upd H x o) h' x o):Inv X pins σ (upd H x o) { s with heap:=h',toks:=t' }:=I.un (Un.write mu he k heo) (I.hok.write mu he k heo new)
theorem Inv.weak {σ':List (Option V)} (I:Inv X pins σ H s) (hl:σ'.length=σ.length) (w :∀(i:Nat) v,σ'[i]? = some (some v)->σ[i]? = some (some v)):Inv X pins σ' H s:=
 ⟨I.ok,I.os,I.bare,I.base,let ⟨m,hn,hl'⟩:=I.loc;⟨m,hn,λ i x v a b c=>hl' i x v a (w i v b) c⟩,I.cell,I.free,I.freeC,I.pin,I.hok,hl.trans I.len⟩
theorem Inv.pins_of {pins':List (Addr×Obj)} (I:Inv X pins σ H s) (h :∀p∈pins',s.heap.get? p.1=some p.2/\H p.1=none/\p.1≠X.env.locals/\p.1∉X.fs/\∀v,p.2.data≠.cell v):Inv X pins' σ H s:=
 ⟨I.ok,I.os,I.bare,I.base,I.loc,I.cell,I.free,I.freeC,λ p a=>(List.mem_append.mp a).elim (λ z=>I.pin p (P5 _ z)) (h p),I.hok,I.len⟩
theorem zem {N:List Str} (hN:N.Nodup) {i j:Nat} {x:Str} (a:N[i]? = some x) (b:N[j]? = some x):i=j:=by obtain ⟨e,c⟩:=List.getElem?_eq_some_iff.mp a;obtain ⟨f,d⟩:=List.getElem?_eq_some_iff.mp b;exact (List.getElem_inj hN).mp (c.trans d.symm)
theorem zfz {M:Model} {A:X1} {E:Value->A0->Prop} {i:Nat} {x:Str} {v:V} {u:Value} {Q:Unit->A0->Prop} (I:Inv X pins σ H s) (hN:X.N.Nodup) (hi:X.N[i]? = some x) (hx:Loc X.env.scope x) (r:RelV v u)
  (h :∀s',Inv X pins (σ.set i (some v)) H s'->(∃a,Q4 a s.heap s'.heap/\(a=X.env.locals\/X.env.cells.lookup x=some a))->Q () s') (hf:X.fn x=true\/X.env.scope.names.lookup x=some .local:=by first|exact .inl rfl|exact .inr rfl|assumption):S0 M A (storeName X.env x u) Q E s:=by
 obtain ⟨m,S,hl⟩:=id I.loc;have a3:(X.env.scope.kind == .class || (X.env.scope.kind == .module && X.env.locals != X.env.globals))=false:=by rw [I.ok.kind];rfl
 have Y:i < σ.length:=by rw [I.len];exact (List.getElem?_eq_some_iff.mp hi).1
 have cne:=I.cne;have a1 :∀{a:Addr} {C:Heap},(∃o,s.heap.get? a=some o/\H a=none)->Q4 a s.heap C->HOk X.prog X.w H C:=λ {a C} ha f b ob e=>by
  obtain ⟨_,_,Z⟩:=ha;refine (I.hok b ob e).stay (λ c G l q=>(f.2 c ?_).trans q) (λ _ q=>q) λ _ _ q=>q;rintro rfl;rcases l with rfl|l
  ·rw [Z] at e;cases e
  ·rw [Z] at l;cases l
 rcases hx with hk|hk
 ·refine wpAny_storeName_local hk S (λ C a4 f=>?_) a3;obtain ⟨oL,_,_,a5,_⟩:=id S;refine h _ ⟨I.ok,I.os,I.bare,⟨λ b o e n B hx=>?_,λ b o e n B hx=>?_,I.base.free,λ b o e hx=>?_,I.base.tups,I.base.frzs,I.base.tbls⟩,⟨_,a4,λ j y K g t W=>?_⟩,λ y c e=>?_,I.free,I.freeC,λ p U=>?_,a1 ⟨oL,a5,I.free⟩ f,by simpa using I.len⟩ ⟨_,f,.inl rfl⟩
  ·exact (f.2 b (Y0 (O1 (P0 e) I.ok.above))).trans (I.base.keep b o e n B hx)
  ·obtain ⟨J,g⟩:=I.base.slot b o e n B hx;exact ⟨J,(f.2 b (Y0 (O1 (P0 e) I.ok.above))).trans g⟩
  ·obtain ⟨P,g⟩:=I.base.there b o e hx;exact ⟨P,(f.2 b (Y0 (O1 (P0 e) I.ok.above))).trans g⟩
  ·by_cases hj:j=i
   ·subst hj;rw [hi] at g;cases g;rw [M9 Y] at t;cases t;exact ⟨u,r,.inl ⟨hk,by simp⟩⟩
   ·rw [j03 (R3 hj)] at t;obtain ⟨T,L,q⟩:=hl j y K g t W;refine ⟨T,L,?_⟩;rcases q with ⟨k,e⟩|⟨k,c,e,z⟩
    ·refine .inl ⟨k,?_⟩;have:y≠x:=λ e=>hj (zem hN g (e ▸ hi));simp [this,e]
    ·exact .inr ⟨k,c,e,z.sameBut f (cne y c e)⟩
  ·obtain ⟨G,z⟩:=I.cell y c e;exact ⟨G,z.sameBut f (cne y c e)⟩
  ·obtain ⟨e,n,D,O,d⟩:=I.pin p U;exact ⟨(f.2 p.1 D).trans e,n,D,O,d⟩
 ·have R:X.fn x=true:=by
   rcases hf with z|z
   ·exact z
   ·rw [z] at hk;cases hk
  obtain ⟨c,l⟩:=I.ok.has x (.inl hk);obtain ⟨G,z⟩:=I.cell x c l;refine wpAny_storeName_cell I.ok.kind hk l z (λ C a0 f=>?_);obtain ⟨oc,a2,a6⟩:=id z;refine h { s with heap:=C } ⟨I.ok,I.os,I.bare,⟨λ b o e n B hx=>?_,λ b o e n B hx=>?_,I.base.free,λ b o e hx=>?_,I.base.tups,I.base.frzs,I.base.tbls⟩,⟨m,S.sameBut f (R3 (cne x c l)),λ j y K g t W=>?_⟩,λ y F e=>?_,I.free,I.freeC,λ p U=>?_,a1 ⟨oc,a2,I.freeC x c l⟩ f,by simpa using I.len⟩ ⟨c,f,.inr l⟩
  ·exact (f.2 b (Y0 (O1 (P0 e) (I.ok.cab x c R l)))).trans (I.base.keep b o e n B hx)
  ·obtain ⟨J,g⟩:=I.base.slot b o e n B hx;exact ⟨J,(f.2 b (Y0 (O1 (P0 e) (I.ok.cab x c R l)))).trans g⟩
  ·obtain ⟨P,g⟩:=I.base.there b o e hx;exact ⟨P,(f.2 b (Y0 (O1 (P0 e) (I.ok.cab x c R l)))).trans g⟩
  ·by_cases hj:j=i
   ·subst hj;rw [hi] at g;cases g;rw [M9 Y] at t;cases t;exact ⟨u,r,.inr ⟨.inl hk,c,l,a0⟩⟩
   ·rw [j03 (R3 hj)] at t;obtain ⟨T,L,q⟩:=hl j y K g t W;refine ⟨T,L,?_⟩;rcases q with q|⟨k,F,e,z'⟩
    ·exact .inl q
    ·refine .inr ⟨k,F,e,z'.sameBut f ?_⟩;rintro rfl;exact hj (zem hN g (I.ok.inj _ _ _ e l ▸ hi))
  ·by_cases hcc:F=c
   ·subst hcc;exact ⟨_,a0⟩
   ·obtain ⟨w2,z2⟩:=I.cell y F e;exact ⟨w2,z2.sameBut f hcc⟩
  ·obtain ⟨e,n,D,O,d⟩:=I.pin p U;refine ⟨(f.2 p.1 ?_).trans e,n,D,O,d⟩;intro q;rw [q,a2] at e;have q':oc=p.2:=P1 e;exact d G (by rw [<-q'];exact a6)
theorem zcx {M:Model} {A:X1} {E:Value->A0->Prop} {i:Nat} {x:Str} {v:V} {u:Value} {Q:Unit->A0->Prop} (I:Inv X pins σ H s) (hN:X.N.Nodup) (hi:X.N[i]? = some x) (hx:Loc X.env.scope x) (r:RelV v u)
  (h :∀s',Inv X pins (σ.set i (some v)) H s'->Q () s') (hf:X.fn x=true\/X.env.scope.names.lookup x=some .local:=by first|exact .inl rfl|exact .inr rfl|assumption):S0 M A (storeName X.env x u) Q E s:=
 zfz I hN hi hx r (λ s' a _=>h s' a) hf
theorem Inv.call' {s':A0} {ch:List Addr} (I:Inv X pins σ H s) (ho:s'.os=s.os) (u:Un (frs X.stack) ch H H' s.heap s'.heap) (hok:HOk X.prog X.w H' s'.heap) (hg:j7 s'.gens)
  (hch :∀b∈ch,(b∈X.ex\/X.s₀.heap.objs.size<=b)/\b≠X.env.locals/\(∀x c,X.env.cells.lookup x=some c->c≠b)/\∀p∈X.pn++pins,p.1≠b):Inv X pins σ H' s':=by
 obtain ⟨d,g',d',t',a⟩:=s';have e:a=s.os:=ho;subst e;exact I.call (g':=g') (t':=t') (d':=d') u hok hg hch
end
noncomputable abbrev XK:=Value->Option Addr->Hp->Prop
noncomputable abbrev St:=List (Option V)
noncomputable abbrev VK:=V->Hp->Prop
noncomputable abbrev TE:=St->Hp->VK->Prop
noncomputable abbrev TT:=St->Hp->(Bool->Hp->Prop)->Prop
noncomputable abbrev TA:=St->Hp->(List V->Hp->Prop)->Prop
structure Ends where
 nx:St->Hp->Prop
 rt:VK
 bk:St->Hp->Prop:=λ _ _=>False
 ct:St->Hp->Prop:=λ _ _=>False
noncomputable abbrev TS:=Ends->St->Hp->Prop
def EP (X:Cx) (pins:List (Addr×Obj)) (σ:St) (Q:VK) (u:Value) (s':A0):Prop:=∃v H',Inv X pins σ H' s'/\RelV v u/\Q v H'
def TP (X:Cx) (pins:List (Addr×Obj)) (σ:St) (Q:Bool->Hp->Prop) (b:Bool) (s':A0):Prop:=∃H',Inv X pins σ H' s'/\Q b H'
def AP (X:Cx) (pins:List (Addr×Obj)) (σ:St) (Q:List V->Hp->Prop) (us:List Value) (s':A0):Prop:=∃vs H',Inv X pins σ H' s'/\Vals vs us/\Q vs H'
def SP (X:Cx) (pins:List (Addr×Obj)) (D:Ends) (f:Flow) (s':A0):Prop:=
 match f with
 | .next=>∃σ' H',Inv X pins σ' H' s'/\D.nx σ' H'
 | .brk=>∃σ' H',Inv X pins σ' H' s'/\D.bk σ' H'
 | .cont=>∃σ' H',Inv X pins σ' H' s'/\D.ct σ' H'
 | .ret u=>∃v σ' H',Inv X pins σ' H' s'/\RelV v u/\D.rt v H'
def PE (X:Cx) (e:Expr) (t:TE):Prop:=
 ∀(pins:List (Addr×Obj)) (s:A0) (σ:St) (H:Hp) (Q:VK),Inv X pins σ H s->t σ H Q->S0 (B1 X.prog X.w) X.A (X2 e X.env) (EP X pins σ Q) X.xe s
def PT (X:Cx) (e:Expr) (t:TT):Prop:=
 ∀(pins:List (Addr×Obj)) (s:A0) (σ:St) (H:Hp) (Q:Bool->Hp->Prop),Inv X pins σ H s->t σ H Q->S0 (B1 X.prog X.w) X.A (isTrue e X.env (X2 e X.env)) (TP X pins σ Q) X.xe s
def PW (X:Cx) (e:Expr) (t:TT):Prop:=
 ∀(whole:Sem Value) (pins:List (Addr×Obj)) (s:A0) (σ:St) (H:Hp) (Q:Bool->Hp->Prop),Inv X pins σ H s->t σ H Q->S0 (B1 X.prog X.w) X.A (isTrue e X.env whole) (TP X pins σ Q) X.xe s
theorem PW.pt {X:Cx} {e:Expr} {t:TT} (h:PW X e t):PT X e t:=h _
def PA (X:Cx) (es:List Expr) (t:TA):Prop:=
 ∀(pos:Pos) (pins:List (Addr×Obj)) (s:A0) (σ:St) (H:Hp) (Q:List V->Hp->Prop),Inv X pins σ H s->t σ H Q->S0 (B1 X.prog X.w) X.A (spliced (w4 pos (K1 es X.env))) (AP X pins σ Q) X.xe s
def PS (X:Cx) (st:Stmt) (t:TS):Prop:=
 ∀(pins:List (Addr×Obj)) (s:A0) (σ:St) (H:Hp) (D:Ends),Inv X pins σ H s->t D σ H->S0 (B1 X.prog X.w) X.A (exec st X.env) (SP X pins D) X.xe s
def PSs (X:Cx) (st:List Stmt) (t:TS):Prop:=
 ∀(pins:List (Addr×Obj)) (s:A0) (σ:St) (H:Hp) (D:Ends),Inv X pins σ H s->t D σ H->S0 (B1 X.prog X.w) X.A (execs st X.env) (SP X pins D) X.xe s
theorem thn {α:Type} {t:Sem α} {Q Q':α->A0->Prop} {M:Model} {A:X1} {E:Value->A0->Prop} {s:A0} (h:S0 M A t Q E s) (hQ :∀a s,Q a s->Q' a s):S0 M A t Q' E s:=E3 h hQ λ _ _ x=>x
section
variable {X:Cx}
inductive TVar (i:Nat) (σ:St) (H:Hp) (Q:VK):Prop
 | mk (v:V) (e:σ[i]? = some (some v)) (q:Q v H)
noncomputable def tVar (i:Nat):TE:=λ σ H Q=>TVar i σ H Q
noncomputable def tC (v:V):TE:=λ _ H Q=>Q v H
theorem pe_var {i:Nat} {x:Str} {pos:Pos} (hN:X.N[i]? = some x) (hv:Vis X.env.scope x) (hd:(x == ("__debug__" : Str))=false:=by decide) (hcd:(x == ("__classdict__" : Str))=false:=by decide):PE X (.Name x pos) (tVar i):=by
 intro j s σ H Q I h;obtain ⟨v,e,h⟩:=h;obtain ⟨m,f,d⟩:=I.loc;obtain ⟨u,r,l⟩:=d i x v hN e hv;have b:EP X j σ Q u s:=⟨v,H,I,r,h⟩
 rcases l with ⟨a,g⟩|⟨a,c,hc,hcell⟩
 ·exact wpAny_Name (wpAny_loadName_local I.ok.kind a f g b) hd
 ·rcases a with a|a
  ·exact wpAny_Name (wpAny_loadName_cell I.ok.kind a hc hcell b) hd
  ·exact wpAny_Name (wpAny_loadName_free I.ok.kind a hc hcell b hcd) hd
theorem pe_int {i j pos}:PE X (.Constant (.int i) j pos) (tC (.int i)):=λ _ _ _ H _ I h=>wpAny_Constant_int ⟨.int i,H,I.tok _,⟨_,rfl⟩,h⟩
theorem pe_bl {b j pos}:PE X (.Constant (.bool b) j pos) (tC (.bl b)):=λ _ _ _ H _ I h=>Constant_bool ⟨.bl b,H,I,rfl,h⟩
theorem pe_non {j pos}:PE X (.Constant .none j pos) (tC .non):=λ _ _ _ H _ I h=>Constant_none ⟨.non,H,I,rfl,h⟩
theorem pe_str {x j pos}:PE X (.Constant (.str x) j pos) (tC (.str x)):=λ _ _ _ H _ I h=>Calls.Constant_str ⟨.str x,H,I.tok _,⟨_,rfl⟩,h⟩
def Gl (X:Cx) (x:Str):Prop:=X.env.kindOf x=some .globalImplicit
theorem zej {E:Value->A0->Prop} {pins:List (Addr×Obj)} {s:A0} {σ:St} {H:Hp} {x:Str} {u:Value} {pos:Pos} {Q:Value->A0->Prop} (I:Inv X pins σ H s) (hg:Gl X x) (hm:X.mg x=some u) (h:Q u s)
  (hd:(x == ("__debug__" : Str))=false:=by decide):S0 (B1 X.prog X.w) X.A (X2 (.Name x pos) X.env) Q E s:=
 U8 I.ok.kind hg (Calls.loadGlobal_global (by rw [I.ok.glob];exact I.mod.glob.keeps I.bk) hm h) hd
theorem ld_blt {E:Value->A0->Prop} {pins:List (Addr×Obj)} {s:A0} {σ:St} {H:Hp} {x:Str} {u:Value} {pos:Pos} {Q:Value->A0->Prop} (I:Inv X pins σ H s) (hg:Gl X x) (hm:X.mg x=none) (hv:V4 x=some u) (h:Q u s)
  (hn:x≠"__name__":=by decide) (hd:(x == ("__debug__" : Str))=false:=by decide):S0 (B1 X.prog X.w) X.A (X2 (.Name x pos) X.env) Q E s:=by
 obtain ⟨c,b,a⟩:=I.mod.blt;exact U8 I.ok.kind hg (Calls.loadGlobal_builtin (by rw [I.ok.glob];exact I.mod.glob.keeps I.bk) hm (by rw [I.ok.blt];exact b.keeps I.bk) ((a x hn).trans hv) h) hd
theorem z49 {x:Str} {v:V} {u:Value} {pos:Pos} (hg:Gl X x) (hm:X.mg x=some u) (r:RelV v u) (hd:(x == ("__debug__" : Str))=false:=by decide):PE X (.Name x pos) (tC v):=
 λ _ _ _ H _ I h=>zej I hg hm ⟨v,H,I,r,h⟩ hd
theorem z73 {x:Str} {v:V} {u:Value} {pos:Pos} (hg:Gl X x) (hm:X.mg x=none) (hv:V4 x=some u) (r:RelV v u) (hn:x≠"__name__":=by decide) (hd:(x == ("__debug__" : Str))=false:=by decide):PE X (.Name x pos) (tC v):=
 λ _ _ _ H _ I h=>ld_blt I hg hm hv ⟨v,H,I,r,h⟩ hn hd
variable {a b:Expr} {ta tb:TE} {pos:Pos}
def PC (X:Cx) (op:CmpOp) (a b:Expr) (t:TE):Prop:=
 ∀(pins:List (Addr×Obj)) (s:A0) (σ:St) (H:Hp) (Q:VK),Inv X pins σ H s->t σ H Q->
  S0 (B1 X.prog X.w) X.A (X2 a X.env) (λ v s₁=>S0 (B1 X.prog X.w) X.A (X2 b X.env) (λ u s₂=>S0 (B1 X.prog X.w) X.A (A2 op v u) (EP X pins σ Q) X.xe s₂) X.xe s₁) X.xe s
noncomputable def tB (t:TE):TT:=λ σ H Q=>t σ H λ x H1=>∃c,x=.bl c/\Q c H1
theorem pt_cmp {op:CmpOp} {t:TE} (h:PC X op a b t) (h1:o7 op b=false:=by first|exact nobehind _ (by decide) (by decide)|rfl):PT X (.Compare a [op] [b] pos) (tB t):=by intro g s σ H Q I f;refine wpAny_isTrue_Compare1 (thn (h g s σ H _ I f) λ v k h1=>thn h1 λ u i e=>thn e λ c j ⟨x,H1,I1,r1,q1⟩=>?_) h1;obtain ⟨d,rfl,q⟩:=q1;cases r1;exact Q2 ⟨H1,I1,q⟩
theorem pt_val {e:Expr} {t:TE} (h:PE X e t) (he :∀whole,isTrue e X.env whole=(do let v <-whole;L9 e.pos;K8 [v] (truthy v)):=by intro _;rfl):PT X e (tB t):=by intro b s σ H Q I a;refine isTrue_plain (thn (h b s σ H _ I a) λ v c ⟨x,H1,I1,r1,q1⟩=>?_) (he _);obtain ⟨d,rfl,q⟩:=q1;cases r1;exact Q2 ⟨H1,I1,q⟩
variable {tA tB':TT} {rest:List Expr}
noncomputable def tAnd (t u:TT):TT:=λ σ H Q=>t σ H λ c H1=>if c=true then u σ H1 Q else Q false H1
noncomputable def tOr (t u:TT):TT:=λ σ H Q=>t σ H λ c H1=>if c=true then Q true H1 else u σ H1 Q
noncomputable def tNot (t:TT):TT:=λ σ H Q=>t σ H λ c H1=>Q (!c) H1
theorem z2i (ha:PT X a tA):PW X (.BoolOp .And [a] pos) tA:=by
 intro wh b s σ H Q I h;refine isTrue_and (thn (ha b s σ H Q I h) λ c d e=>?_);cases c with
 | true=>exact isTrue_and_nil e
 | false=>exact e
theorem pw_or1 (ha:PT X a tA):PW X (.BoolOp .Or [a] pos) tA:=by
 intro wh b s σ H Q I h;refine isTrue_or (thn (ha b s σ H Q I h) λ c d e=>?_);cases c with
 | false=>exact isTrue_or_nil e
 | true=>exact e
theorem pw_and (ha:PT X a tA) (hb:PW X (.BoolOp .And (b :: rest) pos) tB'):PW X (.BoolOp .And (a :: b :: rest) pos) (tAnd tA tB'):=by
 intro wh d s σ H Q I h;refine isTrue_and (thn (ha d s σ H _ I h) λ c e ⟨H1,I1,q1⟩=>?_);cases c with
 | true=>exact hb wh d e σ H1 Q I1 q1
 | false=>exact ⟨H1,I1,q1⟩
theorem pw_or (ha:PT X a tA) (hb:PW X (.BoolOp .Or (b :: rest) pos) tB'):PW X (.BoolOp .Or (a :: b :: rest) pos) (tOr tA tB'):=by
 intro wh d s σ H Q I h;refine isTrue_or (thn (ha d s σ H _ I h) λ c e ⟨H1,I1,q1⟩=>?_);cases c with
 | true=>exact ⟨H1,I1,q1⟩
 | false=>exact hb wh d e σ H1 Q I1 q1
theorem pt_not (ha:PT X a tA):PT X (.UnaryOp .Not a pos) (tNot tA):=by intro d s σ H Q I h;exact isTrue_not (ha d s σ H (λ c b=>Q (!c) b) I h)
noncomputable def tAndV (ta tb:TE):TE:=λ σ H Q=>ta σ H λ x H1=>∃c,x=.bl c/\if c=true then tb σ H1 Q else Q (.bl false) H1
noncomputable def tOrV (ta tb:TE):TE:=λ σ H Q=>ta σ H λ x H1=>∃c,x=.bl c/\if c=true then Q (.bl true) H1 else tb σ H1 Q
noncomputable def tNotV (ta:TE):TE:=λ σ H Q=>ta σ H λ x H1=>∃c,x=.bl c/\Q (.bl (!c)) H1
theorem pe_one {op} {t:TE} (h:PE X a t):PE X (.BoolOp op [a] pos) t:=λ c s σ H Q I b=>BoolOp_one (h c s σ H Q I b)
theorem pe_and (ha:PE X a ta) (hb:PE X (.BoolOp .And (b :: rest) pos) tb):PE X (.BoolOp .And (a :: b :: rest) pos) (tAndV ta tb):=by
 intro e s σ H Q I h;refine BoolOp_and (thn (ha e s σ H _ I h) λ v f ⟨x,H1,I1,r1,d⟩=>?_);obtain ⟨c,rfl,d⟩:=d;cases r1;refine Q2 ?_;cases c with
 | true=>exact hb e f σ H1 Q I1 d
 | false=>exact ⟨.bl false,H1,I1,rfl,d⟩
theorem pe_or (ha:PE X a ta) (hb:PE X (.BoolOp .Or (b :: rest) pos) tb):PE X (.BoolOp .Or (a :: b :: rest) pos) (tOrV ta tb):=by
 intro e s σ H Q I h;refine BoolOp_or (thn (ha e s σ H _ I h) λ v f ⟨x,H1,I1,r1,d⟩=>?_);obtain ⟨c,rfl,d⟩:=d;cases r1;refine Q2 ?_;cases c with
 | false=>exact hb e f σ H1 Q I1 d
 | true=>exact ⟨.bl true,H1,I1,rfl,d⟩
theorem pe_not (ha:PE X a ta):PE X (.UnaryOp .Not a pos) (tNotV ta):=by intro d s σ H Q I h;refine UnaryOp_ (thn (ha d s σ H _ I h) λ v e ⟨x,H1,I1,r1,b⟩=>?_);obtain ⟨c,rfl,b⟩:=b;cases r1;exact not_of (Q2 ⟨.bl (!c),H1,I1,rfl,b⟩)
end
def SqL (K:d0) (H:Hp) (a:Addr) (xs:List V):Prop:=
 Rd H a (.lst xs)\/
  ∃(o:Obj) (its:Array Value) (n:Nat),K.lookup a=some o/\o.cls=.type "list"/\o.dict=none/\o.data=.seq its n/\its.size<=sizeLine/\Vals xs its.toList
def SqT (K:d0) (H:Hp) (a:Addr) (xs:List V):Prop:=
 Rd H a (.tup xs)\/
  ∃(o:Obj) (its:Array Value) (n:Nat),K.lookup a=some o/\o.cls=.type "tuple"/\o.data=.seq its n/\its.size<=sizeLine/\Vals xs its.toList
noncomputable def absV:Value->Option V
 | .none=>some .non
 | .bool b=>some (.bl b)
 | .int i _=>some (.int i)
 | .str x _=>some (.str x)
 | .bytes b _=>some (.byt b)
 | .float b _=>some (.flt b)
 | .ref a=>some (.ref a)
 | .type n=>some (.ty n)
 | _=>none
theorem RelV.abs {x:V} {u:Value} (r:RelV x u):absV u=some x:=by
 cases x with
 | non=>cases r;rfl
 | bl _=>cases r;rfl
 | int _=>obtain ⟨t,rfl⟩:=r;rfl
 | str _=>obtain ⟨t,rfl⟩:=r;rfl
 | byt _=>obtain ⟨t,rfl⟩:=r;rfl
 | flt _=>obtain ⟨t,rfl⟩:=r;rfl
 | ref _=>cases r;rfl
 | ty _=>cases r;rfl
theorem RelV.inj {x y:V} {u:Value} (r:RelV x u) (q:RelV y u):x=y:=P1 (r.abs.symm.trans q.abs)
theorem Vals.inj :∀{xs ys:List V} {us:List Value},Vals xs us->Vals ys us->xs=ys
 | _,_,_,.nil,.nil=>rfl
 | _,_,_,.cons r t,.cons r' t'=>by rw [r.inj r',Vals.inj t t']
section
variable {X:Cx} {pins:List (Addr×Obj)} {σ:St} {H:Hp} {s:A0} {a:Addr} {xs ys:List V}
theorem SqL.of {K:d0} (h:H a=some (.lst xs)):SqL K H a xs:=.inl (.inl h)
theorem SqT.of {K:d0} (h:H a=some (.tup xs)):SqT K H a xs:=.inl (.inl h)
theorem Inv.list (I:Inv X pins σ H s) (h:SqL X.K H a xs) :∃its:List Value,Vals xs its/\PlainL s.heap a its.toArray/\xs.length<=sizeLine:=by
 rcases h with h|⟨o,its,n,hk,hc,hd,hs,hz,r⟩
 ·obtain ⟨z,its,n,r,e⟩:=h.ok I.hok;exact ⟨its,r,⟨_,n,e,rfl,rfl,rfl⟩,z⟩
 ·refine ⟨its.toList,r,⟨o,n,I.kIn a o hk,hc,hd,by simpa using hs⟩,?_⟩;have e:=r.length;simp only [B2] at e
  lia
theorem Inv.tuple (I:Inv X pins σ H s) (h:SqT X.K H a xs) :∃its:List Value,Vals xs its/\IsTup s.heap a its.toArray/\xs.length<=sizeLine:=by
 rcases h with h|⟨o,its,n,hk,hc,hs,hz,r⟩
 ·obtain ⟨z,its,r,p⟩:=h.ok I.hok;exact ⟨its,r,p.1,z⟩
 ·refine ⟨its.toList,r,⟨o,I.kIn a o hk,hc,n,by simpa using hs⟩,?_⟩;have e:=r.length;simp only [B2] at e
  lia
theorem Inv.list_inj (I:Inv X pins σ H s) (h:SqL X.K H a xs) (h':SqL X.K H a ys):xs=ys:=by
 obtain ⟨g,r,⟨o,n,e,_,_,d⟩,_⟩:=I.list h;obtain ⟨f,i,⟨j,k,c,_,_,b⟩,_⟩:=I.list h';rw [e] at c;cases c;rw [d] at b;injection b with d1 _;have:g=f:=by simpa using congrArg Array.toList d1
 subst this;exact r.inj i
theorem Inv.tuple_inj (I:Inv X pins σ H s) (h:SqT X.K H a xs) (h':SqT X.K H a ys):xs=ys:=by
 obtain ⟨g,r,⟨o,e,_,n,d⟩,_⟩:=I.tuple h;obtain ⟨f,i,⟨j,c,_,k,b⟩,_⟩:=I.tuple h';rw [e] at c;cases c;rw [d] at b;injection b with d1 _;have:g=f:=by simpa using congrArg Array.toList d1
 subst this;exact r.inj i
end
noncomputable abbrev Cx.wish (X:Cx) (E:Value->A0->Prop):Cx:={ X with xe:=E }
noncomputable abbrev Cx.nox (X:Cx):Cx:=X.wish λ _ _=>False
theorem Cx.Ok.wish {X:Cx} (ok:X.Ok) (E:Value->A0->Prop):(X.wish E).Ok:=
 ⟨ok.mod,ok.kind,ok.glob,ok.blt,ok.above,ok.inj,ok.has,ok.cab,ok.hd,ok.frames,ok.stk,ok.exf,ok.bs,ok.bsz,ok.noex,ok.exfs,ok.funs,ok.frf⟩
theorem Cx.Ok.unwish {X:Cx} {E:Value->A0->Prop} (ok:(X.wish E).Ok):X.Ok:=
 ⟨ok.mod,ok.kind,ok.glob,ok.blt,ok.above,ok.inj,ok.has,ok.cab,ok.hd,ok.frames,ok.stk,ok.exf,ok.bs,ok.bsz,ok.noex,ok.exfs,ok.funs,ok.frf⟩
section
variable {X:Cx} {pins:List (Addr×Obj)} {σ:St} {H:Hp} {s:A0} {E:Value->A0->Prop}
theorem Inv.wish (I:Inv X pins σ H s) (E:Value->A0->Prop):Inv (X.wish E) pins σ H s:=⟨I.ok.wish E,I.os,I.bare,I.base,I.loc,I.cell,I.free,I.freeC,I.pin,I.hok,I.len⟩
theorem Inv.unwish (I:Inv (X.wish E) pins σ H s):Inv X pins σ H s:=⟨I.ok.unwish,I.os,I.bare,I.base,I.loc,I.cell,I.free,I.freeC,I.pin,I.hok,I.len⟩
theorem SP.unwish {D:Ends} {f:Flow} {s':A0} (h:SP (X.wish E) pins D f s'):SP X pins D f s':=by
 cases f with
 | next=>obtain ⟨a,b,I,q⟩:=h;exact ⟨a,b,I.unwish,q⟩
 | brk=>obtain ⟨a,b,I,q⟩:=h;exact ⟨a,b,I.unwish,q⟩
 | cont=>obtain ⟨a,b,I,q⟩:=h;exact ⟨a,b,I.unwish,q⟩
 | ret u=>obtain ⟨v,a,b,I,r,q⟩:=h;exact ⟨v,a,b,I.unwish,r,q⟩
theorem PSs.nox {st:List Stmt} {t:TS} (h:PSs X.nox st t):PSs X st t:=λ b s σ H D I a=>E3 (h b s σ H D (I.wish _) a) (λ _ _ q=>q.unwish) λ _ _ z=>K3 z
end
section
variable {X:Cx} {st:Stmt} {rest:List Stmt} {t u:TS} {e:Expr} {te:TE} {pos:Pos}
noncomputable def tNext:TS:=λ D σ H=>D.nx σ H
noncomputable def tSeq (t u:TS):TS:=λ D σ H=>t { D with nx:=u D } σ H
theorem z0d:PSs X [] tNext:=λ _ _ σ H _ I h=>T7 ⟨σ,H,I,h⟩
theorem z01 (h1:PS X st t) (h2:PSs X rest u):PSs X (st :: rest) (tSeq t u):=by
 intro a s σ H D I h;refine wpAny_execs_cons (thn (h1 a s σ H { D with nx:=u D } I h) λ f d q=>?_);cases f with
 | next=>obtain ⟨c,e,b,q⟩:=q;exact h2 a d c e D b q
 | ret v=>exact q
 | brk=>exact q
 | cont=>exact q
theorem z03 (h1:PS X st t):PSs X [st] t:=by
 intro a s σ H D I h;refine wpAny_execs_cons (thn (h1 a s σ H D I h) λ f b q=>?_);cases f with
 | next=>exact T7 q
 | ret v=>exact q
 | brk=>exact q
 | cont=>exact q
theorem Inv.quiet {pins:List (Addr×Obj)} {σ:St} {H:Hp} {s:A0} (I:Inv X pins σ H s):interactive X.env=false:=by simp [interactive,I.ok.kind]
noncomputable def tDrop (te:TE):TS:=λ D σ H=>te σ H λ _ H1=>D.nx σ H1
theorem z2q (he:PE X e te) (hs:K6 e none pos.line X.env=G3 false:=by rfl):PS X (.Expr e pos) (tDrop te):=by intro a s σ H D I h;exact wpAny_Expr_any (thn (he a s σ H _ I h) λ v b ⟨x,H1,I1,r1,q1⟩=>⟨σ,H1,I1,q1⟩) I.quiet hs
noncomputable def tRet (te:TE):TS:=λ D σ H=>te σ H D.rt
theorem ps_ret (he:PE X e te):PS X (.Return (some e) pos) (tRet te):=by intro a s σ H D I h;exact wpAny_Return_some (thn (he a s σ H _ I h) λ v b ⟨x,H1,I1,r1,q1⟩=>⟨x,σ,H1,I1,r1,q1⟩)
noncomputable def tIfS (c:TT) (t u:TS):TS:=λ D σ H=>c σ H λ b H1=>if b=true then t D σ H1 else u D σ H1
theorem ps_if {c:Expr} {a b:List Stmt} {tc:TT} (hc:PT X c tc) (ha:PSs X a t) (hb:PSs X b u):PS X (.If c a b pos) (tIfS tc t u):=by
 intro e s σ H D I h;refine wpAny_If (thn (hc e s σ H _ I h) λ d f ⟨H1,I1,q1⟩=>?_);cases d with
 | true=>exact ha e f σ H1 D I1 q1
 | false=>exact hb e f σ H1 D I1 q1
noncomputable def tNever:TS:=λ _ _ _=>False
theorem z67:PS X st tNever:=λ _ _ _ _ _ _ h=>h.elim
end
noncomputable abbrev TG:=V->St->Hp->(St->Hp->Prop)->Prop
noncomputable abbrev TGs:=List V->St->Hp->(St->Hp->Prop)->Prop
def PG (X:Cx) (target:Expr) (t:TG):Prop:=
 ∀(pins:List (Addr×Obj)) (s:A0) (σ:St) (H:Hp) (v:V) (u:Value) (Q:St->Hp->Prop),Inv X pins σ H s->RelV v u->t v σ H Q->
  S0 (B1 X.prog X.w) X.A (assign target X.env u) (λ _ s'=>∃σ' H',Inv X pins σ' H' s'/\Q σ' H') X.xe s
def PGs (X:Cx) (ts:List Expr) (t:TGs):Prop:=
 ∀(pins:List (Addr×Obj)) (s:A0) (σ:St) (H:Hp) (vs:List V) (us:List Value) (Q:St->Hp->Prop),Inv X pins σ H s->Vals vs us->t vs σ H Q->
  S0 (B1 X.prog X.w) X.A (assignInOrder ((X5 ts X.env).map (·.2)) us) (λ _ s'=>∃σ' H',Inv X pins σ' H' s'/\Q σ' H') X.xe s
noncomputable abbrev TSet:=V->V->V->Hp->(Hp->Prop)->Prop
def PSet (X:Cx) (t:TSet):Prop:=
 ∀(pins:List (Addr×Obj)) (s:A0) (σ:St) (H:Hp) (o i v:V) (ov iv u:Value) (Q:Hp->Prop),Inv X pins σ H s->RelV o ov->RelV i iv->RelV v u->t o i v H Q->
  S0 (B1 X.prog X.w) X.A (setItem ov iv u) (λ _ s'=>∃H',Inv X pins σ H' s'/\Q H') X.xe s
section
variable {X:Cx} {pos:Pos}
noncomputable def gName (i:Nat):TG:=λ v σ H Q=>Q (σ.set i (some v)) H
theorem z0b {i:Nat} {x:Str} (hN:X.N.Nodup) (hi:X.N[i]? = some x) (hx:Loc X.env.scope x) (hf:X.fn x=true\/X.env.scope.names.lookup x=some .local:=by first|exact .inl rfl|exact .inr rfl|assumption):PG X (.Name x pos) (gName i):=by intro c s σ H v u Q I r h;exact wpAny_assign_Name (zcx I hN hi hx r (λ b a=>⟨_,H,a,h⟩) hf)
noncomputable def gNil:TGs:=λ vs σ H Q=>vs=[]/\Q σ H
noncomputable def gCons (t:TG) (u:TGs):TGs:=λ vs σ H Q=>∃v r,vs=v :: r/\t v σ H λ σ' H'=>u r σ' H' Q
theorem z0j:PGs X [] gNil:=by intro a s σ H b us Q I r h;obtain ⟨e,h⟩:=h;subst e;cases r;exact assignInOrder_nil ⟨σ,H,I,h⟩
theorem z07 {e:Expr} {es:List Expr} {t:TG} {u:TGs} (h1:PG X e t) (h2:PGs X es u)
  (hs:(X5 (e :: es) X.env).map (·.2)=assign e X.env :: (X5 es X.env).map (·.2):=by rfl):PGs X (e :: es) (gCons t u):=by
 intro a s σ H f us Q I r h;obtain ⟨v,d,b,h⟩:=h;subst b;cases r with
 | cons r rr=>rw [hs];refine assignInOrder_cons (thn (h1 a s σ H _ _ _ I r h) λ _ c ⟨σ1,H1,I1,q1⟩=>?_);exact h2 a c σ1 H1 _ _ Q I1 rr q1
noncomputable def gTup (K:d0) (n:Nat) (t:TGs):TG:=λ v σ H Q=>∃a xs,v=.ref a/\SqT K H a xs/\xs.length=n/\t xs σ H Q
theorem pg_tup {es:List Expr} {k:Nat} {t:TGs} {n:Nat} (hc:X.calm=true) (h:PGs X es t)
  (hn:(X5 es X.env).length=n:=by rfl) (hst:(X5 es X.env).findIdx? (·.1)=none:=by rfl):PG X (.Tuple es k pos) (gTup X.K n t):=by
 intro f s σ H v u Q I r c;obtain ⟨a,j,l,g,m,c⟩:=c;subst l;cases r;obtain ⟨x,d,q,y⟩:=I.tuple g;refine assign_Tuple_tuple (I.ok.hd hc) q (by simp [hn,<-m,d.length]) hst λ i w=>?_;have p:Inv X f σ H { s with heap:=i }:=I.kept (t':=s.toks) λ b o e=>w b o (Y0 (P0 e)) e;exact h f _ σ H j _ Q p (by simpa using d) c
noncomputable def gSub (to ti:TE) (t:TSet):TG:=λ v σ H Q=>to σ H λ o H1=>ti σ H1 λ i H2=>t o i v H2 λ H3=>Q σ H3
theorem pg_sub {o i:Expr} {to ti:TE} {t:TSet} (ho:PE X o to) (hi:PE X i ti) (hs:PSet X t)
  (ha :∀v,assign (.Subscript o i pos) X.env v=(do
   let ov <-K8 [v] (X2 o X.env)
   let iv <-K8 [v,ov] (X2 i X.env)
   L9 pos
   K8 [v,ov,iv] (setItem ov iv v)
   release [v,ov,iv] []):=by intro _;rfl):PG X (.Subscript o i pos) (gSub to ti t):=by
 intro a s σ H v u Q I r h;rw [ha];refine u0 (K2 (thn (ho a s σ H _ I h) λ ov c ⟨x,H1,I1,r1,q1⟩=>?_));refine u0 (K2 (thn (hi a c σ H1 _ I1 q1) λ iv b ⟨y,H2,I2,r2,q2⟩=>?_));refine u0 (z8 (u0 (K2 (thn (hs a b σ H2 x y v ov iv u _ I2 r1 r2 r q2) λ _ d ⟨H3,I3,q3⟩=>?_))));exact wpAny_release ⟨σ,H3,I3,q3⟩
noncomputable def tAsg (te:TE) (g:TG):TS:=λ D σ H=>te σ H λ x H1=>g x σ H1 D.nx
theorem ps_asg {tg e:Expr} {te:TE} {g:TG} (he:PE X e te) (hg:PG X tg g) (hs:swapsWithSole [tg] e pos.line X.env=G3 false:=by rfl) (hw:swappedStores [tg] e X.env=G3 none:=by rfl)
  (h1:(X5 [tg] X.env).map (·.2)=[assign tg X.env]:=by rfl):PS X (.Assign [tg] e pos) (tAsg te g):=by
 intro a s σ H D I h;refine wpAny_Assign_stores (thn (he a s σ H _ I h) λ v b ⟨x,H1,I1,r1,q1⟩=>?_) hs hw;rw [h1];exact thn (hg a b σ H1 x v _ I1 r1 q1) λ _ c q=>q
theorem ps_set {i:Nat} {x:Str} {e:Expr} {te:TE} {pos':Pos} (hN:X.N.Nodup) (hi:X.N[i]? = some x) (hx:Loc X.env.scope x) (he:PE X e te) (hs:K6 e (some (.Name x pos')) pos.line X.env=G3 false:=by rfl) (hf:X.fn x=true\/X.env.scope.names.lookup x=some .local:=by first|exact .inl rfl|exact .inr rfl|assumption) :
  PS X (.Assign [.Name x pos'] e pos) (tAsg te (gName i)):=by
 intro b s σ H D I h;refine wpAny_Assign_Name (thn (he b s σ H _ I h) λ v d ⟨y,H1,I1,r1,q1⟩=>?_) hs;exact zcx I1 hN hi hx r1 (λ c a=>⟨_,H1,a,q1⟩) hf
noncomputable def tWhile (c:TT) (tb:TS):TS:=λ D σ H=>∃W:Nat->St->Hp->Prop,(∃m,W m σ H)/\∀m σ H,W m σ H->
 c σ H λ b H1=>if b=true then∃N:St->Hp->Prop,(∀σ' H',N σ' H'->∃m',m' < m/\W m' σ' H')/\tb { D with nx:=N,ct:=N,bk:=D.nx } σ H1 else D.nx σ H1
theorem zde {c:Expr} {body:List Stmt} {tc:TT} {tb:TS} (hp:PassesOwn (B1 X.prog X.w) X.A X.env X.xe) (hc:PT X c tc) (hb:PSs X body tb):PS X (.While c body [] pos) (tWhile tc tb):=by
 intro m s σ H D I h;obtain ⟨W,⟨y,q⟩,t⟩:=h;refine wpAny_While (codeAny_whileLoop (λ n x=>∃σ' H',Inv X m σ' H' x/\W n σ' H') ?_ y ⟨σ,H,I,q⟩);rintro n r ⟨σ1,H1,I1,w1⟩;refine G4 hp (thn (hc m r σ1 H1 _ I1 (t n σ1 H1 w1)) λ b u ⟨H2,I2,g⟩=>?_);cases b with
 | true=>
  obtain ⟨N,p,g⟩:=g;rw [if_pos rfl];refine G4 hp (thn (hb m u σ1 H2 _ I2 g) λ f z e=>?_);cases f with
  | next=>obtain ⟨a,d,i,j⟩:=e;obtain ⟨k,l,o⟩:=p a d j;exact ⟨k,l,a,d,i,o⟩
  | cont=>obtain ⟨a,d,i,j⟩:=e;obtain ⟨k,l,o⟩:=p a d j;exact ⟨k,l,a,d,i,o⟩
  | brk=>exact e
  | ret v=>exact e
 | false=>rw [if_neg Z0];exact T7 ⟨σ1,H2,I2,g⟩
end
structure It where
 go:Nat->Hp->Prop
 yld:Nat->Hp->V->Hp->Prop
 stop:Nat->Hp->Prop
def FpOk (X:Cx) (pins:List (Addr×Obj)) (H:Hp) (b:Addr):Prop:=
 H b=none/\b≠X.env.locals/\b∉X.fs/\(b∈X.ex\/X.s₀.heap.objs.size<=b)/\(∀x c,X.env.cells.lookup x=some c->c≠b)/\∀p∈X.pn++pins,p.1≠b
theorem Inv.fpOk {X:Cx} {pins:List (Addr×Obj)} {σ:St} {H H':Hp} {s:A0} {b:Addr} (I:Inv X pins σ H s) (hb:s.heap.objs.size<=b) (hn:H' b=none):FpOk X pins H' b:=by
 refine ⟨hn,C3 (O1 I.lt hb),I.nofs hb,.inr (K0 I.sz hb),λ x c e z=>?_,λ p a z=>?_⟩
 ·obtain ⟨v,q⟩:=I.cell x c e;exact absurd (O1 q.lt (by rw [z];exact hb)) (o4 _)
 ·exact absurd (O1 (P0 (I.pin p a).1) (by rw [z];exact hb)) (o4 _)
structure Turn (P:Program) (w:Q0) (K:d0) (tg:Expr) (J:It) (fp:List Addr) (it:Addr) (tn:Nat->Heap->Prop):Prop where
 mem:it∈fp
 obj :∀i h,tn i h->∀b∈fp,∃o,h.get? b=some o/\∀v,o.data≠.cell v
 keep :∀i h h',tn i h->(∀b∈fp,∀o,h.get? b=some o->h'.get? b=some o)->tn i h'
 item :∀(X:Cx),X.prog=P->X.w=w->X.K=K->X.calm=true->∀(i:Nat) (pins:List (Addr×Obj)) (s:A0) (σ:St) (H:Hp) (E:Value->A0->Prop),Inv X pins σ H s->(∀b∈fp,FpOk X pins H b)->tn i s.heap->J.go i H->
  S0 (B1 P w) X.A (F8 (.ref it)) (λ r s1=>∃u,r=some u/\
   S0 (B1 P w) X.A (U7 tg (.ref it) u) (λ _ s2=>∃x H',Inv X pins σ H' s2/\RelV x u/\J.yld i H x H'/\tn (i + 1) s2.heap/\∀b∈fp,H' b=none) E s1) E s
 done :∀(X:Cx),X.prog=P->X.w=w->X.K=K->X.calm=true->∀(i:Nat) (pins:List (Addr×Obj)) (s:A0) (σ:St) (H:Hp) (E:Value->A0->Prop),Inv X pins σ H s->(∀b∈fp,FpOk X pins H b)->tn i s.heap->J.stop i H->
  S0 (B1 P w) X.A (F8 (.ref it)) (λ r s1=>r=none/\Inv X pins σ H s1) E s
 self :∀(A:X1) (i:Nat) (s:A0) (Q:Value->A0->Prop) (E:Value->A0->Prop),tn i s.heap->Q (.ref it) s->S0 (B1 P w) A (pyIter (.ref it)) Q E s
noncomputable abbrev TI:=St->Hp->(It->Hp->Prop)->Prop
def PIE (X:Cx) (pins:List (Addr×Obj)) (σ:St) (tg:Expr) (R:It->Hp->Prop) (itv:Value) (s2:A0):Prop:=
 ∃(it:Addr) (fp:List Addr) (tn:Nat->Heap->Prop) (J:It) (H':Hp),itv=.ref it/\Inv X pins σ H' s2/\Turn X.prog X.w X.K tg J fp it tn/\tn 0 s2.heap/\(∀b∈fp,FpOk X pins H' b)/\R J H'
def PI (X:Cx) (tg iter:Expr) (wi:TI):Prop:=
 ∀(pins:List (Addr×Obj)) (s:A0) (σ:St) (H:Hp) (R:It->Hp->Prop),Inv X pins σ H s->wi σ H R->
  S0 (B1 X.prog X.w) X.A (X2 iter X.env) (λ v s1=>S0 (B1 X.prog X.w) X.A (pyIter v) (PIE X pins σ tg R) X.xe s1) X.xe s
theorem go_of {M:Model} {A:X1} {E:Value->A0->Prop} {s:A0} {tg:Expr} {it:Addr} {u:Value} {o:Obj} {n:String} {vs:Array Value} {Q:Unit->A0->Prop} (ho:s.heap.get? it=some o) (hc:o.cls=.type n) (hd:o.data=.fields vs)
    (hn:["enumerate","zip","dict_itemiterator","dict_reverseitemiterator","odict_iterator","itertools.zip_longest","itertools.pairwise"].contains n=false) (hQ:Q () s):S0 M A (U7 tg (.ref it) u) Q E s:=by
  unfold U7;cases tg<;>first
    | exact G0 hQ
    | (cases u<;>first
        | exact G0 hQ
        | (refine u0 (wpAny_load ho ?_)
           rw [hc,hd];show S0 M A (if (["enumerate","zip","dict_itemiterator","dict_reverseitemiterator","odict_iterator","itertools.zip_longest","itertools.pairwise"].contains n && vs[0]? == some (rawInt _))=true then _ else _) Q E s;rw [if_neg (by intro h;rw [hn,Bool.false_and] at h;cases h)];exact G0 hQ))
noncomputable def Itl (K:d0) (a:Addr):It:=
 ⟨λ i H=>∃xs x,SqL K H a xs/\xs[i]? = some x,λ i H x H'=>H'=H/\∀xs,SqL K H a xs->xs[i]? = some x,λ i H=>∃xs,SqL K H a xs/\xs.length<=i⟩
noncomputable def Itt (K:d0) (a:Addr):It:=
 ⟨λ i H=>∃xs x,SqT K H a xs/\xs[i]? = some x,λ i H x H'=>H'=H/\∀xs,SqT K H a xs->xs[i]? = some x,λ i H=>∃xs,SqT K H a xs/\xs.length<=i⟩
noncomputable def Itr (lo:Int) (n:Nat):It:=⟨λ i _=>i < n,λ i H x H'=>H'=H/\x=.int (lo + i),λ i _=>n<=i⟩
theorem zfx {P:Program} {w:Q0} {K:d0} {tg:Expr} (a it:Addr):Turn P w K tg (Itl K a) [it] it (λ i h=>h.IsListIter it a i) where
 mem:=by simp
 obj:=λ i h f b g=>by
  have e:b=it:=by simpa using g
  subst e;obtain ⟨o,e,c,d⟩:=f;exact ⟨o,e,λ v z=>by rw [d] at z;cases z⟩
 keep:=λ i h m f k=>f.at λ o e=>k it (by simp) o e
 item:=by intro X C D r J i L s σ H E I j f F;subst C D r;obtain ⟨Q,x,l,G⟩:=F;obtain ⟨O,A,p,T⟩:=I.list l;obtain ⟨u,N,W⟩:=A.get G;obtain ⟨y,n,U,q,t,B⟩:=j it (by simp);refine v4 f p.isList (x:=u) (by simpa using N) λ m M S=>?_;have V:Inv X L σ H { s with heap:=m }:=I.turned (t':=s.toks) (λ b o g e=>(S.2 b g).trans e) y n q t B;obtain ⟨o,e,c,d⟩:=id M;exact ⟨u,rfl,go_of (s:={ s with heap:=m }) e c d (by decide) ⟨x,H,V,W,⟨rfl,λ Z Y=>by rw [I.list_inj Y l];exact G⟩,M,λ b g=>(j b g).1⟩⟩
 done:=by intro X C D r J i L s σ H E I j f F;subst C D r;obtain ⟨Q,l,G⟩:=F;obtain ⟨O,A,p,T⟩:=I.list l;obtain ⟨y,n,U,q,t,B⟩:=j it (by simp);have hl:=A.length;exact U5 (I.ok.hd J) f p.isList (by simp;lia) λ m R=>⟨rfl,I.turned (t':=s.toks) (λ b o g e=>R b o g e) y n q t B⟩
 self:=λ _ _ _ _ _ f h=>wpAny_pyIter_listiter f h
theorem zdg {P:Program} {w:Q0} {K:d0} {tg:Expr} (a it:Addr):Turn P w K tg (Itt K a) [it] it (λ i h=>h.IsTupleIter it a i) where
 mem:=by simp
 obj:=λ i h f b g=>by
  have e:b=it:=by simpa using g
  subst e;obtain ⟨o,e,c,d⟩:=f;exact ⟨o,e,λ v z=>by rw [d] at z;cases z⟩
 keep:=λ i h m f k=>f.at λ o e=>k it (by simp) o e
 item:=by intro X D F r L i M s σ H E I j f G;subst D F r;obtain ⟨Q,x,l,J⟩:=G;obtain ⟨C,A,p,T⟩:=I.tuple l;obtain ⟨u,O,W⟩:=A.get J;obtain ⟨y,n,U,q,t,B⟩:=j it (by simp);refine wpAny_pyNext_tuple_item f (show s.heap.IsTuple a C.toArray from p) (x:=u) (by simpa using O) λ m N S=>?_;have V:Inv X M σ H { s with heap:=m }:=I.turned (t':=s.toks) (λ b o g e=>(S.2 b g).trans e) y n q t B;obtain ⟨o,e,c,d⟩:=id N;exact ⟨u,rfl,go_of (s:={ s with heap:=m }) e c d (by decide) ⟨x,H,V,W,⟨rfl,λ Z Y=>by rw [I.tuple_inj Y l];exact J⟩,N,λ b g=>(j b g).1⟩⟩
 done:=by intro X D F r L i M s σ H E I j f G;subst D F r;obtain ⟨Q,l,J⟩:=G;obtain ⟨C,A,p,T⟩:=I.tuple l;obtain ⟨y,n,U,q,t,B⟩:=j it (by simp);have hl:=A.length;exact wpAny_pyNext_tuple_end (I.ok.hd L) f (show s.heap.IsTuple a C.toArray from p) (by simp;lia) λ m R=>⟨rfl,I.turned (t':=s.toks) (λ b o g e=>R b o g e) y n q t B⟩
 self:=λ _ _ _ _ _ f h=>wpAny_pyIter_tupleiter f h
theorem zd8 {P:Program} {w:Q0} {K:d0} {tg:Expr} (it:Addr) (lo:Int) (n:Nat):Turn P w K tg (Itr lo n) [it] it (λ i h=>IsRangeIter h it (lo + (i:Nat) * 1) ((n:Int) - (i:Nat)) 1) where
 mem:=by simp
 obj:=λ i h a b c=>by
  have e:b=it:=by simpa using c
  subst e;exact ⟨_,a,λ v z=>by have L:j05 _=Data.cell v:=z;cases L⟩
 keep:=λ i h f a k=>k it (by simp) _ a
 item:=by intro X u x m g i A s σ H E I d a y;subst u x m;obtain ⟨q,j,G,l,p,r⟩:=d it (by simp);have W:=Walks.range (prog:=X.prog) (w:=X.w) (I.ok.hd g) it lo 1 n;refine W.item i s _ _ y a λ v f B M C F=>?_;obtain ⟨t,rfl⟩:=M;have J:Inv X A σ H { s with heap:=f,toks:=B }:=I.turned (λ b o c e=>F b o (by simpa using c) e) q j l p r;refine ⟨_,rfl,go_of (s:={ s with heap:=f,toks:=B }) (n:="range_iterator") C rfl rfl (by decide) ⟨.int (lo + i),H,J,⟨t,?_⟩,⟨rfl,rfl⟩,C,λ b c=>(d b c).1⟩⟩;rw [Int.mul_one]
 done:=by intro X u x m g i A s σ H E I d a y;subst u x m;obtain ⟨q,j,G,l,p,r⟩:=d it (by simp);exact wpAny_pyNext_range_end (I.ok.hd g) a (by have:n<=i:=y;lia) λ f D=>⟨rfl,I.turned (t':=s.toks) (λ b o c e=>D b o c e) q j l p r⟩
 self:=λ _ _ _ _ _ a h=>wpAny_pyIter_rangeiter a h
section
variable {X:Cx} {tg:Expr}
noncomputable def iList (K:d0) (tl:TE):TI:=λ σ H R=>tl σ H λ x H1=>∃a,x=.ref a/\(∃xs,SqL K H1 a xs)/\R (Itl K a) H1
noncomputable def iTup (K:d0) (tl:TE):TI:=λ σ H R=>tl σ H λ x H1=>∃a,x=.ref a/\(∃xs,SqT K H1 a xs)/\R (Itt K a) H1
theorem z0t {l:Expr} {tl:TE} (hl:PE X l tl):PI X tg l (iList X.K tl):=by
 intro g s σ H R I h;refine thn (hl g s σ H _ I h) λ v c ⟨x,H1,I1,r1,q1⟩=>?_;obtain ⟨a,e,⟨k,f⟩,q⟩:=q1;subst e;cases r1;obtain ⟨j,i,p,m⟩:=I1.list f;refine F5 p.isList ?_;refine ⟨c.heap.objs.size,[c.heap.objs.size],_,_,H1,rfl,I1.kept (t':=c.toks) λ b o e=>F0 _ e,zfx a _,⟨_,V0 _ rfl,rfl,rfl⟩,λ b d=>?_,q⟩;have e:b=c.heap.objs.size:=by simpa using d
 subst e;exact I1.fpOk (C0 _) (I1.hok.fresh (C0 _))
theorem pi_tup {l:Expr} {tl:TE} (hl:PE X l tl):PI X tg l (iTup X.K tl):=by
 intro i s σ H R I h;refine thn (hl i s σ H _ I h) λ v c ⟨x,H1,I1,r1,q1⟩=>?_;obtain ⟨a,e,⟨k,f⟩,q⟩:=q1;subst e;cases r1;obtain ⟨g,j,p,m⟩:=I1.tuple f;refine v5 (show c.heap.IsTuple a g.toArray from p) ?_;refine ⟨c.heap.objs.size,[c.heap.objs.size],_,_,H1,rfl,I1.kept (t':=c.toks) λ b o e=>F0 _ e,zdg a _,⟨_,V0 _ rfl,rfl,rfl⟩,λ b d=>?_,q⟩;have e:b=c.heap.objs.size:=by simpa using d
 subst e;exact I1.fpOk (C0 _) (I1.hok.fresh (C0 _))
theorem zes {pins:List (Addr×Obj)} {σ:St} {H:Hp} {s:A0} {R:It->Hp->Prop} {E:Value->A0->Prop} {lo hi:Int} {t u v:Tok} {tk:Nat} (I:Inv X pins σ H s) (h1:-(2 ^ 62)<=lo) (h2:lo < 2 ^ 62) (h3:-(2 ^ 62)<=hi) (h4:hi < 2 ^ 62)
  (q:R (Itr lo (hi - lo).toNat) H):S0 (B1 X.prog X.w) X.A (pyIter (.ref s.heap.objs.size)) (PIE X pins σ tg R) E { s with heap:=s.heap.push { cls:=.type "range",data:=.fields #[.int lo t,.int hi u,.int 1 v] },toks:=tk }:=by
 refine wpAny_pyIter_range (IsRange.new ..) (small_one h1 h2 h3 h4) ?_;have a:Inv X pins σ H { s with heap:=s.heap.push { cls:=.type "range",data:=.fields #[.int lo t,.int hi u,.int 1 v] },toks:=tk }:=I.kept λ b o e=>F0 _ e;refine ⟨(s.heap.push { cls:=.type "range",data:=.fields #[.int lo t,.int hi u,.int 1 v] }).objs.size,[(s.heap.push { cls:=.type "range",data:=.fields #[.int lo t,.int hi u,.int 1 v] }).objs.size],_,_,H,rfl,
  a.kept (t':=tk) λ b o e=>F0 _ e,zd8 _ lo (hi - lo).toNat,?_,λ b d=>?_,q⟩
 ·have c:lo + ((0:Nat):Int) * 1=lo:=by simp
  have f:(((hi - lo).toNat:Nat):Int) - ((0:Nat):Int)=Builtin.Range.rangeSize lo hi 1:=by rw [rangeSize_one];split<;>lia
  show IsRangeIter _ _ (lo + ((0:Nat):Int) * 1) ((((hi - lo).toNat:Nat):Int) - ((0:Nat):Int)) 1;rw [c,f];exact V0 _ rfl
 ·have e:b=(s.heap.push { cls:=.type "range",data:=.fields #[.int lo t,.int hi u,.int 1 v] }).objs.size:=by simpa using d
  subst e;exact a.fpOk (C0 _) (a.hok.fresh (C0 _))
noncomputable def iRng1 (ta:TA):TI:=λ σ H R=>ta σ H λ vs H1=>∃j:Int,vs=[.int j]/\-(2 ^ 62)<=j/\j < 2 ^ 62/\R (Itr 0 j.toNat) H1
noncomputable def iRng2 (ta:TA):TI:=λ σ H R=>ta σ H λ vs H1=>∃i j:Int,vs=[.int i,.int j]/\(-(2 ^ 62)<=i/\i < 2 ^ 62/\-(2 ^ 62)<=j/\j < 2 ^ 62)/\R (Itr i (j - i).toNat) H1
theorem zfp {a:Expr} {ta:TA} {p pos:Pos} (hg:Gl X "range") (hm:X.mg "range" = none) (ha:PA X [a] ta) (hs:K1 [a] X.env=[(false,X2 a X.env)]:=by rfl):PI X tg (.Call (.Name "range" p) [a] [] pos) (iRng1 ta):=by
 intro d s σ H R I h;refine Call_ (ld_blt I hg hm boot_range (F2 (thn (ha pos d s σ H _ I h) λ us f ⟨vs,H1,I1,r1,b⟩=>?_) hs rfl));obtain ⟨j,e,b,c,q⟩:=b;subst e;cases r1 with
 | cons r rr=>cases rr;obtain ⟨t,rfl⟩:=r;exact call_range_1 (zes I1 (by lia) (by lia) b c (by simpa using q))
theorem zfu {a b:Expr} {ta:TA} {p pos:Pos} (hg:Gl X "range") (hm:X.mg "range" = none) (ha:PA X [a,b] ta) (hs:K1 [a,b] X.env=[(false,X2 a X.env),(false,X2 b X.env)]:=by rfl) (hs2:K1 [b] X.env=[(false,X2 b X.env)]:=by rfl) :
  PI X tg (.Call (.Name "range" p) [a,b] [] pos) (iRng2 ta):=by
 intro k s σ H R I h;refine Call_ (ld_blt I hg hm boot_range (F2 (thn (ha pos k s σ H _ I h) λ us m ⟨vs,H1,I1,r1,c⟩=>?_) (by rw [hs,hs2]) (by rw [hs2];rfl)));obtain ⟨i,j,e,⟨c,f,g,d⟩,q⟩:=c;subst e;cases r1 with
 | cons r rr=>
  cases rr with
  | cons r' rr=>cases rr;obtain ⟨t,rfl⟩:=r;obtain ⟨l,rfl⟩:=r';exact call_range_2 (zes I1 c f g d q)
noncomputable def tFor (wi:TI) (g:TG) (tb:TS):TS:=λ D σ H=>wi σ H λ J H1=>∃W:Nat->Nat->St->Hp->Prop,(∃m,W 0 m σ H1)/\∀i m σ H,W i m σ H->
 (J.stop i H/\D.nx σ H)\/(J.go i H/\∃N:St->Hp->Prop,(∀σ' H',N σ' H'->∃m',m' < m/\W (i + 1) m' σ' H')/\∀x H',J.yld i H x H'->g x σ H' λ σ2 H2=>tb { D with nx:=N,ct:=N,bk:=D.nx } σ2 H2)
noncomputable def pinsAt (fp:List Addr) (h:Heap):List (Addr×Obj):=fp.filterMap λ b=>(h.get? b).map λ o=>(b,o)
theorem z3u {fp:List Addr} {h:Heap} {b:Addr} {o:Obj} (hb:b∈fp) (e:h.get? b=some o):(b,o)∈pinsAt fp h:=List.mem_filterMap.mpr ⟨b,hb,by rw [e];rfl⟩
theorem zc2 {fp:List Addr} {h:Heap} {p:Addr×Obj} (hp:p∈pinsAt fp h):p.1∈fp/\h.get? p.1=some p.2:=by
 obtain ⟨b,c,e⟩:=List.mem_filterMap.mp hp;cases q:h.get? b with
 | none=>rw [q] at e;cases e
 | some o=>rw [q] at e;have a:(b,o)=p:=P1 e;subst a;exact ⟨c,q⟩
theorem Inv.pinned {pins:List (Addr×Obj)} {σ:St} {H:Hp} {s:A0} {fp:List Addr} (I:Inv X pins σ H s) (hf :∀b∈fp,FpOk X pins H b) (ho :∀b∈fp,∃o,s.heap.get? b=some o/\∀v,o.data≠.cell v):Inv X (pins++pinsAt fp s.heap) σ H s:=
 I.pins_of λ p h=>(List.mem_append.mp h).elim (λ z=>I.pin p (J1 _ z)) λ z=>by obtain ⟨a,e⟩:=zc2 z;obtain ⟨f,g,i,_⟩:=hf p.1 a;obtain ⟨o,c,d⟩:=ho p.1 a;rw [e] at c;cases c;exact ⟨e,f,g,i,d⟩
theorem Inv.unpinned {pins pl:List (Addr×Obj)} {σ:St} {H:Hp} {s:A0} (I:Inv X (pins++pl) σ H s):Inv X pins σ H s:=I.pins_of λ p a=>I.pin p (J1 _ (P5 _ a))
theorem ps_for {iter:Expr} {body:List Stmt} {wi:TI} {g:TG} {tb:TS} {pos:Pos} (hp:PassesOwn (B1 X.prog X.w) X.A X.env X.xe) (hc:X.calm=true) (hi:PI X tg iter wi) (hg:PG X tg g) (hb:PSs X body tb)
  (hs :∀x,J5 iter X.env x=G3 x:=by intro _;rfl):PS X (.For tg iter body [] pos) (tFor wi g tb):=by
 intro l s σ H D I h;refine wpAny_For (thn (hi l s σ H _ I h) λ v s1 U=>thn U λ a1 s2 h2=>?_) hs;obtain ⟨it,q,G,J,R,e,M,T,Y,F,W,⟨m0,L⟩,P⟩:=h2;subst e
 -- what stays true of the iterator's objects through the loop
 have y :∀{H':Hp},(∀b∈q,H' b=none)->∀b∈q,FpOk X l H' b:=λ O b hb=>⟨O b hb,(F b hb).2⟩
 refine codeAny_forLoop_any (λ n C=>∃i σ' H',Inv X l σ' H' C/\G i C.heap/\(∀b∈q,H' b=none)/\W i n σ' H') ?_ m0 ⟨0,σ,R,M,Y,λ b hb=>(F b hb).1,L⟩;rintro n B ⟨i,σ3,H3,I3,st3,fr3,w3⟩;rcases P i n σ3 H3 w3 with ⟨a0,qn⟩|⟨go,N,hN,step⟩
 ·refine G4 hp (thn (T.done X rfl rfl rfl hc i l B σ3 H3 X.xe I3 (y fr3) st3 a0) λ r Z ⟨hr,I4⟩=>?_);subst hr;exact T7 ⟨σ3,H3,I4,qn⟩
 ·refine G4 hp (thn (T.item X rfl rfl rfl hc i l B σ3 H3 X.xe I3 (y fr3) st3 go) λ r Z ⟨u,hr,h4⟩=>?_);subst hr;refine G4 hp (thn h4 λ _ z ⟨x,H5,I5,r5,y5,st5,fr5⟩=>?_);have K:=I5.pinned (y fr5) (T.obj _ _ st5);refine G4 hp (thn (hg _ z σ3 H5 x u _ K r5 (step x H5 y5)) λ _ S ⟨σ6,H6,I6,q6⟩=>?_);refine G4 hp (thn (hb _ S σ6 H6 _ I6 q6) λ f t k=>?_);have E :∀{a:St} {j:Hp},Inv X (l++pinsAt q z.heap) a j t->N a j->∃m,m < n/\∃i σ' H',Inv X l σ' H' t/\G i t.heap/\(∀b∈q,H' b=none)/\W i m σ' H':=λ {a j} c p=>by obtain ⟨Q,hm,w7⟩:=hN a j p;refine ⟨Q,hm,i + 1,a,j,c.unpinned,T.keep _ _ _ st5 λ b hb o e=>(c.pin (b,o) (J1 _ (J1 _ (z3u hb e)))).1,λ b hb=>?_,w7⟩;obtain ⟨o,e,d⟩:=T.obj _ _ st5 b hb;exact (c.pin (b,o) (J1 _ (J1 _ (z3u hb e)))).2.1
  cases f with
  | next=>obtain ⟨a,j,c,p⟩:=k;exact E c p
  | cont=>obtain ⟨a,j,c,p⟩:=k;exact E c p
  | brk=>obtain ⟨a,j,c,k⟩:=k;exact ⟨a,j,c.unpinned,k⟩
  | ret v=>obtain ⟨V,a,j,c,r7,k⟩:=k;exact ⟨V,a,j,c.unpinned,r7,k⟩
end
theorem z1g {K:d0} {a:Addr} {xs:List V} {g:TG} {tb:TS} {D:Ends} {σ:St} {H:Hp} (Pv:Nat->St->Hp->Prop) (h0:Pv 0 σ H) (hl :∀i σ H,i<=xs.length->Pv i σ H->SqL K H a xs)
  (hs :∀i x σ H,xs[i]? = some x->Pv i σ H->g x σ H λ σ2 H2=>tb { D with nx:=Pv (i + 1),ct:=Pv (i + 1),bk:=D.nx } σ2 H2) (hd :∀σ H,Pv xs.length σ H->D.nx σ H) :
  ∃W:Nat->Nat->St->Hp->Prop,(∃m,W 0 m σ H)/\∀i m σ H,W i m σ H->
   ((Itl K a).stop i H/\D.nx σ H)\/((Itl K a).go i H/\∃N:St->Hp->Prop,(∀σ' H',N σ' H'->∃m',m' < m/\W (i + 1) m' σ' H')/\∀x H',(Itl K a).yld i H x H'->g x σ H' λ σ2 H2=>tb { D with nx:=N,ct:=N,bk:=D.nx } σ2 H2):=by
 refine ⟨λ i m σ H=>m=xs.length - i/\i<=xs.length/\Pv i σ H,⟨xs.length,by simp,j2 _,h0⟩,?_⟩;rintro i m σ H ⟨rfl,hi,p⟩;have q:=hl i σ H hi p;by_cases hlt:i < xs.length
 ·refine .inr ⟨⟨xs,xs[i],q,by simp [hlt]⟩,Pv (i + 1),λ σ' H' b=>⟨xs.length - (i + 1),by lia,rfl,hlt,b⟩,λ x H' y=>?_⟩;obtain ⟨e,y⟩:=y;subst e;exact hs i x σ _ (y xs q) p
 ·have e:i=xs.length:=by lia
  subst e;exact .inl ⟨⟨xs,q,C0 _⟩,hd σ H p⟩
theorem zc0 {lo:Int} {n:Nat} {g:TG} {tb:TS} {D:Ends} {σ:St} {H:Hp} (Pv:Nat->St->Hp->Prop) (h0:Pv 0 σ H)
  (hs :∀i σ H,i < n->Pv i σ H->g (.int (lo + i)) σ H λ σ2 H2=>tb { D with nx:=Pv (i + 1),ct:=Pv (i + 1),bk:=D.nx } σ2 H2) (hd :∀σ H,Pv n σ H->D.nx σ H) :
  ∃W:Nat->Nat->St->Hp->Prop,(∃m,W 0 m σ H)/\∀i m σ H,W i m σ H->
   ((Itr lo n).stop i H/\D.nx σ H)\/((Itr lo n).go i H/\∃N:St->Hp->Prop,(∀σ' H',N σ' H'->∃m',m' < m/\W (i + 1) m' σ' H')/\∀x H',(Itr lo n).yld i H x H'->g x σ H' λ σ2 H2=>tb { D with nx:=N,ct:=N,bk:=D.nx } σ2 H2):=by
 refine ⟨λ i m σ H=>m=n - i/\i<=n/\Pv i σ H,⟨n,by simp,j2 _,h0⟩,?_⟩;rintro i m σ H ⟨rfl,hi,p⟩;by_cases hlt:i < n
 ·refine .inr ⟨hlt,Pv (i + 1),λ σ' H' a=>⟨n - (i + 1),by lia,rfl,hlt,a⟩,λ x H' y=>?_⟩;obtain ⟨e,y⟩:=y;subst e y;exact hs i σ _ hlt p
 ·have e:i=n:=by lia
  subst e;exact .inl ⟨C0 _,hd σ H p⟩
noncomputable abbrev R2:=V->V->Hp->VK->Prop
def OpR (X:Cx) (f:Value->Value->Sem Value) (r:R2):Prop:=
 ∀(pins:List (Addr×Obj)) (s:A0) (σ:St) (H:Hp) (x y:V) (v u:Value) (Q:VK),Inv X pins σ H s->RelV x v->RelV y u->r x y H Q->
  S0 (B1 X.prog X.w) X.A (f v u) (EP X pins σ Q) X.xe s
def UnR (X:Cx) (f:Value->Sem Value) (r:V->Hp->VK->Prop):Prop:=
 ∀(pins:List (Addr×Obj)) (s:A0) (σ:St) (H:Hp) (x:V) (v:Value) (Q:VK),Inv X pins σ H s->RelV x v->r x H Q->
  S0 (B1 X.prog X.w) X.A (f v) (EP X pins σ Q) X.xe s
def CallR (X:Cx) (f:Value) (r:List V->Hp->VK->Prop):Prop:=
 ∀(pins:List (Addr×Obj)) (s:A0) (σ:St) (H:Hp) (xs:List V) (us:List Value) (Q:VK),Inv X pins σ H s->Vals xs us->r xs H Q->
  S0 (B1 X.prog X.w) X.A (call f us) (EP X pins σ Q) X.xe s
noncomputable def tOp (r:R2) (ta tb:TE):TE:=λ σ H Q=>ta σ H λ x H1=>tb σ H1 λ y H2=>r x y H2 Q
noncomputable def tUn (r:V->Hp->VK->Prop) (ta:TE):TE:=λ σ H Q=>ta σ H λ x H1=>r x H1 Q
inductive RI (C:Int->Int->Prop) (g:Int->Int->V) (x y:V) (H:Hp) (Q:VK):Prop
 | mk (i j:Int) (a:x=.int i) (b:y=.int j) (c:C i j) (q:Q (g i j) H)
noncomputable def rI (C:Int->Int->Prop) (g:Int->Int->V):R2:=λ x y H Q=>RI C g x y H Q
inductive RI0 (g:Int->Int->V) (x y:V) (H:Hp) (Q:VK):Prop
 | mk (i j:Int) (a:x=.int i) (b:y=.int j) (q:Q (g i j) H)
noncomputable def rI0 (g:Int->Int->V):R2:=λ x y H Q=>RI0 g x y H Q
def rU (g:Int->V):V->Hp->VK->Prop:=λ x H Q=>∃i,x=.int i/\Q (g i) H
section
variable {X:Cx} {a b c:Expr} {ta tb tc:TE} {pos:Pos}
theorem binT (ha:PE X a ta) (hb:PE X b tb) {pins:List (Addr×Obj)} {s:A0} {σ:St} {H:Hp} {R:V->V->Hp->Prop} (I:Inv X pins σ H s)
  (h:ta σ H λ x H1=>tb σ H1 λ y H2=>R x y H2) {Q:Value->A0->Prop} {f:Value->Value->Sem Value}
  (hf :∀v u s2 x y H2,Inv X pins σ H2 s2->RelV x v->RelV y u->R x y H2->S0 (B1 X.prog X.w) X.A (f v u) Q X.xe s2) :
  S0 (B1 X.prog X.w) X.A (X2 a X.env) (λ v s₁=>S0 (B1 X.prog X.w) X.A (X2 b X.env) (λ u s₂=>S0 (B1 X.prog X.w) X.A (f v u) Q X.xe s₂) X.xe s₁) X.xe s:=by
 refine thn (ha pins s σ H _ I h) λ v c ⟨x,H1,I1,r1,q1⟩=>?_;refine thn (hb pins c σ H1 _ I1 q1) λ u s2 ⟨y,H2,I2,r2,q2⟩=>?_;exact hf v u s2 x y H2 I2 r1 r2 q2
theorem pe_op {op:Operator} {r:R2} (ho:OpR X (J4 op) r) (ha:PE X a ta) (hb:PE X b tb):PE X (.BinOp a op b pos) (tOp r ta tb):=by intro i s σ H Q I h;exact wpAny_BinOp (binT ha hb I h λ v u d x y f c e g q=>ho i d σ f x y v u Q c e g q)
theorem pe_un {op:UnaryOp} {r:V->Hp->VK->Prop} (ho:UnR X (unaryOp op) r) (ha:PE X a ta):PE X (.UnaryOp op a pos) (tUn r ta):=by intro b s σ H Q I h;exact UnaryOp_ (thn (ha b s σ H _ I h) λ v c ⟨x,H1,I1,r1,q1⟩=>ho b c σ H1 x v Q I1 r1 q1)
theorem opI {f:Value->Value->Sem Value} {C:Int->Int->Prop} {g:Int->Int->Int}
  (rule :∀(i j:Int) (t u:Tok) (s:A0) (Q:Value->A0->Prop) (E:Value->A0->Prop),C i j->Q (.int (g i j) s.toks) { s with toks:=s.toks + 1 }->S0 (B1 X.prog X.w) X.A (f (.int i t) (.int j u)) Q E s) :
  OpR X f (rI C λ i j=>.int (g i j)):=by
 intro e s σ H x y v u Q I c d h;obtain ⟨i,j,rfl,rfl,a,q⟩:=h;obtain ⟨t,rfl⟩:=c;obtain ⟨b,rfl⟩:=d;exact rule i j t b s _ _ a ⟨.int (g i j),H,I.tok _,⟨_,rfl⟩,q⟩
theorem opI0 {f:Value->Value->Sem Value} {g:Int->Int->Int}
  (rule :∀(i j:Int) (t u:Tok) (s:A0) (Q:Value->A0->Prop) (E:Value->A0->Prop),Q (.int (g i j) s.toks) { s with toks:=s.toks + 1 }->S0 (B1 X.prog X.w) X.A (f (.int i t) (.int j u)) Q E s) :
  OpR X f (rI0 λ i j=>.int (g i j)):=by
 intro d s σ H x y v u Q I b c h;obtain ⟨i,j,rfl,rfl,q⟩:=h;obtain ⟨t,rfl⟩:=b;obtain ⟨a,rfl⟩:=c;exact rule i j t a s _ _ ⟨.int (g i j),H,I.tok _,⟨_,rfl⟩,q⟩
theorem opB0 {f:Value->Value->Sem Value} {g:Int->Int->Bool}
  (rule :∀(i j:Int) (t u:Tok) (s:A0) (Q:Value->A0->Prop) (E:Value->A0->Prop),Q (.bool (g i j)) s->S0 (B1 X.prog X.w) X.A (f (.int i t) (.int j u)) Q E s) :
  OpR X f (rI0 λ i j=>.bl (g i j)):=by
 intro d s σ H x y v u Q I b c h;obtain ⟨i,j,rfl,rfl,q⟩:=h;obtain ⟨t,rfl⟩:=b;obtain ⟨a,rfl⟩:=c;exact rule i j t a s _ _ ⟨.bl (g i j),H,I,rfl,q⟩
def CPow (i j:Int):Prop:=0<=j/\j<=1000000/\i.natAbs < 2 ^ 64
def CMul (i j:Int):Prop:=(-(2 ^ 64) < i/\i < 2 ^ 64)\/(-(2 ^ 64) < j/\j < 2 ^ 64)
theorem CMul.ok {i j:Int} (h:CMul i j):IntMulOk i j:=by
 rcases h with ⟨b,a⟩|⟨b,a⟩
 ·exact .of_left (intBits_le_64 b a)
 ·exact .of_right (intBits_le_64 b a)
theorem op_add:OpR X (J4 .Add) (rI0 λ i j=>.int (i + j)):=opI0 λ _ _ _ _ _ _ _ q=>add_int q
theorem op_sub:OpR X (J4 .Sub) (rI0 λ i j=>.int (i - j)):=opI0 λ _ _ _ _ _ _ _ q=>sub_int q
theorem op_mul:OpR X (J4 .Mult) (rI CMul λ i j=>.int (i * j)):=opI λ _ _ _ _ _ _ _ a q=>mul_int q a.ok
theorem op_mod:OpR X (J4 .Mod) (rI (λ _ j=>0 < j) λ i j=>.int (i % j)):=opI λ i j _ _ _ _ _ a q=>by have b:(0:Int) < j:=a;exact mod_int' (by lia) (by rw [Int.fmod_eq_emod_of_nonneg i (by lia)];exact q)
theorem op_pow:OpR X (J4 .Pow) (rI CPow λ i j=>.int (i ^ j.toNat)):=opI λ _ _ _ _ _ _ _ a q=>pow_int_small a.1 a.2.1 a.2.2 q
theorem unI {f:Value->Sem Value} {g:Int->Int}
  (rule :∀(i:Int) (t:Tok) (s:A0) (Q:Value->A0->Prop) (E:Value->A0->Prop),Q (.int (g i) s.toks) { s with toks:=s.toks + 1 }->S0 (B1 X.prog X.w) X.A (f (.int i t)) Q E s) :
  UnR X f (rU λ i=>.int (g i)):=by
 intro b s σ H x v Q I a h;obtain ⟨i,rfl,q⟩:=h;obtain ⟨t,rfl⟩:=a;exact rule i t s _ _ ⟨.int (g i),H,I.tok _,⟨_,rfl⟩,q⟩
theorem un_neg:UnR X (unaryOp .USub) (rU λ i=>.int (-i)):=unI λ _ _ _ _ _ q=>neg_int q
end
noncomputable def scal:V->V->Bool
 | .non,.non=>true | .non,.int _=>true | .int _,.non=>true | .non,.bl _=>true | .bl _,.non=>true | .non,.str _=>true | .str _,.non=>true
 | .int _,.int _=>true | .bl _,.bl _=>true | .str _,.str _=>true | .byt _,.byt _=>true
 | .int _,.str _=>true | .str _,.int _=>true | .bl _,.str _=>true | .str _,.bl _=>true
 | _,_=>false
noncomputable def rEq:R2:=λ x y H Q=>scal x y=true/\Q (.bl (decide (x=y))) H
noncomputable def rNe:R2:=λ x y H Q=>scal x y=true/\Q (.bl (!decide (x=y))) H
theorem zgv {i j:Int}:decide (V.int i=V.int j)=(i == j):=by rw [Bool.eq_iff_iff];simp
theorem dec_bl {i j:Bool}:decide (V.bl i=V.bl j)=(i == j):=by rw [Bool.eq_iff_iff];simp
theorem zge {i j:Str}:decide (V.str i=V.str j)=(i == j):=by rw [Bool.eq_iff_iff];simp
theorem zgr {i j:Array UInt8}:decide (V.byt i=V.byt j)=(i.toList == j.toList):=by rw [Bool.eq_iff_iff];cases i;cases j;simp
section
variable {X:Cx} {a b c:Expr} {ta tb tc:TE} {pos:Pos}
theorem fin_bl {pins:List (Addr×Obj)} {σ:St} {H:Hp} {s:A0} {Q:VK} {k k':Bool} (I:Inv X pins σ H s) (q:Q (.bl k) H) (e:k=k'):EP X pins σ Q (.bool k') s:=by subst e;exact ⟨.bl k,H,I,rfl,q⟩
theorem op_eq:OpR X (A2 .Eq) rEq:=by
 intro e s σ H x y v u Q I d a h;obtain ⟨c,q⟩:=h;cases x with
 | non=>
  cases d;cases y with
  | non=>cases a;exact PySem.EqNone.eq_none_none (fin_bl I q (by simp))
  | bl j=>cases a;exact PySem.EqNone.eq_none_bool (fin_bl I q (by simp))
  | int j=>obtain ⟨b,rfl⟩:=a;exact PySem.EqNone.eq_none_int (fin_bl I q (by simp))
  | str j=>obtain ⟨b,rfl⟩:=a;exact PySem.EqNone.eq_none_str (fin_bl I q (by simp))
  | _=>exact absurd (show false=true from c) Z0
 | bl i=>
  cases d;cases y with
  | non=>cases a;exact PySem.EqNone.eq_bool_none (fin_bl I q (by simp))
  | bl j=>cases a;exact eq_bool (fin_bl I q dec_bl)
  | str j=>obtain ⟨b,rfl⟩:=a;exact PySem.EqMixed.eq_bool_str (fin_bl I q (by simp))
  | _=>exact absurd (show false=true from c) Z0
 | int i=>
  obtain ⟨t,rfl⟩:=d;cases y with
  | non=>cases a;exact PySem.EqNone.eq_int_none (fin_bl I q (by simp))
  | int j=>obtain ⟨b,rfl⟩:=a;exact eq_int (fin_bl I q zgv)
  | str j=>obtain ⟨b,rfl⟩:=a;exact PySem.EqMixed.eq_int_str (fin_bl I q (by simp))
  | _=>exact absurd (show false=true from c) Z0
 | str i=>
  obtain ⟨t,rfl⟩:=d;cases y with
  | non=>cases a;exact PySem.EqNone.eq_str_none (fin_bl I q (by simp))
  | bl j=>cases a;exact PySem.EqMixed.eq_str_bool (fin_bl I q (by simp))
  | int j=>obtain ⟨b,rfl⟩:=a;exact PySem.EqMixed.eq_str_int (fin_bl I q (by simp))
  | str j=>obtain ⟨b,rfl⟩:=a;exact eq_str (fin_bl I q zge)
  | _=>exact absurd (show false=true from c) Z0
 | byt i=>
  obtain ⟨t,rfl⟩:=d;cases y with
  | byt j=>obtain ⟨b,rfl⟩:=a;exact PySem.W.eq_bytes (fin_bl I q zgr)
  | _=>exact absurd (show false=true from c) Z0
 | _=>cases y<;>exact absurd (show false=true from c) Z0
theorem op_ne:OpR X (A2 .NotEq) rNe:=by
 intro e s σ H x y v u Q I d a h;obtain ⟨c,q⟩:=h;cases x with
 | non=>
  cases d;cases y with
  | non=>cases a;exact PySem.EqNone.ne_none_none (fin_bl I q (by simp))
  | bl j=>cases a;exact PySem.EqNone.ne_none_bool (fin_bl I q (by simp))
  | int j=>obtain ⟨b,rfl⟩:=a;exact PySem.EqNone.ne_none_int (fin_bl I q (by simp))
  | str j=>obtain ⟨b,rfl⟩:=a;exact PySem.EqNone.ne_none_str (fin_bl I q (by simp))
  | _=>exact absurd (show false=true from c) Z0
 | bl i=>
  cases d;cases y with
  | non=>cases a;exact PySem.EqNone.ne_bool_none (fin_bl I q (by simp))
  | bl j=>cases a;exact ne_bool (fin_bl I q (congrArg not dec_bl))
  | str j=>obtain ⟨b,rfl⟩:=a;exact PySem.EqMixed.ne_bool_str (fin_bl I q (by simp))
  | _=>exact absurd (show false=true from c) Z0
 | int i=>
  obtain ⟨t,rfl⟩:=d;cases y with
  | non=>cases a;exact PySem.EqNone.ne_int_none (fin_bl I q (by simp))
  | int j=>obtain ⟨b,rfl⟩:=a;exact ne_int (fin_bl I q (congrArg not zgv))
  | str j=>obtain ⟨b,rfl⟩:=a;exact PySem.EqMixed.ne_int_str (fin_bl I q (by simp))
  | _=>exact absurd (show false=true from c) Z0
 | str i=>
  obtain ⟨t,rfl⟩:=d;cases y with
  | non=>cases a;exact PySem.EqNone.ne_str_none (fin_bl I q (by simp))
  | bl j=>cases a;exact PySem.EqMixed.ne_str_bool (fin_bl I q (by simp))
  | int j=>obtain ⟨b,rfl⟩:=a;exact PySem.EqMixed.ne_str_int (fin_bl I q (by simp))
  | str j=>obtain ⟨b,rfl⟩:=a;exact ne_str (fin_bl I q (congrArg not zge))
  | _=>exact absurd (show false=true from c) Z0
 | byt i=>
  obtain ⟨t,rfl⟩:=d;cases y with
  | byt j=>obtain ⟨b,rfl⟩:=a;exact PySem.W.ne_bytes (fin_bl I q (congrArg not zgr))
  | _=>exact absurd (show false=true from c) Z0
 | _=>cases y<;>exact absurd (show false=true from c) Z0
theorem op_lt:OpR X (A2 .Lt) (rI0 λ i j=>.bl (decide (i < j))):=opB0 λ _ _ _ _ _ _ _ q=>lt_int q
theorem op_le:OpR X (A2 .LtE) (rI0 λ i j=>.bl (decide (i<=j))):=opB0 λ _ _ _ _ _ _ _ q=>le_int q
theorem op_gt:OpR X (A2 .Gt) (rI0 λ i j=>.bl (decide (j < i))):=opB0 λ _ _ _ _ _ _ _ q=>gt_int q
theorem op_isN:OpR X (A2 .Is) (λ x y H Q=>y=.non/\Q (.bl (decide (x=.non))) H):=by
 intro c s σ H x y v u Q I a b h;obtain ⟨rfl,q⟩:=h;cases b;refine is_none_gen (fin_bl I q ?_);cases x<;>first
  | (cases a;rfl)
  | (obtain ⟨t,rfl⟩:=a;rfl)
theorem z45:OpR X (A2 .IsNot) (λ x y H Q=>y=.non/\Q (.bl (!decide (x=.non))) H):=by
 intro c s σ H x y v u Q I a b h;obtain ⟨rfl,q⟩:=h;cases b;refine isnot_none_gen (fin_bl I q ?_);cases x<;>first
  | (cases a;rfl)
  | (obtain ⟨t,rfl⟩:=a;rfl)
theorem OpR.or {f:Value->Value->Sem Value} {r r':R2} (h:OpR X f r) (h':OpR X f r'):OpR X f (λ x y H Q=>r x y H Q\/r' x y H Q):=by
 intro c s σ H x y v u Q I a b q;rcases q with q|q
 ·exact h c s σ H x y v u Q I a b q
 ·exact h' c s σ H x y v u Q I a b q
theorem nomark (b:Expr) {op:CmpOp} (h:op≠.In:=by decide) (h2:op≠.NotIn:=by decide):o7 op b=false:=by
 have a:(op == CmpOp.In)=false:=by cases op<;>first|rfl|exact absurd rfl h
 have c:(op == CmpOp.NotIn)=false:=by cases op<;>first|rfl|exact absurd rfl h2
 cases b<;>simp [o7,a,c]
theorem z22 {op:CmpOp} {r:R2} (ho:OpR X (A2 op) r) (ha:PE X a ta) (hb:PE X b tb) (hm:o7 op b=false):PE X (.Compare a [op] [b] pos) (tOp r ta tb):=by intro i s σ H Q I h;exact wpAny_Compare1 (binT ha hb I h λ v u d x y f c e g q=>ho i d σ f x y v u Q c e g q) hm
noncomputable def tTest (t:TE):TT:=λ σ H Q=>t σ H λ x H'=>∃k,x=.bl k/\Q k H'
theorem z08 {op:CmpOp} {r:R2} (ho:OpR X (A2 op) r) (ha:PE X a ta) (hb:PE X b tb) (hm:o7 op b=false):PT X (.Compare a [op] [b] pos) (tTest (tOp r ta tb)):=by
 intro d s σ H Q I h;refine wpAny_isTrue_Compare1 (thn (ha d s σ H _ I h) λ v g ⟨x,H1,I1,r1,q1⟩=>thn (hb d g σ H1 _ I1 q1) λ u f ⟨y,H2,I2,r2,q2⟩=>thn (ho d f σ H2 x y v u _ I2 r1 r2 q2) λ c i ⟨z,H3,I3,r3,k,e,q3⟩=>?_) hm;subst e;cases r3;exact Q2 ⟨H3,I3,q3⟩
noncomputable def tChain (r r':R2) (ta tb tc:TE):TE:=λ σ H Q=>ta σ H λ x H1=>tb σ H1 λ y H2=>r x y H2 λ z H3=>∃k,z=.bl k/\
 (if k=true then tc σ H3 λ w' H4=>r' y w' H4 Q else Q (.bl false) H3)
theorem zi2 {op op':CmpOp} {r r':R2} (ho:OpR X (A2 op) r) (ho':OpR X (A2 op') r') (ha:PE X a ta) (hb:PE X b tb) (hc:PE X c tc)
  (hm:lastMarks [op,op'] [b,c]=false:=by with_unfolding_all rfl):PE X (.Compare a [op,op'] [b,c] pos) (tChain r r' ta tb tc):=by
 intro f s σ H Q I h;refine Compare_chain (thn (ha f s σ H _ I h) λ v j ⟨x,H1,I1,r1,q1⟩=>chain_link (thn (hb f j σ H1 _ I1 q1) λ u g ⟨y,H2,I2,r2,q2⟩=>thn (ho f g σ H2 x y v u _ I2 r1 r2 q2) λ d i ⟨z,H3,I3,r3,k,e,q3⟩=>?_)) hm;subst e;cases r3;refine Q2 ?_;cases k with
 | false=>exact ite_ff ⟨.bl false,H3,I3,rfl,q3⟩
 | true=>exact ite_tt (chain_last (thn (hc f i σ H3 _ I3 q3) λ l m ⟨z',H4,I4,r4,q4⟩=>ho' f m σ H4 y z' u l Q I4 r2 r4 q4))
theorem zhj {op op':CmpOp} {r r':R2} (ho:OpR X (A2 op) r) (ho':OpR X (A2 op') r') (ha:PE X a ta) (hb:PE X b tb) (hc:PE X c tc)
  (hm:lastMarks [op,op'] [b,c]=false:=by with_unfolding_all rfl):PT X (.Compare a [op,op'] [b,c] pos) (tTest (tChain r r' ta tb tc)):=by
 intro f s σ H Q I h;refine isTrue_chain (thn (ha f s σ H _ I h) λ v l ⟨x,H1,I1,r1,q1⟩=>test_link (thn (hb f l σ H1 _ I1 q1) λ u m ⟨y,H2,I2,r2,q2⟩=>thn (ho f m σ H2 x y v u _ I2 r1 r2 q2) λ d j ⟨z,H3,I3,r3,k,e,q3⟩=>?_)) hm;subst e;cases r3;refine Q2 ?_;cases k with
 | false=>obtain ⟨t,i,g⟩:=q3;cases i;exact ite_ff ⟨H3,I3,g⟩
 | true=>refine ite_tt (test_last (thn (hc f j σ H3 _ I3 q3) λ n o ⟨z',H4,I4,r4,q4⟩=>thn (ho' f o σ H4 y z' u n _ I4 r2 r4 q4) λ q p ⟨z2,H5,I5,r5,k2,e2,q5⟩=>?_));subst e2;cases r5;exact Q2 ⟨H5,I5,q5⟩
theorem line63:(sizeLine:Nat) < 2 ^ 63:=by rw [sizeLine_eq];decide
theorem op_add_str:OpR X (J4 .Add) (λ x y H Q=>∃i j,x=.str i/\y=.str j/\i.length + j.length<=sizeLine/\Q (.str (i++j)) H):=by intro e s σ H x y v u Q I b d h;obtain ⟨i,j,rfl,rfl,c,q⟩:=h;obtain ⟨t,rfl⟩:=b;obtain ⟨a,rfl⟩:=d;exact add_str (λ a f=>⟨.str (i++j),H,I.tok _,⟨_,rfl⟩,q⟩) c
theorem vals1 {x:V} {us:List Value} (r:Vals [x] us) :∃u,us=[u]/\RelV x u:=by
 cases r with
 | cons r1 r2=>cases r2;exact ⟨_,rfl,r1⟩
theorem vals2 {x y:V} {us:List Value} (r:Vals [x,y] us) :∃u w',us=[u,w']/\RelV x u/\RelV y w':=by
 cases r with
 | cons r1 r2=>
  cases r2 with
  | cons r3 r4=>cases r4;exact ⟨_,_,rfl,r1,r3⟩
theorem zfo (hc:X.calm=true):CallR X (.builtin "max") (λ xs H Q=>∃i j,xs=[.int i,.int j]/\Q (.int (if j > i then j else i)) H):=by
 intro e s σ H xs us Q I r h;obtain ⟨i,j,rfl,q⟩:=h;obtain ⟨u,d,rfl,⟨t,rfl⟩,⟨a,rfl⟩⟩:=vals2 r;refine max_two_ints (I.ok.hd hc) λ c b k=>⟨_,H,I.kept k,?_,q⟩
 by_cases hj:j > i
 ·rw [if_pos hj,if_pos hj];exact ⟨_,rfl⟩
 ·rw [if_neg hj,if_neg hj];exact ⟨_,rfl⟩
end
structure ObjM (h:Heap) (x dx C:Addr) (mA:Str->Option Value):Prop where
 obj:h.get? x=some (N3 C dx)
 ns:h.Ns1 dx mA
 ne:dx≠x
theorem zgc {h:Heap} {dx:Addr} {mA:Str->Option Value} (n:h.Ns1 dx mA) :∃od,h.get? dx=some od/\∀name,p7 name od=some (mA name):=by
 obtain ⟨o,b,l,g,d,f,_,j⟩:=n;refine ⟨o,g,λ name=>?_⟩;have e:=j name;unfold nsFind findBy at e;rw [<-Array.find?_toList] at e;unfold p7;rw [d];dsimp only;split
 ·rename_i y q;rw [q] at e;exact congrArg some e
 ·rename_i q;rw [q] at e;have a:b.toList.any (·.refKey)=false:=by rw [List.any_eq_false];intro y k;obtain ⟨z,t,i⟩:=f y (Array.mem_toList_iff.mp k);simp [DictEntry.refKey,i]
  have c:¬ b.toList.any (·.refKey)=true:=by rw [a];exact Z0
  rw [if_neg c];exact congrArg some e
theorem ObjM.look {h:Heap} {x dx C:Addr} {mA:Str->Option Value} (I:ObjM h x dx C mA) :∃od,PySem.W.InstAt h x (N3 C dx) C (some od)/\∀name,p7 name od=some (mA name):=
 let ⟨od,ho,hl⟩:=zgc I.ns
 ⟨od,⟨I.obj,rfl,rfl,ho⟩,hl⟩
section
variable {prog:Program} {w:Q0} {A:X1} {E:Value->A0->Prop} {s:A0} {K:d0} {x dx C f:Addr} {mA:Str->Option Value} {name:Str} {v:Value}
theorem zjh {expr:Bool} {Q:Value->A0->Prop} (X:K.In s.heap) (I:ObjM s.heap x dx C mA) (hg:D6 K C name=true) (hh:Y7 K C=true)
  (ha:m3 K (.ref C) name=some none) (hv:mA name=some v) (hv':PySem.W.handedIn v=true) (h:Q v { s with toks:=s.toks + 1 }) :
  S0 (B1 prog w) A (getAttr (.ref x) name expr) Q E s:=by
 obtain ⟨b,J,a⟩:=I.look;exact PySem.W.get_value X J (L7 hg).1 (PySem.W.findObj_own hh ha rfl (by rw [a,hv])) hv' h
theorem zht {pl:Sem Bool} {Q:Value×List Value->A0->Prop} (X:K.In s.heap) (I:ObjM s.heap x dx C mA) (hg:D6 K C name=true)
  (hf:m3 K (.ref C) name=some (some (.ref f))) (ht:j9 K (.ref f)=true) (hv:mA name=none) (h:Q (.ref f,[.ref x]) s) :
  S0 (B1 prog w) A (getMethod (.ref x) name pl) Q E s:=by
 obtain ⟨b,J,a⟩:=I.look;exact PySem.W.method_fn X J (L7 hg).1 (L7 hg).2 hf (beq_iff_eq.mp ht) (by show (p7 name b).map (·.isSome)=some false;rw [a,hv];rfl) h
theorem zjb {ns:List Str} {Q:Unit->A0->Prop} (X:K.In s.heap) (I:ObjM s.heap x dx C mA)
  (hs:m3 K (.ref C) "__setattr__" = some (some (.builtin "object.__setattr__"))) (hp:Y9 K C=true) (ht:t8 K C name=some none) (hh:Y7 K C=true)
  (hw:F9 mA ns) (hsz:ns.length<=sizeLine)
  (h :∀h',ObjM h' x dx C (λ y=>if y=name then some v else mA y)->Q4 dx s.heap h'->Q () { s with heap:=h',toks:=s.toks + 2 }) :
  S0 (B1 prog w) A (setAttr (.ref x) name v) Q E s:=by
 obtain ⟨m,J,l⟩:=I.look;refine PySem.W.set_plain X J hs (PySem.W.osa_open (s:={ s with toks:=s.toks + 1 }) (r:=none) X J hp ht λ b=>?_);obtain ⟨o,e,g⟩:=PySem.W.any_some hh;have k:s.heap.get? x=some ⟨.ref C,some dx,.plain,#[]⟩:=I.obj;refine u0 (G0 (u0 (u0 (wpAny_loadPart k (u0 (PySem.W.Looks.here (s:={ s with toks:=s.toks + 1 }) (PySem.W.looks_clsIn X e) ?_))))));rw [g];refine G0 (a:=some dx) (u0 (G0 (u0 ?_)));refine wpAny_nsSet1 (s:={ s with toks:=s.toks + 1 }) I.ns λ h' d c=>?_;obtain ⟨n,q,p,j,i,f⟩:=d.count (PySem.Within.cons name v hw);refine u0 (wpAny_lookBehind j (by rw [i];exact pastItsLine_dict (K0 f (by rw [D1];lia))) ?_);exact G0 (h _ ⟨(c.2 _ (R3 I.ne)).trans I.obj,d,I.ne⟩ c)
theorem zh5 {R:Result->A0->Prop} {vs:List Value} {kw:List (Str×Value)} (X:K.In s.heap) (hm:PySem.W.makesIn K C=true)
  (hi:m3 K (.ref C) "__init__" = some (some (.ref f))) (hf:PySem.W.typeIn K (.ref f)=some (.type "function"))
  (h:Z5 (B1 prog w) (A.under (.builtin "type.__call__" ⟨.ref C :: vs,kw⟩)) (.call (.ref f) ⟨.ref (s.heap.objs.size + 1) :: vs,kw⟩) (PySem.W.InitBack (s.heap.objs.size + 1) R)
   { s with heap:=(s.heap.push PySem.W.emptyDict).push (N3 C s.heap.objs.size) }) :
  Z5 (B1 prog w) A (.call (.ref C) ⟨vs,kw⟩) R s:=by
 obtain ⟨c,g,d,t,b⟩:=s;exact PySem.W.make_core (PySem.W.makes_of X hm) (PySem.W.looks_findIn X hi) (λ a=>PySem.W.bind_fn X a hf) (.inl rfl) h
end
noncomputable def putF (f:Str) (v:V):List (Str×V)->List (Str×V)
 | []=>[(f,v)]
 | (g,x) :: r=>if g=f then (g,v) :: r else (g,x) :: putF f v r
theorem z2v (f g:Str) (v:V) :∀fs:List (Str×V),(putF f v fs).lookup g=if g=f then some v else fs.lookup g
 | []=>by
  show Q5 g [(f,v)]=_;by_cases h:g=f
  ·have a:(g == f)=true:=beq_iff_eq.mpr h;simp only [Q5,a,if_pos h]
  ·have a:(g == f)=false:=beq_eq_false_iff_ne.mpr h;simp only [Q5,a,if_neg h]
 | (k,x) :: r=>by
  have b:=z2v f g v r;rw [show putF f v ((k,x) :: r)=(if k=f then (k,v) :: r else (k,x) :: putF f v r) from rfl];by_cases hk:k=f
  ·rw [if_pos hk];by_cases h:g=k
   ·have a:(g == k)=true:=beq_iff_eq.mpr h;simp only [Q5,a,if_pos (h.trans hk)]
   ·have a:(g == k)=false:=beq_eq_false_iff_ne.mpr h;simp only [Q5,a,if_neg (λ e:g=f=>h (e.trans hk.symm))]
  ·rw [if_neg hk];by_cases h:g=k
   ·have a:(g == k)=true:=beq_iff_eq.mpr h;simp only [Q5,a,if_neg (λ e:g=f=>hk (h.symm.trans e))]
   ·have a:(g == k)=false:=beq_eq_false_iff_ne.mpr h;simp only [Q5,a];exact b
theorem z7t (f:Str) (v:V) :∀fs:List (Str×V),f∈(putF f v fs).map (·.1)/\∀g,g∈fs.map (·.1)->g∈(putF f v fs).map (·.1)
 | []=>⟨by simp [putF],λ g h=>by simp at h⟩
 | (k,x) :: r=>by
  obtain ⟨a,b⟩:=z7t f v r;rw [show putF f v ((k,x) :: r)=(if k=f then (k,v) :: r else (k,x) :: putF f v r) from rfl];by_cases hk:k=f
  ·rw [if_pos hk];subst hk;exact ⟨by simp,λ g h=>by simpa using h⟩
  ·rw [if_neg hk];refine ⟨?_,λ g h=>?_⟩
   ·rw [j1];exact F1 _ a
   ·rw [j1] at h⊢;rcases List.mem_cons.mp h with e|e
    ·exact List.mem_cons.mpr (.inl e)
    ·exact F1 _ (b g e)
theorem z6y (f:Str) (v:V) :∀fs:List (Str×V),(putF f v fs).length<=fs.length + 1
 | []=>by simp [putF]
 | (k,x) :: r=>by
  have a:=z6y f v r;rw [show putF f v ((k,x) :: r)=(if k=f then (k,v) :: r else (k,x) :: putF f v r) from rfl];by_cases hk:k=f
  ·rw [if_pos hk,D1,D1];lia
  ·rw [if_neg hk,D1,D1];lia
theorem RelO.some_of {v:V} {o:Option Value} (r:RelO (some v) o) :∃u,o=some u/\RelV v u:=by
 cases o with
 | none=>exact (show False from r).elim
 | some u=>exact ⟨u,rfl,r⟩
theorem RelO.none_of {o:Option Value} (r:RelO none o):o=none:=by
 cases o with
 | none=>rfl
 | some u=>exact (show False from r).elim
theorem zg3 {v:V} {u:Value} (r:RelV v u):PySem.W.handedIn u=true:=by
 cases v with
 | non=>cases (show u=m6 from r);rfl
 | bl b=>cases (show u=U3 b from r);rfl
 | int i=>obtain ⟨t,e⟩:=(show∃t,u=O6 i t from r);cases e;rfl
 | str x=>obtain ⟨t,e⟩:=(show∃t,u=c6 x t from r);cases e;rfl
 | byt b=>obtain ⟨t,e⟩:=(show∃t,u=Value.bytes b t from r);cases e;rfl
 | flt b=>obtain ⟨t,e⟩:=(show∃t,u=Q9 b t from r);cases e;rfl
 | ref a=>cases (show u=W0 a from r);rfl
 | ty n=>cases (show u=K4 n from r);rfl
section
variable {P:Program} {w:Q0} {H H':Hp} {h h':Heap} {a C dx:Addr} {fs fs':List (Str×V)}
theorem zc5 (hok:HOk P w H h) (e:H a=some (.ins C dx fs)) :∃mA,ObjM h a dx C mA/\(∀f,RelO (fs.lookup f) (mA f))/\F9 mA (fs.map (·.1))/\fs.length<=1000/\H dx=some (.own a):=by
 obtain ⟨d,z,b,c,mA,n,r,q⟩:=(show ObjOk P w H h a (.ins C dx fs) from hok a _ e)
 exact ⟨mA,⟨c,n,b⟩,r,q,z,d⟩
end
structure Cls (K:d0) (C:Addr):Prop where
 pg:D6 K C Str.empty=true
 hd:Y7 K C=true
 po:Y9 K C=true
 sa:m3 K (.ref C) "__setattr__" = some (some (.builtin "object.__setattr__"))
theorem Cls.get {K:d0} {C:Addr} (c:Cls K C) (f:Str):D6 K C f=true:=c.pg
def NoAttr (K:d0) (C:Addr) (f:Str):Prop:=m3 K (.ref C) f=some none
theorem NoAttr.taker {K:d0} {C:Addr} {f:Str} (n:NoAttr K C f):t8 K C f=some none:=by unfold t8;rw [show m3 K (.ref C) f=some none from n];rfl
structure Con (K:d0) (C:Addr) (f:Str) (v:V) (u:Value):Prop where
 at_:m3 K (.ref C) f=some (some u)
 rel:RelV v u
 get:X9 K u "__get__" = some none
 cp:PySem.W.copiedNames.contains f=false
structure Meth (K:d0) (C:Addr) (m:Str) (f:Addr):Prop where
 at_:m3 K (.ref C) m=some (some (.ref f))
 fn:j9 K (.ref f)=true
 kp:j3 K (.ref f)=true
section
variable {X:Cx} {pins:List (Addr×Obj)} {σ:St} {H:Hp} {s:A0} {a C dx:Addr} {fs:List (Str×V)} {f:Str} {v:V} {A:X1} {E:Value->A0->Prop}
theorem zdf {b:Bool} {Q:Value->A0->Prop} (I:Inv X pins σ H s) (e:H a=some (.ins C dx fs)) (c:Cls X.K C) (n:NoAttr X.K C f) (l:fs.lookup f=some v)
  (h :∀u s',Inv X pins σ H s'->RelV v u->Q u s'):S0 (B1 X.prog X.w) A (getAttr (.ref a) f b) Q E s:=by
 obtain ⟨i,O,r,_,_,_⟩:=zc5 I.hok e;obtain ⟨u,g,d⟩:=RelO.some_of (v:=v) (o:=i f) (by rw [<-l];exact r f);exact zjh I.kIn O (c.get f) c.hd n g (zg3 d) (h u _ (I.tok _) d)
theorem zdt {m:Str} {g:Addr} {pl:Sem Bool} {Q:Value×List Value->A0->Prop} (I:Inv X pins σ H s) (e:H a=some (.ins C dx fs)) (c:Cls X.K C) (k:Meth X.K C m g) (l:fs.lookup m=none)
  (h:Q (.ref g,[.ref a]) s):S0 (B1 X.prog X.w) A (getMethod (.ref a) m pl) Q E s:=by
 obtain ⟨b,O,r,_,_,_⟩:=zc5 I.hok e;have d:b m=none:=RelO.none_of (by rw [<-l];exact r m);exact zht I.kIn O (c.get m) k.at_ k.fn d h
theorem zcy {y:V} {u:Value} {Q:Unit->A0->Prop} (I:Inv X pins σ H s) (e:H a=some (.ins C dx fs)) (c:Cls X.K C) (n:NoAttr X.K C f) (hl:fs.length < 1000) (ry:RelV y u)
  (h :∀s',Inv X pins σ (upd H a (.ins C dx (putF f y fs))) s'->Q () s'):S0 (B1 X.prog X.w) A (setAttr (.ref a) f u) Q E s:=by
 obtain ⟨k,O,r,i,_,j⟩:=zc5 I.hok e;have v:(fs.map (·.1)).length<=sizeLine:=by rw [L0,sizeLine_eq];lia
 refine zjb I.kIn O c.sa c.po n.taker c.hd i v λ t d m=>h _ ?_;have p :∃o,t.get? dx=some o:=let ⟨o,_,_,e',_⟩:=d.ns;⟨o,e'⟩;refine I.write (x:=a) (e:=dx) (by rw [e];exact True.intro) (.inr j) (λ b q l z=>(m.2 b l).trans z) p ?_;refine ⟨by rw [upd_ne O.ne];exact j,?_,O.ne,d.obj,_,d.ns,λ g=>?_,λ g B=>?_⟩
 ·have:=z6y f y fs;lia
 ·show RelO ((putF f y fs).lookup g) (if g=f then some u else k g);rw [z2v];by_cases q:g=f
  ·rw [if_pos q,if_pos q];exact ry
  ·rw [if_neg q,if_neg q];exact r g
 ·by_cases q:g=f
  ·rw [q];exact (z7t f y fs).1
  ·refine (z7t f y fs).2 g (i g λ z=>B ?_);show (if g=f then some u else k g)=none;rw [if_neg q];exact z
theorem Inv.made (I:Inv X pins σ H s):Inv X pins σ (upd (upd H s.heap.objs.size (.own (s.heap.objs.size + 1))) (s.heap.objs.size + 1) (.ins C s.heap.objs.size []))
  { s with heap:=(s.heap.push PySem.W.emptyDict).push (N3 C s.heap.objs.size) }:=by
 have c:(s.heap.push PySem.W.emptyDict).get? s.heap.objs.size=some PySem.W.emptyDict:=V0 s.heap rfl;have i:((s.heap.push PySem.W.emptyDict).push (N3 C s.heap.objs.size)).get? (s.heap.objs.size + 1)=some (N3 C s.heap.objs.size):=by
  have:=V0 (s.heap.push PySem.W.emptyDict) (o:=N3 C s.heap.objs.size) rfl
  rwa [D3] at this
 have f:(s.heap.push PySem.W.emptyDict).Ns s.heap.objs.size (λ _=>none):=⟨PySem.W.emptyDict,#[],_,c,rfl,(λ e h=>absurd h (by simp)),λ _=>rfl⟩
 have g:=I.laid (a:=s.heap.objs.size) (o:=.own (s.heap.objs.size + 1)) (h':=s.heap.push PySem.W.emptyDict) (t':=s.toks) (λ b u q=>F0 _ q) (C0 _) ⟨_,c⟩;refine g.laid (a:=s.heap.objs.size + 1) (o:=.ins C s.heap.objs.size []) (t':=s.toks) (λ b u q=>F0 _ q) (u8 (D3 _ _)) ?_;have d:s.heap.objs.size≠s.heap.objs.size + 1:=Y0 (U1 _);refine ⟨by rw [upd_ne d,upd_same],j2 _,d,i,λ _=>none,(Heap.Ns1.of_empty f).at λ o q=>F0 _ q,λ _=>True.intro,λ y j=>absurd rfl j⟩
theorem zj7 {prog:Program} {w:Q0} {env:Env} {e:Expr} {f:Str} {pos:Pos} {s:A0} {Q:Value->A0->Prop} (hb:M3 e f env (X2 e env)=X2 e env)
  (h:S0 (B1 prog w) A (X2 e env) (λ o s₁=>S0 (B1 prog w) A (getAttr o f true) Q E s₁) E s):S0 (B1 prog w) A (X2 (.Attribute e f pos) env) Q E s:=
 Attribute_any_ h (by rw [arm_eval_Attribute,hb])
end
noncomputable def tFld (K:d0) (ta:TE) (f:Str):TE:=λ σ H Q=>ta σ H λ x H1=>∃a C dx fs v,x=.ref a/\H1 a=some (.ins C dx fs)/\Cls K C/\NoAttr K C f/\fs.lookup f=some v/\Q v H1
noncomputable def sFld (K:d0) (ta tv:TE) (f:Str):TS:=λ D σ H=>tv σ H λ y H1=>ta σ H1 λ x H2=>∃a C dx fs,x=.ref a/\H2 a=some (.ins C dx fs)/\Cls K C/\NoAttr K C f/\fs.length < 1000/\
 D.nx σ (upd H2 a (.ins C dx (putF f y fs)))
section
variable {X:Cx} {o e value:Expr} {f:Str} {pos pos' tpos:Pos} {ta tv:TE}
theorem pe_fld (he:PE X e ta) (hb:M3 e f X.env (X2 e X.env)=X2 e X.env):PE X (.Attribute e f pos) (tFld X.K ta f):=by intro g s σ H Q I h;refine zj7 hb (thn (he g s σ H _ I h) λ u j ⟨x,H1,I1,rx,a,C,dx,fs,v,ex,ea,c,n,l,q⟩=>?_);subst ex;obtain rfl:u=W0 a:=rx;exact zdf I1 ea c n l λ k i b d=>⟨v,H1,b,d,q⟩
theorem ps_fld (ha:PE X o ta) (hv:PE X value tv) (hs:K6 value (some (.Attribute o f pos')) pos.line X.env=G3 false):PS X (.Assign [.Attribute o f pos'] value pos) (sFld X.K ta tv f):=by intro b s σ H D I h;refine plainObj_wpAny_Assign_Attribute (thn (hv b s σ H _ I h) λ u e ⟨y,H1,I1,ry,q⟩=>thn (ha b e σ H1 _ I1 q) λ d i ⟨x,H2,I2,rx,a,C,dx,fs,ex,ea,c,n,l,q2⟩=>?_) hs;subst ex;obtain rfl:d=W0 a:=rx;exact zcy I2 ea c n l ry λ j g=>⟨σ,_,g,q2⟩
end
section
variable {X:Cx} {pins:List (Addr×Obj)} {σ:St} {H:Hp} {s:A0} {A:X1} {E:Value->A0->Prop} {Q:Value->A0->Prop} {c:Value} {b:Bool}
inductive TyOf (K:d0) (H:Hp):V->Value->Prop where
 | non:TyOf K H .non (.type "NoneType")
 | bl (x:Bool):TyOf K H (.bl x) (.type "bool")
 | int (i:Int):TyOf K H (.int i) (.type "int")
 | str (x:Str):TyOf K H (.str x) (.type "str")
 | flt (x:UInt64):TyOf K H (.flt x) (.type "float")
 | lst {a:Addr} {xs:List V} (e:H a=some (.lst xs)):TyOf K H (.ref a) (.type "list")
 | frz {a:Addr} {o:Obj} {xs:List V} (e:H a=some (.frz o (.lst xs))):TyOf K H (.ref a) (.type "list")
 | tup {a:Addr} {xs:List V} (e:H a=some (.tup xs)):TyOf K H (.ref a) (.type "tuple")
 | dK {a:Addr} {kvs:List (Key×V)} (e:H a=some (.dK kvs)):TyOf K H (.ref a) (.type "dict")
 | dT {a:Addr} {kvs:List (List Key×V)} (e:H a=some (.dT kvs)):TyOf K H (.ref a) (.type "dict")
 | ins {a C dx:Addr} {fs:List (Str×V)} (e:H a=some (.ins C dx fs)) (cl:Cls K C) (ha:m3 K (.ref C) "__class__" = some (some (.builtin "object.__class__")))
   (hn:X9 K (.builtin "object.__class__") "__get__" = some (some (.builtin "getset_descriptor.__get__"))) (htk:PySem.W.takesIn K (.builtin "object.__class__")=some true)
   (hm:PySem.W.mroIn K C (.type "object")=some true):TyOf K H (.ref a) (.ref C)
theorem zg1 {x:V} {u t:Value} (I:Inv X pins σ H s) (rx:RelV x u) (ty:TyOf X.K H x t) (e:PySem.W.kitOne X.K t c=some b) (h :∀tk,Q (.bool b) { s with toks:=tk }) :
  S0 (B1 X.prog X.w) A (call (.builtin "isinstance") [u,c]) Q E s:=by
 cases ty with
 | non=>cases (show u=m6 from rx);exact W2 PySem.W.kitx_none I.kIn True.intro e (λ z=>nomatch z) h
 | bl y=>cases (show u=U3 y from rx);exact W2 PySem.W.kitx_bool I.kIn True.intro e (λ z=>nomatch z) h
 | int i=>obtain ⟨t,q⟩:=(show∃t,u=O6 i t from rx);cases q;exact W2 PySem.W.kitx_int I.kIn True.intro e (λ z=>nomatch z) h
 | str y=>obtain ⟨t,q⟩:=(show∃t,u=c6 y t from rx);cases q;exact W2 PySem.W.kitx_str I.kIn True.intro e (λ z=>nomatch z) h
 | flt y=>obtain ⟨t,q⟩:=(show∃t,u=Q9 y t from rx);cases q;exact W2 PySem.W.kitx_float I.kIn True.intro e (λ z=>nomatch z) h
 | @lst a f ea=>
  cases (show u=W0 a from rx);obtain ⟨_,_,n,_,d⟩:=(show ObjOk X.prog X.w H s.heap a (.lst f) from I.hok a _ ea)
  exact W2 Z9 I.kIn ⟨_,d,rfl⟩ e (λ z=>nomatch z) h
 | @frz a ob f ea=>
  cases (show u=W0 a from rx);obtain ⟨_,_,_,n,_,d⟩:=(show ObjOk X.prog X.w H s.heap a (.frz ob (.lst f)) from I.hok a _ ea)
  exact W2 Z9 I.kIn ⟨_,d,rfl⟩ e (λ z=>nomatch z) h
 | @tup a f ea=>
  cases (show u=W0 a from rx);obtain ⟨_,_,_,p,_⟩:=(show ObjOk X.prog X.w H s.heap a (.tup f) from I.hok a _ ea)
  obtain ⟨o,d,g,_⟩:=p;exact W2 PySem.W.kitx_tuple I.kIn ⟨o,d,g⟩ e (λ z=>nomatch z) h
 | @dK a kvs ea=>
  cases (show u=W0 a from rx);obtain ⟨_,_,r,_,p⟩:=(show ObjOk X.prog X.w H s.heap a (.dK kvs) from I.hok a _ ea)
  obtain ⟨o,j,k,d,g,_⟩:=p;exact W2 j00 I.kIn ⟨o,d,g.1⟩ e (λ z=>nomatch z) h
 | @dT a kvs ea=>
  cases (show u=W0 a from rx);obtain ⟨_,_,f,_,o,j,k,d,g,_⟩:=(show ObjOk X.prog X.w H s.heap a (.dT kvs) from I.hok a _ ea)
  exact W2 j00 I.kIn ⟨o,d,g.1⟩ e (λ z=>nomatch z) h
 | @ins a C dx fs ea cl ha hn htk hm=>cases (show u=W0 a from rx);obtain ⟨m,O,_⟩:=zc5 I.hok ea;obtain ⟨l,J,_⟩:=O.look;exact W2 (PySem.W.kitx_own (cl.get _) cl.hd ha hn htk hm) I.kIn J e (λ z=>nomatch z) h
end
structure Room (k:Nat) (A:X1):Prop where
 hd:A.handled=none
 dp:A.depth + 3 * k + 5 < recursionLimit
 un:A.units + 16 * k + 200 < cLine
 gd:A.guards=some []
theorem Room.mono {j k:Nat} {A:X1} (r:Room k A) (h:j<=k):Room j A:=⟨r.hd,by have:=r.dp;lia,by have:=r.un;lia,r.gd⟩
theorem Room.deeper {k:Nat} {A:X1} (r:Room (k + 1) A) (env:Env):Room k (A.deeper env):=
 ⟨r.hd,by have:=r.dp;show A.depth + 1 + 3 * k + 5 < _;lia,by have:=r.un;show A.units + 3 + 16 * k + 200 < _;lia,r.gd⟩
theorem ze6 {A:X1} {C:Addr} {us:List Value} {kw:List (Str×Value)}:(A.under (.builtin "type.__call__" ⟨.ref C :: us,kw⟩)).depth=A.depth + 1:=by first|rfl|simp [c8,Code.weight,Code.isCreation,Code.isGuard,Code.isCaller,j06,o8,guardIds]
theorem zdl {A:X1} {C:Addr} {us:List Value} {kw:List (Str×Value)}:(A.under (.builtin "type.__call__" ⟨.ref C :: us,kw⟩)).units=A.units + 1:=by first|rfl|simp [c8,Code.cUnits,j06,o8]
theorem Room.make {k:Nat} {A:X1} (r:Room (k + 1) A) (C:Addr) (us:List Value) (kw:List (Str×Value)):Room k (A.under (.builtin "type.__call__" ⟨.ref C :: us,kw⟩)):=
 ⟨r.hd,by have:=r.dp;rw [ze6];lia,by have:=r.un;rw [zdl];lia,by have h:=r.gd;first|exact h|simp [c8,h,Code.weight,Code.isCreation,Code.isGuard,Code.isCaller,j06,o8,guardIds]⟩
theorem Room.depth {k:Nat} {A:X1} (r:Room k A):A.depth < recursionLimit:=by have:=r.dp;lia
theorem Room.units {k:Nat} {A:X1} (r:Room k A):A.units + 64 < cLine:=by have:=r.un;lia
noncomputable def tNil:TA:=λ _ H Q=>Q [] H
noncomputable def tCons (ta:TE) (tr:TA):TA:=λ σ H Q=>ta σ H λ x H1=>tr σ H1 λ xs H2=>Q (x :: xs) H2
section
variable {X:Cx} {e:Expr} {es:List Expr} {te:TE} {t:TA} {pos:Pos}
theorem pa_nil:PA X [] tNil:=λ _ _ _ _ H Q I h=>u4 ⟨[],H,I,.nil,h⟩
theorem z00 (ha:PE X e te) (hr:PA X es t) (hs:K1 (e :: es) X.env=(false,X2 e X.env) :: K1 es X.env:=by rfl):PA X (e :: es) (tCons te t):=by intro a b s σ H Q I h;rw [hs];show S0 _ _ (spliced ((false,X2 e X.env) :: w4 a (K1 es X.env))) _ _ s;refine W3 (thn (ha b s σ H _ I h) λ u c ⟨x,H1,I1,r1,q1⟩=>?_);exact thn (hr a b c σ H1 _ I1 q1) λ us d ⟨xs,H2,I2,r2,q2⟩=>⟨x :: xs,H2,I2,.cons r1 r2,q2⟩
noncomputable def tTup (t:TA):TE:=λ σ H Q=>t σ H λ xs H1=>xs.length<=sizeLine/\∀p,H1 p=none->Q (.ref p) (upd H1 p (.tup xs))
noncomputable def tLst (t:TA):TE:=λ σ H Q=>t σ H λ xs H1=>xs.length<=sizeLine/\∀p,H1 p=none->Q (.ref p) (upd H1 p (.lst xs))
theorem pe_tup {x1} (h:PA X es t):PE X (.Tuple es x1 pos) (tTup t):=by intro f s σ H Q I d;refine wpAny_Tuple_spliced (thn (h pos f s σ H _ I d) λ us a ⟨xs,H1,I1,r,z,q⟩=>⟨by rw [<-r.length];exact z,?_⟩);have c:H1 a.heap.objs.size=none:=I1.hok.fresh (C0 _);refine ⟨.ref a.heap.objs.size,upd H1 a.heap.objs.size (.tup xs),I1.laid (t':=a.toks) (λ b u e=>F0 _ e) (C0 _) ?_,rfl,q _ c⟩;exact ⟨z,us,r,IsTupN.new _ _⟩
theorem pe_lst (h:PA X es t):PE X (.List es pos) (tLst t):=by intro f s σ H Q I d;refine wpAny_List_spliced (thn (h pos f s σ H _ I d) λ us a ⟨xs,H1,I1,r,z,q⟩=>⟨by rw [<-r.length];exact z,?_⟩);have c:H1 a.heap.objs.size=none:=I1.hok.fresh (C0 _);refine ⟨.ref a.heap.objs.size,upd H1 a.heap.objs.size (.lst xs),I1.laid (t':=a.toks) (λ b u e=>F0 _ e) (C0 _) ?_,rfl,q _ c⟩;exact ⟨z,us,0,r,V0 _ rfl⟩
end
noncomputable abbrev Sp:=List V->Hp->VK->XK->Prop
noncomputable abbrev CXT:=List Env->Hp->A0->XK->Value->A0->Prop
structure Env0 (P:Program) (w:Q0) (K:d0) (mg:Str->Option Value) (base:Heap) (A:X1) (outer:List Env) (s:A0) (H:Hp):Prop where
 frames:A.frames=some outer
 mod:Mod K mg base
 bs :∀b o,base.get? b=some o->s.heap.get? b=some o/\H b=none
 bsz:base.objs.size<=s.heap.objs.size
 funs:s.heap.FunFrames base outer
 frf :∀b∈frs outer,H b=none
 hok:HOk P w H s.heap
 bare:j7 s.gens
def CE (outer:List Env) (P:Program) (w:Q0) (H:Hp) (s:A0) (Q:VK) (u:Value) (s':A0):Prop:=
 ∃v H',s'.os=s.os/\j7 s'.gens/\Un (frs outer) [] H H' s.heap s'.heap/\HOk P w H' s'.heap/\RelV v u/\Q v H'
def CR (CX:CXT) (outer:List Env) (P:Program) (w:Q0) (H:Hp) (s:A0) (Q:VK) (E:XK) (r:Result) (s':A0):Prop:=
 match r with
 | .ok (.ret u)=>CE outer P w H s Q u s'
 | .ok _=>False
 | .error e=>CX outer H s E e s'
structure FnOk (P:Program) (w:Q0) (K:d0) (mg:Str->Option Value) (base:Heap) (CX:CXT) (k:Nat) (f:Addr) (fd:FuncData) (ps:List Str) (sp:Sp):Prop where
 len :∀vs H Q E,sp vs H Q E->vs.length=ps.length
 run :∀(A:X1) (outer:List Env) (s:A0) (H:Hp) (args:Args) (us:List Value) (vs:List V) (Q:VK) (E:XK),Room k A->Env0 P w K mg base A outer s H->BindsTo s fd args (ps.zip us)->Vals vs us->sp vs H Q E->
  Z5 (B1 P w) A (.call (.ref f) args) (CR CX outer P w H s Q E) s
theorem Env0.make {P:Program} {w:Q0} {K:d0} {mg:Str->Option Value} {base:Heap} {A:X1} {outer:List Env} {s:A0} {H:Hp} (e:Env0 P w K mg base A outer s H) (C:Addr) (us:List Value) (kw:List (Str×Value)) :
  Env0 P w K mg base (A.under (.builtin "type.__call__" ⟨.ref C :: us,kw⟩)) outer s H:=⟨by first|exact e.frames|(simpa [c8,Code.envs,o8,pushEnvs] using e.frames),e.mod,e.bs,e.bsz,e.funs,e.frf,e.hok,e.bare⟩
section
variable {X:Cx} {pins:List (Addr×Obj)} {σ:St} {H:Hp} {s s':A0}
theorem Inv.env0 (I:Inv X pins σ H s):Env0 X.prog X.w X.K X.mg X.base X.A X.stack s H:=
 ⟨I.ok.frames,I.ok.mod,I.bs,K0 I.ok.bsz I.sz,I.stack,I.stkFree,I.hok,I.bare⟩
theorem Inv.after {Q:VK} {u:Value} (I:Inv X pins σ H s) (h:CE X.stack X.prog X.w H s Q u s'):EP X pins σ Q u s':=by obtain ⟨v,e,f,a,un,c,r,q⟩:=h;obtain ⟨j,g,d,t,i⟩:=s';obtain rfl:i=s.os:=f;exact ⟨v,e,I.call (h':=j) (g':=g) (d':=d) (t':=t) (ch:=[]) un c a (λ b z=>absurd z (by simp)),r,q⟩
end
noncomputable def tCall (sp:Sp) (dvs:List V) (E:XK) (t:TA):TE:=λ σ H Q=>t σ H λ vs H1=>sp (vs++dvs) H1 Q E
noncomputable def tMeth (C:Addr) (m:Str) (sp:Sp) (dvs:List V) (E:XK) (ta:TE) (t:TA):TE:=λ σ H Q=>ta σ H λ x H1=>∃a dx fs,x=.ref a/\H1 a=some (.ins C dx fs)/\fs.lookup m=none/\
 t σ H1 λ vs H2=>sp (x :: (vs++dvs)) H2 Q E
noncomputable def tMake (C:Addr) (sp:Sp) (dvs:List V) (E:XK) (t:TA):TE:=λ σ H Q=>t σ H λ vs H1=>∀x dx,H1 x=none->H1 dx=none->dx≠x->
 sp (.ref x :: (vs++dvs)) (upd (upd H1 dx (.own x)) x (.ins C dx [])) (λ v H2=>v=.non/\Q (.ref x) H2) E
def Binds (K:d0) (fd:FuncData) (ps:List Str) (ds:List Value):Prop:=
 ∀(s:A0) (us:List Value),K.In s.heap->(us++ds).length=ps.length->BindsTo s fd ⟨us,[]⟩ (ps.zip (us++ds))
theorem Binds.all {K:d0} {fd:FuncData} {ps:List Str} (h :∀us:List Value,us.length=ps.length->bindArgs fd ⟨us,[]⟩=G3 (ps.zip us)):Binds K fd ps []:=λ s us _ a=>by rw [Z2] at a⊢;exact .of_eq (h us a)
def Passes (CX:CXT) (X:Cx) (E:XK):Prop:=∀(pins:List (Addr×Obj)) (σ:St) (H:Hp) (s:A0) (e:Value) (s':A0),Inv X pins σ H s->CX X.stack H s E e s'->X.xe e s'
section
variable {X:Cx} {CX:CXT} {k:Nat} {f C:Addr} {fd:FuncData} {ps:List Str} {sp:Sp} {dvs:List V} {ds:List Value} {E:XK} {x m:Str} {p pos apos:Pos} {e o:Expr} {es:List Expr} {ta:TE} {t:TA}
theorem run_fn {pins:List (Addr×Obj)} {σ:St} {H:Hp} {s:A0} {Q:VK} {us:List Value} {vs:List V} (F:FnOk X.prog X.w X.K X.mg X.base CX k f fd ps sp) (hr:Room k X.A) (hb:Binds X.K fd ps ds) (hd:Vals dvs ds) (hx:Passes CX X E)
  (I:Inv X pins σ H s) (r:Vals vs us) (h:sp (vs++dvs) H Q E):S0 (B1 X.prog X.w) X.A (call (.ref f) us) (EP X pins σ Q) X.xe s:=by
 have b:Vals (vs++dvs) (us++ds):=r.append hd;have c:(us++ds).length=ps.length:=by rw [<-b.length];exact F.len _ _ _ _ h
 refine wpAny_call (B6 (F.run X.A X.stack s H ⟨us,[]⟩ (us++ds) (vs++dvs) Q E hr I.env0 (hb s us I.kIn c) b h) λ r d a=>?_);cases r with
 | error e=>exact hx pins σ H s e d I a
 | ok fl=>
  cases fl with
  | ret u=>exact I.after a
  | next=>exact K3 a
  | brk=>exact K3 a
  | cont=>exact K3 a
theorem zis (F:FnOk X.prog X.w X.K X.mg X.base CX k f fd ps sp) (hr:Room k X.A) (hg:Gl X x) (hm:X.mg x=some (.ref f)) (hk:j3 X.K (.ref f)=true) (hb:Binds X.K fd ps ds) (hd:Vals dvs ds) (hx:Passes CX X E)
  (ha:PA X (e :: es) t) (hdb:(x == ("__debug__" : Str))=false:=by decide) (he:K1 (e :: es) X.env=(false,X2 e X.env) :: K1 es X.env:=by rfl) (hpl:(w4 pos (K1 es X.env)).any (·.1)=false:=by rfl) :
  PE X (.Call (.Name x p) (e :: es) [] pos) (tCall sp dvs E t):=by
 intro a s σ H Q I h;refine O3 (zej I hg hm ?_ hdb);refine Y5 (h₀:=X.base) I.ok.mod.kin hk (thn (ha pos a s σ H _ I h) λ us b ⟨vs,H1,I1,r,q⟩=>⟨I1.kIn,?_⟩) he hpl;exact run_fn F hr hb hd hx I1 r q
theorem zdx {pl:Sem Bool} (he:PE X o ta) (c:Cls X.K C) (hm:Meth X.K C m f) (F:FnOk X.prog X.w X.K X.mg X.base CX k f fd ps sp) (hr:Room k X.A) (hb:Binds X.K fd ps ds) (hd:Vals dvs ds) (hx:Passes CX X E) (ha:PA X (e :: es) t)
  (hst:K1 (e :: es) X.env=(false,X2 e X.env) :: K1 es X.env:=by rfl) (hpl:(w4 pos (K1 es X.env)).any (·.1)=false:=by rfl)
  (ht:X2 (.Call (.Attribute o m apos) (e :: es) [] pos) X.env=(do
   let ov <-X2 o X.env
   L9 apos.atName
   let (f,first) <-K8 [ov] (getMethod ov m pl)
   callWith pos f first (w4 pos (K1 (e :: es) X.env)) (O8 pos (c7 [] X.env))):=by rfl) :
  PE X (.Call (.Attribute o m apos) (e :: es) [] pos) (tMeth C m sp dvs E ta t):=by
 intro b s σ H Q I h;refine PySem.W.methodCall_KW (pl:=pl) (thn (he b s σ H _ I h) λ u d ⟨x,H1,I1,rx,a,dx,fs,ex,ea,l,q⟩=>?_) ht;subst ex;obtain rfl:u=W0 a:=rx;refine zdt I1 ea c hm l ?_;refine Y5 (first:=[.ref a]) (h₀:=X.base) I.ok.mod.kin hm.kp (thn (ha pos b d σ H1 _ I1 q) λ us g ⟨vs,H2,I2,r,q2⟩=>⟨I2.kIn,?_⟩) hst hpl;exact run_fn (us:=.ref a :: us) (vs:=.ref a :: vs) F hr hb hd hx I2 (.cons rfl r) q2
structure Mk (K:d0) (C f:Addr):Prop where
 makes:PySem.W.makesIn K C=true
 init:m3 K (.ref C) "__init__" = some (some (.ref f))
 fn:j9 K (.ref f)=true
 kp:j3 K (.ref C)=true
theorem zhi {pins:List (Addr×Obj)} {σ:St} {H:Hp} {s:A0} {Q:VK} {us:List Value} {vs:List V} (M:Mk X.K C f) (F:FnOk X.prog X.w X.K X.mg X.base CX k f fd ps sp) (hr:Room (k + 1) X.A) (hb:Binds X.K fd ps ds) (hd:Vals dvs ds)
  (hx:Passes CX X E) (I:Inv X pins σ H s) (r:Vals vs us)
  (h :∀x dx,H x=none->H dx=none->dx≠x->sp (.ref x :: (vs++dvs)) (upd (upd H dx (.own x)) x (.ins C dx [])) (λ v H2=>v=.non/\Q (.ref x) H2) E) :
  S0 (B1 X.prog X.w) X.A (call (.ref C) us) (EP X pins σ Q) X.xe s:=by
 have d:=h (s.heap.objs.size + 1) s.heap.objs.size (I.hok.fresh (T5 _)) (I.hok.fresh (C0 _)) (Y0 (U1 _));have b:=Inv.made (C:=C) I;have c:Vals (V.ref (s.heap.objs.size + 1) :: (vs++dvs)) (W0 (s.heap.objs.size + 1) :: (us++ds)):=.cons rfl (r.append hd);have i:(W0 (s.heap.objs.size + 1) :: us++ds).length=ps.length:=by have e:=c.length;rw [F.len _ _ _ _ d] at e;exact e.symm
 refine wpAny_call (zh5 (f:=f) I.kIn M.makes M.init (beq_iff_eq.mp M.fn) (B6 (F.run _ X.stack _ _ ⟨W0 (s.heap.objs.size + 1) :: us,[]⟩ (W0 (s.heap.objs.size + 1) :: (us++ds)) _ _ E (hr.make C us [])
  (b.env0.make C us []) (hb _ (W0 (s.heap.objs.size + 1) :: us) b.kIn i) c d) λ r l a=>?_))
 cases r with
 | error e=>exact hx pins σ _ _ e l b a
 | ok fl=>
  cases fl with
  | ret u=>obtain ⟨v,m,n,g,o,j⟩:=b.after a;subst o;exact ⟨g,⟨V.ref (s.heap.objs.size + 1),m,n,rfl,j⟩⟩
  | next=>exact K3 a
  | brk=>exact K3 a
  | cont=>exact K3 a
theorem zgi (M:Mk X.K C f) (F:FnOk X.prog X.w X.K X.mg X.base CX k f fd ps sp) (hr:Room (k + 1) X.A) (hg:Gl X x) (hm:X.mg x=some (.ref C)) (hb:Binds X.K fd ps ds) (hd:Vals dvs ds) (hx:Passes CX X E)
  (ha:PA X (e :: es) t) (hdb:(x == ("__debug__" : Str))=false:=by decide) (he:K1 (e :: es) X.env=(false,X2 e X.env) :: K1 es X.env:=by rfl) (hpl:(w4 pos (K1 es X.env)).any (·.1)=false:=by rfl) :
  PE X (.Call (.Name x p) (e :: es) [] pos) (tMake C sp dvs E t):=by
 intro a s σ H Q I h;refine O3 (zej I hg hm ?_ hdb);refine Y5 (h₀:=X.base) I.ok.mod.kin M.kp (thn (ha pos a s σ H _ I h) λ us b ⟨vs,H1,I1,r,q⟩=>⟨I1.kIn,?_⟩) he hpl;exact zhi M F hr hb hd hx I1 r q
end
section
variable {X:Cx} {CX:CXT} {k:Nat} {f C:Addr} {fd:FuncData} {ps ks:List Str} {sp:Sp} {E:XK} {x m:Str} {p pos apos kpos:Pos} {e o:Expr} {es:List Expr} {kws:List J6} {te ta:TE} {t tk:TA} {nm:Option Str}
structure KBinds (K:d0) (fd:FuncData) (ps ks:List Str) (g:List Value->List Value->List Value) (gV:List V->List V->List V):Prop where
 to :∀(s:A0) (us ws:List Value),K.In s.heap->(g us ws).length=ps.length->BindsTo s fd ⟨us,ks.zip ws⟩ (ps.zip (g us ws))
 rel :∀{vs:List V} {us:List Value} {zs:List V} {ws:List Value},Vals vs us->Vals zs ws->Vals (gV vs zs) (g us ws)
variable {g:List Value->List Value->List Value} {gV:List V->List V->List V}
end
structure FnScope (N P:List Str) (sc:Scope):Prop where
 kind:sc.kind=.function
 co:sc.isCoroutine=false
 gen:sc.isGenerator=false
 nd:N.Nodup
 pre:N.take P.length=P
 par :∀x∈P,sc.names.lookup x=some .local\/sc.names.lookup x=some .cell
 nofree :∀y∈sc.names,y.2≠.free
theorem zb3 {kindOf:Str->Option M5} {x:Str} :∀{binds:List (Str×Value)} {m:Str->Option Value},(∀v,(x,v)∉binds)->bindL kindOf binds m x=m x
 | [],_,_=>rfl
 | (n,v) :: r,m,h=>by
  unfold bindL;rw [zb3 λ w a=>h w (F1 _ a)];split
  ·have:x≠n:=by rintro rfl;exact h v N1
   simp [this]
  ·rfl
theorem zbb {kindOf:Str->Option M5} {x:Str} :∀{binds:List (Str×Value)} {m:Str->Option Value},(∀v,(x,v)∉binds)->bindC kindOf binds m x=m x
 | [],_,_=>rfl
 | (n,v) :: r,m,h=>by
  unfold bindC;rw [zbb λ w a=>h w (F1 _ a)];split
  ·rfl
  ·have:x≠n:=by rintro rfl;exact h v N1
   simp [this]
theorem zbk {kindOf:Str->Option M5} {x:Str} {v:Value} :∀{P:List Str} {vs:List Value} {i:Nat} {m:Str->Option Value},P.Nodup->P[i]? = some x->vs[i]? = some v->kindOf x=some .local->
  bindL kindOf (P.zip vs) m x=some v
 | [],_,_,_,_,h,_,_=>by simp at h
 | _ :: _,[],_,_,_,_,h,_=>by simp at h
 | p :: P,w :: vs,0,m,nd,h1,h2,hk=>by simp at h1 h2;subst h1;subst h2;show bindL kindOf ((p,w) :: P.zip vs) m p=_;unfold bindL;rw [zb3 λ v a=>(List.nodup_cons.mp nd).1 (J8 a).1,if_pos hk];simp
 | p :: P,w :: vs,i + 1,m,nd,h1,h2,hk=>by show bindL kindOf ((p,w) :: P.zip vs) m x=_;unfold bindL;exact zbk (i:=i) (List.nodup_cons.mp nd).2 (by simpa using h1) (by simpa using h2) hk
theorem zbg {kindOf:Str->Option M5} {x:Str} {v:Value} :∀{P:List Str} {vs:List Value} {i:Nat} {m:Str->Option Value},P.Nodup->P[i]? = some x->vs[i]? = some v->kindOf x≠some .local->
  bindC kindOf (P.zip vs) m x=some v
 | [],_,_,_,_,h,_,_=>by simp at h
 | _ :: _,[],_,_,_,_,h,_=>by simp at h
 | p :: P,w :: vs,0,m,nd,h1,h2,hk=>by simp at h1 h2;subst h1;subst h2;show bindC kindOf ((p,w) :: P.zip vs) m p=_;unfold bindC;rw [zbb λ v a=>(List.nodup_cons.mp nd).1 (J8 a).1,if_neg hk];simp
 | p :: P,w :: vs,i + 1,m,nd,h1,h2,hk=>by show bindC kindOf ((p,w) :: P.zip vs) m x=_;unfold bindC;exact zbg (i:=i) (List.nodup_cons.mp nd).2 (by simpa using h1) (by simpa using h2) hk
noncomputable def start (N:List Str) (vs:List V):St:=vs.map some++G2 (N.length - vs.length) none
noncomputable def cxOf (CX:CXT) (P:Program) (w:Q0) (K:d0) (mg:Str->Option Value) (base:Heap) (N:List Str) (qual:Str) (scope:Scope) (f:Addr) (cd:Value) (A:X1) (outer:List Env) (s:A0) (H:Hp) (E:XK):Cx where
 prog:=P
 w:=w
 K:=K
 mg:=mg
 base:=base
 A:=A.deeper (R7 qual scope s.heap.objs.size f cd)
 N:=N
 s₀:=s
 H₀:=H
 env:=R7 qual scope s.heap.objs.size f cd
 outer:=outer
 stack:=R7 qual scope s.heap.objs.size f cd :: outer
 ex:=[]
 calm:=true
 fn:=λ _=>true
 pn:=[]
 xe:=λ e s'=>S0 (B1 P w) (A.deeper (R7 qual scope s.heap.objs.size f cd)) («leaving» (R7 qual scope s.heap.objs.size f cd) e) (λ _ s''=>CX outer H s E e s'') (λ e' s''=>CX outer H s E e' s'') s'
theorem zd0 {sc:Scope} {n:Nat} {x:Str} (h:sc.names.lookup x=some .cell) :∃c,(cellsFrom n sc.names []).lookup x=some c:=by have q:=m9 sc.names n [] (.inl h);exact Option.isSome_iff_exists.mp q
theorem zfc {CX:CXT} {P:Program} {w:Q0} {K:d0} {mg:Str->Option Value} {base:Heap} {N ps:List Str} {qual:Str} {scope:Scope} {f:Addr} {cd:Value} {A:X1} {outer:List Env} {s s1:A0} {H:Hp} {E:XK} {us:List Value} {vs:List V}
  (S:FnScope N ps scope) (hd:A.handled=none) (e0:Env0 P w K mg base A outer s H) (hl:vs.length=ps.length) (r:Vals vs us)
  (x:InCallC s s.heap.objs.size (bindL (R7 qual scope s.heap.objs.size f cd).kindOf (ps.zip us) λ _=>none) (cellsFrom (s.heap.objs.size + 1) scope.names []) (bindC (R7 qual scope s.heap.objs.size f cd).kindOf (ps.zip us) λ _=>none) s1) :
  Inv (cxOf CX P w K mg base N qual scope f cd A outer s H E) [] (start N vs) H s1:=by
 have I:ps.length<=N.length:=by have:=congrArg List.length S.pre;rw [P4] at this;lia
 obtain ⟨l,J,rfl,B⟩:=x.done;have o :∀b:Addr,b∉(cxOf CX P w K mg base N qual scope f cd A outer s H E).ex:=λ b z=>absurd (show b∈([]:List Addr) from z) (by simp);refine ⟨⟨e0.mod,S.kind,rfl,rfl,C0 _,λ y z c l d=>?_,λ y g=>?_,λ y c _ h=>?_,λ _=>hd,Around.frames_deeper e0.frames,.inr ⟨rfl,rfl⟩,λ b z=>absurd z (o b),e0.bs,e0.bsz,λ b _ _=>o b,λ b z=>absurd z (o b),e0.funs,e0.frf⟩,
  rfl,e0.bare,Un.kept B,⟨_,x.toInCall.ns,λ i y v l d G=>?_⟩,λ y c h=>⟨_,x.cell y c h⟩,e0.hok.fresh (C0 _),λ y c h=>?_,λ p j=>absurd (show p∈([]:List (Addr×Obj)) from j) (by simp),e0.hok.kept B,?_⟩
 ·exact name_of_addr x.apart (S4 l) (S4 d)
 ·have g:scope.names.lookup y=some .cell\/scope.names.lookup y=some .free:=g;rcases g with g|g
  ·exact zd0 g
  ·exact absurd rfl (S.nofree _ (S4 g))
 ·exact A3 (x.above y c (S4 h))
 ·have m:i < vs.length:=by
   unfold start at d;by_cases m:i < vs.length
   ·exact m
   ·rw [E1 (by simpa using m)] at d;rw [V6] at d;split at d<;>cases d
  have F:vs[i]? = some v:=by
   unfold start at d;rw [C1 (by simpa using m),E2] at d;cases e:vs[i]? with
   | none=>rw [e] at d;cases d
   | some a=>rw [e] at d;cases d;rfl
  obtain ⟨u,t,D⟩:=r.get F;have j:ps[i]? = some y:=by rw [<-S.pre,List.getElem?_take_of_lt (by lia)];exact l
  have C:ps.Nodup:=by rw [<-S.pre];exact S.nd.sublist (List.take_sublist _ _)
  refine ⟨u,D,?_⟩;rcases S.par y (v0 j) with k|k
  ·exact .inl ⟨k,zbk C j t k⟩
  ·obtain ⟨c,e⟩:=zd0 (n:=s.heap.objs.size + 1) k;refine .inr ⟨.inl k,c,e,?_⟩;have q:=x.cell y c e;rw [zbg C j t (by show scope.names.lookup y≠_;rw [k];decide)] at q;exact q
 ·exact e0.hok.fresh (A3 (x.above y c (S4 h)))
 ·unfold start;show _=N.length;rw [D0,L0,B3]
  lia
theorem fn_of {CX:CXT} {P:Program} {w:Q0} {K:d0} {mg:Str->Option Value} {base:Heap} {k:Nat} {f:Addr} {name qual:Str} {params:Arguments} {body:List Stmt} {scope:Scope} {dV kV doc pm cdv ct oc:Value} {an od:Option Addr}
  {osl:Array (Option Value)} {N ps:List Str} {sp:Sp} (lk:K.lookup f=some ⟨oc,od,.func (c5 name qual params body scope dV kV doc pm an cdv ct),osl⟩) (hcd:v7 K cdv qual=true) (S:FnScope N ps scope)
  (len :∀vs H Q E,sp vs H Q E->vs.length=ps.length)
  (hbody :∀(A:X1) (outer:List Env) (s:A0) (H:Hp) (vs:List V) (Q:VK) (E:XK),Room k (A.deeper (R7 qual scope s.heap.objs.size f cdv))->sp vs H Q E->
   ∃t,PSs (cxOf CX P w K mg base N qual scope f cdv A outer s H E) body t/\t { nx:=λ _ H'=>Q .non H',rt:=Q } (start N vs) H) :
  FnOk P w K mg base CX (k + 1) f (c5 name qual params body scope dV kV doc pm an cdv ct) ps sp:=by
 refine ⟨len,λ A outer s H O us vs Q E h c p r m=>?_⟩;have F:=len _ _ _ _ m;have KX:K.In s.heap:=c.mod.kin.keeps λ b o e=>(c.bs b o e).1;have D:s.heap.NoLimit:=c.mod.nolimit.keeps λ b o e=>(c.bs b o e).1;have G :∀y∈ps.zip us,scope.names.lookup y.1=some .local\/(scope.names.lookup y.1=some .cell/\((cellsFrom (s.heap.objs.size + 1) scope.names []).lookup y.1).isSome=true):=λ ⟨n,v⟩ hy=>by
  rcases S.par n (J8 hy).1 with q|q
  ·exact .inl q
  ·exact .inr ⟨q,m9 _ _ _ (.inl q)⟩
 refine codeAny_call_function h.depth (KX _ _ lk) rfl S.co S.gen rfl (PySem.W.codeRec_of KX hcd) (p _ _ _ _ ?_);refine wpAny_newFunctionEnv_cells S.kind G λ M B j x=>?_;subst B;refine ⟨D.keeps x.toInCall.keep,codeAny_func ?_⟩;obtain ⟨t,L,C⟩:=hbody A outer s H vs Q E (h.deeper _) m;have I:Inv (cxOf CX P w K mg base N qual scope f cdv A outer s H E) [] (start N vs) H j:=zfc S h.hd c F r x;refine E3 (L [] j (start N vs) H _ I C) (λ z i a=>?_) λ e i a=>a;have l :∀{d:St} {H':Hp} {v:V} {u:Value},Inv (cxOf CX P w K mg base N qual scope f cdv A outer s H E) [] d H' i->RelV v u->Q v H'->CE outer P w H s Q u i:=
  λ {d H' v u} J g q=>⟨v,H',J.os,J.bare,J.base,J.hok,g,q⟩
 cases z with
 | ret u=>obtain ⟨v,d,H',J,g,q⟩:=a;exact l J g q
 | next=>obtain ⟨d,H',J,q⟩:=a;exact l (v:=V.non) (u:=m6) J rfl q
 | brk=>obtain ⟨_,_,_,q⟩:=a;exact K3 q
 | cont=>obtain ⟨_,_,_,q⟩:=a;exact K3 q
section
variable {X:Cx} {x:Str} {p pos:Pos} {e:Expr} {es:List Expr} {t:TA} {id T:String} {r:List V->Hp->VK->Prop}
noncomputable def tCB (r:List V->Hp->VK->Prop) (t:TA):TE:=λ σ H Q=>t σ H λ vs H1=>r vs H1 Q
theorem z0g (hc:CallR X (.builtin id) r) (hg:Gl X x) (hm:X.mg x=none) (hv:V4 x=some (.builtin id)) (ha:PA X (e :: es) t) (hn:x≠"__name__":=by decide) (hdb:(x == ("__debug__" : Str))=false:=by decide)
  (he:K1 (e :: es) X.env=(false,X2 e X.env) :: K1 es X.env:=by rfl) (hpl:(w4 pos (K1 es X.env)).any (·.1)=false:=by rfl):PE X (.Call (.Name x p) (e :: es) [] pos) (tCB r t):=by
 intro a s σ H Q I h;refine O3 (ld_blt I hg hm hv ?_ hn hdb);exact P7 (thn (ha pos a s σ H _ I h) λ us b ⟨vs,H1,I1,r1,q1⟩=>hc a b σ H1 vs us Q I1 r1 q1) he hpl
theorem z7q (hc:CallR X (.type T) r) (hg:Gl X x) (hm:X.mg x=none) (hv:V4 x=some (.type T)) (ha:PA X (e :: es) t) (hn:x≠"__name__":=by decide) (hdb:(x == ("__debug__" : Str))=false:=by decide)
  (he:K1 (e :: es) X.env=(false,X2 e X.env) :: K1 es X.env:=by rfl) (hpl:(w4 pos (K1 es X.env)).any (·.1)=false:=by rfl):PE X (.Call (.Name x p) (e :: es) [] pos) (tCB r t):=by
 intro a s σ H Q I h;refine O3 (ld_blt I hg hm hv ?_ hn hdb);exact F2 (thn (ha pos a s σ H _ I h) λ us b ⟨vs,H1,I1,r1,q1⟩=>hc a b σ H1 vs us Q I1 r1 q1) he hpl
end
end L2
namespace HT
open PySem PyProof.Rows
section
variable {prog:Program} {w:Q0} {A:X1} {E:Value->A0->Prop} {s:A0}
theorem cat_tup {t b:Addr} {vs ws:List Value} {Q:Value->A0->Prop} (ht:IsTup s.heap t vs.toArray) (hb:IsTup s.heap b ws.toArray) (hv:vs≠[])
  (h1:ws=[]->Q (.ref t) s) (h2:ws≠[]->Q (.ref s.heap.objs.size) { s with heap:=s.heap.push { cls:=.type "tuple",data:=.seq (vs++ws).toArray } })
  (hsz:vs.length + ws.length<=sizeLine):S0 (B1 prog w) A (J4 .Add (.ref t) (.ref b)) Q E s:=by
 obtain ⟨⟨cls,j,data,g⟩,a,d,n,i⟩:=id ht;obtain ⟨⟨o,m,p,k⟩,c,f,h,l⟩:=id hb;simp only at d i f l;subst d i f l;have e:vs.toArray++ws.toArray=(vs++ws).toArray:=by simp
 by_cases hw:ws=[]
 ·exact concat_meets ⟨_,a,rfl⟩ ⟨_,c,rfl⟩ i9 seq_tuple_add Q6 G6 (w6 _ _)
   (tuple_addW1 t b vs.toArray ws.toArray n h j m g k (by simpa using hv) (by simp [hw])) ⟨a,c,h1 hw⟩
 ·refine concat_meets ⟨_,a,rfl⟩ ⟨_,c,rfl⟩ i9 seq_tuple_add Q6 G6 (w6 _ _)
   (tuple_addW2 t b vs.toArray ws.toArray n h j m g k (by simpa using hv) (by simpa using hw) (by rw [T0,T0];exact hsz)) ⟨a,c,?_⟩
  rw [e];exact h2 hw
noncomputable def sIx (n d:Nat):Option Int->Nat
 | none=>d
 | some v=>if v < 0 then (v + (n:Int)).toNat else min v.toNat n
theorem sIx_none (n d:Nat):sIx n d none=d:=rfl
theorem sIx_nat (n d k:Nat):sIx n d (some (k:Int))=min k n:=by show (if (k:Int) < 0 then ((k:Int) + (n:Int)).toNat else min (k:Int).toNat n)=min k n;rw [if_neg (by lia),v8]
theorem sIx_le (n d:Nat) (hd:d<=n) (o:Option Int):sIx n d o<=n:=by
 cases o with
 | none=>exact hd
 | some v=>
  show (if v < 0 then (v + (n:Int)).toNat else min v.toNat n)<=n;by_cases hv:v < 0
  ·rw [if_pos hv];lia
  ·rw [if_neg hv];exact Nat.min_le_right _ _
theorem zgx (v:Int) (n d:Nat):(if v < 0 then max (v + (n:Int)) 0 else min v (n:Int))=((sIx n d (some v):Nat):Int):=by
 show (if v < 0 then max (v + (n:Int)) 0 else min v (n:Int))=(((if v < 0 then (v + (n:Int)).toNat else min v.toNat n):Nat):Int);by_cases hv:v < 0
 ·simp only [if_pos hv];lia
 ·simp only [if_neg hv];lia
theorem zeg (lo hi:Option Int) (n:Nat):N5 lo hi 1 (n:Int)=(((sIx n 0 lo:Nat):Int),((sIx n n hi:Nat):Int)):=by
 have a:¬ ((1:Int) < 0):=by lia
 unfold N5;simp only [a,if_false];refine j01 ?_ ?_
 ·cases lo with
  | none=>rfl
  | some v=>exact zgx v n 0
 ·cases hi with
  | none=>rfl
  | some v=>exact zgx v n n
theorem zer (i j:Nat):j4 (i:Int) (j:Int) 1=j - i:=by
 unfold j4;have a:(1:Int) > 0:=by lia
 simp only [a,if_true,Int.ediv_one];split<;>lia
theorem z97 {v:Value} {o:Option Int} {Q:Option Int->A0->Prop} (p:G8 v o) (h:Q o s):S0 (B1 prog w) A (Builtin.Slice.slicePartIndex v) Q E s:=by
 cases p with
 | none=>exact slicePart_none h
 | int i t=>exact slicePart_int h
theorem z5k {sl:Addr} {vl vu:Value} {lo hi:Option Int} {n:Nat} {Q:Int×Int×Nat->A0->Prop} (hs:s.heap.IsSliceOf sl vl vu .none) (pl:G8 vl lo) (pu:G8 vu hi)
  (h:Q (((sIx n 0 lo:Nat):Int),1,sIx n n hi - sIx n 0 lo) s):S0 (B1 prog w) A (a8 (.ref sl) (G3 (n:Int))) Q E s:=by
 obtain ⟨d,a,c,b⟩:=id hs;unfold a8 Builtin.Slice.sliceFields;refine u0 (u0 (i6 a b (x:=vl) rfl (u0 (i6 a b (x:=vu) rfl (u0 (i6 a b (x:=.none) rfl (G0 ?_)))))));refine u0 (slicePart_none ?_);show S0 _ _ (if ((1:Int) == 0)=true then _ else _) _ _ s;rw [if_neg (by decide)];refine u0 (z97 pl (u0 (z97 pu (u0 (G0 ?_)))));show S0 _ _ (match N5 lo hi 1 (n:Int) with|(lo,hi)=>G3 (lo,(1:Int),j4 lo hi 1)) _ _ s;rw [zeg lo hi n];show S0 _ _ (G3 (((sIx n 0 lo:Nat):Int),(1:Int),j4 ((sIx n 0 lo:Nat):Int) ((sIx n n hi:Nat):Int) 1)) _ _ s;rw [zer];exact G0 h
theorem zho (xs:Array Value) (i k:Nat):((X0 k).filterMap λ (m:Nat)=>xs[((i:Int) + (m:Int) * 1).toNat]?).toArray=((xs.toList.drop i).take k).toArray:=by
 have e:(λ (m:Nat)=>xs[((i:Int) + (m:Int) * 1).toNat]?)=λ m=>xs[i + m]?:=by
  funext m;have:((i:Int) + (m:Int) * 1).toNat=i + m:=by lia
  rw [this]
 rw [e];have:=pick_run xs i k;rw [List.filterMap_map] at this;have a:((λ x=>xs[x]?) ∘ λ x=>i + x)=λ m=>xs[i + m]?:=rfl;rw [a] at this;rw [this]
theorem getItem_tuple_cut {t sl:Addr} {items:Array Value} {vl vu:Value} {lo hi:Option Int} {Q:Value->A0->Prop} (ht:IsTup s.heap t items) (hs:s.heap.IsSliceOf sl vl vu .none) (pl:G8 vl lo) (pu:G8 vu hi)
  (hw:¬ (sIx items.size 0 lo=0/\sIx items.size items.size hi=items.size))
  (h:Q (.ref s.heap.objs.size) { s with heap:=s.heap.push { cls:=.type "tuple",data:=.seq ((items.toList.drop (sIx items.size 0 lo)).take (sIx items.size items.size hi - sIx items.size 0 lo)).toArray } })
  (hsz:items.size<=sizeLine):S0 (B1 prog w) A (m8 (.ref t) (.ref sl)) Q E s:=by
 have a:sizeOk (.seq ((items.toList.drop (sIx items.size 0 lo)).take (sIx items.size items.size hi - sIx items.size 0 lo)).toArray):=by
  show ((items.toList.drop (sIx items.size 0 lo)).take (sIx items.size items.size hi - sIx items.size 0 lo)).toArray.size<=sizeLine;rw [T0,P4,T6,B2]
  lia
 have j:sIx items.size items.size hi<=items.size:=sIx_le _ _ (C0 _) hi;obtain ⟨f,b,e,i⟩:=id hs;have d:s.TypeIs (.ref sl) "slice":=⟨f,b,e⟩
 unfold m8
 try with_reducible refine K2 ?_
 first|refine u0 (G0 ?_)|skip
 refine u0 (wpAny_sequenceKey ht.typeIs (by decide) ?_);refine u0 (J7 (name:=T9 "__getitem__") ht.typeIs M7
  (W5 M7 ht.typeIs entry_tuple_getitem ?_ (args_tuple_getitem _ _)))
 show S0 _ _ (Builtin.Tuple.tupleItemsOf (.ref t) >>= _) _ _ s;refine u0 (tupleItemsOf_ ht ?_);refine u0 (wpAny_typeOf d ?_);rw [if_pos (by decide)];refine u0 (z5k hs pl pu ?_);have c:¬ ((((sIx items.size 0 lo:Nat):Int) == 0 && (1:Int) == 1 && (sIx items.size items.size hi - sIx items.size 0 lo) == items.size)=true):=by intro q;rw [V2,V2] at q;have g:((sIx items.size 0 lo:Nat):Int)=0:=eq_of_beq q.1.1;have k:sIx items.size items.size hi - sIx items.size 0 lo=items.size:=eq_of_beq q.2;exact hw ⟨by lia,by lia⟩
 show S0 _ _ (if (((sIx items.size 0 lo:Nat):Int) == 0 && (1:Int) == 1 && (sIx items.size items.size hi - sIx items.size 0 lo) == items.size)=true then _ else _) _ _ s;rw [if_neg c,zho];first
  | exact u0 (m:=y4 _) (L3 (G0 ⟨_,rfl,G0 h⟩) a)
  | exact u0 (m:=y4 _) (L3 (u0 (G0 (G0 ⟨_,rfl,G0 h⟩))) a)
  | exact u0 (u0 (m:=y4 _) (L3 (G0 (G0 ⟨_,rfl,G0 h⟩)) a))
  | exact u0 (u0 (m:=y4 _) (L3 (G0 ⟨_,rfl,G0 h⟩) a))
end
end HT
namespace L2
open PySem PySem.Spec PyProof.Rows
noncomputable abbrev TO:=St->Hp->(Option Int->Hp->Prop)->Prop
def PO (X:Cx) (e:Option Expr) (t:TO):Prop:=
 ∀(pins:List (Addr×Obj)) (s:A0) (σ:St) (H:Hp) (Q:Option Int->Hp->Prop),Inv X pins σ H s->t σ H Q->
  S0 (B1 X.prog X.w) X.A (evalPart e X.env) (λ u s'=>∃o H',Inv X pins σ H' s'/\G8 u o/\Q o H') X.xe s
noncomputable def zdi:TO:=λ _ H Q=>Q none H
noncomputable def tPart (t:TE):TO:=λ σ H Q=>t σ H λ x H1=>∃i,x=.int i/\Q (some i) H1
theorem z5v {ns:List Int} :∀{us:List Value},Vals (ns.map V.int) us->J3 us ns:=by
 induction ns with
 | nil=>intro us r;rw [d6] at r;cases r;exact .nil
 | cons n ns ih=>
  intro us r;rw [j1] at r;cases r with
  | cons r1 r2=>obtain ⟨t,e⟩:=r1;subst e;exact .cons n t (ih r2)
section
variable {X:Cx} {e:Expr} {te:TE} {lo hi:Option Expr} {tl th:TO} {pos p2:Pos}
theorem z70:PO X none zdi:=by intro a s σ H Q I h;rw [evalPart_none];exact G0 ⟨none,H,I,.none,h⟩
theorem z54 (h:PE X e te):PO X (some e) (tPart te):=by intro b s σ H Q I a;rw [evalPart_some];refine thn (h b s σ H _ I a) λ u c ⟨x,H1,I1,r1,q1⟩=>?_;obtain ⟨i,rfl,q⟩:=q1;obtain ⟨t,rfl⟩:=r1;exact ⟨some i,H1,I1,.int i t,q⟩
def SlR (X:Cx) (r:V->Option Int->Option Int->Hp->VK->Prop):Prop:=
 ∀(pins:List (Addr×Obj)) (s:A0) (σ:St) (H:Hp) (x:V) (v vl vu:Value) (lo hi:Option Int) (sl:Addr) (Q:VK),Inv X pins σ H s->RelV x v->s.heap.IsSliceOf sl vl vu .none->G8 vl lo->G8 vu hi->r x lo hi H Q->
  ∃T id,typeLookup (.type T) "__getitem__" = G3 (some (.builtin id))/\s.TypeIs v T/\S0 (B1 X.prog X.w) X.A (m8 v (.ref sl)) (EP X pins σ Q) X.xe s
theorem SlR.or {r r':V->Option Int->Option Int->Hp->VK->Prop} (h:SlR X r) (h':SlR X r'):SlR X (λ x lo hi H Q=>r x lo hi H Q\/r' x lo hi H Q):=by
 intro g s σ H x v f d lo hi a Q I e c i b q;rcases q with q|q
 ·exact h g s σ H x v f d lo hi a Q I e c i b q
 ·exact h' g s σ H x v f d lo hi a Q I e c i b q
noncomputable def tSl (r:V->Option Int->Option Int->Hp->VK->Prop) (te:TE) (tl th:TO):TE:=λ σ H Q=>te σ H λ x H1=>tl σ H1 λ l H2=>th σ H2 λ u H3=>r x l u H3 Q
theorem z37 {r:V->Option Int->Option Int->Hp->VK->Prop} (hr:SlR X r) (he:PE X e te) (hl:PO X lo tl) (hu:PO X hi th):PE X (.Subscript e (.Slice lo hi none p2) pos) (tSl r te tl th):=by intro c s σ H Q I h;refine Subscript_ (thn (he c s σ H _ I h) λ v i ⟨x,H1,I1,r1,q1⟩=>?_);refine wpAny_Slice (thn (hl c i σ H1 _ I1 q1) λ d j ⟨l,H2,I2,pl,q2⟩=>thn (hu c j σ H2 _ I2 q2) λ f a ⟨u,H3,I3,pu,q3⟩=>?_);rw [evalPart_none];refine G0 ?_;have m:Inv X c σ H3 { a with heap:=a.heap.push { cls:=.type "slice",data:=.fields #[d,f,.none] } }:=I3.kept (t':=a.toks) λ b o q=>F0 _ q;obtain ⟨T,id,k,n,g⟩:=hr c { a with heap:=a.heap.push { cls:=.type "slice",data:=.fields #[d,f,.none] } } σ H3 x v d f l u a.heap.objs.size Q m r1 (Heap.IsSliceOf.new ..) pl pu q3;show S0 (B1 X.prog X.w) X.A (subscriptTail e (.Slice lo hi none p2) v (.ref a.heap.objs.size)) (EP X c σ Q) X.xe { a with heap:=a.heap.push { cls:=.type "slice",data:=.fields #[d,f,.none] } };exact tail_any (ops:=[.ref a.heap.objs.size,v]) n k g (by with_unfolding_all rfl)
noncomputable def cutV (xs:List V) (lo hi:Option Int):List V:=(xs.drop (HT.sIx xs.length 0 lo)).take (HT.sIx xs.length xs.length hi - HT.sIx xs.length 0 lo)
theorem z6q (xs:List V) (lo hi:Option Int):(cutV xs lo hi).length<=xs.length:=by
 unfold cutV;rw [P4,T6]
 lia
def rSlT (K:d0):V->Option Int->Option Int->Hp->VK->Prop:=λ x lo hi H Q=>∃a xs,x=.ref a/\SqT K H a xs/\
 ¬ (HT.sIx xs.length 0 lo=0/\HT.sIx xs.length xs.length hi=xs.length)/\∀p,H p=none->Q (.ref p) (upd H p (.tup (cutV xs lo hi)))
theorem sl_tup:SlR X (rSlT X.K):=by
 intro z s σ H x v y A d f u Q I j k t n h;obtain ⟨a,c,rfl,p,m,q⟩:=h;cases j;obtain ⟨l,r,i,g⟩:=I.tuple p;have e:l.toArray.size=c.length:=by rw [T0];exact r.length.symm
 refine ⟨"tuple",_,PyProof.Rows.slot_tuple_getitem.lookup,i.typeIs,?_⟩;refine HT.getItem_tuple_cut i k t n (by rw [e];exact m) ?_ (by rw [e];exact g);rw [e];refine ⟨.ref s.heap.objs.size,_,I.laid (t':=s.toks) (o:=.tup (cutV c d f)) (λ b w q=>F0 _ q) (C0 _) ?_,rfl,q _ (I.hok.fresh (C0 _))⟩;exact ⟨K0 (z6q c d f) g,_,(r.drop (HT.sIx c.length 0 d)).take (HT.sIx c.length c.length f - HT.sIx c.length 0 d),IsTupN.new _ _⟩
noncomputable def rCatT (K:d0):R2:=λ x y H Q=>∃a b xs ys,x=.ref a/\y=.ref b/\SqT K H a xs/\SqT K H b ys/\xs≠[]/\xs.length + ys.length<=sizeLine/\
 (ys=[]->Q (.ref a) H)/\(ys≠[]->∀p,H p=none->Q (.ref p) (upd H p (.tup (xs++ys))))
theorem Vals.nil_iff {xs:List V} {us:List Value} (r:Vals xs us):us=[]↔xs=[]:=by
 cases r with
 | nil=>simp
 | cons _ _=>simp
theorem zbq:OpR X (J4 .Add) (rCatT X.K):=by intro D s σ H x y v u Q I i r h;obtain ⟨a,b,j,f,rfl,rfl,k,g,t,e,m,p⟩:=h;cases i;cases r;obtain ⟨C,d,l,_⟩:=I.tuple k;obtain ⟨A,c,n,_⟩:=I.tuple g;refine HT.cat_tup l n (λ z=>t (d.nil_iff.mp z)) (λ z=>⟨.ref a,H,I,rfl,m (c.nil_iff.mp z)⟩) (λ z=>?_) (by rw [<-d.length,<-c.length];exact e);refine ⟨.ref s.heap.objs.size,_,I.laid (t':=s.toks) (o:=.tup (j++f)) (λ b B q=>F0 _ q) (C0 _) ?_,rfl,p (λ w=>z (c.nil_iff.mpr w)) _ (I.hok.fresh (C0 _))⟩;exact ⟨by rw [D0];exact e,_,d.append c,IsTupN.new _ _⟩
end
noncomputable def ixN (n:Nat) (i:Int):Option Nat:=if 0<=i then (if i < n then some i.toNat else none) else if -(n:Int)<=i then some (i + n).toNat else none
noncomputable def atI {α:Type} (xs:List α) (i:Int):Option α:=(ixN xs.length i).bind λ j=>xs[j]?
theorem zgt {n:Nat} {i:Int} {j:Nat} (h:ixN n i=some j):seqIndex? i n=some j/\j < n/\-(n:Int)<=i/\i < n:=by
 unfold ixN at h;by_cases h0:0<=i
 ·rw [if_pos h0] at h;by_cases h1:i < n
  ·rw [if_pos h1] at h;have e:i.toNat=j:=P1 h;exact ⟨by rw [seqIndex_of h0 h1,e],by lia,by lia,h1⟩
  ·rw [if_neg h1] at h;cases h
 ·rw [if_neg h0] at h;by_cases h1:-(n:Int)<=i
  ·rw [if_pos h1] at h;have e:(i + n).toNat=j:=P1 h;exact ⟨by rw [seqIndex_neg (by lia) h1,e],by lia,h1,by lia⟩
  ·rw [if_neg h1] at h;cases h
theorem zd1 {α:Type} {xs:List α} {i:Int} {v:α} (h:atI xs i=some v) :∃j,seqIndex? i xs.length=some j/\xs[j]? = some v/\j < xs.length/\-(xs.length:Int)<=i/\i < xs.length:=by
 unfold atI at h;cases e:ixN xs.length i with
 | none=>rw [e] at h;cases h
 | some j=>rw [e] at h;obtain ⟨d,b,a,c⟩:=zgt e;exact ⟨j,d,h,b,a,c⟩
theorem z04 {α:Type} {xs:List α} {j:Nat} {v:α} (h:xs[j]? = some v):atI xs (j:Int)=some v:=by
 have a:j < xs.length:=(List.getElem?_eq_some_iff.mp h).1;have e:ixN xs.length (j:Int)=some j:=by unfold ixN;rw [if_pos (by lia),if_pos (by lia)];simp
 unfold atI;rw [e];exact h
def zgj (b:Expr):Prop:=∀o i,u9 b false o i=operate [o,i] (m8 o i)
def IxR (X:Cx) (r:R2):Prop:=
 ∀(value slice:Expr) (pins:List (Addr×Obj)) (s:A0) (σ:St) (H:Hp) (x y:V) (v u:Value) (Q:VK),Inv X pins σ H s->RelV x v->RelV y u->r x y H Q->
  u9 slice false v u=operate [v,u] (m8 v u)->S0 (B1 X.prog X.w) X.A (subscriptTail value slice v u) (EP X pins σ Q) X.xe s
def MtR (X:Cx) (id:String) (r:V->List V->Hp->VK->Prop):Prop:=
 ∀(pins:List (Addr×Obj)) (s:A0) (σ:St) (H:Hp) (x:V) (xs:List V) (v:Value) (us:List Value) (Q:VK),Inv X pins σ H s->RelV x v->Vals xs us->r x xs H Q->
  S0 (B1 X.prog X.w) X.A (call (.builtin id) (v :: us)) (EP X pins σ Q) X.xe s
section
variable {X:Cx} {a b:Expr} {ta tb:TE} {pos:Pos}
theorem IxR.or {r r':R2} (h:IxR X r) (h':IxR X r'):IxR X (λ x y H Q=>r x y H Q\/r' x y H Q):=by
 intro a d f s σ H x y v u Q I c e q b;rcases q with q|q
 ·exact h a d f s σ H x y v u Q I c e q b
 ·exact h' a d f s σ H x y v u Q I c e q b
theorem pe_ix {r:R2} (hr:IxR X r) (ha:PE X a ta) (hb:PE X b tb) (hs:zgj b):PE X (.Subscript a b pos) (tOp r ta tb):=by intro i s σ H Q I h;exact Subscript_ (binT ha hb I h λ v u d x y f c e g q=>hr a b i d σ f x y v u Q c e g q (hs _ _))
inductive RIxL (K:d0) (x y:V) (H:Hp) (Q:VK):Prop
 | mk (p:Addr) (xs:List V) (i:Int) (v:V) (a:x=.ref p) (b:y=.int i) (c:SqL K H p xs) (d:atI xs i=some v) (q:Q v H)
noncomputable def rIxL (K:d0):R2:=λ x y H Q=>RIxL K x y H Q
inductive RIxT (K:d0) (x y:V) (H:Hp) (Q:VK):Prop
 | mk (p:Addr) (xs:List V) (i:Int) (v:V) (a:x=.ref p) (b:y=.int i) (c:SqT K H p xs) (d:atI xs i=some v) (q:Q v H)
noncomputable def rIxT (K:d0):R2:=λ x y H Q=>RIxT K x y H Q
noncomputable def rIxS:R2:=λ x y H Q=>∃z i c,x=.str z/\y=.int i/\z.length<=sizeLine/\atI z.cps.toList i=some c/\Q (.str ⟨#[c]⟩) H
theorem ix_list:IxR X (rIxL X.K):=by
 intro G L g s σ H x y v u Q I k F h d;obtain ⟨p,N,i,z,rfl,rfl,n,m,q⟩:=h;cases k;obtain ⟨t,rfl⟩:=F;obtain ⟨o,r,c,O⟩:=I.list n;obtain ⟨j,a,E,J,l,B⟩:=zd1 m;obtain ⟨w,f,A⟩:=r.get E;have C:=r.length;have M:=line63;have e:EP X g σ Q w s:=⟨z,H,I,A,q⟩
 by_cases h0:0<=i
 ·have b:i.toNat=j:=by rw [seqIndex_of h0 B] at a;exact P1 a
  exact item_listR c.isList h0 (by lia) (by rw [b];simpa using f) e d
 ·have b:(i + (o.toArray.size:Int)).toNat=j:=by rw [seqIndex_neg (by lia) l] at a;rw [T0,<-C];exact P1 a
  exact subscriptTail_builtinR (x:=w) c.isList.typeIs slot_list_getitem.lookup
   (wpAny_getItem_list_neg (Q:=λ r D=>r=w/\EP X g σ Q r D) c.isList (by lia) (by rw [T0]<;>lia) (by lia) (by rw [b];simpa using f) ⟨rfl,e⟩) d
theorem ix_tup:IxR X (rIxT X.K):=by
 intro C E a s σ H x y v u Q I c B h e;obtain ⟨p,M,i,z,rfl,rfl,f,d,q⟩:=h;cases c;obtain ⟨t,rfl⟩:=B;obtain ⟨J,r,b,N⟩:=I.tuple f;obtain ⟨j,k,A,D,F,L⟩:=zd1 d;obtain ⟨w,o,g⟩:=r.get A;have l:=r.length;have G:=line63;have n:EP X a σ Q w s:=⟨z,H,I,g,q⟩
 exact subscriptTail_builtinR (x:=w) b.typeIs slot_tuple_getitem.lookup
  (getItem_tuple (j:=j) (Q:=λ r m=>r=w/\EP X a σ Q r m) b (by lia) (by lia) (by rw [T0,<-l];exact k) (by simpa using o) ⟨rfl,n⟩) e
theorem ix_str:IxR X rIxS:=by
 intro p w D s σ H x y v u Q I b o h f;obtain ⟨z,i,c,rfl,rfl,C,e,q⟩:=h;obtain ⟨t,rfl⟩:=b;obtain ⟨B,rfl⟩:=o;obtain ⟨j,a,n,r,d,g⟩:=zd1 e;have m:z.cps.toList.length=z.length:=by simp [Str.length]
 rw [m] at a d g;have A:=line63;exact tail_any (typeIs_str s z t) slot_str_getitem.lookup (getItem_str (c:=c) (by have l:decide (i < -(2 ^ 63:Int))=false:=decide_eq_false (by lia);have k:decide (i ≥ 2 ^ 63)=false:=decide_eq_false (by lia);rw [l,k,Bool.or_false]) (by rw [a];simpa using n) ⟨.str ⟨#[c]⟩,H,I.tok _,⟨_,rfl⟩,q⟩) f
noncomputable def rIx (K:d0):R2:=λ x y H Q=>rIxL K x y H Q\/rIxT K x y H Q\/rIxS x y H Q
theorem ix_seq:IxR X (rIx X.K):=ix_list.or (ix_tup.or ix_str)
theorem zec (its:List Value) (n j:Nat) (u:Value):N4 (·.setIfInBounds j u) { cls:=.type "list",data:=.seq its.toArray n }={ cls:=.type "list",data:=.seq (its.set j u).toArray n }:=by simp [N4]
theorem Inv.lst {pins:List (Addr×Obj)} {σ:St} {H:Hp} {s:A0} {p:Addr} {xs:List V} (I:Inv X pins σ H s) (h:H p=some (.lst xs)) :
  ∃(its:List Value) (n:Nat),Vals xs its/\s.heap.get? p=some { cls:=.type "list",data:=.seq its.toArray n }/\xs.length<=sizeLine:=by
 obtain ⟨z,its,n,r,e⟩:=I.hok p _ h;exact ⟨its,n,r,e,z⟩
theorem Inv.lstUpd {pins:List (Addr×Obj)} {σ:St} {H:Hp} {s:A0} {p:Addr} {xs ys:List V} {its its':List Value} {n n':Nat} {f:Obj->Obj} (I:Inv X pins σ H s) (h:H p=some (.lst xs))
  (ho:s.heap.get? p=some { cls:=.type "list",data:=.seq its.toArray n }) (hf:f { cls:=.type "list",data:=.seq its.toArray n }={ cls:=.type "list",data:=.seq its'.toArray n' }) (r:Vals ys its') (hz:ys.length<=sizeLine) (t:Nat) :
  Inv X pins σ (upd H p (.lst ys)) { s with heap:=s.heap.update p f,toks:=t }:=by
 have e:(s.heap.update p f).get? p=some { cls:=.type "list",data:=.seq its'.toArray n' }:=by rw [p4 f ho (by rw [hf]<;>rfl),hf]
 refine I.write (x:=p) (e:=p) (by rw [h];trivial) (.inl rfl) (λ b u a q=>(c4 _ _ (R3 a)).trans q) ⟨_,e⟩ ?_;exact ⟨hz,its',n',r,e⟩
def rSetL:V->V->V->Hp->(Hp->Prop)->Prop:=λ o i v H Q=>∃p xs k j,o=.ref p/\i=.int k/\H p=some (.lst xs)/\ixN xs.length k=some j/\Q (upd H p (.lst (xs.set j v)))
theorem z4f:PSet X rSetL:=by
 intro C s σ H o i v F E u Q I x w y h;obtain ⟨p,z,k,j,rfl,rfl,l,B,q⟩:=h;cases x;obtain ⟨t,rfl⟩:=w;obtain ⟨g,n,r,d,A⟩:=I.lst l;obtain ⟨a,G,e,f⟩:=zgt B;have c:=r.length;have D:=line63;have m:Inv X C σ (upd H p (.lst (z.set j v))) { s with heap:=s.heap.update p (N4 (·.setIfInBounds j u)) }:=
  I.lstUpd l d (zec g n j u) (r.set y j) (by rw [List.length_set];exact A) s.toks
 by_cases h0:0<=k
 ·have b:k.toNat=j:=by rw [seqIndex_of h0 f] at a;exact P1 a
  exact PySem.W.ki_setAt d h0 (by lia) (by rw [T0,<-c];exact f) (by rw [b];exact ⟨_,m,q⟩)
 ·have b:(k + (g.toArray.size:Int)).toNat=j:=by rw [seqIndex_neg (by lia) e] at a;rw [T0,<-c];exact P1 a
  exact PySem.W.ki_setBack d (by lia) (by rw [T0,<-c];exact e) (by lia) (by rw [b];exact ⟨_,m,q⟩)
theorem za8 (lo hi:Option Int) (n:Nat):(j6 lo hi none n).1=((HT.sIx n 0 lo:Nat):Int)/\(j6 lo hi none n).2.1=((HT.sIx n n hi:Nat):Int)/\(j6 lo hi none n).2.2=1:=by
 refine ⟨?_,?_,rfl⟩
 ·cases lo with
  | none=>simp [j6,HT.sIx]
  | some i=>
   simp only [j6,HT.sIx,Option.getD_none,show (1:Int) > 0 by decide,if_true];by_cases h:i < 0
   ·simp only [h,if_true]<;>lia
   ·simp only [h,if_false]<;>lia
 ·cases hi with
  | none=>simp [j6,HT.sIx]
  | some i=>
   simp only [j6,HT.sIx,Option.getD_none,show (1:Int) > 0 by decide,if_true];by_cases h:i < 0
   ·simp only [h,if_true]<;>lia
   ·simp only [h,if_false]<;>lia
theorem z98 (its:List Value) (lo hi:Option Int):slicePick its.toArray lo hi none=((its.drop (HT.sIx its.length 0 lo)).take (HT.sIx its.length its.length hi - HT.sIx its.length 0 lo)).toArray:=by obtain ⟨c,b,a⟩:=za8 lo hi its.toArray.size;unfold slicePick;rw [c,b,a];simp only [sliceRange_one,pick_run,T0]<;>rfl
def rSlL (K:d0):V->Option Int->Option Int->Hp->VK->Prop:=λ x lo hi H Q=>∃a xs,x=.ref a/\SqL K H a xs/\∀p,H p=none->Q (.ref p) (upd H p (.lst (cutV xs lo hi)))
theorem sl_list:SlR X (rSlL X.K):=by intro y s σ H x v w z d e p Q I i j n l h;obtain ⟨a,c,rfl,m,q⟩:=h;cases i;obtain ⟨u,r,f,k⟩:=I.list m;have g:=r.length;refine ⟨"list",_,slot_list_getitem.lookup,f.isList.typeIs,?_⟩;refine wpAny_getItem_list_slice f.isList j n l .none (by simp) ?_ (by rw [T0]<;>lia);rw [z98,<-g];refine ⟨.ref s.heap.objs.size,_,I.laid (t':=s.toks) (o:=.lst (cutV c d e)) (λ b t q=>F0 _ q) (C0 _) ?_,rfl,q _ (I.hok.fresh (C0 _))⟩;exact ⟨K0 (z6q c d e) k,_,0,(r.drop (HT.sIx c.length 0 d)).take (HT.sIx c.length c.length e - HT.sIx c.length 0 d),V0 _ rfl⟩
noncomputable def flatV:V->Bool
 | .non=>true
 | .bl _=>true
 | .int _=>true
 | .str _=>true
 | _=>false
noncomputable def eqV:V->V->Bool
 | .non,.non=>true
 | .bl a,.bl b=>a == b
 | .bl a,.int b=>(if a then 1 else 0) == b
 | .int a,.bl b=>a == (if b then 1 else 0)
 | .int a,.int b=>a == b
 | .str a,.str b=>a == b
 | _,_=>false
theorem eqAt_V {A:X1} {s:A0} {y x:V} {u v:Value} (ry:RelV y u) (rx:RelV x v) (fy:flatV y=true) (fx:flatV x=true):SeqAt.EqAt A s u v (eqV y x):=by
 cases y with
 | non=>
  cases ry;cases x with
  | non=>cases rx;exact SeqAt.EqAt.same _
  | bl b=>cases rx;exact SeqAt.EqAt.none_bool b
  | int b=>obtain ⟨t,rfl⟩:=rx;exact SeqAt.EqAt.none_int b t
  | str b=>obtain ⟨t,rfl⟩:=rx;exact SeqAt.EqAt.none_str b t
  | _=>exact absurd (show false=true from fx) Z0
 | bl a=>
  cases ry;cases x with
  | non=>cases rx;exact SeqAt.EqAt.bool_none a
  | bl b=>cases rx;exact SeqAt.EqAt.bool_bool a b
  | int b=>obtain ⟨t,rfl⟩:=rx;exact SeqAt.EqAt.bool_int a b t
  | str b=>obtain ⟨t,rfl⟩:=rx;exact SeqAt.EqAt.bool_str a b t
  | _=>exact absurd (show false=true from fx) Z0
 | int a=>
  obtain ⟨c,rfl⟩:=ry;cases x with
  | non=>cases rx;exact SeqAt.EqAt.int_none a c
  | bl b=>cases rx;exact SeqAt.EqAt.int_bool a c b
  | int b=>obtain ⟨t,rfl⟩:=rx;exact SeqAt.EqAt.int_int a c b t
  | str b=>obtain ⟨t,rfl⟩:=rx;exact z9 a c b t
  | _=>exact absurd (show false=true from fx) Z0
 | str a=>
  obtain ⟨c,rfl⟩:=ry;cases x with
  | non=>cases rx;exact SeqAt.EqAt.str_none a c
  | bl b=>cases rx;exact SeqAt.EqAt.str_bool a c b
  | int b=>obtain ⟨t,rfl⟩:=rx;exact w9 a c b t
  | str b=>obtain ⟨t,rfl⟩:=rx;exact v9 a c b t
  | _=>exact absurd (show false=true from fx) Z0
 | _=>exact absurd (show false=true from fy) Z0
noncomputable def eqU (x:V) (u:Value):Bool:=match u with
 | .none=>eqV .non x
 | .bool b=>eqV (.bl b) x
 | .int i _=>eqV (.int i) x
 | .str z _=>eqV (.str z) x
 | _=>false
theorem eqU_of {x y:V} {u:Value} (r:RelV y u) (f:flatV y=true):eqU x u=eqV y x:=by
 cases y with
 | non=>cases r;rfl
 | bl b=>cases r;rfl
 | int i=>obtain ⟨t,rfl⟩:=r;rfl
 | str z=>obtain ⟨t,rfl⟩:=r;rfl
 | _=>exact absurd (show false=true from f) Z0
theorem z8c {x:V} :∀{xs:List V} {us:List Value},Vals xs us->xs.all flatV=true->us.any (eqU x)=xs.any λ y=>eqV y x
 | _,_,.nil,_=>rfl
 | y :: xs,u :: us,.cons r t,f=>by rw [List.all_cons,V2] at f;rw [M6,M6,eqU_of r f.1,z8c t f.2]
theorem z5p {A:X1} {s:A0} {x:V} {v:Value} (rx:RelV x v) (fx:flatV x=true) :∀{xs:List V} {us:List Value},Vals xs us->xs.all flatV=true->∀u∈us,SeqAt.EqAt A s u v (eqU x u)
 | _,_,.nil,_=>λ u a=>by cases a
 | y :: xs,u :: us,.cons r t,f=>λ b a=>by
  rw [List.all_cons,V2] at f;rcases List.mem_cons.mp a with rfl|a
  ·rw [eqU_of r f.1];exact eqAt_V r rx f.1 fx
  ·exact z5p rx fx t f.2 b a
noncomputable def inV (x:V) (xs:List V):Bool:=xs.any λ y=>eqV y x
noncomputable def rIn (K:d0) (neg:Bool):R2:=λ x y H Q=>∃p xs,y=.ref p/\(SqL K H p xs\/SqT K H p xs)/\flatV x=true/\xs.all flatV=true/\Q (.bl (if neg then !inV x xs else inV x xs)) H
theorem z5e:OpR X (A2 .In) (rIn X.K false):=by
 intro k s σ H x y v u Q I e i h;obtain ⟨p,j,rfl,a,f,fs,q⟩:=h;cases i;rcases a with a|a
 ·obtain ⟨b,r,d,g⟩:=I.list a;refine SeqAt.in_listAt (eqU x) d.isList (λ w c=>z5p e f r fs w (by simpa using c)) ⟨.bl _,H,I,rfl,?_⟩;rw [show b.toArray.any (eqU x)=b.any (eqU x) by simp,z8c r fs];exact q
 ·obtain ⟨b,r,d,g⟩:=I.tuple a;refine SeqAt.in_tupleAt (eqU x) d (λ w c=>z5p e f r fs w (by simpa using c)) ⟨.bl _,H,I,rfl,?_⟩;rw [show b.toArray.any (eqU x)=b.any (eqU x) by simp,z8c r fs];exact q
theorem z36:OpR X (A2 .NotIn) (rIn X.K true):=by
 intro k s σ H x y v u Q I e i h;obtain ⟨p,j,rfl,a,f,fs,q⟩:=h;cases i;rcases a with a|a
 ·obtain ⟨b,r,d,g⟩:=I.list a;refine SeqAt.notIn_listAt (eqU x) d.isList (λ w c=>z5p e f r fs w (by simpa using c)) ⟨.bl _,H,I,rfl,?_⟩;rw [show b.toArray.any (eqU x)=b.any (eqU x) by simp,z8c r fs];exact q
 ·obtain ⟨b,r,d,g⟩:=I.tuple a;refine SeqAt.notIn_tupleAt (eqU x) d (λ w c=>z5p e f r fs w (by simpa using c)) ⟨.bl _,H,I,rfl,?_⟩;rw [show b.toArray.any (eqU x)=b.any (eqU x) by simp,z8c r fs];exact q
theorem call_len_seq:CallR X (.builtin "len") (λ xs H Q=>∃p ys,xs=[.ref p]/\(SqL X.K H p ys\/SqT X.K H p ys)/\Q (.int ys.length) H):=by
 intro j s σ H xs us Q I r h;obtain ⟨p,ys,rfl,a,q⟩:=h;obtain ⟨u,rfl,e⟩:=vals1 r;cases e;have i:=line63;rcases a with a|a
 ·obtain ⟨f,c,d,g⟩:=I.list a;have b:=c.length;exact Calls.call_len_list d.isList (by simp only [T0]<;>lia) ⟨.int ys.length,H,I.tok _,⟨s.toks + 1,by rw [T0,b]⟩,q⟩
 ·obtain ⟨f,c,d,g⟩:=I.tuple a;have b:=c.length;exact len_tuple d (by simp only [T0]<;>lia) ⟨.int ys.length,H,I.tok _,⟨s.toks + 1,by rw [T0,b]⟩,q⟩
theorem zah:CallR X (.builtin "len") (λ xs H Q=>∃z,xs=[.str z]/\z.length<=sizeLine/\Q (.int z.length) H):=by intro c s σ H xs us Q I r h;obtain ⟨z,rfl,b,q⟩:=h;obtain ⟨u,rfl,t,rfl⟩:=vals1 r;have a:=line63;exact len_str (by lia) ⟨.int z.length,H,I.tok _,⟨_,rfl⟩,q⟩
theorem CallR.or {f:Value} {r r':List V->Hp->VK->Prop} (h:CallR X f r) (h':CallR X f r'):CallR X f (λ xs H Q=>r xs H Q\/r' xs H Q):=by
 intro a s σ H xs us Q I rs q;rcases q with q|q
 ·exact h a s σ H xs us Q I rs q
 ·exact h' a s σ H xs us Q I rs q
theorem z2d:CallR X (.type "tuple") (λ xs H Q=>∃p ys,xs=[.ref p]/\((SqL X.K H p ys/\∀l,H l=none->Q (.ref l) (upd H l (.tup ys)))\/(SqT X.K H p ys/\Q (.ref p) H))):=by
 intro j s σ H xs us Q I r h;obtain ⟨p,ys,rfl,h⟩:=h;obtain ⟨u,rfl,m⟩:=vals1 r;cases m;rcases h with ⟨d,q⟩|⟨d,q⟩
 ·obtain ⟨f,c,g,i⟩:=I.list d;have v:=c.length;refine call_tuple_list g.isList (λ a n=>?_) (by simp only [T0]<;>lia);have k:Inv X j σ H { s with heap:=a }:=I.kept (t':=s.toks) n;have t:Inv X j σ (upd H a.objs.size (.tup ys)) { s with heap:=a.push { cls:=.type "tuple",data:=.seq f.toArray } }:=
   k.laid (t':=s.toks) (λ b o e=>F0 _ e) (C0 _) (show ObjOk X.prog X.w _ _ _ (.tup ys) from ⟨i,f,c,IsTupN.new _ _⟩)
  exact ⟨.ref a.objs.size,_,t,rfl,q _ (k.hok.fresh (C0 _))⟩
 ·obtain ⟨f,c,g,i⟩:=I.tuple d;exact call_tuple_same g ⟨.ref p,H,I,rfl,q⟩
def tyV (K:d0) (T:String) (x:V) (H:Hp):Prop:=match x with
 | .str _=>T = "str"
 | .int _=>T = "int"
 | .ref p=>(T = "list"/\∃xs,SqL K H p xs)\/(T = "tuple"/\∃o,K.lookup p=some o/\o.cls=.type "tuple"/\o.dict=none)\/
   (T = "dict"/\((∃kvs,H p=some (.dK kvs))\/∃kvs,H p=some (.dT kvs)))\/(T = "set"/\∃S n,H p=some (.set S n))
 | _=>False
theorem tyV_is {pins:List (Addr×Obj)} {σ:St} {H:Hp} {s:A0} {T:String} {x:V} {v:Value} (I:Inv X pins σ H s) (r:RelV x v) (ty:tyV X.K T x H) :
  s.TypeIs v T/\∀a,v=.ref a->∃ob,s.heap.get? a=some ob/\ob.dict=none:=by
 cases x with
 | str z=>obtain ⟨t,rfl⟩:=r;cases (show T = "str" from ty);exact ⟨typeIs_str s z t,λ _ e=>nomatch e⟩
 | int i=>obtain ⟨t,rfl⟩:=r;cases (show T = "int" from ty);exact ⟨typeIs_int s i t,λ _ e=>nomatch e⟩
 | ref p=>
  cases r;rcases ty with ⟨rfl,m,k⟩|⟨rfl,o,b,hc,g⟩|⟨rfl,b⟩|⟨rfl,S,n,b⟩
  ·obtain ⟨l,_,h,_⟩:=I.list k;refine ⟨h.isList.typeIs,λ a e=>?_⟩;cases e;obtain ⟨o,n,e,c,g,_⟩:=h;exact ⟨o,e,g⟩
  ·refine ⟨⟨o,I.kIn p o b,hc⟩,λ a e=>?_⟩;cases e;exact ⟨o,I.kIn _ o b,g⟩
  ·have z :∃o,s.heap.get? p=some o/\o.ExactDict:=by
    rcases b with ⟨j,b⟩|⟨j,b⟩
    ·obtain ⟨_,_,_,_,o,_,_,e,d,_⟩:=I.hok p _ b;exact ⟨o,e,d⟩
    ·obtain ⟨_,_,_,_,o,_,_,e,d,_⟩:=I.hok p _ b;exact ⟨o,e,d⟩
   obtain ⟨o,e,d⟩:=z;refine ⟨⟨o,e,d.1⟩,λ a f=>?_⟩;cases f;exact ⟨o,e,d.2.1⟩
  ·obtain ⟨o,_,_,_,e,d,_⟩:=I.hok p _ b;refine ⟨⟨o,e,d.1⟩,λ a f=>?_⟩;cases f;exact ⟨o,e,d.2.1⟩
 | _=>exact K3 ty
noncomputable def tBM0 (K:d0) (T:String) (r:V->List V->Hp->VK->Prop) (to:TE):TE:=λ σ H Q=>to σ H λ x H1=>tyV K T x H1/\r x [] H1 Q
noncomputable def tBM (K:d0) (T:String) (r:V->List V->Hp->VK->Prop) (to:TE) (t:TA):TE:=λ σ H Q=>to σ H λ x H1=>tyV K T x H1/\t σ H1 λ xs H2=>r x xs H2 Q
variable {o e:Expr} {es:List Expr} {to:TE} {t:TA} {name:Str} {apos cpos:Pos} {T id:String} {r:V->List V->Hp->VK->Prop}
theorem pe_bm0 (pa:PlainAttrs T) (slot:Slot T name id) (hty:typeOf (.builtin id)=G3 (.type "method_descriptor")) (hm:MtR X id r) (ho:PE X o to)
  (hbase:M3 o name X.env (X2 o X.env)=X2 o X.env:=by rfl) (hline:(apos.endLine == cpos.line)=true:=by rfl):PE X (.Call (.Attribute o name apos) [] [] cpos) (tBM0 X.K T r to):=by
 intro a s σ H Q I h;refine wpAny_Call_method0_late hbase hline (thn (ho a s σ H _ I h) λ v d ⟨x,H1,I1,r1,ty,q1⟩=>?_);obtain ⟨b,c⟩:=tyV_is I1 r1 ty;exact ⟨T,id,pa,slot,hty,b,c,X3 rfl (W9 (hm a d σ H1 x [] v [] Q I1 r1 .nil q1))⟩
theorem pe_bm (pa:PlainAttrs T) (slot:Slot T name id) (hty:typeOf (.builtin id)=G3 (.type "method_descriptor")) (hm:MtR X id r) (ho:PE X o to) (ha:PA X (e :: es) t)
  (hbase:M3 o name X.env (X2 o X.env)=X2 o X.env:=by rfl)
  (hfew:((w4 cpos (K1 (e :: es) X.env)).all (λ x=>!x.1) && (O8 cpos (c7 [] X.env)).all (λ x=>x.1.isSome)
   && decide ((e :: es).length + ([]:List J6).length + (if ([]:List J6).isEmpty then 0 else 1) < 30))=true:=by rfl)
  (hline:(apos.endLine == cpos.line)=true:=by rfl) (hs:K1 (e :: es) X.env=(false,X2 e X.env) :: K1 es X.env:=by rfl) (hplain:(w4 cpos (K1 es X.env)).any (·.1)=false:=by rfl) :
  PE X (.Call (.Attribute o name apos) (e :: es) [] cpos) (tBM X.K T r to t):=by
 intro a s σ H Q I h;refine wpAny_Call_method_late hbase hfew hline rfl (thn (ho a s σ H _ I h) λ v g ⟨x,H1,I1,r1,ty,q1⟩=>?_);obtain ⟨d,f⟩:=tyV_is I1 r1 ty;refine ⟨T,id,pa,slot,hty,d,f,?_⟩;have b:=ha cpos a g σ H1 _ I1 q1;rw [hs] at b⊢;refine X3 (by show (false || (w4 cpos (K1 es X.env)).any (·.1))=false;rw [hplain]<;>rfl) (N7 ?_);exact thn b λ us c ⟨vs,H2,I2,r2,q2⟩=>hm a c σ H2 x vs v us Q I2 r1 r2 q2
end
def MtM (X:Cx) (id:String) (r:V->List V->Hp->VK->Prop):Prop:=
 ∀(pins:List (Addr×Obj)) (s:A0) (σ:St) (H:Hp) (x:V) (xs:List V) (v:Value) (us:List Value) (Q:VK),Inv X pins σ H s->RelV x v->Vals xs us->r x xs H Q->
  S0 (B1 X.prog X.w) X.A (call (.builtin id) (v :: us)) (EP X pins σ Q) X.xe s
theorem Vals.one :∀{x:V} {us:List Value},Vals [x] us->∃u,us=[u]/\RelV x u
 | _,_,.cons r .nil=>⟨_,rfl,r⟩
theorem Vals.zero :∀{us:List Value},Vals [] us->us=[]
 | _,.nil=>rfl
theorem Vals.dropLast {xs:List V} {us:List Value} (h:Vals xs us):Vals xs.dropLast us.dropLast:=by
 induction h with
 | nil=>exact .nil
 | cons r t ih=>
  cases t with
  | nil=>exact .nil
  | cons q t'=>exact .cons r ih
theorem zd9 {α:Type} (l:List α):l.eraseIdx (l.length - 1)=l.dropLast:=by
 induction l with
 | nil=>rfl
 | cons a r ih=>
  cases r with
  | nil=>rfl
  | cons b r=>
   have e:(a :: b :: r).length - 1=((b :: r).length - 1) + 1:=by
    have c:(a :: b :: r).length=r.length + 2:=rfl;have d:(b :: r).length=r.length + 1:=rfl
    lia
   rw [e,List.eraseIdx_cons_succ,ih]
   all_goals rfl
section
variable {X:Cx} {pins:List (Addr×Obj)} {σ:St} {H:Hp} {s:A0} {l b:Addr} {xs ys zs:List V}
theorem Inv.lset {its its':List Value} {n:Nat} {f:Array Value->Array Value} {t':Nat} (I:Inv X pins σ H s) (hH:H l=some (.lst xs))
  (e:s.heap.get? l=some { cls:=.type "list",data:=.seq its.toArray n }) (hf:f its.toArray=its'.toArray) (hv:Vals ys its') (hz:ys.length<=sizeLine) :
  Inv X pins σ (upd H l (.lst ys)) { s with heap:=s.heap.update l (N4 f),toks:=t' }:=by
 have q:=PySem.IsL.update e f;rw [hf] at q;refine I.write (x:=l) (e:=l) (by rw [hH];exact trivial) (.inl rfl) (λ c u a b=>(c4 s.heap (N4 f) (R3 a)).trans b) ⟨_,q⟩ ?_;exact ⟨hz,its',_,hv,q⟩
theorem Inv.lnew {its:List Value} {t':Nat} (I:Inv X pins σ H s) (hv:Vals ys its) (hz:ys.length<=sizeLine) :
  Inv X pins σ (upd H s.heap.objs.size (.lst ys)) { s with heap:=s.heap.push { cls:=.type "list",data:=.seq its.toArray },toks:=t' }:=
 I.laid (λ _ _ q=>F0 _ q) (C0 _) ⟨hz,its,0,hv,V0 _ rfl⟩
theorem Inv.fresh (I:Inv X pins σ H s):H s.heap.objs.size=none:=I.hok.fresh (C0 _)
theorem Inv.lstM (I:Inv X pins σ H s) (hH:H l=some (.lst xs)):xs.length<=sizeLine/\∃(its:List Value) (n:Nat),Vals xs its/\xs.length=its.length/\s.heap.get? l=some { cls:=.type "list",data:=.seq its.toArray n }:=by obtain ⟨z,its,n,r,e⟩:=I.hok l _ hH;exact ⟨z,its,n,r,r.length,e⟩
end
section
variable {X:Cx}
def zgl:V->List V->Hp->VK->Prop:=λ x vs H Q=>∃l xs y,x=.ref l/\vs=[y]/\H l=some (.lst xs)/\xs.length < sizeLine/\Q .non (upd H l (.lst (xs++[y])))
theorem zex:MtM X "list.append" zgl:=by
 intro m s σ H x g v us Q I c d h;obtain ⟨l,i,y,rfl,rfl,a,k,q⟩:=h;cases c;obtain ⟨u,rfl,f⟩:=d.one;obtain ⟨z,b,n,r,j,e⟩:=I.lstM a;refine call_meets F.slot_list_append ⟨_,e,rfl⟩ F.entry_list_append (F.args_list_append_2 _ _) (PySem.list_append l b.toArray n u (by rw [T0];lia)) ⟨e,?_⟩;refine ⟨.non,_,I.lset (its':=b++[u]) a e (by simp) (r.append (.cons f .nil)) ?_,rfl,q⟩;rw [D0,E7]
 lia
def rPop:V->List V->Hp->VK->Prop:=λ x vs H Q=>∃l xs y,x=.ref l/\vs=[]/\H l=some (.lst xs)/\xs[xs.length - 1]? = some y/\Q y (upd H l (.lst xs.dropLast))
theorem mt_pop:MtM X "list.pop" rPop:=by
 intro t s σ H x o v us Q I c d h;obtain ⟨l,p,y,rfl,rfl,b,m,q⟩:=h;cases c;have k:=d.zero;subst k;obtain ⟨z,a,n,r,g,e⟩:=I.lstM b;obtain ⟨u,f,j⟩:=r.get m;have i:a.toArray[a.toArray.size - 1]? = some u:=by show a.toArray[a.length - 1]? = some u;rw [<-Array.getElem?_toList,<-g];exact f
 refine call_meets F.slot_list_pop ⟨_,e,rfl⟩ F.entry_list_pop (F.args_list_pop_1 _) (MeetsSeq.list_pop_last l a.toArray n u i (by rw [T0];lia)) ⟨e,?_⟩;refine ⟨y,_,I.lset (its':=a.dropLast) b e ?_ r.dropLast ?_,j,q⟩
 ·show a.toArray.eraseIdxIfInBounds (a.toArray.size - 1)=a.dropLast.toArray;rw [T0,List.eraseIdxIfInBounds_toArray,zd9]
 ·rw [List.length_dropLast]
  lia
noncomputable def rCat:R2:=λ x y H Q=>∃l b xs zs,x=.ref l/\y=.ref b/\H l=some (.lst xs)/\H b=some (.lst zs)/\xs.length + zs.length<=sizeLine/\∀p,H p=none->Q (.ref p) (upd H p (.lst (xs++zs)))
theorem op_cat:OpR X (J4 .Add) rCat:=by
 intro C s σ H x y v u Q I f m h;obtain ⟨l,b,p,D,rfl,rfl,g,k,B,q⟩:=h;cases f;cases m;obtain ⟨z,c,n,r,A,e⟩:=I.lstM g;obtain ⟨o,a,w,i,t,j⟩:=I.lstM k;refine PySem.P.add_list e j ?_ (by rw [T0,T0];lia);have d:c.toArray++a.toArray=(c++a).toArray:=by simp
 rw [d];exact ⟨.ref _,_,I.lnew (t':=s.toks) (r.append i) (by rw [D0];lia),rfl,q _ I.fresh⟩
end
section
variable {prog:Program} {w:Q0} {A:X1} {E:Value->A0->Prop} {s:A0}
set_option maxRecDepth 100000 in
end
section
variable {κ:Type} [DecidableEq κ]
noncomputable def valV (kvs:List (κ×V)) (k:κ):Option V:=(kvs.find? λ kv=>decide (kv.1=k)).map (·.2)
noncomputable def putK (kvs:List (κ×V)) (k:κ) (v:V):List (κ×V):=
 if (kvs.any λ kv=>decide (kv.1=k))=true then kvs.map (λ kv=>if kv.1=k then (kv.1,v) else kv) else kvs++[(k,v)]
noncomputable def dropK (kvs:List (κ×V)) (k:κ):List (κ×V):=kvs.filter λ kv=>decide (kv.1≠k)
theorem z0n {p:κ×V} {r:List (κ×V)} {k:κ} (e:p.1=k):valV (p :: r) k=some p.2:=by simp [valV,Q3,e]
theorem z0o {p:κ×V} {r:List (κ×V)} {k:κ} (e:¬ p.1=k):valV (p :: r) k=valV r k:=by simp [valV,Q3,e]
theorem z77 (k:κ) :∀kvs:List (κ×V),(kvs.any λ kv=>decide (kv.1=k))=(valV kvs k).isSome
 | []=>rfl
 | p :: r=>by
  rw [M6];by_cases e:p.1=k
  ·simp only [z0n e,decide_eq_true e,Bool.true_or,Option.isSome_some]
  ·rw [z0o e,decide_eq_false e,b8];exact z77 k r
theorem zdv (k j:κ) (y:V) :∀kvs:List (κ×V),valV (kvs.map λ kv=>if kv.1=k then (kv.1,y) else kv) j=(valV kvs j).map λ x=>if j=k then y else x
 | []=>rfl
 | p :: r=>by
  have a:=zdv k j y r;rw [j1];by_cases h:p.1=k
  ·rw [if_pos h];by_cases e:p.1=j
   ·rw [z0n (p:=(p.1,y)) e,z0n e,Y6,if_pos (e.symm.trans h)]
   ·rw [z0o (p:=(p.1,y)) e,z0o e,a]
  ·rw [if_neg h];by_cases e:p.1=j
   ·rw [z0n (p:=p) e,z0n e,Y6,if_neg (λ z=>h (e.trans z))]
   ·rw [z0o (p:=p) e,z0o e,a]
theorem zb2 (k j:κ) (y:V) :∀kvs:List (κ×V),valV kvs k=none->valV (kvs++[(k,y)]) j=if j=k then some y else valV kvs j
 | [],_=>by
  by_cases e:k=j
  ·rw [if_pos e.symm];exact z0n (p:=(k,y)) e
  ·rw [if_neg (λ z=>e z.symm)];exact z0o (p:=(k,y)) e
 | p :: r,hn=>by
  rw [List.cons_append];have a:¬ p.1=k:=λ z=>by rw [z0n z] at hn;cases hn
  rw [z0o a] at hn;have b:=zb2 k j y r hn;by_cases e:p.1=j
  ·rw [z0n e,z0n e,if_neg (λ z=>a (e.trans z))]
  ·rw [z0o e,z0o e,b]
theorem z4j (kvs:List (κ×V)) (k j:κ) (y:V):valV (putK kvs k y) j=if j=k then some y else valV kvs j:=by
 unfold putK;by_cases a:(kvs.any λ c=>decide (c.1=k))=true
 ·rw [if_pos a,zdv];rw [z77] at a;by_cases e:j=k
  ·obtain ⟨x,b⟩:=Option.isSome_iff_exists.mp a;rw [if_pos e,e,b,Y6,if_pos rfl]
  ·rw [if_neg e];cases valV kvs j with
   | none=>rfl
   | some x=>rw [Y6,if_neg e]
 ·rw [if_neg a];refine zb2 k j y kvs ?_;rw [z77] at a;cases q:valV kvs k with
  | none=>rfl
  | some x=>rw [q] at a;exact (a rfl).elim
theorem z4v (kvs:List (κ×V)) (k:κ) (v:V):(putK kvs k v).length<=kvs.length + 1:=by
 unfold putK;split
 ·rw [L0];lia
 ·rw [D0,D1,P3];lia
theorem RelO.isSome_eq {o:Option V} {u:Option Value} (r:RelO o u):o.isSome=u.isSome:=by
 cases o with
 | none=>cases u with
  | none=>rfl
  | some _=>exact (show False from r).elim
 | some _=>cases u with
  | none=>exact (show False from r).elim
  | some _=>rfl
theorem RelO.getD {o:Option V} {u:Option Value} {d:V} {d':Value} (r:RelO o u) (rd:RelV d d'):RelV (o.getD d) (u.getD d'):=by
 cases o with
 | none=>cases u with
  | none=>exact rd
  | some _=>exact (show False from r).elim
 | some _=>cases u with
  | none=>exact (show False from r).elim
  | some _=>exact r
theorem KV.val {kvs:List (κ×V)} {vs:List (κ×Value)} (r:KV kvs vs) (k:κ):RelO (valV kvs k) (k8 vs k):=by
 unfold KV at r;induction r with
 | nil=>exact True.intro
 | @cons p q ps qs h t ih=>
  obtain ⟨c,d⟩:=h;by_cases e:p.1=k
  ·have a:q.1=k:=c.symm.trans e;have b:k8 (q :: qs) k=some q.2:=by simp [k8,Q3,a]
   rw [z0n e,b];exact d
  ·have a:¬ q.1=k:=λ z=>e (c.trans z);have b:k8 (q :: qs) k=k8 qs k:=by simp [k8,Q3,a]
   rw [z0o e,b];exact ih
theorem KV.any {kvs:List (κ×V)} {vs:List (κ×Value)} (r:KV kvs vs) (k:κ):(kvs.any λ kv=>decide (kv.1=k))=vs.any λ kv=>decide (kv.1=k):=by
 unfold KV at r;induction r with
 | nil=>rfl
 | cons h t ih=>rw [M6,M6,ih,h.1]
theorem KV.repl {kvs:List (κ×V)} {vs:List (κ×Value)} (r:KV kvs vs) (k:κ) {y:V} {u:Value} (ry:RelV y u) :
  KV (kvs.map λ kv=>if kv.1=k then (kv.1,y) else kv) (vs.map λ kv=>if kv.1=k then (kv.1,u) else kv):=by
 unfold KV at r⊢;induction r with
 | nil=>exact .nil
 | @cons p q ps qs h t ih=>
  rw [j1,j1];refine .cons ?_ ih;obtain ⟨a,b⟩:=h;by_cases e:p.1=k
  ·rw [if_pos e,if_pos (a.symm.trans e)];exact ⟨a,ry⟩
  ·rw [if_neg e,if_neg (λ z=>e (a.trans z))];exact ⟨a,b⟩
theorem KV.put {kvs:List (κ×V)} {vs:List (κ×Value)} (r:KV kvs vs) (k:κ) {y:V} {u:Value} (ry:RelV y u):KV (putK kvs k y) (stored vs k u):=by
 unfold putK stored;rw [r.any k];by_cases e:(vs.any λ a=>decide (a.1=k))=true
 ·rw [if_pos e,if_pos e];exact r.repl k ry
 ·rw [if_neg e,if_neg e];exact Paired.snoc r ⟨rfl,ry⟩
theorem KV.drop {kvs:List (κ×V)} {vs:List (κ×Value)} (r:KV kvs vs) (k:κ):KV (dropK kvs k) (without vs k):=by
 unfold KV at r⊢;unfold dropK without;induction r with
 | nil=>exact .nil
 | @cons p q ps qs h t ih=>
  obtain ⟨c,d⟩:=h;rw [D5,D5];by_cases e:p.1=k
  ·have a:¬ decide (p.1≠k)=true:=by simp [e]
   have b:¬ decide (q.1≠k)=true:=by simp [c.symm.trans e]
   rw [if_neg a,if_neg b];exact ih
  ·have f:¬ q.1=k:=λ z=>e (c.trans z);have a:decide (p.1≠k)=true:=by simp [e]
   have b:decide (q.1≠k)=true:=by simp [f]
   rw [if_pos a,if_pos b];exact .cons ⟨c,d⟩ ih
theorem KV.length {kvs:List (κ×V)} {vs:List (κ×Value)} (r:KV kvs vs):kvs.length=vs.length:=W8 r
theorem zhg (kvs:List (κ×V)) (k:κ):(dropK kvs k).length<=kvs.length:=T1 _ _
end
theorem kV_is {P:Program} {w:Q0} {k:Key} {u:Value} (r:RelV (kV k) u):(z0p P w).is k u=true:=by
 cases k with
 | inl i=>obtain ⟨t,e⟩:=(show∃t,u=O6 i t from r);subst e;exact zcq P w i t
 | inr x=>obtain ⟨t,e⟩:=(show∃t,u=c6 x t from r);subst e;exact zcl P w x t
theorem zc3 {P:Program} {w:Q0} :∀{ks:List Key} {us:List Value},Vals (ks.map kV) us->ItemsAre (z0p P w) ks us
 | [],_,r=>by rw [d6] at r;cases r;exact .nil
 | k :: ks,_,r=>by
  rw [j1] at r;cases r with
  | cons h t=>exact .cons (kV_is h) (zc3 t)
abbrev KT (H:Hp):List (List Key×V)->List (List Key×Addr×Value)->Prop:=z7 λ p q=>p.1=q.1/\H q.2.1=some (.tup (p.1.map kV))/\RelV p.2 q.2.2
theorem KT.val {H:Hp} {kvs:List (List Key×V)} {xs:List (List Key×Addr×Value)} (r:KT H kvs xs) (k:List Key):RelO (valV kvs k) ((K7 xs k).map (·.2)):=by
 induction r with
 | nil=>exact True.intro
 | @cons p q ps qs h t ih=>
  obtain ⟨c,_,d⟩:=h;by_cases e:p.1=k
  ·have a:q.1=k:=c.symm.trans e;have b:K7 (q :: qs) k=some q.2:=by simp [K7,Q3,a]
   rw [z0n e,b];exact d
  ·have a:¬ q.1=k:=λ z=>e (c.trans z);have b:K7 (q :: qs) k=K7 qs k:=by simp [K7,Q3,a]
   rw [z0o e,b];exact ih
theorem KT.repl {H:Hp} {kvs:List (List Key×V)} {xs:List (List Key×Addr×Value)} (r:KT H kvs xs) (k:List Key) {y:V} {u:Value} (ry:RelV y u) :
  KT H (kvs.map λ kv=>if kv.1=k then (kv.1,y) else kv) (xs.map (putAt k u)):=by
 induction r with
 | nil=>exact .nil
 | @cons p q ps qs h t ih=>
  rw [j1,j1];refine .cons ?_ ih;obtain ⟨a,b,c⟩:=h;unfold putAt;by_cases e:p.1=k
  ·rw [if_pos e,if_pos (a.symm.trans e)];exact ⟨a,b,ry⟩
  ·rw [if_neg e,if_neg (λ z=>e (a.trans z))];exact ⟨a,b,c⟩
theorem KT.put {H:Hp} {kvs:List (List Key×V)} {xs:List (List Key×Addr×Value)} (r:KT H kvs xs) (k:List Key) {b:Addr} {y:V} {u:Value} (hb:H b=some (.tup (k.map kV))) (ry:RelV y u) :
  KT H (putK kvs k y) (storedH xs k b u):=by
 have e:(kvs.any λ a=>decide (a.1=k))=(K7 xs k).isSome:=by rw [z77,(r.val k).isSome_eq,i5]
 unfold putK storedH;rw [e];by_cases q:(K7 xs k).isSome=true
 ·rw [if_pos q,if_pos q];exact r.repl k ry
 ·rw [if_neg q,if_neg q];exact Paired.snoc r ⟨rfl,hb,ry⟩
theorem KT.keeps {H H':Hp} {kvs:List (List Key×V)} {xs:List (List Key×Addr×Value)} (r:KT H kvs xs) (ht :∀b ys,H b=some (.tup ys)->H' b=some (.tup ys)):KT H' kvs xs:=
 Paired.mapP r λ _ _ z=>⟨z.1,ht _ _ z.2.1,z.2.2⟩
section
variable {P:Program} {w:Q0} {H:Hp} {h:Heap} {a:Addr}
theorem rd_of {u:HO} (ok:HOk P w H h) (e:Rd H a u):ObjOk P w H h a u:=e.ok ok
theorem dk_rd {kvs:List (Key×V)} (ok:HOk P w H h) (e:Rd H a (.dK kvs)):kvs.length<=sizeLine/\(a == F3)=false/\∃vs,KV kvs vs/\h.DictOf (z0p P w) a vs:=
 show ObjOk P w H h a (.dK kvs) from rd_of ok e
theorem dk_of {kvs:List (Key×V)} (ok:HOk P w H h) (e:H a=some (.dK kvs)):kvs.length<=sizeLine/\(a == F3)=false/\∃vs,KV kvs vs/\h.DictOf (z0p P w) a vs:=dk_rd ok (.inl e)
theorem key_of {ks:List Key} (ok:HOk P w H h) (e:H a=some (.tup (ks.map kV))):(C5 (z0p P w)).is h ks a:=by
 obtain ⟨_,f,r,⟨o,b,d,n,c⟩,_⟩:=(show ObjOk P w H h a (.tup (ks.map kV)) from ok a _ e)
 exact ⟨o,f.toArray,n,b,d,c,by simpa using zc3 r⟩
theorem dt_rd {kvs:List (List Key×V)} (ok:HOk P w H h) (e:Rd H a (.dT kvs)):kvs.length<=sizeLine/\(a == F3)=false/\
  ∃xs,KT H kvs xs/\h.DictOfH (C5 (z0p P w)) a xs:=by
 obtain ⟨z,y,xs,r,o,i,j,c,g,f,d,k⟩:=(show ObjOk P w H h a (.dT kvs) from rd_of ok e)
 refine ⟨z,y,xs,r,o,i,j,c,g,f,d,λ x b=>?_,k⟩;have all :∀{l:List (List Key×V)} {m:List (List Key×Addr×Value)},KT H l m->∀x∈m,(C5 (z0p P w)).is h x.1 x.2.1:=by
  intro l m q;induction q with
  | nil=>intro x b;exact nomatch b
  | @cons p q ps qs hq t ih=>
   intro x b;rcases List.mem_cons.mp b with e|b
   ·subst e;exact key_of ok (by rw [<-hq.1];exact hq.2.1)
   ·exact ih x b
 exact all r x b
theorem dt_of {kvs:List (List Key×V)} (ok:HOk P w H h) (e:H a=some (.dT kvs)):kvs.length<=sizeLine/\(a == F3)=false/\
  ∃xs,KT H kvs xs/\h.DictOfH (C5 (z0p P w)) a xs:=dt_rd ok (.inl e)
end
def DGet (H:Hp) (a:Addr) (y:V) (r:Option V):Prop:=
 (∃kvs k,Rd H a (.dK kvs)/\y=kV k/\r=valV kvs k)\/∃kvs k b,Rd H a (.dT kvs)/\y=.ref b/\H b=some (.tup (k.map kV))/\r=valV kvs k
def DPut (H:Hp) (a:Addr) (y v:V) (H':Hp):Prop:=
 (∃kvs k,H a=some (.dK kvs)/\y=kV k/\kvs.length < sizeLine/\H'=upd H a (.dK (putK kvs k v)))\/
 ∃kvs k b,H a=some (.dT kvs)/\y=.ref b/\H b=some (.tup (k.map kV))/\kvs.length < sizeLine/\H'=upd H a (.dT (putK kvs k v))
theorem DGet.k {H:Hp} {a:Addr} {kvs:List (Key×V)} {k:Key} (e:H a=some (.dK kvs)):DGet H a (kV k) (valV kvs k):=.inl ⟨kvs,k,.inl e,rfl,rfl⟩
theorem DPut.k {H:Hp} {a:Addr} {kvs:List (Key×V)} {k:Key} {v:V} (e:H a=some (.dK kvs)) (hl:kvs.length < sizeLine):DPut H a (kV k) v (upd H a (.dK (putK kvs k v))):=.inl ⟨kvs,k,e,rfl,hl,rfl⟩
section
variable {X:Cx} {pins:List (Addr×Obj)} {σ:St} {H:Hp} {s:A0} {a:Addr} {y v:V} {u r:Value} {o:Option V} {A:X1} {E:Value->A0->Prop}
theorem Inv.big (I:Inv X pins σ H s):F3 < s.heap.objs.size:=by have h:Y2 < s.heap.objs.size:=(I.mod.glob.keeps I.bk).lt;exact o6 (by decide) h
theorem zfq {Q:Value->A0->Prop} (hu:A.units + 1 < cLine) (I:Inv X pins σ H s) (g:DGet H a y (some v)) (ry:RelV y u) (h :∀w' s',Inv X pins σ H s'->RelV v w'->Q w' s') :
  S0 (B1 X.prog X.w) A (m8 (.ref a) u) Q E s:=by
 rcases g with ⟨q,k,e,i,l⟩|⟨q,k,b,e,i,eb,l⟩
 ·subst i;obtain ⟨z,r,m,j,c⟩:=dk_rd I.hok e;obtain ⟨w',d,f⟩:=RelO.some_of (v:=v) (o:=k8 m k) (by rw [l];exact j.val k);exact wpAny_getItem_of (kV_is ry) c.mapOf d (h w' _ (I.tok _) f)
 ·subst i;cases (show u=W0 b from ry);obtain ⟨z,r,n,j,c⟩:=dt_rd I.hok e;obtain ⟨w',d,f⟩:=RelO.some_of (v:=v) (o:=(K7 n k).map (·.2)) (by rw [l];exact j.val k);obtain ⟨p,x,t⟩:=Option.map_eq_some_iff.mp d;refine wpAny_getItem_heap (z5 hu) (key_of I.hok eb) c x ?_;rw [t];exact h w' _ (I.tok _) f
theorem d_in {Q:Value->A0->Prop} (hu:A.units + 1 < cLine) (I:Inv X pins σ H s) (g:DGet H a y o) (ry:RelV y u) (h :∀s',Inv X pins σ H s'->Q (.bool o.isSome) s') :
  S0 (B1 X.prog X.w) A (A2 .In u (.ref a)) Q E s:=by
 rcases g with ⟨j,k,e,f,l⟩|⟨j,k,b,e,f,eb,l⟩
 ·subst f;obtain ⟨z,c,m,i,d⟩:=dk_rd I.hok e;refine wpAny_in_of (kV_is ry) c d.mapOf ?_;rw [<-(i.val k).isSome_eq,<-l];exact h _ (I.tok _)
 ·subst f;cases (show u=W0 b from ry);obtain ⟨z,c,n,i,d⟩:=dt_rd I.hok e;refine wpAny_in_heap (z5 hu) (key_of I.hok eb) c d ?_;have q:=(i.val k).isSome_eq;rw [i5] at q;rw [<-q,<-l];exact h _ (I.tok _)
theorem zjd {Q:Value->A0->Prop} (hu:A.units + 1 < cLine) (I:Inv X pins σ H s) (g:DGet H a y o) (ry:RelV y u) (h :∀s',Inv X pins σ H s'->Q (.bool (!o.isSome)) s') :
  S0 (B1 X.prog X.w) A (A2 .NotIn u (.ref a)) Q E s:=by
 rcases g with ⟨j,k,e,f,l⟩|⟨j,k,b,e,f,eb,l⟩
 ·subst f;obtain ⟨z,c,m,i,d⟩:=dk_rd I.hok e;refine wpAny_notIn_of (kV_is ry) c d.mapOf ?_;rw [<-(i.val k).isSome_eq,<-l];exact h _ (I.tok _)
 ·subst f;cases (show u=W0 b from ry);obtain ⟨z,c,n,i,d⟩:=dt_rd I.hok e;refine c9 (z5 hu) (key_of I.hok eb) c d ?_;have q:=(i.val k).isSome_eq;rw [i5] at q;rw [<-q,<-l];exact h _ (I.tok _)
theorem z92 {h':Heap} {t':Nat} {ob:HO} (I:Inv X pins σ H s) (mu:Mut (H a)) (hs:Q4 a s.heap h') (he :∃q,h'.get? a=some q) (new:ObjOk X.prog X.w (upd H a ob) h' a ob) :
  Inv X pins σ (upd H a ob) { s with heap:=h',toks:=t' }:=
 I.write (x:=a) (e:=a) mu (.inl rfl) (λ b q c z=>(hs.2 b c).trans z) he new
theorem dk_new {P:Program} {w:Q0} {H':Hp} {h':Heap} {kvs:List (Key×V)} {vs:List (Key×Value)} (z:kvs.length<=sizeLine) (hd:(a == F3)=false) (rel:KV kvs vs) (dd:h'.DictOf (z0p P w) a vs) :
  ObjOk P w H' h' a (.dK kvs):=⟨z,hd,vs,rel,dd⟩
theorem zfa {H':Hp} {Q:Unit->A0->Prop} (hu:A.units + 1 < cLine) (I:Inv X pins σ H s) (g:DPut H a y v H') (ry:RelV y u) (rv:RelV v r) (h :∀s',Inv X pins σ H' s'->Q () s') :
  S0 (B1 X.prog X.w) A (setItem (.ref a) u r) Q E s:=by
 rcases g with ⟨f,k,e,m,l,o⟩|⟨f,k,b,e,m,eb,l,o⟩
 ·subst m o;obtain ⟨z,t,G,d,B⟩:=dk_of I.hok e;have x:G.length<=sizeLine:=by rw [<-d.length];exact z
  have p:(putK f k v).length<=sizeLine:=by have:=z4v f k v;lia
  refine wpAny_setItem_pairs (hsz:=x) (kV_is ry) B λ C j n=>h _ ?_;have K :∃q,C.get? a=some q:=let ⟨q,_,_,i,_⟩:=j;⟨q,i⟩;exact z92 I (by rw [e];exact True.intro) n K (dk_new p t (d.put k rv) j)
 ·subst m o;cases (show u=W0 b from ry);obtain ⟨z,t,N,d,B⟩:=dt_of I.hok e;have x:N.length<=sizeLine:=by rw [<-W8 d];exact z
  have p:(putK f k v).length<=sizeLine:=by have:=z4v f k v;lia
  refine wpAny_setItem_heap (hsz:=x) (z5 hu) (key_of I.hok eb) B λ C j n=>h _ ?_;obtain ⟨q,L,P,i,O,F,J,_,M⟩:=j;refine z92 I (by rw [e];exact True.intro) n ⟨q,i⟩ ⟨p,t,_,(d.put k eb rv).keeps λ c R D=>?_,q,L,P,i,O,F,J,M⟩;rw [upd_ne (ne_of D e (λ z=>nomatch z))];exact D
end
section
variable {X:Cx} {pins:List (Addr×Obj)} {σ:St} {H:Hp} {s:A0} {a:Addr} {kvs:List (Key×V)} {k:Key} {u:Value} {A:X1} {E:Value->A0->Prop}
theorem d_pop {v:V} {more:List Value} {Q:Value->A0->Prop} (I:Inv X pins σ H s) (e:H a=some (.dK kvs)) (ry:RelV (kV k) u) (l:valV kvs k=some v) (hm:more=[]\/∃x,more=[x])
  (h :∀w' s',Inv X pins σ (upd H a (.dK (dropK kvs k))) s'->RelV v w'->Q w' s'):S0 (B1 X.prog X.w) A (call (.builtin "dict.pop") (.ref a :: u :: more)) Q E s:=by
 obtain ⟨z,m,c,b,d⟩:=dk_of I.hok e;obtain ⟨w',r,y⟩:=RelO.some_of (v:=v) (o:=k8 c k) (by rw [<-l];exact b.val k);have B:(keyPart u).isSome=true:=by
  cases k with
  | inl i=>obtain ⟨t,q⟩:=(show∃t,u=O6 i t from ry);subst q;rfl
  | inr x=>obtain ⟨t,q⟩:=(show∃t,u=c6 x t from ry);subst q;rfl
 have g:argsOk "dict.pop" ⟨.ref a :: u :: more,[]⟩:=by
  rcases hm with q|⟨x,q⟩
  ·subst q;exact PySem.F.args_dict_pop_2 _ _
  ·subst q;exact PySem.F.args_dict_pop_3 _ _ _
 refine N8 A9 d.typeIs PySem.F.entry_dict_pop g (meets_dict_pop_there (z0p X.prog X.w) a (kV_is ry) more hm B)
  ⟨c,w',d,by rw [<-b.length];exact z,r,λ p f n=>h w' _ ?_ y⟩
 have j :∃q,p.get? a=some q:=let ⟨q,_,_,hq,_⟩:=f;⟨q,hq⟩;exact z92 I (by rw [e];exact True.intro) n j (dk_new (K0 (zhg kvs k) z) m (b.drop k) f)
end
def NoSl (i:Expr):Prop:=∀ov iv,u9 i false ov iv=operate [ov,iv] (m8 ov iv)
theorem zil {prog:Program} {w:Q0} {A:X1} {E:Value->A0->Prop} {s:A0} {env:Env} {value slice:Expr} {pos:Pos} {T id:String} {Q:Value->A0->Prop}
  (hl:typeLookup (.type T) "__getitem__" = G3 (some (.builtin id))) (hs:NoSl slice)
  (h:S0 (B1 prog w) A (X2 value env) (λ o s₁=>S0 (B1 prog w) A (X2 slice env) (λ i s₂=>s₂.TypeIs o T/\S0 (B1 prog w) A (m8 o i) Q E s₂) E s₁) E s) :
  S0 (B1 prog w) A (X2 (.Subscript value slice pos) env) Q E s:=by
 refine Subscript_ (E3 h (λ o s₁ e=>E3 e (λ i s₂ b=>?_) λ _ _ x=>x) λ _ _ x=>x);obtain ⟨d,b⟩:=b;unfold subscriptTail;refine u0 ?_;rw [getitemInPython_of_ne d.not_modules];refine u0 (E9 d hl ?_);have a:S0 (B1 prog w) A (u9 slice false o i) (λ r c=>S0 (B1 prog w) A (letTemporaryGo value o r >>= λ _=>G3 r) Q E c) E s₂:=by rw [hs o i];exact wpAny_operating (E3 b (λ r c f=>u0 (wpAny_letTemporaryGo (G0 f))) λ _ _ x=>x)
 first
  | exact G0 (u0 a)
  | exact u0 (G0 (u0 a))
  | exact u0 a
theorem zca {X:Cx} {pins:List (Addr×Obj)} {σ:St} {H:Hp} {s:A0} {a:Addr} {y:V} {o:Option V} (I:Inv X pins σ H s) (g:DGet H a y o):s.TypeIs (.ref a) "dict":=by
 rcases g with ⟨d,k,e,_,_⟩|⟨d,k,b,e,_,_,_⟩
 ·obtain ⟨_,_,h,_,c⟩:=dk_rd I.hok e;exact c.typeIs
 ·obtain ⟨_,_,f,_,c⟩:=dt_rd I.hok e;exact c.typeIs
noncomputable def tDGet (td ty:TE):TE:=λ σ H Q=>td σ H λ x H1=>ty σ H1 λ y H2=>∃a v,x=.ref a/\DGet H2 a y (some v)/\Q v H2
noncomputable def tDIn (ty td:TE):TE:=λ σ H Q=>ty σ H λ y H1=>td σ H1 λ x H2=>∃a o,x=.ref a/\DGet H2 a y o/\Q (.bl o.isSome) H2
noncomputable def ziq (ty td:TE):TE:=λ σ H Q=>ty σ H λ y H1=>td σ H1 λ x H2=>∃a o,x=.ref a/\DGet H2 a y o/\Q (.bl (!o.isSome)) H2
noncomputable def sDPut (td ty tv:TE):TS:=λ D σ H=>tv σ H λ v H1=>td σ H1 λ x H2=>ty σ H2 λ y H3=>∃a H4,x=.ref a/\DPut H3 a y v H4/\D.nx σ H4
section
variable {X:Cx} {o i e value:Expr} {pos pos' tpos:Pos} {td ty tv:TE}
theorem z58 (hu:X.A.units + 1 < cLine) (ho:PE X o td) (hi:PE X i ty) (hs:NoSl i):PE X (.Subscript o i pos) (tDGet td ty):=by intro b s σ H Q I h;refine zil PySem.F.slot_dict_getitem.lookup hs (thn (ho b s σ H _ I h) λ u c ⟨x,H1,I1,rx,q1⟩=>thn (hi b c σ H1 _ I1 q1) λ k f ⟨y,H2,I2,ry,a,v,ex,g,q2⟩=>?_);subst ex;obtain rfl:u=W0 a:=rx;exact ⟨zca I2 g,zfq hu I2 g ry λ l j e d=>⟨v,H2,e,d,q2⟩⟩
theorem pc_din (hu:X.A.units + 1 < cLine) (hi:PE X i ty) (ho:PE X o td):PC X .In i o (tDIn ty td):=by intro b s σ H Q I h;refine thn (hi b s σ H _ I h) λ j c ⟨y,H1,I1,ry,q1⟩=>thn (ho b c σ H1 _ I1 q1) λ u e ⟨x,H2,I2,rx,a,ov,ex,g,q2⟩=>?_;subst ex;obtain rfl:u=W0 a:=rx;exact d_in hu I2 g ry λ f d=>⟨.bl ov.isSome,H2,d,rfl,q2⟩
theorem zgd (hu:X.A.units + 1 < cLine) (hi:PE X i ty) (ho:PE X o td):PC X .NotIn i o (ziq ty td):=by intro b s σ H Q I h;refine thn (hi b s σ H _ I h) λ j c ⟨y,H1,I1,ry,q1⟩=>thn (ho b c σ H1 _ I1 q1) λ u e ⟨x,H2,I2,rx,a,ov,ex,g,q2⟩=>?_;subst ex;obtain rfl:u=W0 a:=rx;exact zjd hu I2 g ry λ f d=>⟨.bl (!ov.isSome),H2,d,rfl,q2⟩
theorem z3t (hu:X.A.units + 1 < cLine) (ho:PE X o td) (hi:PE X i ty) (hv:PE X value tv) (hs:K6 value (some (.Subscript o i pos')) pos.line X.env=G3 false) :
  PS X (.Assign [.Subscript o i pos'] value pos) (sDPut td ty tv):=by
 intro b s σ H D I h;refine wpAny_Assign_Subscript (thn (hv b s σ H _ I h) λ r e ⟨v,H1,I1,rv,q1⟩=>thn (ho b e σ H1 _ I1 q1) λ u c ⟨x,H2,I2,rx,q2⟩=>thn (hi b c σ H2 _ I2 q2) λ j f ⟨y,H3,I3,ry,a,H4,ex,g,q3⟩=>?_) hs;subst ex;obtain rfl:u=W0 a:=rx;exact zfa hu I3 g ry rv λ k d=>⟨σ,H4,d,q3⟩
end
theorem zeo {P:Program} {w:Q0} {H:Hp} (h:Heap) (hb:F3 < h.objs.size):ObjOk P w H (h.push { cls:=.type "dict",data:=.dict #[] }) h.objs.size (.dK []):=
 ⟨j2 _,beq_eq_false_iff_ne.mpr (R3 (Y0 hb)),[],.nil,Heap.DictOf.new h⟩
noncomputable def tDNewK:TE:=λ _ H Q=>∀p,H p=none->Q (.ref p) (upd H p (.dK []))
section
variable {X:Cx} {pos:Pos}
theorem z7j:PE X (.Dict [] [] pos) tDNewK:=λ b s σ H Q I h=>wpAny_Dict_empty ⟨.ref s.heap.objs.size,_,I.laid (a:=s.heap.objs.size) (o:=.dK []) (t':=s.toks) (λ _ _ q=>F0 _ q) (C0 _) (zeo s.heap I.big),rfl,h _ (I.hok.fresh (C0 _))⟩
end
noncomputable def tPairs:List (TE×TE)->St->Hp->(List (V×V)->Hp->Prop)->Prop
 | [],_,H,Q=>Q [] H
 | (tk,tv) :: r,σ,H,Q=>tk σ H λ x H1=>tv σ H1 λ y H2=>tPairs r σ H2 λ ps H3=>Q ((x,y) :: ps) H3
abbrev VV:List (V×V)->List (Value×Value)->Prop:=z7 λ p q=>RelV p.1 q.1/\RelV p.2 q.2
def PPs (X:Cx) (pos:Pos) (keys:List (Option Expr)) (values:List Expr) (trs:List (TE×TE)):Prop:=
 ∀(pins:List (Addr×Obj)) (s:A0) (σ:St) (H:Hp) (Q:List (V×V)->Hp->Prop),Inv X pins σ H s->tPairs trs σ H Q->
  S0 (B1 X.prog X.w) X.A (evalPairs (pairTrees keys values X.env pos)) (λ vs s'=>∃ps H',Inv X pins σ H' s'/\VV ps vs/\Q ps H') X.xe s
theorem zbp {X:Cx} {pos:Pos}:PPs X pos [] [] []:=λ a s σ H Q I h=>pairTrees_nil_walk ⟨[],H,I,.nil,h⟩
theorem z7f {X:Cx} {pos:Pos} {k v:Expr} {ks:List (Option Expr)} {vs:List Expr} {tk tv:TE} {trs:List (TE×TE)} (hk:PE X k tk) (hv:PE X v tv) (hr:PPs X pos ks vs trs) :
  PPs X pos (some k :: ks) (v :: vs) ((tk,tv) :: trs):=λ a s σ H Q I h=>
 pairTrees_cons_walk (thn (hk a s σ H _ I h) λ u c ⟨x,H1,I1,rx,q1⟩=>thn (hv a c σ H1 _ I1 q1) λ f b ⟨y,H2,I2,ry,q2⟩=>thn (hr a b σ H2 _ I2 q2) λ d e ⟨ps,H3,I3,rel,q3⟩=>⟨(x,y) :: ps,H3,I3,.cons ⟨rx,ry⟩ rel,q3⟩)
noncomputable def mergeK (kvs more:List (Key×V)):List (Key×V):=more.foldl (λ acc kv=>putK acc kv.1 kv.2) kvs
theorem KV.merge :∀{more:List (Key×V)} {rs:List (Key×Value)} {kvs:List (Key×V)} {vs:List (Key×Value)},KV more rs->KV kvs vs->KV (mergeK kvs more) (merged vs rs):=by
 intro more rs kvs vs r;unfold KV at r;induction r generalizing kvs vs with
 | nil=>intro q;exact q
 | @cons p q ps qs h t ih=>
  intro a;have e:KV (putK kvs p.1 p.2) (stored vs q.1 q.2):=by have:=a.put p.1 h.2;rw [<-h.1];exact this
  exact ih e
theorem z5a :∀(more kvs:List (Key×V)),(mergeK kvs more).length<=kvs.length + more.length
 | [],kvs=>by show kvs.length<=kvs.length + 0;lia
 | p :: r,kvs=>by have b:=z5a r (putK kvs p.1 p.2);have a:=z4v kvs p.1 p.2;show (mergeK (putK kvs p.1 p.2) r).length<=_;rw [D1];lia
theorem z9m {P:Program} {w:Q0} :∀{kvs:List (Key×V)} {ws:List (Value×Value)},VV (kvs.map λ kv=>(kV kv.1,kv.2)) ws->∃rs,Carries (z0p P w) ws rs/\KV kvs rs
 | [],_,r=>by rw [d6] at r;cases r;exact ⟨[],True.intro,.nil⟩
 | p :: kvs,_,r=>by
  rw [j1] at r;cases r with
  | @cons a b as bs h t=>obtain ⟨rs,c,q⟩:=z9m (P:=P) (w:=w) t;obtain ⟨e,d⟩:=b;exact ⟨(p.1,d) :: rs,⟨kV_is h.1,rfl,c⟩,.cons ⟨rfl,h.2⟩ q⟩
noncomputable def tDisp (trs:List (TE×TE)):TE:=λ σ H Q=>∀p,H p=none->tPairs trs σ (upd H p (.dK [])) λ ps H2=>H2 p=some (.dK [])/\∃kvs:List (Key×V),ps=kvs.map (λ kv=>(kV kv.1,kv.2))/\kvs.length<=15/\Q (.ref p) (upd H2 p (.dK (mergeK [] kvs)))
theorem zay {X:Cx} {pos:Pos} {keys:List (Option Expr)} {values:List Expr} {trs:List (TE×TE)} (h:PPs X pos keys values trs) (hall:keys.all (·.isSome)=true) (hl:keys.length=values.length) (h0:keys≠[])
  (h15:keys.length<=15):PE X (.Dict keys values pos) (tDisp trs):=by
 intro m s σ H Q I q;have g:=I.hok.fresh (C0 s.heap.objs.size);have n:=I.laid (a:=s.heap.objs.size) (o:=.dK []) (h':=s.heap.push { cls:=.type "dict",data:=.dict #[] }) (t':=s.toks) (λ _ _ q=>F0 _ q) (C0 _) (zeo s.heap I.big);refine wpAny_Dict_walk (knd:=z0p X.prog X.w) hall hl h0 h15 (thn (h m _ σ _ _ n (q _ g)) λ t v ⟨ps,H2,I2,rel,e,kvs,ep,lk,q2⟩=>?_);subst ep;obtain ⟨rs,c,i⟩:=z9m (P:=X.prog) (w:=X.w) rel;obtain ⟨z,k,u,p,r⟩:=dk_of I2.hok e;cases p;refine ⟨rs,c,r,λ h' b f=>⟨.ref s.heap.objs.size,_,?_,rfl,q2⟩⟩;have l:(mergeK [] kvs).length<=sizeLine:=by have j:=z5a kvs [];rw [P3] at j;rw [sizeLine_eq];lia
 have d :∃q,h'.get? s.heap.objs.size=some q:=let ⟨q,_,_,hq,_⟩:=b;⟨q,hq⟩;exact z92 I2 (by rw [e];exact True.intro) f d (dk_new l k (i.merge .nil) b)
structure M1 (X:Cx) (o:Expr) (m:Str) (apos:Pos) (e:Expr) (cpos:Pos):Prop where
 base:M3 o m X.env (X2 o X.env)=X2 o X.env
 few:((w4 cpos (K1 [e] X.env)).all (λ x=>!x.1) && (O8 cpos (c7 [] X.env)).all (λ x=>x.1.isSome)
  && decide (([e]:List Expr).length + ([]:List J6).length + (if ([]:List J6).isEmpty then 0 else 1) < 30))=true
 line:(apos.endLine == cpos.line)=true
 trees:w4 cpos (K1 [e] X.env)=[(false,X2 e X.env)]
structure M2 (X:Cx) (o:Expr) (m:Str) (apos:Pos) (e f:Expr) (cpos:Pos):Prop where
 base:M3 o m X.env (X2 o X.env)=X2 o X.env
 few:((w4 cpos (K1 [e,f] X.env)).all (λ x=>!x.1) && (O8 cpos (c7 [] X.env)).all (λ x=>x.1.isSome)
  && decide (([e,f]:List Expr).length + ([]:List J6).length + (if ([]:List J6).isEmpty then 0 else 1) < 30))=true
 line:(apos.endLine == cpos.line)=true
 trees:w4 cpos (K1 [e,f] X.env)=[(false,X2 e X.env),(false,X2 f X.env)]
def IsD (H:Hp) (a:Addr):Prop:=(∃kvs,Rd H a (.dK kvs))\/∃kvs,Rd H a (.dT kvs)
theorem isD_at {X:Cx} {pins:List (Addr×Obj)} {σ:St} {H:Hp} {s:A0} {a:Addr} (I:Inv X pins σ H s) (d:IsD H a) :
  s.TypeIs (.ref a) "dict"/\(∀b,W0 a=.ref b->∃ob,s.heap.get? b=some ob/\ob.dict=none)/\(a == F3)=false:=by
 rcases d with ⟨i,e⟩|⟨i,e⟩
 ·obtain ⟨_,g,j,_,c⟩:=dk_rd I.hok e;refine ⟨c.typeIs,λ b q=>?_,g⟩;cases q;obtain ⟨ob,_,_,f,h,_⟩:=c;exact ⟨ob,f,h.2.1⟩
 ·obtain ⟨_,g,k,_,c⟩:=dt_rd I.hok e;refine ⟨c.typeIs,λ b q=>?_,g⟩;cases q;obtain ⟨ob,_,_,f,h,_⟩:=c;exact ⟨ob,f,h.2.1⟩
section
variable {X:Cx} {pins:List (Addr×Obj)} {σ:St} {H:Hp} {s:A0} {a:Addr} {y d:V} {u r:Value} {o:Option V} {A:X1} {E:Value->A0->Prop}
theorem d_get1 {Q:Value->A0->Prop} (hu:A.units + 1 < cLine) (I:Inv X pins σ H s) (g:DGet H a y o) (ry:RelV y u) (h :∀w' s',Inv X pins σ H s'->RelV (o.getD .non) w'->Q w' s') :
  S0 (B1 X.prog X.w) A (call (.builtin "dict.get") [.ref a,u]) Q E s:=by
 rcases g with ⟨m,k,e,f,l⟩|⟨m,k,b,e,f,eb,l⟩
 ·subst f;obtain ⟨z,d,n,i,c⟩:=dk_rd I.hok e;refine N8 X6 c.typeIs n9 (V8 _ _) (meets_dict_get (z0p X.prog X.w) a (kV_is ry) d) ⟨_,c.mapOf,h _ _ (I.tok _) ?_⟩;rw [l];exact (i.val k).getD rfl
 ·subst f;cases (show u=W0 b from ry);obtain ⟨z,d,j,i,c⟩:=dt_rd I.hok e;refine N8 X6 c.typeIs n9 (V8 _ _) (meetsH_dict_get (C5 (z0p X.prog X.w)) a b d) ⟨z5 hu,k,j,key_of I.hok eb,c,h _ _ (I.tok _) ?_⟩;rw [l];exact (i.val k).getD rfl
end
noncomputable def tDGet1 (td ty:TE):TE:=λ σ H Q=>td σ H λ x H1=>∃a,x=.ref a/\IsD H1 a/\ty σ H1 λ y H2=>∃o,DGet H2 a y o/\Q (o.getD .non) H2
noncomputable def tDPop1 (td ty:TE):TE:=λ σ H Q=>td σ H λ x H1=>∃a,x=.ref a/\IsD H1 a/\ty σ H1 λ y H2=>∃kvs k v,H2 a=some (.dK kvs)/\y=kV k/\valV kvs k=some v/\Q v (upd H2 a (.dK (dropK kvs k)))
section
variable {X:Cx} {o e f:Expr} {apos cpos:Pos} {td ty tx:TE}
theorem zew (hu:X.A.units + 1 < cLine) (ho:PE X o td) (he:PE X e ty) (m:M1 X o "get" apos e cpos):PE X (.Call (.Attribute o "get" apos) [e] [] cpos) (tDGet1 td ty):=by intro b s σ H Q I h;refine wpAny_Call_method m.base m.few m.line F6 X6 PySem.F.type_dict_get (thn (ho b s σ H _ I h) λ u f ⟨x,H1,I1,rx,a,ex,d,q1⟩=>?_);subst ex;obtain rfl:u=W0 a:=rx;obtain ⟨c,k,_⟩:=isD_at I1 d;refine ⟨c,k,?_⟩;rw [m.trees];refine X3 rfl (N7 (W3 (thn (he b f σ H1 _ I1 q1) λ p l ⟨y,H2,I2,ry,ov,g,q2⟩=>u4 ?_)));exact d_get1 hu I2 g ry λ q n j i=>⟨_,H2,j,i,q2⟩
theorem zi4 (ho:PE X o td) (he:PE X e ty) (m:M1 X o "pop" apos e cpos):PE X (.Call (.Attribute o "pop" apos) [e] [] cpos) (tDPop1 td ty):=by intro b s σ H Q I h;refine wpAny_Call_method m.base m.few m.line F6 A9 PySem.F.type_dict_pop (thn (ho b s σ H _ I h) λ u f ⟨x,H1,I1,rx,a,ex,d,q1⟩=>?_);subst ex;obtain rfl:u=W0 a:=rx;obtain ⟨c,j,_⟩:=isD_at I1 d;refine ⟨c,j,?_⟩;rw [m.trees];refine X3 rfl (N7 (W3 (thn (he b f σ H1 _ I1 q1) λ q n ⟨y,H2,I2,ry,kvs,k,v,ea,ey,l,q2⟩=>u4 ?_)));subst ey;exact d_pop I2 ea ry l (.inl rfl) λ r p i g=>⟨v,_,i,g,q2⟩
end
end L2
namespace Att
open PySem PySem.W PySem.Calls PyProof.Rows
theorem z6i {P:M0} {h:Heap} :∀(ns:List Int) (vs:List Value),WellAll P h vs (ns.map WData.int)->J3 vs ns:=by
 intro ns;induction ns with
 | nil=>intro vs w;rw [d6] at w;cases w;exact .nil
 | cons n ns ih=>
  intro vs w;rw [j1] at w;cases w with
  | cons a b=>cases a;exact .cons _ _ (ih _ b)
theorem zg0 {l:OpenLaw} {n:Nat} (hn:l.most=some n) {P:M0} {h:Heap} {args:List WData} {vals:List Value}
  (hpre:l.row.toRowW.claim.pre args=true) (hwl:WellAll P h vals args) :
  ∃a vs ns,vals=[W0 a]/\args=[WData.list (ns.map WData.int)]/\h.get? a=some { cls:=.type "list",data:=.seq vs.toArray }/\J3 vs ns/\ns.length<=n:=by
 have m:WShape.hasAll [] args [.list .int]=true:=(pre_splitW hpre).1;have e:l.pre.holds [] { args:=args }=true:=(pre_splitW hpre).2;obtain ⟨d,r,rfl,f,j⟩:=hasAllW_cons m;obtain rfl:=hasAllW_nil j;obtain ⟨o,rfl,i⟩:=hasW_list f;obtain ⟨ns,rfl⟩:=items_int i;have k:ns.length<=n:=by
  unfold OpenLaw.pre at e;have b:(WTm.not (.lt (.lit (.int (n:Int))) (.len (.arg 0)))).holds [] { args:=[.list (ns.map .int)] }=true:=by have b:=(holds_andW e).1;rw [hn] at b;exact b
  have c:=condW_of b (w_not (w_lt w_lit (w_len_list (w_arg rfl))));rw [L0] at c;refine Z6 λ q=>?_;have g:(n:Int) < ((ns.length:Nat):Int):=by lia
  first
   | (rw [decide_eq_true g] at c;exact absurd c (by decide))
   | (simp at c;lia)
 cases hwl with
 | cons w1 w2=>
  cases w2;cases w1 with
  | list ho hall=>exact ⟨_,_,ns,rfl,rfl,ho,z6i ns _ hall,k⟩
theorem zfk (l:OpenLaw) (args:List WData):l.row.toRowW.claim.post args (.bool true) args=true:=
 postW_of (r:=l.row.toRowW) (X:=(true == true))
  (show WShape.has [] (.bool true) .bool=true by first|rfl|decide|simp [WShape.has,WShape.arms,WShape.armsAll])
  (show (WTm.eq .res (.lit (.bool true))).value [] { args:=args,res:=some (.bool true),after:=args }=some (.bool (true == true)) from w_eq_bool (w_res rfl) w_lit) rfl
theorem attach_call {l:OpenLaw} {n:Nat} {q:Program} {loose:List Str} {XP:(Str->Option Value)->Heap->Prop} {YP:Q0->Heap->Prop} {d:DefRec}
  (hn:l.most=some n) (hdf:d.params.defaults=[])
  (call :∀(w:Q0) (s₀ s₁:A0) (mg mb:Str->Option Value) (fa:Addr) (o:Obj) (pm cd doc:Value) (a:Addr) (vs:List Value) (ns:List Int),
   Ground q loose [] XP w s₀ mg mb s₁.heap->YP w s₁.heap->
   s₁.heap.get? fa=some o->o.data=.func (docDef d.name d.params d.body d.scope pm cd doc)->s₁.heap.CodeRec cd d.name->mg d.name=some (.ref fa)->
   s₁.heap.get? a=some { cls:=.type "list",data:=.seq vs.toArray }->J3 vs ns->ns.length<=n->s₁.gens = #[]->
   Z5 (B1 l.prog w) M8 (.call (.ref fa) ⟨[.ref a],[]⟩) (λ r s'=>r=.ok (.ret (.bool true))/\OldK s₁.heap s'.heap/\s'.os=s₁.os/\j7 s'.gens) s₁) :
  WalkO q loose XP YP l.row.toRowW d [] (λ f vs=>PySem.call f vs):=by
 intro w s₀ s₁ mg mb G Y fa o pm cd doc k kV v t g b p z E C F c D B i A;obtain rfl:k=.none:=Dflts.none b hdf;obtain rfl:kV=.none:=Dflts.noKw b;obtain ⟨a,vs,ns,rfl,rfl,u,s,h⟩:=zg0 hn c i;refine enter_call (B6 (call w s₀ s₁ mg mb fa o pm cd doc a vs ns G Y v (fd_plain t) g p u s h z) λ r s' m=>?_);obtain ⟨rfl,y,e,j⟩:=m;exact ⟨.inl ⟨.bool true,.bool true,[],rfl,λ _=>rfl,.bool true,zfk l _,λ _=>⟨C7,λ _ x=>(nomatch x)⟩⟩,y,e,j⟩
end Att
namespace L2
open PySem PySem.Spec PyProof.Rows
theorem z7s :∀{vs:List Value} {ns:List Int},J3 vs ns->Vals (ns.map V.int) vs
 | _,_,.nil=>.nil
 | _,_,.cons n t h=>.cons ⟨t,rfl⟩ (z7s h)
def Only (H:Hp):Prop:=∀b,H b=none\/∃o xs,H b=some (.frz o (.lst xs))
theorem zhc {P:Program} {w:Q0} {K:d0} {mg mb:Str->Option Value} {CX:CXT} {k:Nat} {fa a:Addr} {fd:FuncData} {x:Str} {sp:Sp} {s₁:A0} {vs:List Value} {ns:List Int}
  (KX:K.In s₁.heap) (hns:s₁.heap.Ns Y2 mg) (hb:s₁.heap.Ns builtinsNs mb) (hbb :∀x:Str,x≠"__name__"->mb x=V4 x) (hlim:s₁.heap.NoLimit) (hg:s₁.gens = #[])
  (ha:s₁.heap.get? a=some { cls:=.type "list",data:=.seq vs.toArray }) (hi:J3 vs ns) (hl:ns.length<=sizeLine) (hr:Room k M8)
  (F :∀base:Heap,K.In base->base.Ns Y2 mg->FnOk P w K mg base CX k fa fd [x] sp) (hbind :∀(s:A0) (u:Value),BindsTo s fd ⟨[u],[]⟩ [(x,u)])
  (hsp :∀H:Hp,Only H->SqL K H a (ns.map V.int)->sp [.ref a] H (λ v _=>v=.bl true) λ _ _ _=>False)
  (hCX :∀H e s',CX [] H s₁ (λ _ _ _=>False) e s'->False) :
  Z5 (B1 P w) M8 (.call (.ref fa) ⟨[.ref a],[]⟩) (λ r s'=>r=.ok (.ret (.bool true))/\OldK s₁.heap s'.heap/\s'.os=s₁.os/\j7 s'.gens) s₁:=by
 have j:=z7s hi;have J:=hi.length
 -- from an abstract heap in which nothing but the script may be tracked
 have y :∀H:Hp,Only H->SqL K H a (ns.map V.int)->HOk P w H s₁.heap->(∀b,H b≠none->b=a)->(H a≠none->K.lookup a=none)->
   Z5 (B1 P w) M8 (.call (.ref fa) ⟨[.ref a],[]⟩) (λ r s'=>r=.ok (.ret (.bool true))/\OldK s₁.heap s'.heap/\s'.os=s₁.os/\j7 s'.gens) s₁:=by
  intro H i L l B G;have p :∀{b:Addr} {o:Obj},s₁.heap.get? b=some o->H b=none->(hidT s₁.heap H).get? b=some o:=λ e n=>zhw e n;have R :∀{b:Addr} {o:Obj} {es:Array DictEntry} {ep:Nat},s₁.heap.get? b=some o->o.data=.dict es ep->H b=none:=λ {b o es ep} e d=>by
   cases q:H b with
   | none=>rfl
   | some u=>have g:b=a:=B b (by rw [q];simp);subst g;rw [ha] at e;cases e;have N:Data.seq vs.toArray _=Data.dict es ep:=d;cases N
  have f :∀{b:Addr} {m:Str->Option Value},s₁.heap.Ns b m->(hidT s₁.heap H).Ns b m:=λ {b m} ⟨o,es,ep,e,d,r⟩=>⟨o,es,ep,p e (R e d),d,r⟩
  have A:K.In (hidT s₁.heap H):=λ b o e=>p (KX b o e) (by
   cases q:H b with
   | none=>rfl
   | some u=>have g:b=a:=B b (by rw [q];simp);subst g;rw [G (by rw [q];simp)] at e;cases e)
  have C:Mod K mg (hidT s₁.heap H):=⟨A,f hns,⟨mb,f hb,hbb⟩,let ⟨mc,h1,h2⟩:=hlim;⟨mc,f h1,h2⟩⟩
  have Q:Env0 P w K mg (hidT s₁.heap H) M8 [] s₁ H:=⟨rfl,C,λ b o e=>zj4 e,u8 (zey _ _),trivial,λ b hb=>absurd (show b∈([]:List Addr) from hb) (by simp),l,.of_eq hg⟩
  refine B6 ((F _ A (f hns)).run M8 [] s₁ H ⟨[.ref a],[]⟩ [.ref a] [.ref a] _ _ hr Q (hbind s₁ (.ref a)) (.cons rfl .nil) (hsp H i L)) λ r s' h=>?_;cases r with
  | error e=>exact (hCX H e s' h).elim
  | ok fl=>
   cases fl with
   | next=>exact K3 h
   | brk=>exact K3 h
   | cont=>exact K3 h
   | ret u=>
    obtain ⟨v,T,os,O,un,S,I,q⟩:=h;have D:v=.bl true:=q;subst D;obtain rfl:u=U3 true:=I;refine ⟨rfl,OldK.of_keep λ b o e=>?_,os,O⟩;cases q:H b with
    | none=>exact un.keep b o e q (by intro z;exact absurd (show b∈([]:List Addr) from z) (by simp)) (by simp)
    | some u=>
     rcases i b with z|⟨ob,xs,z⟩
     ·rw [q] at z;cases z
     ·have E:=un.frzs b ob _ z;obtain ⟨t,_⟩:=l b _ z;obtain ⟨M,_⟩:=S b _ E;rw [e] at t;cases t;exact M
 cases hk:K.lookup a with
 | some o=>
  -- the script is one of the module's own objects
  have e:=KX a o hk;rw [ha] at e;cases e;refine y (λ _=>none) (λ _=>.inl rfl) (.inr ⟨_,vs.toArray,_,hk,rfl,rfl,rfl,by rw [T0,J];exact hl,by simpa using j⟩) (λ b u z=>by have c:(none:Option HO)=some u:=z;cases c) (λ b z=>absurd rfl z) λ z=>absurd rfl z
 | none=>
  refine y (λ b=>if b=a then some (.frz { cls:=.type "list",data:=.seq vs.toArray } (.lst (ns.map V.int))) else none) (λ b=>?_) (.inl (.inr ⟨{ cls:=.type "list",data:=.seq vs.toArray },if_pos rfl⟩)) (λ b u z=>?_) (λ b z=>?_) λ _=>hk
  ·by_cases hb:b=a
   ·exact .inr ⟨_,_,if_pos hb⟩
   ·exact .inl (if_neg hb)
  ·by_cases hb:b=a
   ·have c:=(if_pos hb).symm.trans z;cases c;subst hb;exact ⟨ha,by rw [L0];exact hl,vs,_,j,ha⟩
   ·have c:=(if_neg hb).symm.trans z;cases c
  ·by_cases hb:b=a
   ·exact hb
   ·exact absurd (if_neg hb) z
theorem walk_of {l:PySem.W.OpenLaw} {n k:Nat} {q:Program} {loose:List Str} {XP:(Str->Option Value)->Heap->Prop} {YP:Q0->Heap->Prop} {d:DefRec} {K:M0->d0} {CX:Q0->CXT} {sp:Q0->Sp} {x:Str}
  (hn:l.most=some n) (hn2:n<=sizeLine) (hdf:d.params.defaults=[]) (hr:Room k M8)
  (hY :∀(w:Q0) (h:Heap),YP w h->(K w.params).In h)
  (F :∀(w:Q0) (mg:Str->Option Value) (fa:Addr) (h:Heap),(K w.params).In h->h.Ns Y2 mg->mg d.name=some (.ref fa)->
   ∃fd:FuncData,(∀(s:A0) (u:Value),BindsTo s fd ⟨[u],[]⟩ [(x,u)])/\
    ∀base:Heap,(K w.params).In base->base.Ns Y2 mg->FnOk l.prog w (K w.params) mg base (CX w) k fa fd [x] (sp w))
  (hsp :∀(w:Q0) (H:Hp) (a:Addr) (ns:List Int),ns.length<=n->Only H->SqL (K w.params) H a (ns.map V.int)->sp w [.ref a] H (λ v _=>v=.bl true) λ _ _ _=>False)
  (hCX :∀(w:Q0) (H:Hp) (s:A0) (e:Value) (s':A0),CX w [] H s (λ _ _ _=>False) e s'->False) :
  PySem.W.WalkO q loose XP YP l.row.toRowW d [] (λ f vs=>PySem.call f vs):=by
 refine Att.attach_call hn hdf λ w I i mg E fa o B D M a vs ns G Y L J C r z y c m=>?_;have KX:=hY w _ Y;obtain ⟨fd,j,t⟩:=F w mg fa _ KX G.T.g r;exact zhc KX G.T.g G.T.b G.T.builtins G.T.nolimit m z y (K0 c hn2) hr t j (λ H p A=>hsp w H a ns c p A) λ H e s'=>hCX w H i e s'
noncomputable def z8y (s:Stmt):Arguments:=match s with
 | .FunctionDef _ a _ _ _ _ _ _ _ _=>a
 | _=>{ posonlyargs:=[],args:=[],vararg:=none,kwonlyargs:=[],kw_defaults:=[],kwarg:=none,defaults:=[] }
noncomputable def z5h (s:Stmt):List Stmt:=match s with
 | .FunctionDef _ _ b _ _ _ _ _ _ _=>b
 | _=>[]
noncomputable def z06 (s:Stmt):Scope:=match s with
 | .FunctionDef _ _ _ _ _ _ sc _ _ _=>sc
 | _=>{ kind:=.function,names:=[],isGenerator:=false,isCoroutine:=false }
noncomputable abbrev CX0:CXT:=λ _ _ _ _ _ _=>False
noncomputable abbrev E0:XK:=λ _ _ _=>False
theorem pass0 {X:Cx}:Passes CX0 X E0:=λ _ _ _ _ _ _ _ h=>h.elim
structure Fun (K:d0) (x qual:Str) (st:Stmt) (f:Addr) (fd:FuncData):Prop where
 ex :∃(oc:Value) (od:Option Addr) (kV doc pm:Value) (an:Option Addr) (cdv ct:Value) (osl:Array (Option Value)),
  fd=c5 x qual (z8y st) (z5h st) (z06 st) .none kV doc pm an cdv ct/\K.lookup f=some ⟨oc,od,.func fd,osl⟩/\v7 K cdv qual=true
 kp:j3 K (.ref f)=true
section
variable {P:Program} {w:Q0} {K:d0} {mg:Str->Option Value} {base:Heap}
theorem Fun.ok {x qual:Str} {st:Stmt} {f:Addr} {fd:FuncData} {N ps:List Str} {k:Nat} {sp:Sp} (F:Fun K x qual st f fd) (S:FnScope N ps (z06 st)) (len :∀vs H Q E,sp vs H Q E->vs.length=ps.length)
  (hbody :∀(cdv:Value) (A:X1) (outer:List Env) (s:A0) (H:Hp) (vs:List V) (Q:VK) (E:XK),Room k (A.deeper (R7 qual (z06 st) s.heap.objs.size f cdv))->sp vs H Q E->
   ∃t,PSs (cxOf CX0 P w K mg base N qual (z06 st) f cdv A outer s H E).nox (z5h st) t/\t { nx:=λ _ H'=>Q .non H',rt:=Q } (start N vs) H):FnOk P w K mg base CX0 (k + 1) f fd ps sp:=by
 obtain ⟨m,e,kV,i,l,n,cdv,g,j,rfl,c,b⟩:=F.ex;refine fn_of c b S len λ A outer s H vs Q E a d=>?_;obtain ⟨t,h,q⟩:=hbody cdv A outer s H vs Q E a d;exact ⟨t,h.nox,q⟩
theorem Fun.binds {x qual:Str} {st:Stmt} {f:Addr} {fd:FuncData} {ps:List Str} (F:Fun K x qual st f fd)
  (h :∀(kV doc pm:Value) (an:Option Addr) (cdv ct:Value) (us:List Value),us.length=ps.length->bindArgs (c5 x qual (z8y st) (z5h st) (z06 st) .none kV doc pm an cdv ct) ⟨us,[]⟩=G3 (ps.zip us)):Binds K fd ps []:=by
 obtain ⟨d,a,kV,doc,pm,an,cdv,ct,c,rfl,e,b⟩:=F.ex;exact .all (h kV doc pm an cdv ct)
theorem fun_mk {x qual:Str} {st:Stmt} {f:Addr} {oc:Value} {od an:Option Addr} {osl:Array (Option Value)} {kV doc pm cdv ct:Value} (l:K.lookup f=some ⟨oc,od,.func (c5 x qual (z8y st) (z5h st) (z06 st) .none kV doc pm an cdv ct),osl⟩)
  (c:v7 K cdv qual=true) (k:j3 K (.ref f)=true):Fun K x qual st f (c5 x qual (z8y st) (z5h st) (z06 st) .none kV doc pm an cdv ct):=⟨⟨oc,od,kV,doc,pm,an,cdv,ct,osl,rfl,l,c⟩,k⟩
end
theorem hu_of {A:X1} {k:Nat} (hr:Room k A):A.units + 1 < cLine:=U0 (Nat.add_le_add_left (by decide:1<=64) _) hr.units
section
variable {X:Cx}
theorem pv (i:Nat) {x:Str} {pos:Pos} (hN:X.N[i]? = some x:=by rfl) (hv:Vis X.env.scope x:=by first|exact O0 rfl|exact N0 (O0 rfl)|exact N0 (N0 rfl)) (hd:(x == ("__debug__" : Str))=false:=by decide)
  (hcd:(x == ("__classdict__" : Str))=false:=by decide):PE X (.Name x pos) (tVar i):=pe_var hN hv hd hcd
end
theorem iteF {A B:Prop} (h:B):if false=true then A else B:=by rw [if_neg Z0];exact h
theorem iteT {A B:Prop} (h:A):if true=true then A else B:=by rw [if_pos rfl];exact h
theorem ite2 {c A B:Prop} [Decidable c] (h1:c->A) (h2:¬ c->B):if c then A else B:=by
 by_cases h:c
 ·rw [if_pos h];exact h1 h
 ·rw [if_neg h];exact h2 h
def Same (H H':Hp):Prop:=∀b o,H b=some o->H' b=some o
theorem Same.refl (H:Hp):Same H H:=λ _ _ h=>h
theorem Same.trans {H H1 H2:Hp} (a:Same H H1) (b:Same H1 H2):Same H H2:=λ c o h=>b c o (a c o h)
theorem Same.free {H H':Hp} (e:Same H H') {l:Addr} (h:H' l=Option.none):H l=Option.none:=by
 cases q:H l with
 | none=>rfl
 | some o=>rw [e l o q] at h;cases h
theorem Same.seq {K:d0} {H H':Hp} {a:Addr} {xs:List V} (e:Same H H') (h:SqL K H a xs):SqL K H' a xs:=by
 rcases h with (h|⟨o,h⟩)|h
 ·exact .inl (.inl (e _ _ h))
 ·exact .inl (.inr ⟨o,e _ _ h⟩)
 ·exact .inr h
section
variable {κ:Type} [DecidableEq κ]
theorem zf8 {p:κ×V} {r:List (κ×V)} {k:κ} (e:p.1=k):dropK (p :: r) k=dropK r k:=by unfold dropK;rw [D5,if_neg (by simp [e])]
theorem zf5 {p:κ×V} {r:List (κ×V)} {k:κ} (e:¬ p.1=k):dropK (p :: r) k=p :: dropK r k:=by unfold dropK;rw [D5,if_pos (by simp [e])]
end
end L2
set_option maxHeartbeats 4000000
namespace L2
open PySem PySem.Spec PyProof.Rows
section
variable {prog:Program} {w:Q0} {A:X1} {R:Result->A0->Prop} {s:A0}
theorem zff {elt target iter:Expr} {ifs:List Expr} {scope:Scope} {pos:Pos} {it acc:Value} {env:Env} (J:Nat->A0->Prop)
  (turn :∀n s,J n s->S0 (B1 prog w) A (F8 it) (λ r s₁=>match r with
   | none=>R (.ok .next) s₁
   | some v=>S0 (B1 prog w) A (U7 target it v) (λ _ s₂=>S0 (B1 prog w) A (assign target env v) (λ _ s₃=>
     S0 (B1 prog w) A (L8 ifs true λ c r=>if r=true then do let ok <-isTrue c env (X2 c env);G3 (N2 ok) else G3 (N2 r)) (λ ok s₄=>
      if ok=true then S0 (B1 prog w) A (X2 elt env) (λ x s₅=>S0 (B1 prog w) A (call (.builtin "list.append") [acc,x]) (λ _ s₆=>∃m,m < n/\J m s₆) (λ _ _=>False) s₅) (λ _ _=>False) s₄
      else∃m,m < n/\J m s₄) (λ _ _=>False) s₃) (λ _ _=>False) s₂) (λ _ _=>False) s₁) (λ _ _=>False) s)
  (n:Nat) (h:J n s):Z5 (B1 prog w) A (.compLoop (.ListComp elt [⟨target,iter,ifs,0⟩] scope pos) 0 it acc env) R s:=by
 refine codeAny_loop rfl J (λ n s d=>?_) n h;show S0 _ A ((compTurn (.ListComp elt [⟨target,iter,ifs,0⟩] scope pos) 0 it acc env).onRaise (λ x=>do noteFrame x env;theTreesLotGoes x)) _ _ s;refine wpAny_noted ?_;rw [compTurn_list];refine u0 (z8 (u0 (E3 (turn n s d) (λ r s₁ b=>?_) λ _ _ f=>f.elim)));cases r with
 | none=>exact G0 b
 | some v=>
  refine u0 (E3 b (λ _ s₂ g=>u0 (E3 g (λ _ s₃ i=>u0 (E3 i (λ ok s₄ a=>?_) λ _ _ f=>f.elim)) λ _ _ f=>f.elim)) λ _ _ f=>f.elim);cases ok with
  | false=>exact G0 ⟨rfl,a⟩
  | true=>exact u0 (u0 (E3 a (λ x s₅ j=>u0 (E3 j (λ _ s₆ e=>G0 (G0 ⟨rfl,e⟩)) λ _ _ f=>f.elim)) λ _ _ f=>f.elim))
end
theorem z38 {env:Env} :∀(names:List (Str×M5)) (acc:List (Str×Addr)),(∀y∈names,y.2=Y1->∃c,env.cells.lookup y.1=some c)->(∀y c,acc.lookup y=some c->env.cells.lookup y=some c)->
  ∃cl,(L8 names acc λ (x:Str×M5) (r:List (Str×Addr))=>(match x with
    | (name,kind)=>if (kind == Y1)=true then do let c <-cellOf env name;G3 (N2 ((name,c) :: r)) else G3 (N2 r):Sem (ForInStep (List (Str×Addr)))))=G3 cl/\
   (∀y c,cl.lookup y=some c->env.cells.lookup y=some c)/\(∀y,((y,Y1)∈names\/∃c,acc.lookup y=some c)->∃c,cl.lookup y=some c)
 | [],acc,_,ha=>⟨acc,by rw [o5],ha,λ y h=>h.elim (λ z=>nomatch z) id⟩
 | (n,k) :: r,acc,hf,ha=>by
  rw [X4];dsimp only;by_cases hk:k=Y1
  ·subst hk;obtain ⟨c,j⟩:=hf (n,.free) N1 rfl;have e:cellOf env n=G3 c:=by unfold cellOf;rw [j]
   rw [if_pos (by rfl),e];obtain ⟨cl,f,i,g⟩:=z38 r ((n,c) :: acc) (λ y a=>hf y (F1 _ a)) (λ y d b=>by
    rw [O4] at b;by_cases a:(y == n)=true
    ·rw [a] at b;have:=eq_of_beq a;subst this;cases b;exact j
    ·rw [C8] at a;rw [a] at b;exact ha y d b)
   refine ⟨cl,f,i,λ y a=>g y ?_⟩;rcases a with a|⟨d,b⟩
   ·rcases List.mem_cons.mp a with z|z
    ·cases z;exact .inr ⟨c,by rw [O4];simp⟩
    ·exact .inl z
   ·refine .inr ?_;rw [O4];by_cases a:(y == n)=true
    ·rw [a];exact ⟨c,rfl⟩
    ·rw [C8] at a;rw [a];exact ⟨d,b⟩
  ·rw [if_neg (by simpa using hk)];obtain ⟨cl,f,i,g⟩:=z38 r acc (λ y a=>hf y (F1 _ a)) ha;refine ⟨cl,f,i,λ y a=>g y ?_⟩;rcases a with a|a
   ·rcases List.mem_cons.mp a with z|z
    ·cases z;exact absurd rfl hk
    ·exact .inl z
   ·exact .inr a
theorem ze4 {scope:Scope} {env:Env} (hf :∀y∈scope.names,y.2=Y1->∃c,env.cells.lookup y.1=some c) :
  ∃cl,closureFor scope env=G3 cl/\(∀y c,cl.lookup y=some c->env.cells.lookup y=some c)/\(∀y,(y,Y1)∈scope.names->∃c,cl.lookup y=some c):=by
 obtain ⟨cl,a,d,b⟩:=z38 (env:=env) scope.names [] hf (λ _ _ z=>nomatch z);refine ⟨cl,?_,d,λ y e=>b y (.inl e)⟩;simp only [closureFor];rw [a];rfl
theorem mem_of_lookup {κ:Type} {y:Str} {k:κ} :∀{l:List (Str×κ)},l.lookup y=some k->(y,k)∈l
 | (n,c) :: r,h=>by
  rw [O4] at h;by_cases hy:(y == n)=true
  ·rw [hy] at h;cases h;rw [eq_of_beq hy];exact N1
  ·rw [C8] at hy;rw [hy] at h;exact F1 _ (mem_of_lookup h)
theorem z5o {scope:Scope} {env:Env} (hcell :∀y∈scope.names,y.2≠NameKind.cell) {y:Str} {k:M5} (h:(b7 scope env).names.lookup y=some k) (hk:k=.cell\/k=.free):(y,Y1)∈scope.names:=by
 have m:=mem_of_lookup h;unfold b7 at m;obtain ⟨⟨n,c⟩,a,e⟩:=List.mem_map.mp m;dsimp only at e;by_cases hc:(c == Y1)=true
 ·have:=eq_of_beq hc;subst this;split at e<;>(injection e with e1 e2;subst e1;exact a)
 ·rw [if_neg (by simp [hc])] at e;injection e with e1 e2;subst e1 e2;rcases hk with rfl|rfl
  ·exact absurd rfl (hcell _ a)
  ·exact absurd rfl hc
noncomputable abbrev cxComp (X:Cx) (scope:Scope) (cl:List (Str×Addr)) (N:List Str) (C:Addr) (s₂:A0) (H₂:Hp) (fp:List Addr):Cx:=
 { X with N:=N,s₀:=s₂,H₀:=H₂,env:=compEnvC scope cl C X.env,outer:=X.stack,stack:=X.stack,ex:=fp,fn:=λ _=>false,pn:=[],xe:=λ _ _=>False }
def PF (X:Cx) (ifs:List Expr) (t:TT):Prop:=
 ∀(pins:List (Addr×Obj)) (s:A0) (σ:St) (H:Hp) (Q:Bool->Hp->Prop),Inv X pins σ H s->t σ H Q->
  S0 (B1 X.prog X.w) X.A (L8 ifs true λ c r=>if r=true then do let ok <-isTrue c X.env (X2 c X.env);G3 (N2 ok) else G3 (N2 r)) (TP X pins σ Q) X.xe s
theorem pf_nil {X:Cx}:PF X [] (λ _ H Q=>Q true H):=λ _ _ _ H _ I h=>wpAny_tests_nil ⟨H,I,h⟩
theorem pf_one {X:Cx} {c:Expr} {t:TT} (h:PT X c t):PF X [c] t:=λ a s σ H Q I q=>wpAny_tests_one (h a s σ H Q I q)
theorem Vals.snoc {xs:List V} {us:List Value} {x:V} {u:Value} (r:Vals xs us) (q:RelV x u):Vals (xs++[x]) (us++[u]):=Vals.append r (.cons q .nil)
def TagOf (H:Hp) (x:V) (T:String):Prop:=match x with
 | .non=>T = "NoneType"
 | .bl _=>T = "bool"
 | .int _=>T = "int"
 | .str _=>T = "str"
 | .ref a=>((∃xs,H a=some (.lst xs))/\T = "list")\/((∃xs,H a=some (.tup xs))/\T = "tuple")\/((∃kvs,H a=some (.dK kvs))/\T = "dict")
 | _=>False
noncomputable def instB (T C:String):Bool:=T == C || (T == "bool" && C == "int")
theorem TagOf.ty {K:d0} {H:Hp} {x:V} {T:String} (h:TagOf H x T):TyOf K H x (.type T):=by
 cases x with
 | non=>cases (show T = "NoneType" from h);exact .non
 | bl b=>cases (show T = "bool" from h);exact .bl b
 | int i=>cases (show T = "int" from h);exact .int i
 | str z=>cases (show T = "str" from h);exact .str z
 | ref a=>
  rcases h with ⟨⟨c,e⟩,rfl⟩|⟨⟨c,e⟩,rfl⟩|⟨⟨c,e⟩,rfl⟩
  ·exact .lst e
  ·exact .tup e
  ·exact .dK e
 | _=>exact h.elim
theorem TagOf.one {H:Hp} {x:V} {T:String} (h:TagOf H x T):T = "NoneType"\/T = "bool"\/T = "int"\/T = "str"\/T = "list"\/T = "tuple"\/T = "dict":=by
 cases x with
 | non=>exact .inl h
 | bl b=>exact .inr (.inl h)
 | int i=>exact .inr (.inr (.inl h))
 | str z=>exact .inr (.inr (.inr (.inl h)))
 | ref a=>rcases h with ⟨_,rfl⟩|⟨_,rfl⟩|⟨_,rfl⟩<;>simp
 | _=>exact h.elim
noncomputable def isiC:List String:=["int","str","bool","tuple","list"]
theorem kit_of (K:d0) {T C:String} (h:T = "NoneType"\/T = "bool"\/T = "int"\/T = "str"\/T = "list"\/T = "tuple"\/T = "dict") (hC:C∈isiC):PySem.W.kitOne K (.type T) (.type C)=some (instB T C):=by
 have hC:C = "int"\/C = "str"\/C = "bool"\/C = "tuple"\/C = "list":=by simpa [isiC] using hC
 rcases h with rfl|rfl|rfl|rfl|rfl|rfl|rfl<;>rcases hC with rfl|rfl|rfl|rfl|rfl<;>kernel_rfl
section
variable {X:Cx}
theorem z1a:CallR X (.builtin "isinstance") (λ xs H Q=>∃x C T,xs=[x,.ty C]/\TagOf H x T/\C∈isiC/\Q (.bl (instB T C)) H):=by intro g s σ H xs us Q I r h;obtain ⟨x,C,T,rfl,a,e,q⟩:=h;obtain ⟨u,f,rfl,d,b⟩:=vals2 r;cases (show f=K4 C from b);exact zg1 I d a.ty (kit_of X.K a.one e) λ c=>⟨.bl _,H,I.tok c,rfl,q⟩
theorem zf1 {ys:List V} {its:List Value} (rv:Vals ys its) (hb :∀y∈ys,∃b,y=V.bl b):((X0 its.length).all λ i=>decide (ys[i]? = some (V.bl true)))=ys.all λ y=>decide (y=V.bl true):=by
 have e:=rv.length;rw [Bool.eq_iff_iff,B8,B8];constructor
 ·intro h y d;obtain ⟨i,a,rfl⟩:=List.getElem_of_mem d;have:=h i (List.mem_range.mpr (by lia));simpa [a] using this
 ·intro h i a;have c:i < ys.length:=by have:=List.mem_range.mp a;lia
  have:=h ys[i] (U6 c);simpa [c] using this
theorem z7x (hc:X.calm=true):CallR X (.builtin "all") (λ xs H Q=>∃p ys,xs=[.ref p]/\SqL X.K H p ys/\(∀y∈ys,∃b,y=V.bl b)/\Q (.bl (ys.all λ y=>decide (y=V.bl true))) H):=by
 intro O s σ H xs us Q I r h;obtain ⟨p,ys,rfl,B,g,q⟩:=h;obtain ⟨u,rfl,t⟩:=vals1 r;cases t;obtain ⟨j,c,f,N⟩:=I.list B;have C:p≠s.heap.objs.size:=by obtain ⟨o,e,_⟩:=f.isList;exact Y0 (P0 e)
 refine call_all_walk (F5 f.isList ?_);refine ⟨s.heap.objs.size,_,_,_,_,_,λ i=>decide (ys[i]? = some (V.bl true)),rfl,Walks.list (show X.A.in1.handled=none from I.ok.hd hc) s.heap.objs.size p C j.toArray,⟨⟨_,V0 _ rfl,rfl,rfl⟩,f.isList.at λ o e=>F0 _ e⟩,?_,?_⟩
 ·intro i v M G J a F;have a:j[i]? = some v:=by simpa using a
  obtain ⟨D,e⟩:=List.getElem?_eq_some_iff.mp a;have d:i < ys.length:=by rw [c.length];exact D
  obtain ⟨b,l⟩:=g ys[i] (U6 d);obtain ⟨u,m,k⟩:=c.get (i:=i) (x:=ys[i]) (by simp [d]);rw [a] at m;cases m;rw [l] at k;cases (show v=U3 b from k);have:decide (ys[i]? = some (V.bl true))=b:=by rw [v1 d,l];cases b<;>simp
  exact Q2 (this ▸ F)
 ·intro L E w;have e:=zf1 c g;rw [<-T0] at e;refine ⟨.bl _,H,I.kept (t':=E) λ b o z=>w b o ?_ (F0 _ z),rfl,e.symm ▸ q⟩;intro n;rw [List.mem_singleton.mp n] at z;exact absurd (P0 z) (o4 _)
def CDivB (i j:Int):Prop:=0 < j/\j < 2 ^ 64
theorem za1:OpR X (J4 .FloorDiv) (rI CDivB λ i j=>.int (i / j)):=opI λ i j _ _ _ _ _ a q=>by
 obtain ⟨c,b⟩:=a;refine floordiv_int (by lia) ?_ (.inl (PyProof.noPylong_of_log2 ?_))
 ·rw [Int.fdiv_eq_ediv_of_nonneg _ (by lia)];exact q
 ·have:j.natAbs.log2 < 64:=(Nat.log2_lt (by lia)).mpr (by lia)
  lia
structure KDict (K:d0) (P:M0) (a:Addr) (kvs:List (Str×V)):Prop where
 ex :∃es n,K.lookup a=some ⟨.type "dict",none,.dict es n,#[]⟩/\z7 (λ (p:Str×V) (e:DictEntry)=>(∃t,e.key=.str p.1 t)/\e.hash=j0 P p.1/\RelV p.2 e.val) kvs es.toList
 lo:(a == F3)=false
theorem zf9 {kvs:List (Str×V)} {P:M0} :∀{es:List DictEntry},z7 (λ (p:Str×V) (e:DictEntry)=>(∃t,e.key=.str p.1 t)/\e.hash=j0 P p.1/\RelV p.2 e.val) kvs es->∀z,
  RelO (kvs.lookup z) (findBy C6 es.toArray z):=by
 intro es r;induction r with
 | nil=>intro z;exact True.intro
 | @cons p e kvs es h t a=>
  intro z;obtain ⟨⟨f,c⟩,g,d⟩:=h;have a:=a z;unfold findBy at a⊢;rw [List.find?_toArray] at a⊢;rw [Q3,O4];have b:C6 z e.key=(z == p.1):=by rw [c];show (p.1 == z)=_;rw [Bool.eq_iff_iff,beq_iff_eq,beq_iff_eq];exact ⟨λ q=>q.symm,λ q=>q.symm⟩
  cases hz:(z == p.1) with
  | true=>rw [b,hz];exact d
  | false=>rw [b,hz];exact a
theorem KDict.mapOf {a:Addr} {kvs:List (Str×V)} (D:KDict X.K X.w.params a kvs) {h:Heap} (k:X.K.In h) :∃f,h.MapOf (strKind X.prog X.w) a f/\∀z,RelO (kvs.lookup z) (f z):=by
 obtain ⟨c,n,d,r⟩:=D.ex;have b:PySem.W.KeysLit X.w.params c.toList:=by
  clear d D;generalize c.toList=l at r;induction r with
  | nil=>exact True.intro
  | cons h t ih=>obtain ⟨⟨i,b⟩,g,j⟩:=h;exact ⟨⟨_,i,b,g⟩,ih⟩
 have e :∀z,RelO (kvs.lookup z) (findBy C6 c.toList.toArray z):=zf9 r;exact ⟨_,PySem.W.mapOf_K (prog:=X.prog) k d b,λ z=>by simpa using e z⟩
theorem zhe {a:Addr} {kvs:List (Str×V)} (D:KDict X.K X.w.params a kvs):OpR X (A2 .In) (λ x y H Q=>∃z,x=.str z/\y=.ref a/\Q (.bl (kvs.lookup z).isSome) H):=by intro g s σ H x y v u Q I d b h;obtain ⟨z,rfl,rfl,q⟩:=h;obtain ⟨t,rfl⟩:=d;cases b;obtain ⟨f,e,c⟩:=D.mapOf I.kIn;refine wpAny_in_of (Q7 X.prog X.w z t) D.lo e ⟨.bl _,H,I.tok _,rfl,?_⟩;have:=c z;rw [RelO.isSome_eq this] at q;exact q
theorem ix_kd {a:Addr} {kvs:List (Str×V)} (D:KDict X.K X.w.params a kvs):IxR X (λ x y H Q=>∃z v,x=.ref a/\y=.str z/\kvs.lookup z=some v/\Q v H):=by
 intro k l m s σ H x y v u Q I d j h g;obtain ⟨z,r,rfl,rfl,e,q⟩:=h;cases d;obtain ⟨t,rfl⟩:=j;obtain ⟨f,c,i⟩:=D.mapOf I.kIn;have b:=i z;rw [e] at b;cases ef:f z with
 | none=>rw [ef] at b;exact b.elim
 | some u=>rw [ef] at b;exact tail_any c.typeIs slot_dict_getitem.lookup (wpAny_getItem_of (Q7 X.prog X.w z t) c ef ⟨r,H,I.tok _,b,q⟩) g
structure KDictT (K:d0) (P:M0) (a:Addr) (kvs:List ((Str×Str)×V)):Prop where
 ex :∃es n,K.lookup a=some ⟨.type "dict",none,.dict es n,#[]⟩/\z7 (λ (p:(Str×Str)×V) (e:DictEntry)=>(∃(b:Addr) (t t':Tok) (m:Nat),e.key=.ref b/\K.lookup b=some ⟨.type "tuple",none,.seq #[.str p.1.1 t,.str p.1.2 t'] m,#[]⟩)/\
  e.hash=G1 (o0 [j0 P p.1.1,j0 P p.1.2])/\RelV p.2 e.val) kvs es.toList
 nd:(kvs.map (·.1)).Nodup
 lo:(a == F3)=false
theorem zez {prog:Program} {w:Q0} {K:d0} {h:Heap} (k:K.In h) :∀{kvs:List ((Str×Str)×V)} {es:List DictEntry},
  z7 (λ (p:(Str×Str)×V) (e:DictEntry)=>(∃(b:Addr) (t t':Tok) (m:Nat),e.key=.ref b/\K.lookup b=some ⟨.type "tuple",none,.seq #[.str p.1.1 t,.str p.1.2 t'] m,#[]⟩)/\
   e.hash=G1 (o0 [j0 w.params p.1.1,j0 w.params p.1.2])/\RelV p.2 e.val) kvs es->
  ∃xs:List (List Str×Addr×Value),es=xs.map (entryOfKey (C5 (strKind prog w)))/\(∀x∈xs,(C5 (strKind prog w)).is h x.1 x.2.1)/\xs.map (·.1)=kvs.map (λ p=>[p.1.1,p.1.2])/\
   ∀a b,RelO (kvs.lookup (a,b)) ((K7 xs [a,b]).map (·.2)):=by
 intro kvs es r;induction r with
 | nil=>exact ⟨[],rfl,λ x f=>absurd f B0,rfl,λ a b=>True.intro⟩
 | @cons p e kvs es hpe t ih=>
  obtain ⟨xs,u,y,n,q⟩:=ih;obtain ⟨⟨b,B,C,m,i,v⟩,g,A⟩:=hpe;refine ⟨([p.1.1,p.1.2],b,e.val) :: xs,?_,?_,?_,?_⟩
  ·rw [j1,<-u];congr 1;obtain ⟨o,s,D⟩:=e;have i:s=.ref b:=i;have g:o=_:=g;subst i g;rfl
  ·intro x f;rcases List.mem_cons.mp f with rfl|f
   ·exact ⟨_,_,m,k _ _ v,rfl,rfl,.cons (Q7 prog w _ _) (.cons (Q7 prog w _ _) .nil)⟩
   ·exact y x f
  ·rw [j1,j1,n]
  ·intro c d;have:=q c d;rw [O4];unfold K7 at this⊢;rw [Q3];by_cases hcd:(c,d)=p.1
   ·have l:((c,d) == p.1)=true:=by rw [beq_iff_eq];exact hcd
    rw [l];have j:decide ([p.1.1,p.1.2]=[c,d])=true:=by rw [<-hcd];simp
    rw [j];exact A
   ·have l:((c,d) == p.1)=false:=by rw [beq_eq_false_iff_ne];exact hcd
    rw [l];have j:decide ([p.1.1,p.1.2]=[c,d])=false:=by rw [decide_eq_false_iff_not];intro z;injection z with z1 z;injection z with z2 _;exact hcd (j01 z1.symm z2.symm)
    rw [j];exact this
theorem z6v :∀{l:List (Str×Str)},l.Nodup->(l.map λ p=>[p.1,p.2]).Nodup
 | [],_=>Y8
 | p :: r,h=>by obtain ⟨a,b⟩:=List.nodup_cons.mp h;rw [j1];refine List.nodup_cons.mpr ⟨λ m=>a ?_,z6v b⟩;obtain ⟨q,c,e⟩:=List.mem_map.mp m;injection e with e1 e;injection e with e2 _;have:q=p:=j01 e1 e2;exact this ▸ c
theorem KDictT.dict {a:Addr} {kvs:List ((Str×Str)×V)} (D:KDictT X.K X.w.params a kvs) {h:Heap} (k:X.K.In h) :∃xs,h.DictOfH (C5 (strKind X.prog X.w)) a xs/\∀c d,RelO (kvs.lookup (c,d)) ((K7 xs [c,d]).map (·.2)):=by obtain ⟨j,n,g,r⟩:=D.ex;obtain ⟨xs,b,i,f,e⟩:=zez (prog:=X.prog) (w:=X.w) k r;refine ⟨xs,⟨_,j,n,k _ _ g,⟨rfl,rfl,rfl⟩,rfl,b,i,?_⟩,e⟩;rw [f];have:=z6v D.nd;rw [u3] at this;exact this
theorem zgq {pins:List (Addr×Obj)} {σ:St} {H:Hp} {s:A0} {p:Addr} {c d:Str} (I:Inv X pins σ H s) (hp:H p=some (.tup [.str c,.str d])):(C5 (strKind X.prog X.w)).is s.heap [c,d] p:=by
 obtain ⟨_,h,a,⟨o,f,b,n,e⟩,_⟩:=(show ObjOk X.prog X.w H s.heap p (.tup [.str c,.str d]) from I.hok p _ hp)
 cases a with
 | cons r1 a=>
  cases a with
  | cons r2 a=>cases a;obtain ⟨g,rfl⟩:=r1;obtain ⟨i,rfl⟩:=r2;exact ⟨o,_,n,f,b,e,.cons (Q7 X.prog X.w _ _) (.cons (Q7 X.prog X.w _ _) .nil)⟩
theorem zae {a:Addr} {kvs:List ((Str×Str)×V)} (hu:X.A.units + 1 < cLine) (D:KDictT X.K X.w.params a kvs) :
  OpR X (A2 .NotIn) (λ x y H Q=>∃p c d,x=.ref p/\H p=some (.tup [.str c,.str d])/\y=.ref a/\Q (.bl (!(kvs.lookup (c,d)).isSome)) H):=by
 intro j s σ H x y v u Q I f b h;obtain ⟨p,c,d,rfl,g,rfl,q⟩:=h;cases f;cases b;obtain ⟨l,i,e⟩:=D.dict I.kIn;refine c9 (k:=[c,d]) hu (zgq I g) D.lo i ⟨.bl _,H,I.tok _,rfl,?_⟩;have:=RelO.isSome_eq (e c d);rw [i5] at this;rw [this] at q;exact q
theorem ix_kdt {a:Addr} {kvs:List ((Str×Str)×V)} (hu:X.A.units + 1 < cLine) (D:KDictT X.K X.w.params a kvs) :
  IxR X (λ x y H Q=>∃p c d v,x=.ref a/\y=.ref p/\H p=some (.tup [.str c,.str d])/\kvs.lookup (c,d)=some v/\Q v H):=by
 intro o t B s σ H x y v u Q I g n h i;obtain ⟨p,c,d,r,rfl,rfl,m,e,q⟩:=h;cases g;cases n;obtain ⟨l,f,j⟩:=D.dict I.kIn;have b:=j c d;rw [e] at b;cases ef:K7 l [c,d] with
 | none=>rw [ef] at b;exact b.elim
 | some z=>rw [ef] at b;exact tail_any f.typeIs slot_dict_getitem.lookup (wpAny_getItem_heap (k:=[c,d]) hu (zgq I m) f ef ⟨r,H,I.tok _,b,q⟩) i
end
structure Cal (P:Program) (w:Q0) (K:d0) (mg:Str->Option Value) (base:Heap) (x:Str) (ps:List Str) (k:Nat) (sp:Sp):Prop where
 ex :∃f fd,FnOk P w K mg base CX0 k f fd ps sp/\mg x=some (.ref f)/\j3 K (.ref f)=true/\Binds K fd ps []
section
variable {X:Cx} {x:Str} {ps:List Str} {k:Nat} {sp:Sp} {e:Expr} {es:List Expr} {t:TA} {p pos:Pos}
theorem pe_cal (c:Cal X.prog X.w X.K X.mg X.base x ps k sp) (hr:Room k X.A) (hg:Gl X x) (ha:PA X (e :: es) t) (hn:x≠"__name__":=by decide) (hdb:(x == ("__debug__" : Str))=false:=by decide)
  (he:K1 (e :: es) X.env=(false,X2 e X.env) :: K1 es X.env:=by rfl) (hpl:(w4 pos (K1 es X.env)).any (·.1)=false:=by rfl):PE X (.Call (.Name x p) (e :: es) [] pos) (tCall sp [] E0 t):=by
 obtain ⟨f,g,F,d,b,a⟩:=c.ex;exact zis F hr hg d b a .nil pass0 ha hdb he hpl
end
structure TX (K:d0) (mg:Str->Option Value):Prop where
 of :∀{n:Str} {v:Value},S5 K Y2 n=some (some v)->mg n=some v
 no :∀{n:Str},S5 K Y2 n=some none->mg n=none
theorem TX.mk' {K:d0} {mg:Str->Option Value} {h:Heap} (X:K.In h) (G:h.Ns Y2 mg):TX K mg:=⟨λ e=>PySem.W.mg_of X G e,λ e=>PySem.W.mg_none_of X G e⟩
section
variable {X:Cx}
noncomputable def rAdd4 (K:d0):R2:=λ x y H Q=>rI0 (λ i j=>.int (i + j)) x y H Q\/(∃i j,x=.str i/\y=.str j/\i.length + j.length<=sizeLine/\Q (.str (i++j)) H)\/rCat x y H Q\/rCatT K x y H Q
theorem opAdd:OpR X (J4 .Add) (rAdd4 X.K):=op_add.or (op_add_str.or (op_cat.or zbq))
theorem opEq:OpR X (A2 .Eq) rEq:=op_eq
theorem opNe:OpR X (A2 .NotEq) rNe:=op_ne
theorem z3s:CallR X (.builtin "len") (λ xs H Q=>(∃p ys,xs=[.ref p]/\(SqL X.K H p ys\/SqT X.K H p ys)/\Q (.int ys.length) H)\/∃z,xs=[.str z]/\z.length<=sizeLine/\Q (.int z.length) H):=call_len_seq.or zah
end
theorem zb4 {names:List (Str×M5)} {Q:Str×M5->Prop} (h:(names.all λ y=>y.2 != Y1)=true) :∀y∈names,y.2=Y1->Q y:=λ y a e=>by have:=List.all_eq_true.mp h y a;rw [e] at this;exact absurd this (by decide)
theorem Same.upd {H:Hp} {p:Addr} {o:HO} (h:H p=none):Same H (upd H p o):=λ b u e=>by rw [upd_ne (z0e e h)];exact e
theorem Same.seqT {K:d0} {H H':Hp} {a:Addr} {xs:List V} (e:Same H H') (h:SqT K H a xs):SqT K H' a xs:=by
 rcases h with (h|⟨o,h⟩)|h
 ·exact .inl (.inl (e _ _ h))
 ·exact .inl (.inr ⟨o,e _ _ h⟩)
 ·exact .inr h
end L2
namespace L2
open PySem PySem.Spec PyProof.Rows
open Builtin.Str (occurrences partsBetween strKind)
section
variable {X:Cx}
theorem zbc {vl:Value} {lo:Option Int} (p:G8 vl lo) :∃l:Option (Int×Tok),vl=partValue l/\l.map (·.1)=lo:=by
 cases p with
 | none=>exact ⟨none,rfl,rfl⟩
 | int i t=>exact ⟨some (i,t),rfl,rfl⟩
end
end L2
namespace L2
open PySem PySem.Spec PyProof.Rows
section
variable {X:Cx}
def rSlS:V->Option Int->Option Int->Hp->VK->Prop:=λ x lo hi H Q=>∃z,x=.str z/\z.length<=sizeLine/\Q (.str (Txt.slice z lo hi)) H
theorem sl_str:SlR X rSlS:=by
 intro p s σ H x v o r j n m Q I a c i f h;obtain ⟨z,rfl,e,q⟩:=h;obtain ⟨t,rfl⟩:=a;obtain ⟨l,rfl,b⟩:=zbc i;obtain ⟨u,rfl,g⟩:=zbc f;subst b g;refine ⟨"str",_,F.slot_str_getitem.lookup,typeIs_str _ _ _,wpAny_getItem_str_slice (l:=l) (u:=u) (st:=none) c rfl
  (post_val_or_str ⟨K0 (Txt.slice_le z _ _) e,λ d k=>⟨.str (Txt.slice z _ _),H,I.tok k,⟨d,rfl⟩,q⟩⟩)⟩
theorem slSeq:SlR X (λ x lo hi H Q=>rSlL X.K x lo hi H Q\/rSlT X.K x lo hi H Q\/rSlS x lo hi H Q):=sl_list.or (sl_tup.or sl_str)
end
def RowAt (H:Hp) (r:Addr):Prop:=∃a b c:Int,H r=some (.lst [.int a,.int b,.int c])/\0<=c/\c < 536870909
def Kept (r:Addr) (H H':Hp):Prop:=∀b o,b≠r->H b=some o->H' b=some o
theorem Kept.refl {r:Addr} {H:Hp}:Kept r H H:=λ _ _ _ h=>h
theorem Kept.trans {r:Addr} {H H1 H2:Hp} (a:Kept r H H1) (b:Kept r H1 H2):Kept r H H2:=λ c o n h=>b c o n (a c o n h)
theorem Same.kept {r:Addr} {H H':Hp} (s:Same H H'):Kept r H H':=λ b o _ h=>s b o h
theorem Kept.set {r:Addr} {H:Hp} {o:HO}:Kept r H (upd H r o):=λ b u n h=>by rw [upd_ne n];exact h
structure Rw (r:Addr) (H H':Hp):Prop where
 k:Kept r H H'
 r:RowAt H' r
theorem Rw.trans {r:Addr} {H H1 H2:Hp} (a:Rw r H H1) (b:Rw r H1 H2):Rw r H H2:=⟨a.k.trans b.k,b.r⟩
theorem RowAt.same {r:Addr} {H H':Hp} (h:RowAt H r) (s:Same H H'):RowAt H' r:=by obtain ⟨a,b,c,e,h⟩:=h;exact ⟨a,b,c,s _ _ e,h⟩
theorem Rw.same {r:Addr} {H H1 H2:Hp} (a:Rw r H H1) (s:Same H1 H2):Rw r H H2:=⟨a.k.trans s.kept,a.r.same s⟩
theorem RowAt.fresh {r p:Addr} {H:Hp} (h:RowAt H r) (e:H p=none):p≠r:=by obtain ⟨a,b,c,d,_⟩:=h;intro z;subst z;rw [e] at d;cases d
theorem atI_of {α:Type} {xs:List α} {t:Int} (h0:0<=t) (h1:t < xs.length) :∃v,atI xs t=some v/\v∈xs:=by
 have a:t.toNat < xs.length:=by lia
 refine ⟨xs[t.toNat],?_,U6 a⟩;have:=z04 (xs:=xs) (j:=t.toNat) (v:=xs[t.toNat]) (by simp [a]);rw [Int.toNat_of_nonneg h0] at this;exact this
theorem seq_if {c:TT} {t u rest:TS} {D:Ends} {σ:St} {H:Hp} (R:Hp->Prop) (hr :∀H1,R H1->rest D σ H1) (h:(∀H1,R H1->rest D σ H1)->tIfS c t u { D with nx:=rest D } σ H):tSeq (tIfS c t u) rest D σ H:=h hr
section
variable {r:Addr} {σ:St} {H0:Hp} {K:d0}
theorem g_name {i:Nat} {v:V} {σ:St} {H:Hp} {Q:St->Hp->Prop} (h:Q (σ.set i (some v)) H):gName i v σ H Q:=h
theorem t_nx {nx ct bk:St->Hp->Prop} {rt:VK} {σ:St} {H:Hp} (h:nx σ H):Ends.nx { nx:=nx,rt:=rt,bk:=bk,ct:=ct } σ H:=h
end
end L2
namespace L2
open PySem
section
variable {prog:Program} {w:Q0} {A:X1} {E:Value->A0->Prop} {s:A0}
theorem tupOn {it t:Addr} {i:Nat} {its:Array Value} {x:Value} {Q:Value->A0->Prop} (a:s.heap.IsTupleIter it t i) (b:s.heap.IsTuple t its) (c:its[i]? = some x)
  (q :∀h',h'.IsTupleIter it t (i + 1)->Q4 it s.heap h'->Q x { s with heap:=h' }):S0 (B1 prog w) A (T3 (.ref it)) Q E s:=by
 obtain ⟨o,e,h,d⟩:=id a;obtain ⟨p,f,_,n,g⟩:=b;unfold T3;refine u0 (J7 (name:=T9 "__next__") a.typeIs U4 (W5 U4 a.typeIs C9 (show S0 _ _ (field (.ref it) 0 >>= _) _ _ s from u0 (i6 e d (x:=.ref t) rfl ?_)) (s9 _)));show S0 _ _ (if (W0 t == m6)=true then _ else (field (.ref it) 1 >>= _)) _ _ s;rw [if_neg (by exact Z0)];refine u0 (i6 e d (x:=.int i 0) rfl (show S0 _ _ (d9 (.ref t) >>= _) _ _ s from u0 (E5 f g ?_)));simp only [v8,c];refine u0 (wpAny_setField e d (by simp) (G0 ⟨x,rfl,G0 (q _ ⟨_,p4 _ e (Obj.isFreed_of_fields (Obj.data_mapFields d _)),(Obj.cls_mapFields ..).trans h,?_⟩ (B5 ..))⟩));rw [Obj.data_mapFields d];simp [rawInt]
theorem tupOff {it t:Addr} {i:Nat} {its:Array Value} {Q:Value->A0->Prop} (hh:A.handled=none) (a:s.heap.IsTupleIter it t i) (b:s.heap.IsTuple t its) (c:its[i]? = none)
  (q :∀h' e,Heap.ExtBut it s.heap h'->(∃o,h'.get? e=some o/\o.cls=.type "StopIteration")->E (.ref e) { s with heap:=h' }):S0 (B1 prog w) A (T3 (.ref it)) Q E s:=by
 obtain ⟨o,f,j,d⟩:=id a;obtain ⟨p,g,_,n,h⟩:=b;unfold T3;refine u0 (J7 (name:=T9 "__next__") a.typeIs U4 (W5 U4 a.typeIs C9 (show S0 _ _ (field (.ref it) 0 >>= _) _ _ s from u0 (i6 f d (x:=.ref t) rfl ?_)) (s9 _)));show S0 _ _ (if (W0 t == m6)=true then _ else (field (.ref it) 1 >>= _)) _ _ s;rw [if_neg (by exact Z0)];refine u0 (i6 f d (x:=.int i 0) rfl (show S0 _ _ (d9 (.ref t) >>= _) _ _ s from u0 (E5 g h ?_)));simp only [v8,c];refine u0 (E8 (u0 (wpAny_setField f d (by simp) (show S0 _ _ (newExc (.type "StopIteration") [] >>= _) _ _ _ from u0 ?_))));simp only [newExc,newTuple];refine u0 (L3 (u0 (m:=firstArgMember _ _) (i8 (a:=m6) (by first|rfl|(simp only [firstArgMember];rfl)) (L3 ?_ (by size_fits)))) (by size_fits));simp only [raiseNew];refine u0 (wpAny_handled ?_);first|rw [show A.in1.handled=none from hh]|rw [hh]
 exact u0 (G0 (wpAny_throw (q _ _ (((B5 ..).extBut.push _).push _) ⟨_,V0 _ rfl,rfl⟩)))
structure ZApart (z T U i j a b:Addr):Prop where
 dis:[z,T,U,i,j].Nodup
 fa:a∉[z,T,U,i,j]
 fb:b∉[z,T,U,i,j]
structure ZAt (h:Heap) (z T U i j a b:Addr) (n:Nat) (f:Value):Prop where
 z:IsZip h z T U f
 t:IsPair h T (.ref i) (.ref j)
 u :∃p q,IsPair h U p q
 i:h.IsTupleIter i a n
 j:h.IsTupleIter j b n
end
end L2
namespace L2
open PySem PySem.Spec PyProof.Rows
inductive Dt where
 | non|bl (b:Bool)|int (i:Int)|str (z:Str)|tup (ds:List Dt)
mutual
noncomputable def IsDt (K:d0) (H:Hp):Dt->V->Prop
 | .non,v=>v=.non
 | .bl b,v=>v=.bl b
 | .int i,v=>v=.int i
 | .str z,v=>v=.str z
 | .tup ds,v=>∃a xs,v=.ref a/\SqT K H a xs/\IsDts K H ds xs
noncomputable def IsDts (K:d0) (H:Hp):List Dt->List V->Prop
 | [],xs=>xs=[]
 | d :: ds,xs=>∃x r,xs=x :: r/\IsDt K H d x/\IsDts K H ds r
end
mutual
noncomputable def Dt.deep:Dt->Nat
 | .tup ds=>Dt.deeps ds + 1
 | _=>0
noncomputable def Dt.deeps:List Dt->Nat
 | []=>0
 | d :: ds=>max d.deep (Dt.deeps ds)
noncomputable def Dt.plain:Dt->Bool
 | .int _=>true
 | .str _=>true
 | .tup ds=>Dt.plains ds
 | _=>false
noncomputable def Dt.plains:List Dt->Bool
 | []=>true
 | d :: ds=>d.plain && Dt.plains ds
end
section
variable {X:Cx}
theorem zj8 {i:Nat} {x:Str} {p pos:Pos} {e:Expr} {es:List Expr} {t:TA} (tb:Addr->Sp->Prop) (hN:X.N[i]? = some x) (hv:Vis X.env.scope x)
  (G :∀f sp,tb f sp->∃k fd ps,FnOk X.prog X.w X.K X.mg X.base CX0 k f fd ps sp/\Room k X.A/\j3 X.K (.ref f)=true/\Binds X.K fd ps [])
  (ha:PA X (e :: es) t) (hd:(x == ("__debug__" : Str))=false:=by decide) (hcd:(x == ("__classdict__" : Str))=false:=by decide)
  (he:K1 (e :: es) X.env=(false,X2 e X.env) :: K1 es X.env:=by rfl) (hpl:(w4 pos (K1 es X.env)).any (·.1)=false:=by rfl) :
  PE X (.Call (.Name x p) (e :: es) [] pos) (λ σ H Q=>∃f sp,σ[i]? = some (some (.ref f))/\tb f sp/\t σ H λ vs H1=>sp vs H1 Q E0):=by
 intro a s σ H Q I h;obtain ⟨f,sp,b,m,h⟩:=h;obtain ⟨k,fd,ps,F,d,j,g⟩:=G f sp m;refine O3 (thn (pe_var hN hv hd hcd a s σ H (λ v l=>v=.ref f/\l=H) I ⟨_,b,rfl,rfl⟩) λ u c ⟨v,H0,I0,r0,ev,eH⟩=>?_);subst ev eH;obtain rfl:u=W0 f:=r0;refine Y5 (h₀:=X.base) I0.ok.mod.kin j (thn (ha pos a c σ _ _ I0 h) λ us n ⟨vs,H1,I1,r,q⟩=>⟨I1.kIn,?_⟩) he hpl;exact run_fn F d g .nil pass0 I1 r (by rw [Z2];exact q)
theorem Inv.turnedL {pins:List (Addr×Obj)} {σ:St} {H:Hp} {s:A0} {h':Heap} {t':Nat} {fp:List Addr} (I:Inv X pins σ H s) (k :∀b o,b∉fp->s.heap.get? b=some o->h'.get? b=some o) (hf :∀b∈fp,FpOk X pins H b) :
  Inv X pins σ H { s with heap:=h',toks:=t' }:=by
 have f :∀b u,H b=some u->b∉fp:=λ b u e z=>by have:=(hf b z).1;rw [this] at e;cases e
 refine I.step (g':=s.gens) (d':=s.drawn) (ch:=fp) (λ b d=>⟨(hf b d).2.2.2.1,(hf b d).2.1,(hf b d).2.2.2.2.1,(hf b d).2.2.2.2.2⟩) (λ b o _ _ a e _=>k b o a e) (λ b o _ _ a e _=>⟨o.slots,k b o a e⟩) (λ _ _ _ _ n=>n)
  (λ b o a e=>⟨o,k b o a e⟩) (λ _ _ e=>e) (λ _ _ _ e=>e) (λ b l e=>⟨#[],by rw [e];simp⟩) (λ m j=>?_) (λ b u e=>?_) I.bare
 ·obtain ⟨o,h,i,g,r⟩:=j;exact ⟨o,h,i,k _ o (λ z=>(hf _ z).2.1 rfl) g,r⟩
 ·refine (I.hok b u e).stay (λ c v a q=>k c v ?_ q) (λ _ q=>q) λ _ _ q=>q;rcases a with z|z
  ·rw [z];exact f b u e
  ·exact f c _ z
theorem Inv.turnedLaid {pins:List (Addr×Obj)} {σ:St} {H:Hp} {s:A0} {h':Heap} {t':Nat} {fp:List Addr} {a:Addr} {o:HO} (I:Inv X pins σ H s) (k :∀b o,b∉fp->s.heap.get? b=some o->h'.get? b=some o) (hf :∀b∈fp,FpOk X pins H b)
  (hp:s.heap.objs.size<=a) (new:ObjOk X.prog X.w (upd H a o) h' a o):Inv X pins σ (upd H a o) { s with heap:=h',toks:=t' }:=by
 have i:H a=none:=I.hok.fresh hp;have h :∀b u,H b=some u->b∉fp:=λ b u e z=>by have:=(hf b z).1;rw [this] at e;cases e
 have g :∀b u,H b=some u->upd H a o b=some u:=λ b u e=>by rw [upd_ne (z0e e i)];exact e
 refine I.step (g':=s.gens) (d':=s.drawn) (ch:=fp) (λ b f=>⟨(hf b f).2.2.2.1,(hf b f).2.1,(hf b f).2.2.2.2.1,(hf b f).2.2.2.2.2⟩) (λ b o _ _ d e _=>k b o d e) (λ b o _ _ d e _=>⟨o.slots,k b o d e⟩)
  (λ b u _ e n=>by rw [upd_ne (λ z=>by subst z;exact absurd (P0 e) (Nat.not_lt.mpr hp))];exact n)
  (λ b o d e=>⟨o,k b o d e⟩) (λ _ _ e=>g _ _ e) (λ _ _ _ e=>g _ _ e) (λ b x e=>⟨#[],by rw [g _ _ e];simp⟩) (λ m p=>?_) (λ b u e=>?_) I.bare
 ·obtain ⟨o,j,t,l,r⟩:=p;exact ⟨o,j,t,k _ o (λ z=>(hf _ z).2.1 rfl) l,r⟩
 ·by_cases f:b=a
  ·subst f;rw [upd_same] at e;cases e;exact new
  ·rw [upd_ne f] at e;refine (I.hok b u e).stay (λ c v d q=>k c v ?_ q) (λ c q=>g _ _ q) λ c y q=>g _ _ q;rcases d with z|z
   ·rw [z];exact h b u e
   ·exact h c _ z
theorem zi6:OpR X (J4 .Add) (λ x y H Q=>∃a b ys,x=.ref a/\y=.ref b/\SqT X.K H a []/\SqT X.K H b ys/\Q (.ref b) H):=by intro G s σ H x y v u Q I l j h;obtain ⟨a,b,ys,rfl,rfl,w,k,q⟩:=h;cases l;cases j;obtain ⟨M,z,B,_⟩:=I.tuple w;obtain ⟨p,J,o,_⟩:=I.tuple k;cases z;obtain ⟨⟨F,m,D,C⟩,d,e,r,c⟩:=id B;obtain ⟨⟨L,n,E,A⟩,g,i,t,f⟩:=id o;simp only at e c i f;subst e c i f;exact concat_meets ⟨_,d,rfl⟩ ⟨_,g,rfl⟩ i9 seq_tuple_add Q6 G6 (w6 _ _) (tuple_addW0 a b ([]:List Value).toArray p.toArray r t m n C A (by simp)) ⟨d,g,⟨.ref b,H,I,rfl,q⟩⟩
noncomputable def rCatS (K:d0):R2:=λ x y H Q=>∃a b xs ys,x=.ref a/\y=.ref b/\SqT K H a xs/\SqT K H b ys/\ys≠[]/\xs.length + ys.length<=sizeLine/\∀p H',Same H H'->SqT K H' p (xs++ys)->Q (.ref p) H'
theorem op_catS:OpR X (J4 .Add) (rCatS X.K):=by
 intro i s σ H x y v u Q I f j h;obtain ⟨a,b,d,e,rfl,rfl,g,c,k,l,q⟩:=h;cases d with
 | nil=>exact zi6 i s σ H _ _ v u Q I f j ⟨a,b,e,rfl,rfl,g,c,q b H (Same.refl H) c⟩
 | cons x d=>exact zbq i s σ H _ _ v u Q I f j ⟨a,b,x :: d,e,rfl,rfl,g,c,by simp,l,λ z=>absurd z k,λ _ p m=>q p _ (Same.upd m) (SqT.of upd_same)⟩
theorem z11 {o e:Expr} {es:List Expr} {to:TE} {t:TA} {apos cpos:Pos} (ho:PE X o to) (ha:PA X (e :: es) t)
  (hbase:M3 o "append" X.env (X2 o X.env)=X2 o X.env:=by rfl)
  (hfew:((w4 cpos (K1 (e :: es) X.env)).all (λ x=>!x.1) && (O8 cpos (c7 [] X.env)).all (λ x=>x.1.isSome)
   && decide ((e :: es).length + ([]:List J6).length + (if ([]:List J6).isEmpty then 0 else 1) < 30))=true:=by rfl)
  (hline:(apos.endLine == cpos.line)=true:=by rfl) (hs:K1 (e :: es) X.env=(false,X2 e X.env) :: K1 es X.env:=by rfl) (hplain:(w4 cpos (K1 es X.env)).any (·.1)=false:=by rfl) :
  PE X (.Call (.Attribute o "append" apos) (e :: es) [] cpos) (tBM X.K "list" zgl to t):=pe_bm E6 PySem.F.slot_list_append PySem.F.type_list_append zex ho ha hbase hfew hline hs hplain
end
def KeptL (L:List Addr) (H H':Hp):Prop:=∀b o,b∉L->H b=some o->H' b=some o
theorem KeptL.refl {L:List Addr} {H:Hp}:KeptL L H H:=λ _ _ _ h=>h
theorem KeptL.trans {L:List Addr} {H H1 H2:Hp} (a:KeptL L H H1) (b:KeptL L H1 H2):KeptL L H H2:=λ c o n h=>b c o n (a c o n h)
theorem Same.keptL {L:List Addr} {H H':Hp} (s:Same H H'):KeptL L H H':=λ b o _ h=>s b o h
theorem KeptL.set {L:List Addr} {H:Hp} {l:Addr} {o:HO} (h:l∈L):KeptL L H (upd H l o):=λ b u n e=>by rw [upd_ne (λ z=>n (by rw [z];exact h))];exact e
theorem SqT.wrote {K:d0} {H:Hp} {l a:Addr} {o:HO} {zs xs:List V} (e:H l=some (.lst zs)) (h:SqT K H a xs):SqT K (upd H l o) a xs:=by
 rcases h with (h|⟨ob,h⟩)|h
 ·exact .inl (.inl (by rw [upd_ne (ne_of h e (by intro z;cases z))];exact h))
 ·exact .inl (.inr ⟨ob,by rw [upd_ne (ne_of h e (by intro z;cases z))];exact h⟩)
 ·exact .inr h
section
variable {prog:Program} {w:Q0} {A:X1} {E:Value->A0->Prop} {s:A0}
theorem zi3 {v:Value} {Q:Value->A0->Prop} {ns:List Int} (hn:ns.length < 64)
  (hc :∀R:List Value->A0->Prop,(∀h' tk vs,(∀b o,s.heap.get? b=some o->h'.get? b=some o)->J3 vs ns->R vs { s with heap:=h',toks:=tk })->S0 (B1 prog w) A.in1 (collect v) R E s)
  (h :∀(h1 h':Heap) (tk:Nat) (out:Array Value) (ns':List Int) (e:Nat),(∀b o,s.heap.get? b=some o->h1.get? b=some o)->(∀b o,h1.get? b=some o->h'.get? b=some o)->h'.get? h1.objs.size=some { cls:=.type "list",data:=.seq out e }->J3 out.toList ns'->ns'.Perm ns->ns'.Pairwise (·<=·)->Q (.ref h1.objs.size) { s with heap:=h',toks:=tk }) :
  S0 (B1 prog w) A (call (.builtin "sorted") [v]) Q E s:=by
 refine Calls.call_function_entry kind_sorted plain_sorted entry_sorted (args_sorted1 _) ?_;unfold Builtin.«sorted»;refine u0 (m:=checkCount "sorted" 1 1 _) (G0 (u0 (hc _ λ h1 tk vs l d=>?_)));have c:vs.length < 64:=by rw [d.length];exact hn
 refine u0 (wpAny_newList ?_ (K0 (A3 c) (by decide)));have a:(h1.push (seqObj "list" vs.toArray 0)).get? h1.objs.size=some (seqObj "list" vs.toArray 0):=V0 _ rfl;refine u0 (K2 (W5 slot_list_sort ⟨_,a,rfl⟩ entry_list_sort (list_sort_tree a d c λ out ns' k g j=>⟨_,rfl,?_⟩) (args_list_sort _)));obtain ⟨e,i⟩:=sortedHeap_at (out:=out) a;refine G0 ⟨_,rfl,h h1 _ tk out ns' e l (λ b o f=>?_) i k g j⟩;have lt:=P0 f;refine (sortedHeap_old (Y0 lt) ?_).trans (F0 _ f);rw [size_push'];exact Q1 lt
end
section
variable {X:Cx}
def srt (ns:List Int) (H:Hp) (Q:VK):Prop:=∀(l:Addr) (ns':List Int),H l=none->ns'.Perm ns->ns'.Pairwise (·<=·)->Q (.ref l) (upd H l (.lst (ns'.map V.int)))
theorem zif {pins:List (Addr×Obj)} {σ:St} {H:Hp} {s:A0} {Q:VK} {ns:List Int} {h1 h':Heap} {tk:Nat} {out:Array Value} {ns':List Int} {e:Nat} (I:Inv X pins σ H s) (hn:ns.length < 64) (q:srt ns H Q)
  (k1 :∀b o,s.heap.get? b=some o->h1.get? b=some o) (k2 :∀b o,h1.get? b=some o->h'.get? b=some o) (g:h'.get? h1.objs.size=some { cls:=.type "list",data:=.seq out e }) (i:J3 out.toList ns') (p:ns'.Perm ns) (r:ns'.Pairwise (·<=·)) :
  EP X pins σ Q (.ref h1.objs.size) { s with heap:=h',toks:=tk }:=by
 have a:Inv X pins σ H { s with heap:=h1 }:=I.kept (t':=s.toks) k1;refine ⟨.ref h1.objs.size,_,a.laid (t':=tk) (o:=.lst (ns'.map V.int)) k2 (C0 _) ⟨?_,out.toList,e,z7s i,by simpa using g⟩,rfl,q _ ns' (a.hok.fresh (C0 _)) p r⟩;rw [L0,p.length_eq];exact K0 (A3 hn) (by decide)
theorem za7:CallR X (.builtin "sorted") (λ xs H Q=>∃a ns,xs=[.ref a]/\(SqL X.K H a (ns.map V.int)\/SqT X.K H a (ns.map V.int))/\ns.length < 64/\srt ns H Q):=by
 intro C s σ H xs us Q I r h;obtain ⟨a,ns,rfl,c,w,q⟩:=h;obtain ⟨u,rfl,x⟩:=vals1 r;cases x;refine zi3 w (λ R v=>?_) λ B d D F E e y A g i p r=>zif I w q y A g i p r;rcases c with c|c
 ·obtain ⟨z,b,t,m⟩:=I.list c;obtain ⟨o,l,f,n,j⟩:=t.isList;exact wpAny_collect_seq a (.inl rfl) l f j (λ d k=>v d s.toks _ k (by simpa using z5v b)) (by rw [T0,<-b.length];exact m)
 ·obtain ⟨z,b,t,m⟩:=I.tuple c;obtain ⟨o,l,f,n,j⟩:=t;exact wpAny_collect_seq a (.inr rfl) l f j (λ d k=>v d s.toks _ k (by simpa using z5v b)) (by rw [T0,<-b.length];exact m)
end
theorem iteP {c A B:Prop} [Decidable c] (hc:c) (h:A):if c then A else B:=by rw [if_pos hc];exact h
theorem iteN {c A B:Prop} [Decidable c] (hc:¬ c) (h:B):if c then A else B:=by rw [if_neg hc];exact h
theorem zda {names:List (Str×M5)} {n:Str} {Q:Str×M5->Prop} (h:(names.all λ y=>y.2 != Y1 || y.1 == n)=true) (q :∀k,Q (n,k)) :∀y∈names,y.2=Y1->Q y:=λ y c e=>by
 have:=List.all_eq_true.mp h y c;rw [e] at this;have:(y.1 == n)=true:=by simpa using this
 obtain ⟨a,b⟩:=y;rw [beq_iff_eq] at this;have:a=n:=this;subst this;exact q b
noncomputable def CXE (P:Program) (w:Q0) (base:Heap):CXT:=λ outer H s E e s'=>∃(ea:Addr) (cls a0:Value) (B:Heap) (H':Hp),e=.ref ea/\s'.os=s.os/\j7 s'.gens/\Un (frs outer) [] H H' s.heap s'.heap/\HOk P w H' s'.heap/\H' ea=none/\
 base.StaysIn B/\Heap.FlyingW B outer ea cls a0 s'.heap/\(∀b o,s'.heap.get? b=some o->b∉frs outer->((∃u,H' b=some u)\/∃u,s.heap.get? b=some u)->B.get? b=some o)/\E cls none H'
theorem passN {X:Cx}:Passes (CXE X.prog X.w X.base) X E0:=λ _ _ _ _ _ _ _ ⟨_,_,_,_,_,_,_,_,_,_,_,_,_,_,z⟩=>z.elim
theorem PS.nox {X:Cx} {st:Stmt} {t:TS} (h:PS X.nox st t):PS X st t:=λ b s σ H D I a=>E3 (h b s σ H D (I.wish _) a) (λ _ _ q=>q.unwish) λ _ _ z=>K3 z
section
variable {P:Program} {w:Q0} {K:d0} {mg:Str->Option Value} {base:Heap} {N:List Str} {qual:Str} {scope:Scope} {f:Addr} {cd:Value} {A:X1} {outer:List Env} {s:A0} {H:Hp} {E:XK}
theorem Fun.okE {x qual:Str} {st:Stmt} {f:Addr} {fd:FuncData} {N ps:List Str} {k:Nat} {sp:Sp} (F:Fun K x qual st f fd) (S:FnScope N ps (z06 st)) (len :∀vs H Q E,sp vs H Q E->vs.length=ps.length)
  (hbody :∀(cdv:Value) (A:X1) (outer:List Env) (s:A0) (H:Hp) (vs:List V) (Q:VK) (E:XK),Room k (A.deeper (R7 qual (z06 st) s.heap.objs.size f cdv))->sp vs H Q E->
   ∃t,PSs (cxOf (CXE P w base) P w K mg base N qual (z06 st) f cdv A outer s H E) (z5h st) t/\t { nx:=λ _ H'=>Q .non H',rt:=Q } (start N vs) H):FnOk P w K mg base (CXE P w base) (k + 1) f fd ps sp:=by
 obtain ⟨l,e,kV,h,j,m,cdv,g,i,rfl,c,b⟩:=F.ex;exact fn_of c b S len λ A outer s H vs Q E a d=>hbody cdv A outer s H vs Q E a d
end
structure CalE (P:Program) (w:Q0) (K:d0) (mg:Str->Option Value) (base:Heap) (x:Str) (ps:List Str) (k:Nat) (sp:Sp):Prop where
 ex :∃f fd,FnOk P w K mg base (CXE P w base) k f fd ps sp/\mg x=some (.ref f)/\j3 K (.ref f)=true/\Binds K fd ps []
end L2
set_option maxHeartbeats 400000
namespace L2
open PySem PySem.Spec PyProof.Rows PySem.W PySem.Calls PySem.Builtin PySem.Builtin.ObjectAttr PySem.Builtin.Getset_descriptor
end L2
namespace L2
open PySem PySem.Spec PyProof.Rows PySem.W
end L2
namespace L2
open PySem PySem.Spec PyProof.Rows
end L2
set_option maxHeartbeats 4000000
namespace L2
open PySem PySem.Spec PyProof.Rows
noncomputable def cStG (σ:St) (fr:List (Nat×Str)) (us:List (Option V)):St:=us++fr.map λ p=>(σ[p.1]?).join
noncomputable def tCompG (wi:TI) (n:Nat) (fr:List (Nat×Str)) (g:TG) (tc:TT) (te:TE):TE:=λ σ H Q=>wi σ H λ J H1=>∃W:Nat->Nat->List V->Hp->Prop,(∃m,W 0 m [] H1)/\∀i m ys H,W i m ys H->
 (J.stop i H/\ys.length<=sizeLine/\∀p,H p=none->Q (.ref p) (upd H p (.lst ys)))\/
 (J.go i H/\ys.length<=sizeLine/\∀v H',J.yld i H v H'->g v (cStG σ fr (G2 n none)) H' λ σ6 H6=>∃us,us.length=n/\σ6=cStG σ fr us/\tc (cStG σ fr us) H6 λ b H2=>if b=true then te (cStG σ fr us) H2 λ y H3=>∃m',m' < m/\W (i + 1) m' (ys++[y]) H3 else∃m',m' < m/\W (i + 1) m' ys H2)
section
variable {X:Cx}
theorem zgz {scope:Scope} {cl:List (Str×Addr)} {N:List Str} {C:Addr} {s₂:A0} {H₂:Hp} {fp:List Addr} {x:Str} {px:Pos} (i:Nat) (hN:N.Nodup) (hi:N[i]? = some x) (hx:scope.names.lookup x=some .local):PG (cxComp X scope cl N C s₂ H₂ fp) (.Name x px) (gName i):=
 z0b hN hi (.inl (lookup_relabel_local hx)) (.inr (lookup_relabel_local hx))
theorem zdj {xs:List Str} {tg:Expr} {g:TG} {pos:Pos} {elt iter:Expr} {ifs:List Expr} {scope:Scope} {fr:List (Nat×Str)} {wi:TI} {tc:TT} {te:TE} {use:Option (Value->Sem Unit)} {QQ:Value->A0->Prop} {pins:List (Addr×Obj)} {s:A0} {σ:St} {H:Hp} {Q:VK} {pp:Pos} (hcalm:X.calm=true) (hi:PI X tg iter wi)
  (hfr :∀p∈fr,X.N[p.1]? = some p.2/\(X.env.kindOf p.2=some .cell\/X.env.kindOf p.2=some .free))
  (hfree :∀y∈scope.names,y.2=Y1->X.env.kindOf y.1=some .cell\/X.env.kindOf y.1=some .free)
  (hfs :∀p∈fr,(p.2,Y1)∈scope.names/\((b7 scope X.env).names.lookup p.2=some .cell\/(b7 scope X.env).names.lookup p.2=some .free))
  (hcell :∀y∈scope.names,y.2≠NameKind.cell) (hkind:scope.kind=.function) (hnames :∀y∈scope.names,y.2=NameKind.local->scope.names.lookup y.1=some .local)
  (hg :∀cl C s₂ H₂ fp,PG (cxComp X scope cl (xs++fr.map (·.2)) C s₂ H₂ fp) tg g)
  (ht :∀cl C s₂ H₂ fp,PF (cxComp X scope cl (xs++fr.map (·.2)) C s₂ H₂ fp) ifs tc) (he :∀cl C s₂ H₂ fp,PE (cxComp X scope cl (xs++fr.map (·.2)) C s₂ H₂ fp) elt te)
  (hs :∀x,J5 iter X.env x=G3 x) (I:Inv X pins σ H s) (h:tCompG wi xs.length fr g tc te σ H Q)
  (hend :∀(D:Addr) (s4:A0) (H4:Hp),Inv X pins σ H4 s4->(∃m,s4.heap.Ns (D + 1) m)->H4 (D + 1)=none->D + 1≠X.env.locals->X.s₀.heap.objs.size<=D + 1->(D + 1∉X.fs/\(∀x c,X.env.cells.lookup x=some c->c≠D + 1)/\∀p∈X.pn++pins,p.1≠D + 1)->Q (.ref D) H4->compPost (B1 X.prog X.w) X.A X.xe use QQ (.ref D) (D + 1) (.ok .next) s4) :
  S0 (B1 X.prog X.w) X.A (comprehension (.ListComp elt [⟨tg,iter,ifs,0⟩] scope pos) scope X.env pp (newList []) false (firstIter [⟨tg,iter,ifs,0⟩] X.env) use) QQ X.xe s:=by
 obtain ⟨cl,f7,U,b6⟩:=ze4 (scope:=scope) (env:=X.env) λ y S hk=>I.ok.has y.1 (hfree y S hk);refine wpAny_comprehension_free (use:=use) rfl hs f7 hkind hnames (thn (hi pins s σ H _ I h) λ xv s₁ h₁=>thn h₁ λ g2 s₂ h₂=>?_);obtain ⟨it,fp,tn,J,M,e,f,T,b1,L,W,⟨m0,w0⟩,d4⟩:=h₂;subst e
 -- the list that is filled,the block's names
 refine L3 (wpAny_newFunctionEnv hcell (by intro y S;simp at S) (λ h₁ a4 a2=>?_) hkind);dsimp only at a4 a2⊢;generalize hD:s₂.heap.objs.size=D at a4 a2⊢;generalize hG:s₂.heap.push { cls:=.type "list",dict:=none,data:=.seq ([]:List Value).toArray }=G at a4 a2⊢;have hC:G.objs.size=D + 1:=by rw [<-hG,D3,hD]
 generalize hCC:G.objs.size=C at a4 a2 hC⊢;subst hC;have a8 :∀b∈fp,b < D:=λ b a=>by obtain ⟨o,e,_⟩:=T.obj _ _ b1 b a;rw [<-hD];exact P0 e
 have a0 :∀b o,s₂.heap.get? b=some o->h₁.get? b=some o:=λ b o e=>a2.extBut b o (Y0 (Q1 (by rw [<-hD];exact P0 e))) (F0 _ (hG ▸ F0 _ e));have f9:G.get? D=some { cls:=.type "list",dict:=none,data:=.seq ([]:List Value).toArray }:=by rw [<-hG,<-hD];exact V0 _ rfl
 have e4:h₁.PlainList D #[]:=⟨0,a2.extBut _ _ (Y0 (U1 D)) (F0 _ f9)⟩
 have f8 :∀y c,cl.lookup y=some c->c < D:=λ y c e=>by obtain ⟨v,q⟩:=f.cell y c (U y c e);rw [<-hD];exact q.lt
 have d7 :∀b∈frs X.stack,b < D:=λ b a=>by
  rcases List.mem_cons.mp (f.stkSub b a) with e|a
  ·rw [e,<-hD];exact f.lt
  ·rw [<-hD];exact Nat.lt_of_not_le λ z=>f.nofs z a
 have c9 :∀b∈fp,b∉frs X.stack:=λ b a d8=>by
  rcases List.mem_cons.mp (f.stkSub b d8) with e|z
  ·exact (L b a).2.1 e
  ·exact (L b a).2.2.1 z
 generalize hX':cxComp X scope cl (xs++fr.map (·.2)) (D + 1) s₂ M fp=X';have e7:X'.Ok:=by
  subst hX';refine ⟨f.ok.mod,hkind,f.ok.glob,f.ok.blt,(by show s₂.heap.objs.size<=D + 1;lia),λ y z c P O=>f.ok.inj y z c (U _ _ P) (U _ _ O),λ y S=>?_,(λ _ _ z=>Bool.noConfusion z),f.ok.hd,f.ok.frames,.inl rfl,λ b a=>⟨?_,λ y c e=>?_⟩,λ b o e=>f.bs b o e,?_,λ b o e a=>?_,c9,f.env0.funs,f.stkFree⟩
  ·rcases S with S|S
   ·exact b6 y (z5o hcell S (.inl rfl))
   ·exact b6 y (z5o hcell S (.inr rfl))
  ·exact Y0 (Q1 (a8 b a))
  ·exact (L b a).2.2.2.2.1 y c (U y c e)
  ·exact K0 f.ok.bsz f.sz
  ·rcases (L b a).2.2.2.1 with z|z
   ·exact f.ok.noex b o e z
   ·exact absurd (O1 (P0 (f.ok.bs b o e).1) z) (o4 _)
 have Y:X'.env.locals=D + 1:=by subst hX';rfl
 have a3:X'.env.cells=cl:=by subst hX';rfl
 have a7:X'.fs=frs X.stack:=by subst hX';rfl
 have b2:X'.pn=[]:=by subst hX';rfl
 have a5:X'.s₀=s₂:=by subst hX';rfl
 have c3:X'.H₀=M:=by subst hX';rfl
 have c0:X'.ex=fp:=by subst hX';rfl
 have c2:X'.N=xs++fr.map (·.2):=by subst hX';rfl
 have d0:X'.A=X.A:=by subst hX';rfl
 have E:X'.prog=X.prog/\X'.w=X.w/\X'.K=X.K/\X'.calm=true:=by subst hX';exact ⟨rfl,rfl,rfl,hcalm⟩
 have b8:X'.xe=λ _ _=>False:=by subst hX';rfl
 have c8:X'.env=compEnvC scope cl (D + 1) X.env:=by subst hX';rfl
 have f4:PF X' ifs tc:=hX' ▸ ht cl (D + 1) s₂ M fp;have e5:PE X' elt te:=hX' ▸ he cl (D + 1) s₂ M fp;have e8:PG X' tg g:=hX' ▸ hg cl (D + 1) s₂ M fp;have fresh :∀b,D<=b->M b=none:=λ b a=>f.hok.fresh (by rw [hD];exact a);have start :∀t,Inv X' [] (cStG σ fr (G2 xs.length none)) M { s₂ with heap:=h₁,toks:=t }:=λ t=>by
  refine ⟨e7,by rw [a5],f.bare,?_,⟨_,by rw [Y];exact a4,λ i y v P O e3=>?_⟩,λ y c e=>?_,by rw [Y];exact fresh _ (T5 _),λ y c e=>?_,λ p B=>?_,?_,?_⟩
  ·rw [a7,c0,c3,a5];exact Un.kept a0
  ·rw [c2] at P;by_cases a1:i < xs.length
   ·exfalso;unfold cStG at O;rw [C1 (by rw [B3];exact a1),V6,if_pos a1] at O;cases O
   ·have a1:xs.length<=i:=Z6 a1;rw [E1 a1,E2] at P;unfold cStG at O;rw [E1 (by rw [B3];exact a1),B3,E2] at O;generalize i - xs.length=i at P O;cases ej:fr[i]? with
    | none=>rw [ej] at P;cases P
    | some p=>
     rw [ej] at P;obtain rfl:p.2=y:=P1 P;have a6:(σ[p.1]?).join=some v:=by rw [ej] at O;exact P1 O
     have g0:σ[p.1]? = some (some v):=by
      cases q:σ[p.1]? with
      | none=>rw [q] at a6;cases a6
      | some z=>rw [q] at a6;exact congrArg some a6
     have B:=v0 ej;obtain ⟨m,hn,hl⟩:=f.loc;obtain ⟨u,r,l⟩:=hl p.1 p.2 v (hfr p B).1 g0 (by rcases (hfr p B).2 with z|z;exact .inr (.inl z);exact .inr (.inr z));refine ⟨u,r,.inr ⟨?_,?_⟩⟩
     ·rw [c8];exact (hfs p B).2
     ·rcases l with ⟨z,_⟩|⟨_,c,ec,q⟩
      ·exfalso;rcases (hfr p B).2 with z'|z'<;>(rw [z] at z';cases z')
      ·obtain ⟨c',c1⟩:=b6 p.2 (hfs p B).1;have:=U _ _ c1;rw [ec] at this;cases this;obtain ⟨o,ho,hd⟩:=q;exact ⟨c,by rw [a3];exact c1,o,a0 _ _ ho,hd⟩
  ·rw [a3] at e;obtain ⟨v,o,ho,hd⟩:=f.cell y c (U y c e);exact ⟨v,o,a0 _ _ ho,hd⟩
  ·rw [a3] at e;exact f.freeC y c (U y c e)
  ·rw [b2] at B;exact nomatch B
  ·rw [E.1,E.2.1];exact f.hok.kept a0
  ·rw [c2];unfold cStG;simp
 have FP :∀{pins':List (Addr×Obj)} {H':Hp},(∀b∈fp,H' b=none)->(∀p∈pins',p.1=D)->∀b∈fp,FpOk X' pins' H' b:=λ hn B b a=>by
  refine ⟨hn b a,?_,?_,.inl (by rw [c0];exact a),λ y c e=>?_,λ p c5=>?_⟩
  ·rw [Y];exact Y0 (Q1 (a8 b a))
  ·rw [a7];exact c9 b a
  ·rw [a3] at e;exact (L b a).2.2.2.2.1 y c (U y c e)
  ·rw [b2] at c5;rw [B p c5];exact C3 (a8 b a)
 -- the turns
 have loop :∀s₃:A0,s₃={ s₂ with heap:=h₁,toks:=s₂.toks + ([]:List (Str×Value)).length }->
   Z5 (B1 X.prog X.w) X.A (.compLoop (.ListComp elt [⟨tg,iter,ifs,0⟩] scope pos) 0 (.ref it) (.ref D) (compEnvC scope cl (D + 1) X.env))
    (compPost (B1 X.prog X.w) X.A X.xe use QQ (.ref D) (D + 1)) s₃:=by
  rintro s₃ rfl;rw [<-c8,<-E.1,<-E.2.1,<-d0];refine zff (λ k s'=>∃i ys its H',Inv X' [] (cStG σ fr (G2 xs.length none)) H' s'/\tn i s'.heap/\(∀b∈fp,H' b=none)/\s'.heap.PlainList D its.toArray/\Vals ys its/\H' D=none/\W i k ys H') ?_ m0
   ⟨0,[],[],M,start _,T.keep _ _ _ b1 λ b a o e=>a0 b o e,λ b a=>(L b a).1,e4,.nil,fresh _ (C0 _),w0⟩
  rintro n s3 ⟨i,ys,its,H3,I3,st3,fr3,ac3,rv3,hD3,w3⟩;obtain ⟨na,f5⟩:=id ac3;have c7:Inv X' [(D,{ cls:=.type "list",data:=.seq its.toArray na })] (cStG σ fr (G2 xs.length none)) H3 s3:=I3.pins_of λ p B=>by rw [List.mem_singleton] at B;subst B;refine ⟨f5,hD3,by rw [Y];exact Y0 (U1 D),by rw [a7];exact λ z=>o4 _ (d7 D z),λ v z=>nomatch z⟩
  have hT:=T;rw [<-E.1,<-E.2.1,<-E.2.2.1] at hT;rcases d4 i n ys H3 w3 with ⟨f6,b5,qn⟩|⟨go,b5,step⟩
  ·refine thn (hT.done X' rfl rfl rfl E.2.2.2 i _ s3 _ H3 _ c7 (FP fr3 (by intro p B;rw [List.mem_singleton.mp B])) st3 f6) λ r s4 ⟨hr,I4⟩=>?_;subst hr;obtain ⟨m4,f1,_⟩:=id I4.loc;obtain ⟨Z,c6⟩ :∃Z,Z=s4.heap:=⟨_,rfl⟩
   have d2:Q4 (D + 1) s4.heap Z:=by rw [c6];exact ⟨rfl,λ _ _=>rfl⟩
   have d3:D≠D + 1:=Y0 (U1 D);have d9:=(I4.pin (D,_) (J1 _ N1))
   have g1:Z.get? D=some { cls:=.type "list",data:=.seq its.toArray na }:=(d2.2 D d3).trans d9.1;have un:Un (frs X.stack) fp M H3 s₂.heap s4.heap:=by have:=I4.base;rw [a7,c0,c3,a5] at this;exact this
   have kp :∀b o,b≠D + 1->s4.heap.get? b=some o->Z.get? b=some o:=λ b o a e=>(d2.2 b a).trans e;have a9 :∀b o,s₂.heap.get? b=some o->b≠D + 1/\b≠D:=λ b o e=>by have:=P0 e;rw [hD] at this;exact ⟨Y0 (Q1 this),Y0 this⟩
   have d5:Un (frs X.stack) fp M (upd H3 D (.lst ys)) s₂.heap Z:=by
    refine ⟨λ b o e n a hx=>kp b o (a9 b o e).1 (un.keep b o e n a hx),λ b o e n a hx=>?_,λ b o e n hx=>by rw [upd_ne (a9 b o e).2];exact un.free b o e n hx,λ b o e hx=>?_,λ b xs e=>?_,λ b o u e=>?_,λ b ps e=>?_⟩
    ·obtain ⟨sl,z⟩:=un.slot b o e n a hx;exact ⟨sl,kp _ _ (a9 b o e).1 z⟩
    ·obtain ⟨o',z⟩:=un.there b o e hx;exact ⟨o',kp _ _ (a9 b o e).1 z⟩
    ·rw [upd_ne (z0e e (fresh D (C0 _)))];exact un.tups b xs e
    ·rw [upd_ne (z0e e (fresh D (C0 _)))];exact un.frzs b o u e
    ·rw [upd_ne (z0e e (fresh D (C0 _)))];exact un.tbls b ps e
   have b4:H3 (D + 1)=none:=by have:=I4.free;rw [Y] at this;exact this
   have f0:HOk X.prog X.w (upd H3 D (.lst ys)) Z:=λ b u e=>by
    by_cases a:b=D
    ·subst a;rw [upd_same] at e;cases e;exact ⟨b5,its,na,rv3,g1⟩
    ·rw [upd_ne a] at e;have z:=I4.hok b u e;rw [E.1,E.2.1] at z;refine z.stay (λ c v hc q=>kp c v ?_ q) (λ c q=>by rw [upd_ne (z0e q hD3)];exact q) λ c xs q=>by rw [upd_ne (z0e q hD3)];exact q
     rintro rfl;rcases hc with rfl|hc
     ·rw [b4] at e;cases e
     ·rw [b4] at hc;cases hc
   subst c6;have I5:Inv X pins σ (upd H3 D (.lst ys)) s4:=f.call' (s':=s4) (ch:=fp) (by have:=I4.os;rw [a5] at this;exact this) d5 f0 I4.bare (λ b a=>⟨(L b a).2.2.2.1,(L b a).2.1,(L b a).2.2.2.2.1,(L b a).2.2.2.2.2⟩);show compPost (B1 X'.prog X'.w) X'.A X.xe use QQ (.ref D) (D + 1) (.ok .next) s4;rw [E.1,E.2.1,d0];refine hend D s4 _ I5 ⟨m4,Y ▸ f1⟩ ?_ ?_ ?_ ?_ (qn D hD3)
   ·rw [upd_ne (C3 (U1 D))];exact b4
   ·exact C3 (Q1 (by rw [<-hD];exact f.lt))
   ·exact K0 f.sz (by rw [hD];exact T5 D)
   ·refine ⟨λ z=>f.nofs (by rw [hD];exact T5 D) z,λ y c e=>?_,λ p B=>?_⟩
    ·obtain ⟨v,q⟩:=f.cell y c e;exact Y0 (Q1 (by rw [<-hD];exact q.lt))
    ·exact Y0 (Q1 (by rw [<-hD];exact P0 (f.pin p B).1))
  ·refine thn (hT.item X' rfl rfl rfl E.2.2.2 i _ s3 _ H3 _ c7 (FP fr3 (by intro p B;rw [List.mem_singleton.mp B])) st3 go) λ r s4 ⟨u,hr,h4⟩=>?_;subst hr;refine thn h4 λ _ s5 ⟨v,H5,I5,r5,y5,st5,fr5⟩=>?_;have f3:=I5.pinned (FP fr5 (by intro p B;rw [List.mem_singleton.mp B])) (T.obj _ _ st5);have g5:=e8 _ s5 (cStG σ fr (G2 xs.length none)) H5 v u _ f3 r5 (step v H5 y5);rw [b8] at g5;refine thn g5 λ _ s6 ⟨σ6,H6,I6,us,hus,e6,q6⟩=>?_;subst e6;have t6:=f4 _ s6 _ H6 _ I6 q6;rw [b8] at t6;refine thn t6 λ ok s7 ⟨H7,I7,q7⟩=>?_;have d1 :∀{H8:Hp} {F:A0} {ys':List V} {its':List Value} {pl:List (Addr×Obj)},Inv X' (pl++pinsAt fp s5.heap) (cStG σ fr us) H8 F->F.heap.PlainList D its'.toArray->Vals ys' its'->H8 D=none->(∃m',m' < n/\W (i + 1) m' ys' H8)->
     ∃m,m < n/\∃i ys its H',Inv X' [] (cStG σ fr (G2 xs.length none)) H' F/\tn i F.heap/\(∀b∈fp,H' b=none)/\F.heap.PlainList D its.toArray/\Vals ys its/\H' D=none/\W i m ys H':=λ {H8 F ys' its' pl} R b3 rv8 b0 ⟨m',hm,w8⟩=>by
    refine ⟨m',hm,i + 1,ys',its',H8,(R.pins_of (pins':=[]) (λ p B=>absurd B B0)).weak (by unfold cStG;simp [hus]) ?_,T.keep _ _ _ st5 λ b a o e=>(R.pin (b,o) (J1 _ (J1 _ (z3u a e)))).1,λ b a=>?_,b3,rv8,b0,w8⟩
    ·intro j z e;unfold cStG at e⊢;by_cases hj:j < xs.length
     ·rw [C1 (by rw [B3];exact hj),V6,if_pos hj] at e;cases e
     ·have hj:xs.length<=j:=Z6 hj;rw [E1 (by rw [B3];exact hj),B3] at e;rw [E1 (by rw [hus];exact hj),hus];exact e
    ·obtain ⟨o,e,d⟩:=T.obj _ _ st5 b a;exact (R.pin (b,o) (J1 _ (J1 _ (z3u a e)))).2.1
   have b9 :∀{H8:Hp} {F:A0} {σ8:St},Inv X' ([(D,{ cls:=.type "list",data:=.seq its.toArray na })]++pinsAt fp s5.heap) σ8 H8 F->F.heap.PlainList D its.toArray/\H8 D=none:=λ R=>
    have z:=R.pin (D,_) (J1 _ (P5 _ N1))
    ⟨⟨na,z.1⟩,z.2.1⟩
   cases ok with
   | false=>rw [if_neg Z0] at q7⊢;exact d1 I7 (b9 I7).1 rv3 (b9 I7).2 q7
   | true=>
    rw [if_pos rfl] at q7⊢;have t7:=e5 _ s7 _ H7 _ I7 q7;rw [b8] at t7;refine thn t7 λ y F ⟨vy,H8,R,r8,q8⟩=>?_;obtain ⟨b3,b0⟩:=b9 R;refine wpAny_list_append_plain (hsz:=by have:=rv3.length;rw [T0,<-this];exact b5) b3 λ h9 c4 e0=>?_;have I9:Inv X' ([]++pinsAt fp s5.heap) (cStG σ fr us) H8 F:=R.pins_of λ p B=>(R.pin p (J1 _ (J1 _ B)))
    have d6:Inv X' ([]++pinsAt fp s5.heap) (cStG σ fr us) H8 { F with heap:=h9 }:=by
     refine I9.turned (t':=F.toks) (it:=D) (λ b o a e=>(e0.2 b a).trans e) b0 (by rw [Y];exact Y0 (U1 D)) (.inr (by rw [a5,hD];exact C0 _)) (λ y' c e=>?_) λ p B=>?_
     ·rw [a3] at e;exact Y0 (f8 y' c e)
     ·rw [b2] at B;exact Y0 (a8 _ (zc2 B).1)
    have e9:its.toArray.push y=(its++[y]).toArray:=by simp
    rw [e9] at c4;exact d1 d6 c4 (rv3.snoc r8) b0 q8
 exact codeAny_compStart_list (loop _ rfl) (T.self _ 0 _ _ _ (T.keep _ _ _ b1 λ b a o e=>a0 b o e) (loop _ rfl))
theorem zi0 {xs:List Str} {tg:Expr} {g:TG} {pos:Pos} {elt iter:Expr} {ifs:List Expr} {scope:Scope} {fr:List (Nat×Str)} {wi:TI} {tc:TT} {te:TE} (hcalm:X.calm=true) (hi:PI X tg iter wi)
  (hfr :∀p∈fr,X.N[p.1]? = some p.2/\(X.env.kindOf p.2=some .cell\/X.env.kindOf p.2=some .free))
  (hfree :∀y∈scope.names,y.2=Y1->X.env.kindOf y.1=some .cell\/X.env.kindOf y.1=some .free)
  (hfs :∀p∈fr,(p.2,Y1)∈scope.names/\((b7 scope X.env).names.lookup p.2=some .cell\/(b7 scope X.env).names.lookup p.2=some .free))
  (hcell :∀y∈scope.names,y.2≠NameKind.cell) (hkind:scope.kind=.function) (hnames :∀y∈scope.names,y.2=NameKind.local->scope.names.lookup y.1=some .local)
  (hg :∀cl C s₂ H₂ fp,PG (cxComp X scope cl (xs++fr.map (·.2)) C s₂ H₂ fp) tg g)
  (ht :∀cl C s₂ H₂ fp,PF (cxComp X scope cl (xs++fr.map (·.2)) C s₂ H₂ fp) ifs tc) (he :∀cl C s₂ H₂ fp,PE (cxComp X scope cl (xs++fr.map (·.2)) C s₂ H₂ fp) elt te)
  (hs :∀x,J5 iter X.env x=G3 x:=by intro _;rfl):PE X (.ListComp elt [⟨tg,iter,ifs,0⟩] scope pos) (tCompG wi xs.length fr g tc te):=by
 intro t s σ H Q I h;rw [eval_ListComp];refine zdj hcalm hi hfr hfree hfs hcell hkind hnames hg ht he hs I h λ D k d n a f i j ⟨c,hc,hp⟩ q=>?_;obtain ⟨m,a⟩:=a;exact ⟨m,a,λ r l=>⟨.ref D,d,n.turned (t':=k.toks) (it:=D + 1) (λ b o c e=>(l.2 b c).trans e) f i (.inr j) hc hp,rfl,q⟩⟩
theorem zby {xs:List Str} {tg:Expr} {g:TG} {pos:Pos} {elt iter:Expr} {ifs:List Expr} {scope:Scope} {fr:List (Nat×Str)} {wi:TI} {tc:TT} {te:TE} {i:Nat} {y:Str} {py spos:Pos} (hNy:X.N.Nodup) (hiy:X.N[i]? = some y) (hy:Loc X.env.scope y) (hcalm:X.calm=true) (hi:PI X tg iter wi)
  (hfr :∀p∈fr,X.N[p.1]? = some p.2/\(X.env.kindOf p.2=some .cell\/X.env.kindOf p.2=some .free))
  (hfree :∀y∈scope.names,y.2=Y1->X.env.kindOf y.1=some .cell\/X.env.kindOf y.1=some .free)
  (hfs :∀p∈fr,(p.2,Y1)∈scope.names/\((b7 scope X.env).names.lookup p.2=some .cell\/(b7 scope X.env).names.lookup p.2=some .free))
  (hcell :∀y∈scope.names,y.2≠NameKind.cell) (hkind:scope.kind=.function) (hnames :∀y∈scope.names,y.2=NameKind.local->scope.names.lookup y.1=some .local)
  (hg :∀cl C s₂ H₂ fp,PG (cxComp X scope cl (xs++fr.map (·.2)) C s₂ H₂ fp) tg g)
  (ht :∀cl C s₂ H₂ fp,PF (cxComp X scope cl (xs++fr.map (·.2)) C s₂ H₂ fp) ifs tc) (he :∀cl C s₂ H₂ fp,PE (cxComp X scope cl (xs++fr.map (·.2)) C s₂ H₂ fp) elt te)
  (hs :∀x,J5 iter X.env x=G3 x:=by intro _;rfl) (hw:K6 (.ListComp elt [⟨tg,iter,ifs,0⟩] scope pos) (some (.Name y py)) spos.line X.env=G3 true:=by rfl) (hf:X.fn y=true\/X.env.scope.names.lookup y=some .local:=by first|exact .inl rfl|exact .inr rfl|assumption) :
  PS X (.Assign [.Name y py] (.ListComp elt [⟨tg,iter,ifs,0⟩] scope pos) spos) (tAsg (tCompG wi xs.length fr g tc te) (gName i)):=by
 intro r s σ H D I h;rw [exec_Assign_Name_used y py _ spos hw];refine u0 (z8 (u0 ?_));show S0 _ _ (do let _ <-comprehension (.ListComp elt [⟨tg,iter,ifs,0⟩] scope pos) scope X.env (firstIterPos [⟨tg,iter,ifs,0⟩] pos) (newList []) (firstAsync [⟨tg,iter,ifs,0⟩]) (firstIter [⟨tg,iter,ifs,0⟩] X.env) (some (assign (.Name y py) X.env));G3 ()) _ _ _;refine u0 (zdj hcalm hi hfr hfree hfs hcell hkind hnames hg ht he hs I h λ A t k u d J l w ⟨c,hc,hp⟩ q=>?_);obtain ⟨m,d⟩:=d;obtain ⟨o,E,O,G,n,B,K⟩:=d;have L:Inv X ((A + 1,o) :: r) σ k t:=u.pins_of λ p a=>by
  rcases List.mem_cons.mp a with rfl|a
  ·exact ⟨G,J,l,c,λ v z=>by rw [n] at z;cases z⟩
  ·exact u.pin p (J1 _ a)
 refine thn (z0b (pos:=py) hNy hiy hy hf _ t σ k (.ref A) (.ref A) D.nx L rfl q) λ _ f ⟨σ5,H5,I6,q6⟩=>?_;have j:=I6.pin (A + 1,o) (J1 _ N1);have F:Inv X r σ5 H5 f:=I6.pins_of λ p a=>I6.pin p (J1 _ (F1 _ a));refine ⟨m,⟨o,E,O,j.1,n,B,K⟩,λ P M=>?_⟩;exact G0 (G0 ⟨σ5,H5,F.turned (t':=f.toks) (it:=A + 1) (λ b o c e=>(M.2 b c).trans e) j.2.1 l (.inr w) hc hp,q6⟩)
end
end L2
set_option maxHeartbeats 400000
namespace L2
open PySem PySem.Spec PyProof.Rows
theorem z8h {t rest:TS} {D:Ends} {σ:St} {H:Hp} (R:St->Hp->Prop) (hr :∀σ1 H1,R σ1 H1->rest D σ1 H1) (h:(∀σ1 H1,R σ1 H1->rest D σ1 H1)->t { D with nx:=rest D } σ H):tSeq t rest D σ H:=h hr
theorem z0f {te:TE} {g:TG} {rest:TS} {D:Ends} {σ:St} {H:Hp} (h:te σ H λ x H1=>g x σ H1 (rest D)):tSeq (tAsg te g) rest D σ H:=h
structure Runs (J:It) (H1:Hp) (n:Nat) (Item:Nat->V->Hp->Prop):Prop where
 go :∀i,i < n->∀H,Same H1 H->J.go i H
 stop :∀H,Same H1 H->J.stop n H
 item :∀i,i < n->∀H v H',Same H1 H->J.yld i H v H'->Same H H'/\Item i v H'
theorem z1y (p:Nat->Bool) (n:Nat):(X0 (n + 1)).filter p=(X0 n).filter p++(if p n=true then [n] else []):=by rw [W4,Z3,D5];cases p n<;>rfl
inductive All2 {α β:Type} (R:α->β->Prop):List α->List β->Prop
 | nil:All2 R [] []
 | cons {a:α} {b:β} {xs:List α} {ys:List β}:R a b->All2 R xs ys->All2 R (a :: xs) (b :: ys)
theorem z5x {α β:Type} {R:α->β->Prop} :∀{xs:List α} {ys:List β} {x:α} {y:β},All2 R xs ys->R x y->All2 R (xs++[x]) (ys++[y])
 | [],_,x,y,.nil,h=>.cons h .nil
 | _ :: _,_,x,y,.cons a r,h=>.cons a (z5x r h)
theorem z02 {α β:Type} {R S:α->β->Prop} (h :∀a b,R a b->S a b) :∀{xs:List α} {ys:List β},All2 R xs ys->All2 S xs ys
 | [],_,.nil=>.nil
 | _ :: _,_,.cons a r=>.cons (h _ _ a) (z02 h r)
theorem z05 {α β:Type} {R:α->β->Prop} :∀{xs:List α} {ys:List β},All2 R xs ys->ys.length=xs.length
 | [],_,.nil=>rfl
 | _ :: _,_,.cons _ r=>congrArg (· + 1) (z05 r)
theorem z6o {α β:Type} {f:α->β} :∀{xs:List α} {ys:List β},All2 (λ x y=>y=f x) xs ys->ys=xs.map f
 | [],_,.nil=>rfl
 | _ :: _,_,.cons a r=>by rw [j1,z6o r,a]
theorem z1d {α β:Type} (p:α->Bool) (f:α->β) (d:α) :∀xs:List α,((X0 xs.length).filter λ i=>p (xs[i]?.getD d)).map (λ i=>f (xs[i]?.getD d))=(xs.filter p).map f:=by
 intro xs;have h:(X0 xs.length).map (λ i=>xs[i]?.getD d)=xs:=by
  apply List.ext_getElem
  ·simp
  ·intro i b a;simp only [List.getElem_map,List.getElem_range,v1 a,Option.getD_some]
 have e:(xs.filter p).map f=((((X0 xs.length).map (λ i=>xs[i]?.getD d))).filter p).map f:=by rw [h]
 rw [e,List.filter_map,u3];rfl
structure QE (X:Cx) (e:Expr) (t:TE):Prop where
 run:PE X e t
structure QA (X:Cx) (es:List Expr) (t:TA):Prop where
 run:PA X es t
structure QPs (X:Cx) (pos:Pos) (ks:List (Option Expr)) (vs:List Expr) (t:List (TE×TE)):Prop where
 run:PPs X pos ks vs t
structure QS (X:Cx) (st:Stmt) (t:TS):Prop where
 run:PS X st t
structure QSs (X:Cx) (sts:List Stmt) (t:TS):Prop where
 run:PSs X sts t
section
variable {X:Cx} {pos:Pos}
theorem q_of {sts:List Stmt} {t:TS} {G:TS->Prop} (q:QSs X sts t) (g:G t) :∃t,PSs X sts t/\G t:=⟨t,q.run,g⟩
theorem zio {st:Stmt} {t:TS} (h:QS X st t):QSs X [st] t:=⟨z03 h.run⟩
theorem zar {st:Stmt} {rest:List Stmt} {t u:TS} (h:QS X st t) (r:QSs X rest u):QSs X (st :: rest) (tSeq t u):=⟨z01 h.run r.run⟩
theorem qs_set {i:Nat} {x:Str} {e:Expr} {te:TE} {pos':Pos} (hN:X.N.Nodup) (hi:X.N[i]? = some x) (hx:Loc X.env.scope x) (he:QE X e te) (hs:K6 e (some (.Name x pos')) pos.line X.env=G3 false:=by rfl) (hf:X.fn x=true\/X.env.scope.names.lookup x=some .local:=by first|exact .inl rfl|exact .inr rfl|assumption) :
  QS X (.Assign [.Name x pos'] e pos) (tAsg te (gName i)):=⟨ps_set hN hi hx he.run hs hf⟩
theorem qe_lst {es:List Expr} {t:TA} (h:QA X es t):QE X (.List es pos) (tLst t):=⟨pe_lst h.run⟩
theorem qa_nil:QA X [] tNil:=⟨pa_nil⟩
theorem z53 {e:Expr} {es:List Expr} {te:TE} {t:TA} (ha:QE X e te) (hr:QA X es t) (hs:K1 (e :: es) X.env=(false,X2 e X.env) :: K1 es X.env:=by rfl):QA X (e :: es) (tCons te t):=⟨z00 ha.run hr.run hs⟩
theorem qe_ix {a b:Expr} {ta tb:TE} {r:R2} (hr:IxR X r) (ha:QE X a ta) (hb:QE X b tb) (hs:zgj b):QE X (.Subscript a b pos) (tOp r ta tb):=⟨pe_ix hr ha.run hb.run hs⟩
end
theorem z13 {X:Cx} {K:d0} (h:X.K=K):IxR X (rIx K):=h ▸ ix_seq
theorem z0c {α β:Type} {R:α->β->Prop} :∀{xs:List α} {ys:List β} {i:Nat} {y:β},All2 R xs ys->ys[i]? = some y->∃x,xs[i]? = some x/\R x y
 | _,_,i,y,.nil,e=>by simp at e
 | _,_,0,y,.cons a _,e=>by rw [P2] at e;cases e;exact ⟨_,P2,a⟩
 | _,_,i + 1,y,.cons _ r,e=>by rw [Z1] at e;obtain ⟨x,c,b⟩:=z0c r e;exact ⟨x,by rw [Z1];exact c,b⟩
end L2
set_option maxHeartbeats 4000000
namespace L2
open PySem PySem.Spec PyProof.Rows
section
variable {prog:Program} {w:Q0} {A:X1} {E:Value->A0->Prop} {s:A0}
theorem z6u (hh:A.handled=none) (it t:Addr) (ne:t≠it) (items:Array Value):Draws prog w A it [it,t] items.size (λ i v=>items[i]? = some v) (λ i h=>h.IsTupleIter it t i/\h.IsTuple t items) where
 live:=λ i h a=>a.1.elim λ o z=>⟨o,z.1⟩
 frame:=λ i h b a k=>⟨a.1.elim λ o z=>⟨o,k it (by simp) o z.1,z.2⟩,a.2.elim λ o z=>⟨o,k t (by simp) o z.1,z.2⟩⟩
 item:=λ i s Q E c a q=>tupOn a.1 a.2 (A6 c) λ b f d=>q _ b s.toks (A6 c) ⟨f,a.2.elim λ o z=>⟨o,(d.2 t ne).trans z.1,z.2⟩⟩ d
 done:=λ s Q E a q=>tupOff hh a.1 a.2 (by simp) λ b e x y=>q b e x y
theorem zjc (a:Addr) (xs:Array Value):Meets (Builtin.«enumerate.__new__» ⟨[.type "enumerate",.ref a],[]⟩) (λ _ R s=>s.heap.IsTuple a xs/\R (.ok (.ret (.ref (s.heap.objs.size + 1))))
  { s with heap:=(s.heap.push { cls:=.type "tuple_iterator",data:=.fields #[.ref a,.int 0 0] }).push { cls:=.type "enumerate",data:=.fields #[.none,.bool false,.ref s.heap.objs.size,rawInt 0,.none,.none] } }):=
 .of_wp λ i w A R s h=>by
  obtain ⟨j,g,d,k,f⟩:=s;obtain ⟨e,h⟩:=h;have m:=sub_enumerate;have b:Heap.IsTuple (Shared.heap ⟨j,g,d,k,f⟩) a xs:=e
  wp_walk using v5 b
  intro Γ p l;show S0 (B1 i w) A.in1 (G3 _) _ _ _;refine G0 ?_;generalize List.drop 1 ((Γ.code,p) :: Γ.below)=L;split
  ·rename_i c _ _ _ _;cases c == K4 "enumerate" with
   | true=>
    wp_walk using v5 b
    refine ⟨_,rfl,?_⟩;simpa [D3,d4] using h
   | false=>
    wp_walk using v5 b
    refine ⟨_,rfl,?_⟩;simpa [D3,d4] using h
  ·wp_walk using v5 b
   refine ⟨_,rfl,?_⟩;simpa [D3,d4] using h
theorem zh9 {a:Addr} {xs:Array Value} {Q:Value->A0->Prop} (ha:s.heap.IsTuple a xs)
  (q :∀h',IsEnum h' (s.heap.objs.size + 1) s.heap.objs.size 0 .none->h'.IsTupleIter s.heap.objs.size a 0->h'.objs.size=s.heap.objs.size + 2->(∀c o,s.heap.get? c=some o->h'.get? c=some o)->Q (.ref (s.heap.objs.size + 1)) { s with heap:=h' }) :
  S0 (B1 prog w) A (call (.type "enumerate") [.ref a]) Q E s:=by
 refine callType_new F.called_enumerate (by decide) (F.typeCall_enumerate_1 _) (F.newCall_enumerate_1 _) (λ g=>F.args_object_init_2 g _) F.entry_enumerate_new (zjc a xs) ⟨ha,?_⟩;generalize hn:s.heap.objs.size=n at q⊢;generalize h0:s.heap.push { cls:=.type "tuple_iterator",data:=.fields #[.ref a,.int 0 0] }=k0;have d:k0.objs.size=n + 1:=by rw [<-h0,D3,hn]
 have f:k0.get? n=some { cls:=.type "tuple_iterator",data:=.fields #[.ref a,.int 0 0] }:=by rw [<-h0,<-hn];exact V0 _ rfl
 have b:(k0.push { cls:=.type "enumerate",data:=.fields #[.none,.bool false,.ref n,rawInt 0,.none,.none] }).get? (n + 1)=some { cls:=.type "enumerate",data:=.fields #[.none,.bool false,.ref n,rawInt 0,.none,.none] }:=by rw [<-d];exact V0 _ rfl
 exact ⟨⟨_,b,rfl⟩,q _ b ⟨_,F0 _ f,rfl,rfl⟩ (by rw [D3,d]) λ c o e=>F0 _ (by rw [<-h0];exact F0 _ e)⟩
end
noncomputable def IteL (K:d0) (a:Addr):It:=
  ⟨λ i H=>∃xs x,SqL K H a xs/\xs[i]? = some x,
   λ i H v H'=>∃p,H p=none/\v=.ref p/\∀xs,SqL K H a xs->∃x,xs[i]? = some x/\H'=upd H p (.tup [.int i,x]),
   λ i H=>∃xs,SqL K H a xs/\xs.length=i⟩
theorem w_0:(0:Nat)<=sizeLine:=by decide
theorem w_1:(1:Nat)<=sizeLine:=by decide
theorem w_2:(2:Nat)<=sizeLine:=by decide
theorem w_3:(3:Nat)<=sizeLine:=by decide
theorem w_4:(4:Nat)<=sizeLine:=by decide
theorem w_5:(5:Nat)<=sizeLine:=by decide
theorem w_7:(7:Nat)<=sizeLine:=by decide
theorem w_8:(8:Nat)<=sizeLine:=by decide
theorem zel {P:Program} {w:Q0} {K:d0} {elts:List Expr} {x1:Nat} {pos:Pos} {e it a:Addr} (ne:e≠it) (nae:a≠e) (nai:a≠it):Turn P w K (.Tuple elts x1 pos) (IteL K a) [e,it] e (λ n h=>(∃old,IsEnum h e it (n:Nat) old)/\h.IsListIter it a n) where
 mem:=by simp
 obj:=λ n h g c f=>by
  simp only [T2,B0,or_false] at f;rcases f with rfl|rfl
  ·obtain ⟨⟨old,z⟩,_⟩:=g;exact ⟨_,z,λ v z=>by cases (show j05 _=Data.cell v from z)⟩
  ·obtain ⟨_,o,e,_,d⟩:=g;exact ⟨o,e,λ v z=>by rw [d] at z;cases z⟩
 keep:=λ n h N g k=>by obtain ⟨⟨old,z⟩,o,e1,e2⟩:=g;exact ⟨⟨old,k e (by simp) _ z⟩,o,k it (by simp) _ e1,e2⟩
 item:=by
  intro X C L r f n a1 s σ H E I p g B;subst C L r;obtain ⟨Q,x,m,U⟩:=B;obtain ⟨i,J,j,_⟩:=I.list m;have j:s.heap.IsList a i.toArray:=j.isList;obtain ⟨u,M,ru⟩:=J.get U;have D:=Draws.list (prog:=X.prog) (w:=X.w) (A:=X.A.in1) (I.ok.hd f) it a nai i.toArray;have a3:n < i.toArray.size:=by have:=(List.getElem?_eq_some_iff.mp M).1;simpa using this
  obtain ⟨⟨old,R⟩,O⟩:=g;refine wpAny_pyNext_enum_itemD D R ⟨O,j⟩ a3 ne (by simp [ne,nae.symm]) λ y N t q a5 a2 tT hz F=>?_;have q:i[n]? = some y:=by simpa using q
  rw [M] at q;cases q;have a4:e < s.heap.objs.size:=P0 R;have Z:it < s.heap.objs.size:=by obtain ⟨o,z,_⟩:=O;exact P0 z
  have S:s.heap.objs.size≠e:=C3 a4;have nT:s.heap.objs.size∉[e,it]:=by simp only [T2,B0,or_false,not_or];exact ⟨S,C3 Z⟩
  refine ⟨_,rfl,N9 a5 λ T Y G=>?_⟩;have k2 :∀b o,b∉[e,it]->s.heap.get? b=some o->T.get? b=some o:=λ b o l z=>by simp only [T2,B0,or_false,not_or] at l;exact (G.2 b l.1).trans (F b o l.1 l.2 z)
  have V:=(G.2 _ S).trans tT;have a0:=a2.1.elim λ o z=>(⟨o,(G.2 it ne.symm).trans z.1,z.2⟩:T.IsListIter it a (n + 1))
  have fr:H s.heap.objs.size=none:=I.hok.fresh (C0 _);refine ⟨.ref s.heap.objs.size,upd H s.heap.objs.size (.tup [.int n,x]),I.turnedLaid (t':=t + 1) k2 p (C0 _) ⟨w_2,[.int n t,u],.cons ⟨t,rfl⟩ (.cons ru .nil),⟨_,V,rfl,_,rfl⟩,_,V,rfl⟩,rfl,⟨_,fr,rfl,λ a8 a6=>⟨x,?_,rfl⟩⟩,⟨⟨_,Y⟩,a0⟩,λ c f=>?_⟩
  ·rw [I.list_inj a6 m];exact U
  ·rw [upd_ne (λ (z:c=s.heap.objs.size)=>nT (z ▸ f))];exact (p c f).1
 done:=by
  intro X C L r f n a1 s σ H E I p g B;subst C L r;obtain ⟨Q,m,rfl⟩:=B;obtain ⟨i,J,j,_⟩:=I.list m;have j:s.heap.IsList a i.toArray:=j.isList;have D:=Draws.list (prog:=X.prog) (w:=X.w) (A:=X.A.in1) (I.ok.hd f) it a nai i.toArray;have W:=WalksT.enumerateD D e ne (by simp [ne,nae.symm]) (by simp);have la:i.toArray.size=Q.length:=by simpa using J.length.symm
  exact W.done s _ E (by rw [la];exact ⟨g.1,g.2,j⟩) λ N tk F=>⟨rfl,I.turnedL (t':=tk) (λ c o f e=>F c o f e) p⟩
 self:=λ _ _ _ _ _ g h=>g.1.elim λ old z=>a7 z h
noncomputable def ieL (K:d0) (ta:TA):TI:=λ σ H R=>ta σ H λ vs H1=>∃a xs,vs=[.ref a]/\SqL K H1 a xs/\R (IteL K a) H1
theorem z35 {X:Cx} {elts:List Expr} {x1:Nat} {tpos:Pos} {e:Expr} {ta:TA} {p pos:Pos} (hg:Gl X "enumerate") (hm:X.mg "enumerate" = none) (ha:PA X [e] ta) (hs:K1 [e] X.env=[(false,X2 e X.env)]:=by rfl) :
  PI X (.Tuple elts x1 tpos) (.Call (.Name "enumerate" p) [e] [] pos) (ieL X.K ta):=by
 intro n s σ H R I h;refine Call_ (ld_blt I hg hm boot_enumerate (F2 (thn (ha pos n s σ H _ I h) λ us b ⟨vs,H1,I1,r1,q1⟩=>?_) (by rw [hs];rfl) rfl));obtain ⟨a,x,v,k,q⟩:=q1;subst v;obtain ⟨u,rfl,r⟩:=vals1 r1;cases (show u=W0 a from r);obtain ⟨t,y,d,_⟩:=I1.list k;have d:b.heap.IsList a t.toArray:=d.isList;have j:a < b.heap.objs.size:=by obtain ⟨o,e,_⟩:=id d;exact P0 e
 refine call_enumerate_list d λ w g m _ l=>?_;refine a7 g ?_;refine ⟨_,_,_,_,H1,rfl,I1.kept (t':=b.toks) l,zel (C3 (U1 _)) (Y0 (Q1 j)) (Y0 j),⟨⟨_,g⟩,m⟩,λ c f=>?_,q⟩;have i:b.heap.objs.size<=c:=by
  simp only [T2,B0,or_false] at f;rcases f with rfl|rfl
  ·exact Nat.le_add_right _ _
  ·exact C0 _
 exact I1.fpOk i (I1.hok.fresh i)
theorem z3k {K:d0} {a:Addr} {xs:List V} {g:TG} {tb:TS} {D:Ends} {σ:St} {H:Hp} (Pv:Nat->St->Hp->Prop) (h0:Pv 0 σ H) (hl :∀i σ H,Pv i σ H->SqL K H a xs)
  (hs :∀i x σ H p,xs[i]? = some x->Pv i σ H->H p=none->g (.ref p) σ (upd H p (.tup [.int i,x])) λ σ2 H2=>tb { D with nx:=Pv (i + 1),ct:=Pv (i + 1),bk:=D.nx } σ2 H2) (hd :∀σ H,Pv xs.length σ H->D.nx σ H) :
  ∃W:Nat->Nat->St->Hp->Prop,(∃m,W 0 m σ H)/\∀i m σ H,W i m σ H->
   ((IteL K a).stop i H/\D.nx σ H)\/((IteL K a).go i H/\∃N:St->Hp->Prop,(∀σ' H',N σ' H'->∃m',m' < m/\W (i + 1) m' σ' H')/\∀x H',(IteL K a).yld i H x H'->g x σ H' λ σ2 H2=>tb { D with nx:=N,ct:=N,bk:=D.nx } σ2 H2):=by
 refine ⟨λ i m σ H=>m=xs.length - i/\i<=xs.length/\Pv i σ H,⟨xs.length,by simp,j2 _,h0⟩,?_⟩;rintro i m σ H ⟨rfl,hi,p⟩;have b:=hl i σ H p;by_cases hlt:i < xs.length
 ·refine .inr ⟨⟨xs,xs[i],b,by simp [hlt]⟩,Pv (i + 1),λ σ' H' d=>⟨xs.length - (i + 1),by lia,rfl,hlt,d⟩,λ v H' y=>?_⟩;obtain ⟨t,h,rfl,j⟩:=y;obtain ⟨f,c,rfl⟩:=j xs b;exact hs i f σ H t c p h
 ·have e:i=xs.length:=by lia
  subst e;exact .inl ⟨⟨xs,b,rfl⟩,hd σ H p⟩
noncomputable def IteT (K:d0) (a:Addr):It:=
  ⟨λ i H=>∃xs x,SqT K H a xs/\xs[i]? = some x,
   λ i H v H'=>∃p,H p=none/\v=.ref p/\∀xs,SqT K H a xs->∃x,xs[i]? = some x/\H'=upd H p (.tup [.int i,x]),
   λ i H=>∃xs,SqT K H a xs/\xs.length=i⟩
theorem zdd {P:Program} {w:Q0} {K:d0} {elts:List Expr} {x1:Nat} {pos:Pos} {e it a:Addr} (ne:e≠it) (nae:a≠e) (nai:a≠it):Turn P w K (.Tuple elts x1 pos) (IteT K a) [e,it] e (λ n h=>(∃old,IsEnum h e it (n:Nat) old)/\h.IsTupleIter it a n) where
 mem:=by simp
 obj:=λ n h g c f=>by
  simp only [T2,B0,or_false] at f;rcases f with rfl|rfl
  ·obtain ⟨⟨old,z⟩,_⟩:=g;exact ⟨_,z,λ v z=>by cases (show j05 _=Data.cell v from z)⟩
  ·obtain ⟨_,o,e,_,d⟩:=g;exact ⟨o,e,λ v z=>by rw [d] at z;cases z⟩
 keep:=λ n h N g k=>by obtain ⟨⟨old,z⟩,o,e1,e2⟩:=g;exact ⟨⟨old,k e (by simp) _ z⟩,o,k it (by simp) _ e1,e2⟩
 item:=by
  intro X C L r f n a1 s σ H E I p g B;subst C L r;obtain ⟨Q,x,m,U⟩:=B;obtain ⟨i,J,j,_⟩:=I.tuple m;have j:s.heap.IsTuple a i.toArray:=j;obtain ⟨u,M,ru⟩:=J.get U;have D:=z6u (prog:=X.prog) (w:=X.w) (A:=X.A.in1) (I.ok.hd f) it a nai i.toArray;have a3:n < i.toArray.size:=by have:=(List.getElem?_eq_some_iff.mp M).1;simpa using this
  obtain ⟨⟨old,R⟩,O⟩:=g;refine wpAny_pyNext_enum_itemD D R ⟨O,j⟩ a3 ne (by simp [ne,nae.symm]) λ y N t q a5 a2 tT hz F=>?_;have q:i[n]? = some y:=by simpa using q
  rw [M] at q;cases q;have a4:e < s.heap.objs.size:=P0 R;have Z:it < s.heap.objs.size:=by obtain ⟨o,z,_⟩:=O;exact P0 z
  have S:s.heap.objs.size≠e:=C3 a4;have nT:s.heap.objs.size∉[e,it]:=by simp only [T2,B0,or_false,not_or];exact ⟨S,C3 Z⟩
  refine ⟨_,rfl,N9 a5 λ T Y G=>?_⟩;have k2 :∀b o,b∉[e,it]->s.heap.get? b=some o->T.get? b=some o:=λ b o l z=>by simp only [T2,B0,or_false,not_or] at l;exact (G.2 b l.1).trans (F b o l.1 l.2 z)
  have V:=(G.2 _ S).trans tT;have a0:=a2.1.elim λ o z=>(⟨o,(G.2 it ne.symm).trans z.1,z.2⟩:T.IsTupleIter it a (n + 1))
  have fr:H s.heap.objs.size=none:=I.hok.fresh (C0 _);refine ⟨.ref s.heap.objs.size,upd H s.heap.objs.size (.tup [.int n,x]),I.turnedLaid (t':=t + 1) k2 p (C0 _) ⟨w_2,[.int n t,u],.cons ⟨t,rfl⟩ (.cons ru .nil),⟨_,V,rfl,_,rfl⟩,_,V,rfl⟩,rfl,⟨_,fr,rfl,λ a8 a6=>⟨x,?_,rfl⟩⟩,⟨⟨_,Y⟩,a0⟩,λ c f=>?_⟩
  ·rw [I.tuple_inj a6 m];exact U
  ·rw [upd_ne (λ (z:c=s.heap.objs.size)=>nT (z ▸ f))];exact (p c f).1
 done:=by
  intro X C L r f n a1 s σ H E I p g B;subst C L r;obtain ⟨Q,m,rfl⟩:=B;obtain ⟨i,J,j,_⟩:=I.tuple m;have j:s.heap.IsTuple a i.toArray:=j;have D:=z6u (prog:=X.prog) (w:=X.w) (A:=X.A.in1) (I.ok.hd f) it a nai i.toArray;have W:=WalksT.enumerateD D e ne (by simp [ne,nae.symm]) (by simp);have la:i.toArray.size=Q.length:=by simpa using J.length.symm
  exact W.done s _ E (by rw [la];exact ⟨g.1,g.2,j⟩) λ N tk F=>⟨rfl,I.turnedL (t':=tk) (λ c o f e=>F c o f e) p⟩
 self:=λ _ _ _ _ _ g h=>g.1.elim λ old z=>a7 z h
noncomputable def ieT (K:d0) (ta:TA):TI:=λ σ H R=>ta σ H λ vs H1=>∃a xs,vs=[.ref a]/\SqT K H1 a xs/\R (IteT K a) H1
theorem zdm {X:Cx} {elts:List Expr} {x1:Nat} {tpos:Pos} {e:Expr} {ta:TA} {p pos:Pos} (hg:Gl X "enumerate") (hm:X.mg "enumerate" = none) (ha:PA X [e] ta) (hs:K1 [e] X.env=[(false,X2 e X.env)]:=by rfl) :
  PI X (.Tuple elts x1 tpos) (.Call (.Name "enumerate" p) [e] [] pos) (ieT X.K ta):=by
 intro n s σ H R I h;refine Call_ (ld_blt I hg hm boot_enumerate (F2 (thn (ha pos n s σ H _ I h) λ us b ⟨vs,H1,I1,r1,q1⟩=>?_) (by rw [hs];rfl) rfl));obtain ⟨a,x,v,k,q⟩:=q1;subst v;obtain ⟨u,rfl,r⟩:=vals1 r1;cases (show u=W0 a from r);obtain ⟨t,y,d,_⟩:=I1.tuple k;have d:b.heap.IsTuple a t.toArray:=d;have j:a < b.heap.objs.size:=by obtain ⟨o,e,_⟩:=id d;exact P0 e
 refine zh9 d λ w g m _ l=>?_;refine a7 g ?_;refine ⟨_,_,_,_,H1,rfl,I1.kept (t':=b.toks) l,zdd (C3 (U1 _)) (Y0 (Q1 j)) (Y0 j),⟨⟨_,g⟩,m⟩,λ c f=>?_,q⟩;have i:b.heap.objs.size<=c:=by
  simp only [T2,B0,or_false] at f;rcases f with rfl|rfl
  ·exact Nat.le_add_right _ _
  ·exact C0 _
 exact I1.fpOk i (I1.hok.fresh i)
theorem zbw {K:d0} {a:Addr} {xs:List V} {g:TG} {tb:TS} {D:Ends} {σ:St} {H:Hp} (Pv:Nat->St->Hp->Prop) (h0:Pv 0 σ H) (hl :∀i σ H,Pv i σ H->SqT K H a xs)
  (hs :∀i x σ H p,xs[i]? = some x->Pv i σ H->H p=none->g (.ref p) σ (upd H p (.tup [.int i,x])) λ σ2 H2=>tb { D with nx:=Pv (i + 1),ct:=Pv (i + 1),bk:=D.nx } σ2 H2) (hd :∀σ H,Pv xs.length σ H->D.nx σ H) :
  ∃W:Nat->Nat->St->Hp->Prop,(∃m,W 0 m σ H)/\∀i m σ H,W i m σ H->
   ((IteT K a).stop i H/\D.nx σ H)\/((IteT K a).go i H/\∃N:St->Hp->Prop,(∀σ' H',N σ' H'->∃m',m' < m/\W (i + 1) m' σ' H')/\∀x H',(IteT K a).yld i H x H'->g x σ H' λ σ2 H2=>tb { D with nx:=N,ct:=N,bk:=D.nx } σ2 H2):=by
 refine ⟨λ i m σ H=>m=xs.length - i/\i<=xs.length/\Pv i σ H,⟨xs.length,by simp,j2 _,h0⟩,?_⟩;rintro i m σ H ⟨rfl,hi,p⟩;have b:=hl i σ H p;by_cases hlt:i < xs.length
 ·refine .inr ⟨⟨xs,xs[i],b,by simp [hlt]⟩,Pv (i + 1),λ σ' H' d=>⟨xs.length - (i + 1),by lia,rfl,hlt,d⟩,λ v H' y=>?_⟩;obtain ⟨t,h,rfl,j⟩:=y;obtain ⟨f,c,rfl⟩:=j xs b;exact hs i f σ H t c p h
 ·have e:i=xs.length:=by lia
  subst e;exact .inl ⟨⟨xs,b,rfl⟩,hd σ H p⟩
end L2
set_option maxHeartbeats 400000
namespace L2
open PySem PySem.Spec PyProof.Rows
mutual
noncomputable def IsPd (K:d0) (H:Hp):PyData->V->Prop
 | .none,v=>v=.non
 | .bool b,v=>v=.bl b
 | .int i,v=>v=.int i
 | .str z,v=>v=.str z
 | .list ds,v=>∃a xs,v=.ref a/\SqL K H a xs/\IsPds K H ds xs
 | .tuple ds,v=>∃a xs,v=.ref a/\SqT K H a xs/\IsPds K H ds xs
 | .dict _,_=>False
noncomputable def IsPds (K:d0) (H:Hp):List PyData->List V->Prop
 | [],xs=>xs=[]
 | d :: ds,xs=>∃x r,xs=x :: r/\IsPd K H d x/\IsPds K H ds r
end
section
variable {X:Cx} {pins:List (Addr×Obj)} {σ:St} {H:Hp} {s:A0}
mutual
theorem z3i (I:Inv X pins σ H s) :∀(d:PyData) (v:V) (u:Value),IsPd X.K H d v->RelV v u->∃as,Reads s.heap u d as
 | .none,v,u,h,r=>by cases (show v=.non from h);cases (show u=.none from r);exact ⟨_,.none⟩
 | .bool b,v,u,h,r=>by cases (show v=.bl b from h);cases (show u=.bool b from r);exact ⟨_,.bool b⟩
 | .int i,v,u,h,r=>by cases (show v=.int i from h);obtain ⟨t,rfl⟩:=r;exact ⟨_,.int i t⟩
 | .str z,v,u,h,r=>by cases (show v=.str z from h);obtain ⟨t,rfl⟩:=r;exact ⟨_,.str z t⟩
 | .list ds,v,u,h,r=>by obtain ⟨a,q,rfl,e,k⟩:=h;cases (show u=.ref a from r);obtain ⟨m,f,p,_⟩:=I.list e;obtain ⟨o,c,j,n,g⟩:=p.isList;obtain ⟨as,l⟩:=z7a I ds q m k f;exact ⟨_,.list c j g l⟩
 | .tuple ds,v,u,h,r=>by obtain ⟨a,q,rfl,e,k⟩:=h;cases (show u=.ref a from r);obtain ⟨m,f,p,_⟩:=I.tuple e;obtain ⟨o,c,j,n,g⟩:=p;obtain ⟨as,l⟩:=z7a I ds q m k f;exact ⟨_,.tuple c j g l⟩
 | .dict _,v,u,h,r=>h.elim
theorem z7a (I:Inv X pins σ H s) :∀(ds:List PyData) (xs:List V) (us:List Value),IsPds X.K H ds xs->Vals xs us->∃as,U9 s.heap us ds as
 | [],xs,us,h,r=>by cases (show xs=[] from h);cases r;exact ⟨_,.nil⟩
 | d :: ds,xs,us,h,r=>by
  obtain ⟨x,t,rfl,a,b⟩:=h;cases r with
  | cons r1 r2=>obtain ⟨as,c⟩:=z3i I d x _ a r1;obtain ⟨bs,e⟩:=z7a I ds t _ b r2;exact ⟨_,.cons c e⟩
end
end
mutual
noncomputable def plainP:PyData->Bool
 | .none=>true
 | .bool _=>false
 | .int _=>true
 | .str z=>(PyData.str z).canLay0
 | .list ds=>z1n ds
 | .tuple ds=>z1n ds
 | .dict _=>false
noncomputable def z1n:List PyData->Bool
 | []=>true
 | d :: ds=>plainP d && z1n ds
end
mutual
theorem z3r :∀d:PyData,plainP d=true->d.canLay0=true
 | .none,_=>rfl
 | .bool _,h=>by cases h
 | .int _,_=>rfl
 | .str _,h=>h
 | .list ds,h=>z24 ds h
 | .tuple ds,h=>z24 ds h
 | .dict _,h=>by cases h
theorem z24 :∀ds:List PyData,z1n ds=true->z6 ds=true
 | [],_=>rfl
 | d :: ds,h=>by have h:(plainP d && z1n ds)=true:=h;rw [V2] at h;show (d.canLay0 && z6 ds)=true;rw [z3r d h.1,z24 ds h.2];rfl
end
mutual
theorem z6t :∀d e:PyData,plainP d=true->plainP e=true->(d.eqv e=true↔d=e)
 | .none,e,_,he=>by
  cases e with
  | none=>exact ⟨λ _=>rfl,λ _=>rfl⟩
  | bool b=>cases he
  | dict _=>cases he
  | _=>exact ⟨λ z=>(by cases z),λ z=>(by cases z)⟩
 | .bool _,e,hd,_=>by cases hd
 | .int i,e,_,he=>by
  cases e with
  | int j=>exact ⟨λ z=>congrArg _ (eq_of_beq (show (i == j)=true from z)),λ z=>by cases z;exact beq_self_eq_true i⟩
  | bool b=>cases he
  | dict _=>cases he
  | _=>exact ⟨λ z=>(by cases z),λ z=>(by cases z)⟩
 | .str i,e,_,he=>by
  cases e with
  | str j=>exact ⟨λ z=>congrArg _ (eq_of_beq (show (i == j)=true from z)),λ z=>by cases z;exact beq_self_eq_true i⟩
  | bool b=>cases he
  | dict _=>cases he
  | _=>exact ⟨λ z=>(by cases z),λ z=>(by cases z)⟩
 | .list ds,e,hd,he=>by
  cases e with
  | list es=>exact ⟨λ z=>congrArg _ ((z62 ds es hd he).mp z),λ z=>(z62 ds es hd he).mpr (by cases z;rfl)⟩
  | bool b=>cases he
  | dict _=>cases he
  | _=>exact ⟨λ z=>(by cases z),λ z=>(by cases z)⟩
 | .tuple ds,e,hd,he=>by
  cases e with
  | tuple es=>exact ⟨λ z=>congrArg _ ((z62 ds es hd he).mp z),λ z=>(z62 ds es hd he).mpr (by cases z;rfl)⟩
  | bool b=>cases he
  | dict _=>cases he
  | _=>exact ⟨λ z=>(by cases z),λ z=>(by cases z)⟩
 | .dict _,e,hd,_=>by cases hd
theorem z62 :∀ds es:List PyData,z1n ds=true->z1n es=true->(PyData.eqvAll ds es=true↔ds=es)
 | [],[],_,_=>⟨λ _=>rfl,λ _=>rfl⟩
 | [],e :: es,_,_=>⟨λ z=>(by cases z),λ z=>(by cases z)⟩
 | d :: ds,[],_,_=>⟨λ z=>(by cases z),λ z=>(by cases z)⟩
 | d :: ds,e :: es,b,a=>by have b:(plainP d && z1n ds)=true:=b;have a:(plainP e && z1n es)=true:=a;rw [V2] at b a;show (d.eqv e && PyData.eqvAll ds es)=true↔_;rw [V2,z6t d e b.1 a.1,z62 ds es b.2 a.2];exact ⟨λ z=>by rw [z.1,z.2],λ z=>by cases z;exact ⟨rfl,rfl⟩⟩
end
theorem zig {d e:PyData} (hd:plainP d=true) (he:plainP e=true) {p:Prop} [Decidable p] (h:d=e↔p):d.eqv e=decide p:=by rw [Bool.eq_iff_iff,decide_eq_true_eq,z6t d e hd he,h]
section
variable {X:Cx}
noncomputable def rNeP (K:d0):R2:=λ x y H Q=>∃d e,IsPd K H d x/\IsPd K H e y/\plainP d=true/\plainP e=true/\d.depth<=60/\Q (.bl (!d.eqv e)) H
theorem room60 {A:X1} {k m n:Nat} (hr:Room k A) (h:m<=60):A.units + min m n < cLine:=U0 (Nat.add_le_add_left (K0 (Nat.min_le_left _ _) (K0 h (by decide:60<=64))) _) hr.units
theorem room61 {A:X1} {k m n:Nat} (hr:Room k A) (h:n<=60):A.units + 1 + min m n < cLine:=by
 have b:=hr.units;have a:=Nat.min_le_right m n
 lia
theorem op_neP {k:Nat} (hr:Room k X.A):OpR X (A2 .NotEq) (rNeP X.K):=by intro n s σ H x y v u Q I a l h;obtain ⟨d,e,g,f,b,c,m,q⟩:=h;obtain ⟨o,i⟩:=z3i I d x v g a;obtain ⟨bs,j⟩:=z3i I e y u f l;exact SeqAt.compareNe_reads i j (z3r _ b) (z3r _ c) (room60 hr m) ⟨.bl _,H,I,rfl,q⟩
noncomputable def rInP (K:d0) (neg:Bool):R2:=λ x y H Q=>∃d ds,IsPd K H d x/\(IsPd K H (.list ds) y\/IsPd K H (.tuple ds) y)/\plainP d=true/\z1n ds=true/\d.depth<=60/\Q (.bl (if neg then !(ds.any λ e=>e.eqv d) else ds.any λ e=>e.eqv d)) H
theorem zfy {k:Nat} (hr:Room k X.A):OpR X (A2 .NotIn) (rInP X.K true):=by
 intro n s σ H x y v u Q I j g h;obtain ⟨d,m,l,a,c,e,i,q⟩:=h;obtain ⟨o,f⟩:=z3i I d x v l j;rcases a with a|a
 ·obtain ⟨bs,b⟩:=z3i I _ y u a g;exact SeqAt.notIn_list_reads b f (z24 _ e) (z3r _ c) (room61 hr i) ⟨.bl _,H,I,rfl,q⟩
 ·obtain ⟨bs,b⟩:=z3i I _ y u a g;exact SeqAt.notIn_tuple_reads b f (z24 _ e) (z3r _ c) (room61 hr i) ⟨.bl _,H,I,rfl,q⟩
end
end L2
set_option maxHeartbeats 1000000
namespace L2
open PySem PySem.Spec PyProof.Rows
end L2
set_option maxHeartbeats 400000
namespace L2
open PySem PySem.Spec PyProof.Rows
structure RunsR (S:Hp->Hp->Prop) (J:It) (H1:Hp) (n:Nat) (Item:Nat->V->Hp->Prop):Prop where
 go :∀i,i < n->∀H,S H1 H->J.go i H
 stop :∀H,S H1 H->J.stop n H
 item :∀i,i < n->∀H v H',S H1 H->J.yld i H v H'->S H H'/\Item i v H'
theorem z41 {S:Hp->Hp->Prop} {J:It} {H1:Hp} {n m:Nat} {Item:Nat->V->Hp->Prop} {fr:List (Nat×Str)} {g:TG} {tc:TT} {te:TE} {σ:St} {Q:VK} (s0:S H1 H1) (st :∀a b c,S a b->S b c->S a c) (p:Nat->Bool) (R:Nat->V->Hp->Prop) (hR :∀i y H H',S H H'->R i y H->R i y H') (r:RunsR S J H1 n Item) (hn:n<=sizeLine)
  (body :∀i,i < n->∀v H,S H1 H->Item i v H->∀(KT:VK) (KF:Hp->Prop),(p i=true->∀y H',S H H'->R i y H'->KT y H')->(p i=false->∀H',S H H'->KF H')->
   g v (cStG σ fr (G2 m none)) H λ σ6 H6=>∃us,us.length=m/\σ6=cStG σ fr us/\tc (cStG σ fr us) H6 λ b H2=>if b=true then te (cStG σ fr us) H2 KT else KF H2)
  (hQ :∀l H' ys,S H1 H'->H' l=none->All2 (λ i y=>R i y H') ((X0 n).filter p) ys->Q (.ref l) (upd H' l (.lst ys))) :
  ∃W:Nat->Nat->List V->Hp->Prop,(∃m,W 0 m [] H1)/\∀i k ys H,W i k ys H->
   (J.stop i H/\ys.length<=sizeLine/\∀p,H p=none->Q (.ref p) (upd H p (.lst ys)))\/
   (J.go i H/\ys.length<=sizeLine/\∀v H',J.yld i H v H'->g v (cStG σ fr (G2 m none)) H' λ σ6 H6=>∃us,us.length=m/\σ6=cStG σ fr us/\tc (cStG σ fr us) H6 λ b H2=>if b=true then te (cStG σ fr us) H2 λ y H3=>∃m',m' < k/\W (i + 1) m' (ys++[y]) H3 else∃m',m' < k/\W (i + 1) m' ys H2):=by
 refine ⟨λ i k ys H'=>k=n - i/\i<=n/\S H1 H'/\All2 (λ i y=>R i y H') ((X0 i).filter p) ys,⟨n,by simp,j2 _,s0,.nil⟩,?_⟩;rintro i k ys H' ⟨rfl,hi,sm,fa⟩;have j:ys.length<=sizeLine:=by
  rw [z05 fa];have:=T1 p (X0 i);rw [v3] at this
  lia
 by_cases hlt:i < n
 ·refine .inr ⟨r.go i hlt H' sm,j,λ v H2 y=>?_⟩;obtain ⟨d,s⟩:=r.item i hlt H' v H2 sm y;refine body i hlt v H2 (st _ _ _ sm d) s _ _ (λ h y H3 f q=>⟨n - (i + 1),by lia,rfl,hlt,st _ _ _ (st _ _ _ sm d) f,?_⟩) (λ h H3 f=>⟨n - (i + 1),by lia,rfl,hlt,st _ _ _ (st _ _ _ sm d) f,?_⟩)
  ·rw [z1y,if_pos h];exact z5x (z02 (λ a b z=>hR a b _ _ (st _ _ _ d f) z) fa) q
  ·rw [z1y,if_neg (by rw [h];decide),Z2];exact z02 (λ a b z=>hR a b _ _ (st _ _ _ d f) z) fa
 ·have e:i=n:=by lia
  subst e;exact .inl ⟨r.stop H' sm,j,λ l o=>hQ l H' ys sm o fa⟩
theorem z8j {S:Hp->Hp->Prop} {K:d0} {a:Addr} {xs:List V} {H1:Hp} (hs :∀H,S H1 H->S H H) (hq :∀H,S H1 H->SqL K H a xs):RunsR S (Itl K a) H1 xs.length (λ i v _=>xs[i]? = some v):=
 ⟨λ i b H s=>⟨xs,xs[i],hq H s,by simp [b]⟩,λ H s=>⟨xs,hq H s,C0 _⟩,λ i b H v c s y=>by obtain ⟨e,y⟩:=y;subst e;exact ⟨hs _ s,y xs (hq _ s)⟩⟩
theorem zfv {S:Hp->Hp->Prop} {K:d0} {a:Addr} {xs:List V} {H1:Hp} (hs :∀H,S H1 H->S H H) (hq :∀H,S H1 H->SqT K H a xs):RunsR S (Itt K a) H1 xs.length (λ i v _=>xs[i]? = some v):=
 ⟨λ i b H s=>⟨xs,xs[i],hq H s,by simp [b]⟩,λ H s=>⟨xs,hq H s,C0 _⟩,λ i b H v c s y=>by obtain ⟨e,y⟩:=y;subst e;exact ⟨hs _ s,y xs (hq _ s)⟩⟩
def Ris (xs:Array Nat):Prop:=xs.toList.Pairwise (· < ·)
theorem Ris.lt {xs:Array Nat} (r:Ris xs) {i k:Nat} (h:i < k) (hk:k < xs.size):xs[i]'(o6 h hk) < xs[k]:=by have:=(List.pairwise_iff_getElem.mp r) i k (by simpa using o6 h hk) (by simpa using hk) h;simpa using this
theorem ziu {xs:Array Nat} {i d:Nat} (h:i < xs.size):xs.getD i d=xs[i]:=by simp [Array.getD,h]
theorem zam {xs:Array Nat} {j:Nat} (r:Ris xs) :∀(f lo hi:Nat),lo<=hi->hi<=xs.size->hi - lo<=f->(∀i (h:i < xs.size),i < lo->xs[i] < j)->(∀i (h:i < xs.size),hi<=i->j<=xs[i])->
  L5 xs j f lo hi<=xs.size/\(∀i (h:i < xs.size),i < L5 xs j f lo hi->xs[i] < j)/\(∀i (h:i < xs.size),L5 xs j f lo hi<=i->j<=xs[i])
 | 0,lo,hi,h1,h2,h3,ha,hb=>by
  have:lo=hi:=by lia
  subst this;exact ⟨h2,ha,hb⟩
 | f + 1,lo,hi,h1,h2,h3,ha,hb=>by
  unfold L5;by_cases z:lo < hi
  ·rw [if_pos z];have a:(lo + hi) / 2 < xs.size:=by lia
   dsimp only;rw [ziu a];by_cases y:xs[(lo + hi) / 2] < j
   ·rw [if_pos y];refine zam r f _ _ (by lia) h2 (by lia) (λ i h b=>?_) hb;by_cases e:i=(lo + hi) / 2
    ·subst e;exact y
    ·exact o6 (r.lt (by lia) a) y
   ·rw [if_neg y];refine zam r f _ _ (by lia) (by lia) (by lia) ha λ i h b=>?_;by_cases e:i=(lo + hi) / 2
    ·subst e;lia
    ·exact K0 (Nat.not_lt.mp y) (A3 (r.lt (by lia) h))
  ·rw [if_neg z];have:lo=hi:=by lia
   subst this;exact ⟨h2,ha,hb⟩
theorem zdr {xs:Array Nat} (r:Ris xs) (j:Nat):v2 xs j<=xs.size/\(∀i (h:i < xs.size),i < v2 xs j->xs[i] < j)/\(∀i (h:i < xs.size),v2 xs j<=i->j<=xs[i]):=
 zam r _ _ _ (j2 _) (C0 _) (C0 _) (λ i h z=>absurd z (U2 _)) (λ i h z=>absurd h (Nat.not_lt.mpr z))
theorem z6g {α:Type} (xs:Array α) (p:Nat) (x:α) (hp:p<=xs.size):(V7 xs p x).toList=xs.toList.take p++x :: xs.toList.drop p:=by unfold V7;simp [d7]
theorem Ris.insert {xs:Array Nat} (r:Ris xs) {j:Nat} (h:¬ xs[v2 xs j]? = some j):Ris (V7 xs (v2 xs j) j):=by
 obtain ⟨q,u,g⟩:=zdr r j;unfold Ris;rw [z6g _ _ _ q];refine List.pairwise_append.mpr ⟨r.sublist (List.take_sublist _ _),List.pairwise_cons.mpr ⟨λ y w=>?_,r.sublist (List.drop_sublist _ _)⟩,λ a s b d=>?_⟩
 ·obtain ⟨i,f,e⟩:=List.mem_drop_iff_getElem.mp w;have l:v2 xs j + i < xs.size:=by simpa [Nat.add_comm] using f
  have c:xs[v2 xs j + i]=y:=by simpa using e
  have le:=g _ l (by lia);rw [c] at le;rcases Nat.lt_or_eq_of_le le with z|z
  ·exact z
  ·exfalso;have d:v2 xs j < xs.size:=by lia
   have x:=g _ d (C0 _);have:xs[v2 xs j]=j:=by
    by_cases i0:i=0
    ·subst i0;exact c.trans z.symm
    ·have:=r.lt (show v2 xs j < v2 xs j + i by lia) l;rw [c] at this
     lia
   exact h (by rw [A6 d,this])
 ·obtain ⟨i,f,e⟩:=List.mem_take_iff_getElem.mp s;have t:i < xs.size:=by have:=f;simp at this;lia
  have v:i < v2 xs j:=by have:=f;simp at this;lia
  have lt:=u i t v;have c:xs[i]=a:=by simpa using e
  rw [c] at lt;rcases List.mem_cons.mp d with z|z
  ·rw [z];exact lt
  ·obtain ⟨k,o,p⟩:=List.mem_drop_iff_getElem.mp z;have n:v2 xs j + k < xs.size:=by simpa [Nat.add_comm] using o
   have m:xs[v2 xs j + k]=b:=by simpa using p
   have:=g _ n (by lia);rw [m] at this
   lia
theorem zg4 (n:Nat):Ris (Array.range n):=by unfold Ris;rw [Array.toList_range];exact m5
def z9o (t:P6) (j:Nat):Prop:=¬ t.place[v2 t.place j]? = some j
theorem z9b {t:P6} {j:Nat} (h :∀i,t.slot j≠.live i):z9o t j:=λ e=>by refine h (v2 t.place j) ?_;unfold SetTable.slot;dsimp only;rw [if_pos (by rw [e];exact beq_self_eq_true _)]
theorem z68 {t:P6} {hs:Nat->Int} {h:Int} :∀(f:Nat) (p:SetTable.Probe) (j:Nat) (d:Option Nat),(∀k,p.dummy=some k->z9o t k)->P8 t hs h f p=some (.empty j d)->z9o t j/\∀k,d=some k->z9o t k
 | 0,p,j,d,hd,e=>by cases e
 | f + 1,p,j,d,hd,e=>by
  unfold P8 at e;cases q:t.slot p.j with
  | empty=>rw [q] at e;cases e;exact ⟨z9b (λ i z=>by rw [q] at z;cases z),hd⟩
  | dummy=>rw [q] at e;refine z68 f _ j d (λ k z=>?_) e;unfold V9 at z;dsimp only at z;split at z<;>(cases z;exact z9b λ i z=>by rw [q] at z;cases z)
  | live i=>
   rw [q] at e;dsimp only at e;split at e
   ·cases e
   ·refine z68 f _ j d (λ k z=>?_) e;unfold V9 at z;dsimp only at z;split at z<;>exact hd k z
theorem zct {t:P6} {h:Int} {s:Nat} {b:Bool} (e:t.freeSlot h=some (s,b)):z9o t s:=by
 unfold SetTable.freeSlot at e;cases q:t.probe (λ _=>h + 1) h (t.probeStart h) with
 | none=>rw [q] at e;cases e
 | some m=>
  rw [q] at e;cases m with
  | candidate a b c=>cases e
  | empty j d=>
   have:=z68 _ _ j d (λ k z=>by cases z) q;cases e;cases d with
   | none=>exact this.1
   | some k=>exact this.2 k rfl
def Tidy (l:Bool) (t:P6):Prop:=t.led=l/\Ris t.place
theorem Tidy.standIn {l:Bool} {t:P6} (h:Tidy l t) (n:Nat):Tidy l (t.standIn n):=⟨h.1,zg4 n⟩
theorem Tidy.layNew {l:Bool} {t:P6} (h:Tidy l t) (es:Array (Int×Value)) (k:Int) (x:Value):Tidy l (layNew t es k x).2.1:=by
 unfold PySem.layNew;cases q:t.freeSlot k with
 | none=>exact h.standIn _
 | some s=>
  obtain ⟨s,b⟩:=s;dsimp only;have a:Tidy l (t.put s).1:=⟨h.1,Ris.insert h.2 (zct q)⟩
  unfold SetTable.orStandIn;split
  ·exact a
  ·exact a.standIn _
theorem Tidy.relayAll {l:Bool} {t:P6} (h:Tidy l t) (es:Array (Int×Value)) (n:Nat):Tidy l (O9 t es n).2.1:=by
 unfold PySem.relayAll;cases q:t.relaid (es.map (·.1)) n with
 | none=>exact h.standIn _
 | some p=>
  obtain ⟨m,o⟩:=p;dsimp only;split
  ·unfold SetTable.relaid SetTable.laid at q;cases q2:SetTable.layClean (SetTable.sizeAbove n - 1) (es.map (·.1)) with
   | none=>rw [q2] at q;cases q
   | some ow=>rw [q2] at q;cases q;refine ⟨h.1,?_⟩;show (List.map _ _).Pairwise _;rw [List.pairwise_map];refine List.Pairwise.filterMap _ (λ a b g c f d i=>?_) (m5);obtain ⟨r,_,e⟩:=Option.map_eq_some_iff.mp f;obtain ⟨k,_,j⟩:=Option.map_eq_some_iff.mp i;rw [<-e,<-j];exact g
  ·exact h.standIn _
end L2
set_option maxHeartbeats 1000000
namespace L2
open PySem PySem.Spec PyProof.Rows
noncomputable def intOf:Value->Int
 | .int i _=>i
 | _=>0
theorem z87 {vs:List Value} {ns:List Int} (h:J3 vs ns):ns=vs.map intOf/\∀v∈vs,∃i t,v=.int i t:=by
 induction h with
 | nil=>exact ⟨rfl,λ v a=>by cases a⟩
 | cons n t r ih=>
  refine ⟨by rw [ih.1];rfl,λ v a=>?_⟩;rcases List.mem_cons.mp a with e|a
  ·exact ⟨n,t,e⟩
  ·exact ih.2 v a
theorem zcz :∀vs:List Value,(∀v∈vs,∃i t,v=.int i t)->J3 vs (vs.map intOf)
 | [],_=>.nil
 | v :: vs,h=>by obtain ⟨i,t,e⟩:=h v (.head _);subst e;exact .cons i t (zcz vs λ v a=>h v (.tail _ a))
theorem zb0 {vs vs':List Value} {ns:List Int} (h:J3 vs ns) (p:vs'.Perm vs) :∃ns',J3 vs' ns'/\ns'.Perm ns:=by obtain ⟨e,k⟩:=z87 h;refine ⟨vs'.map intOf,zcz vs' λ v a=>k v (p.mem_iff.mp a),?_⟩;rw [e];exact p.map _
theorem zdk {vs:List Value} {ns:List Int} (h:J3 vs ns):ns.length=vs.length:=by rw [(z87 h).1,L0]
theorem zf2 {vs:List Value} {ns:List Int} (h:J3 vs ns) (n:Int) (t:Tok):J3 (vs++[.int n t]) (ns++[n]):=by
 induction h with
 | nil=>exact .cons n t .nil
 | cons m u r ih=>exact .cons m u ih
section
variable {prog:Program} {w:Q0} {A:X1} {E:Value->A0->Prop} {s:A0}
def SetAt (prog:Program) (w:Q0) (l:Bool) (h:Heap) (a:Addr) (ns:List Int):Prop:=
 ∃es ep t,h.get? a=some { cls:=.type "set",dict:=none,data:=.set es ep t,slots:=#[] }/\ElemsOf (Y3 prog w) es.toList/\J3 (es.toList.map (·.2)) ns/\ns.Nodup/\es.size < scanBound/\t.fits es.size=true/\Tidy l t
theorem zb9 {l:Bool} {h:Heap} {a:Addr} {es0 es:Array (Int×Value)} {ep:Nat} {t0 t:P6} {ns:List Int} (ho:h.get? a=some { cls:=.type "set",dict:=none,data:=.set es0 ep t0,slots:=#[] })
  (hel:ElemsOf (Y3 prog w) es.toList) (hi:J3 (es.toList.map (·.2)) ns) (nd:ns.Nodup) (hb:es.size < scanBound) (hf:t.fits es.size=true) (ht:Tidy l t) :
  (h.update a (j8 es t)).get? a=some { cls:=.type "set",dict:=none,data:=.set es (ep + 1) t,slots:=#[] }/\SetAt prog w l (h.update a (j8 es t)) a ns:=by
 have g:(h.update a (j8 es t)).get? a=some { cls:=.type "set",dict:=none,data:=.set es (ep + 1) t,slots:=#[] }:=p4 (j8 es t) ho rfl;exact ⟨g,es,ep + 1,t,g,hel,hi,nd,hb,hf,ht⟩
theorem zhl {es:List (Int×Value)} {ns:List Int} {v:Int} (hi:J3 (es.map (·.2)) ns) (h:es.findIdx? (λ e=>(Y3 prog w).is v e.2)=none):¬ v∈ns:=λ c=>by
 obtain ⟨e,k⟩:=z87 hi;rw [e] at c;obtain ⟨y,b,g⟩:=List.mem_map.mp c;obtain ⟨p,j,d⟩:=List.mem_map.mp b;obtain ⟨i,t,a⟩:=k y b;have:=List.findIdx?_eq_none_iff.mp h p j;have f:v=i:=by rw [<-g,a];rfl
 have:(Y3 prog w).is v p.2=false:=by simpa using this
 rw [d,a,f,N6] at this;cases this
theorem zim {es:List (Int×Value)} {ns:List Int} {v:Int} {j:Nat} (hi:J3 (es.map (·.2)) ns) (h:es.findIdx? (λ e=>(Y3 prog w).is v e.2)=some j):v∈ns:=by obtain ⟨b,a,_⟩:=List.findIdx?_eq_some_iff_getElem.mp h;obtain ⟨t,e⟩:=Value.isInt_shape (show P9 v es[j].2=true from a);rw [(z87 hi).1];exact List.mem_map.mpr ⟨es[j].2,List.mem_map.mpr ⟨es[j],U6 b,rfl⟩,by rw [e];rfl⟩
theorem zdc {ns:List Int} {v:Int} (h:ns.Nodup) (n:¬ v∈ns):(ns++[v]).Nodup:=by refine List.nodup_append.mpr ⟨h,by simp,λ a c b d e=>?_⟩;rw [List.mem_singleton.mp d] at e;exact n (e ▸ c)
noncomputable def addI (ns:List Int) (v:Int):List Int:=if v∈ns then ns else ns++[v]
theorem zjg {l:Bool} {a:Addr} {v:Int} {tk:Tok} {ns:List Int} {Q:Bool->A0->Prop} (hS:SetAt prog w l s.heap a ns) (hroom:ns.length + 1 < scanBound)
  (h :∀b h' ns',Q4 a s.heap h'->SetAt prog w l h' a ns'->ns'.Perm (addI ns v)->Q b { s with heap:=h' }):S0 (B1 prog w) A (setAddHashed a (.int v tk) ((Y3 prog w).hash v)) Q E s:=by
 obtain ⟨f,ep,t,n,y,k,T,K,F,Y⟩:=hS;have a0:f.size=ns.length:=by rw [zdk k,L0,B2]
 have R:(Y3 prog w).is v (.int v tk)=true:=N6 prog w v tk;unfold setAddHashed setAddHashedIn;refine K2 (u0 (wpAny_setState_of n rfl F ?_));dsimp only;rw [byScan_of rfl K y];simp only [↓reduceIte];unfold setAddByScan;refine u0 (u0 (E8 (u0 (wpAny_setScan_of R n rfl F y ?_))));cases hr:List.findIdx? (λ e=>(Y3 prog w).is v e.2) f.toList with
 | some j=>refine G0 (G0 ?_);have:=h false s.heap ns (o9 a s.heap) ⟨f,ep,t,n,y,k,T,K,F,Y⟩ (by unfold addI;rw [if_pos (zim k hr)]);exact this
 | none=>
  dsimp only;have g:=layNew_perm t f ((Y3 prog w).hash v) (.int v tk);have I:=layNew_fits t f ((Y3 prog w).hash v) (.int v tk);have p:=Y.layNew f ((Y3 prog w).hash v) (.int v tk);generalize layNew t f ((Y3 prog w).hash v) (.int v tk)=L at g I p⊢;obtain ⟨c,d,wd,a1⟩:=L;dsimp only at g I p⊢;rw [Array.toList_push] at g;have P:ElemsOf (Y3 prog w) c.toList:=(y.push R rfl).perm g;have u :∃i,J3 (c.toList.map (·.2)) i/\i.Perm (ns++[v]):=zb0 (zf2 k v tk) (by have:=g.map (λ e:Int×Value=>e.2);rwa [A1] at this);obtain ⟨i,u,H⟩:=u;have N:=zhl k hr;have X:i.Nodup:=H.nodup_iff.mpr (zdc T N);have M:addI ns v=ns++[v]:=if_neg N;have C:c.size < scanBound:=by rw [<-B2,g.length_eq,D0,B2,a0];exact hroom
  have S :∀(b:Bool) {B:A0} {Q':Unit->A0->Prop},Q' () B->S0 (B1 prog w) A (match b with|true=>rule "set.scan.the-table-gave-way" | false=>G3 ()) Q' E B:=λ b B Q' q=>by cases b with|false=>exact G0 q|true=>exact E8 q
  have a2:S0 (B1 prog w) A (do
    storeSet a c d
    if (!wd && d.tooFull)=true then do
      (match (O9 d c (n4 c.size)).2.2 with|true=>rule "set.scan.the-table-gave-way" | false=>G3 ())
      storeSet a (O9 d c (n4 c.size)).1 (O9 d c (n4 c.size)).2.1
      G3 (some true)
     else G3 (some true)) (λ r m=>∃b,r=some b/\Q b m) E s:=by
   obtain ⟨U,S1⟩:=zb9 (prog:=prog) (w:=w) n P u X C I p;have V:=B5 s.heap a (j8 c d);refine u0 (wpAny_storeSet_of n rfl ?_ (fits_of_scanBound C));split
   ·have o:=relayAll_perm d c (n4 c.size);have D:=relayAll_fits d c (n4 c.size);have G:=p.relayAll c (n4 c.size);generalize O9 d c (n4 c.size)=L2 at o D G⊢;obtain ⟨Z,t2,g2⟩:=L2;dsimp only at o D G⊢;obtain ⟨a3,a4,J⟩:=zb0 u (o.map (λ e:Int×Value=>e.2));have O:Z.size < scanBound:=by rw [<-B2,o.length_eq,B2];exact C
    refine u0 (S g2 (u0 (wpAny_storeSet_of U rfl ?_ (fits_of_scanBound O))));obtain ⟨_,S2⟩:=zb9 (prog:=prog) (w:=w) U (P.perm o) a4 (J.nodup_iff.mpr X) O D G;exact G0 ⟨true,rfl,h true _ a3 (V.trans (B5 _ a _)) S2 (by rw [M];exact J.trans H)⟩
   ·exact G0 ⟨true,rfl,h true _ i V S1 (by rw [M];exact H)⟩
  refine u0 (S a1 ?_);have W:=E3 a2 (Q':=λ r m=>S0 (B1 prog w) A (match r with|some added=>G3 added|none=>setAddHashedIn a (.int v tk) ((Y3 prog w).hash v) 99999) Q E m) (E':=E) (λ r m x=>by obtain ⟨b,e,q⟩:=x;subst e;exact G0 q) (λ e m x=>x);by_cases z:d.plain=true
  ·rw [if_pos z];exact u0 (i8 (show hashByValue 8 (O6 v tk)=G3 true from rfl) W)
  ·rw [if_neg z];exact u0 (G0 W)
end
theorem zga {ns ms:List Int} (p:ns.Perm ms) (v:Int):(addI ns v).Perm (addI ms v):=by
 unfold addI;by_cases z:v∈ns
 ·rw [if_pos z,if_pos (p.mem_iff.mp z)];exact p
 ·rw [if_neg z,if_neg (λ y=>z (p.mem_iff.mpr y))];exact p.append_right [v]
theorem z4e :∀(vs:List Int) {ns ms:List Int},ns.Perm ms->(vs.foldl addI ns).Perm (vs.foldl addI ms)
 | [],_,_,p=>p
 | v :: vs,_,_,p=>z4e vs (zga p v)
theorem zd6 (ns:List Int) (v:Int):(addI ns v).length<=ns.length + 1:=by
 unfold addI;split
 ·exact T5 _
 ·rw [D0];exact C0 _
section
variable {prog:Program} {w:Q0} {A:X1} {E:Value->A0->Prop} {s:A0}
theorem SetAt.at' {l:Bool} {h h':Heap} {a:Addr} {ns:List Int} (k :∀o,h.get? a=some o->h'.get? a=some o) (x:SetAt prog w l h a ns):SetAt prog w l h' a ns:=by obtain ⟨b,c,t,e,r⟩:=x;exact ⟨b,c,t,k _ e,r⟩
theorem zf4 (a:Args):(Code.builtin "set.update.loop" a).quiet=true:=m7 (by decide +kernel) _
noncomputable def set0 (w:Q0):Obj:={ cls:=.type "set",dict:=none,data:=.set #[] 0 (.fresh 0 0 (!w.params.followText "set-order")) }
theorem zj2 (a:Value) {Q₁:Value->A0->Prop} (h:Q₁ (.ref s.heap.objs.size) { s with heap:=s.heap.push (set0 w) }):Z5 (B1 prog w) A (.call (.builtin "set.__new__") ⟨[.type "set",a],[]⟩) (wants Q₁ E) s:=by refine codeAny_call_builtin F.plain_set_new F.entry_set_new (i8 (F.newCall_set_1 a) ?_);show S0 _ _ (Builtin.Frozenset.newClass "set" ⟨[.type "set",a],[]⟩ >>= _) _ _ _;refine u0 (u0 (show S0 _ _ (G3 true) _ _ _ from G0 ?_));show S0 _ _ (isSubtype (.type "set") (.type "set") >>= _) _ _ _;refine u0 (i8 sub_set_self ?_);refine G0 ?_;show S0 _ _ (newSet (.type "set") >>= _) _ _ _;unfold newSet setsByText;refine u0 (u0 (u0 (wpAny_askSetting (G0 ?_))));exact u0 (wpAny_alloc (G0 (G0 h)))
theorem ziv {h:Heap} {a:Addr} (e:h.get? a=some (set0 w)):SetAt prog w (!w.params.followText "set-order") h a []:=
 ⟨#[],0,_,e,λ x b=>by simp at b,.nil,Y8,by decide,by rfl,rfl,C7⟩
end
section
variable {X:Cx}
theorem z51 :∀(vs ns:List Int),(vs.foldl addI ns).length<=ns.length + vs.length
 | [],ns=>C0 _
 | v :: vs,ns=>by
  have b:=z51 vs (addI ns v);have a:=zd6 ns v;show (vs.foldl addI (addI ns v)).length<=_;rw [D1]
  lia
end
end L2
set_option maxHeartbeats 400000
namespace HT
open PySem PySem.Spec PyProof.Rows L2
variable {prog:Program} {w:Q0} {A:X1} {E:Value->A0->Prop} {s:A0}
end HT
namespace L2
open PySem PySem.Spec PyProof.Rows
def rIndex:V->List V->Hp->VK->Prop:=λ x vs H Q=>∃(l:Addr) (ss:List Str) (z:Str) (j:Nat),x=.ref l/\vs=[.str z]/\H l=some (.lst (ss.map V.str))/\ss.length<=1000/\ss[j]? = some z/\(∀m,m < j->ss[m]?≠some z)/\Q (.int (j:Nat)) H
section
variable {X:Cx}
theorem zir {ss:List Str} :∀{us:List Value},Vals (ss.map V.str) us->∀(j:Nat) (u:Value),us[j]? = some u->∃y t,ss[j]? = some y/\u=c6 y t:=by
 induction ss with
 | nil=>intro us r j u e;rw [d6] at r;cases r;simp at e
 | cons n ss ih=>
  intro us r j u e;rw [j1] at r;cases r with
  | cons r1 r2=>
   obtain ⟨t,rfl⟩:=r1;cases j with
   | zero=>rw [P2] at e;cases e;exact ⟨n,t,rfl,rfl⟩
   | succ j=>rw [Z1] at e;exact ih r2 j u e
theorem zhs:MtM X "list.index" rIndex:=by
 intro N s σ H x K v us Q I p A h;obtain ⟨l,C,z,j,rfl,rfl,w,M,k,g,q⟩:=h;cases p;obtain ⟨u,rfl,D⟩:=A.one;obtain ⟨t,rfl⟩:=D;obtain ⟨J,b,n,r,L,e⟩:=I.lstM w;have lt:j < b.length:=by rw [<-r.length,L0];exact (List.getElem?_eq_some_iff.mp k).1
 let ev:Value->Bool:=λ y=>match y with | .str a _=>a == z|_=>false
 have at_ :∀m (g:m < b.toArray.size),∃y c,C[m]? = some y/\b.toArray[m]=c6 y c:=λ m g=>zir r m _ ((v1 (show m < b.length by simpa using g)).trans (by simp));refine call_meets F.slot_list_index ⟨_,e,rfl⟩ F.entry_list_index (F.args_list_index_2 _ _) (SeqAt.list_indexAt l b.toArray n none #[] (.str z t) ev j (by simpa using lt) ?_ ?_ ?_) ⟨e,λ y G=>?_,?_⟩
 ·have:=(List.getElem?_eq_some_iff.mp k).1;have:(j:Int) < 1000:=by lia
  exact Int.lt_trans this (by decide)
 ·obtain ⟨y,c,d,f⟩:=at_ j (by simpa using lt);rw [f];rw [k] at d;cases d;exact beq_self_eq_true z
 ·intro m i E;obtain ⟨y,c,d,f⟩:=at_ m i;rw [f];refine beq_eq_false_iff_ne.mpr λ e=>g m E ?_;rw [d,e]
 ·obtain ⟨m,i,o⟩:=Array.mem_iff_getElem.mp G;obtain ⟨B,c,d,f⟩:=at_ m i;rw [f] at o;subst o;exact v9 B c z t
 ·exact ⟨.int (j:Nat),H,I.tok _,⟨_,rfl⟩,q⟩
theorem zh2 {o e:Expr} {es:List Expr} {to:TE} {t:TA} {apos cpos:Pos} (ho:PE X o to) (ha:PA X (e :: es) t)
  (hbase:M3 o "index" X.env (X2 o X.env)=X2 o X.env:=by rfl)
  (hfew:((w4 cpos (K1 (e :: es) X.env)).all (λ x=>!x.1) && (O8 cpos (c7 [] X.env)).all (λ x=>x.1.isSome) && decide ((e :: es).length + ([]:List J6).length + (if ([]:List J6).isEmpty then 0 else 1) < 30))=true:=by rfl)
  (hline:(apos.endLine == cpos.line)=true:=by rfl) (hs:K1 (e :: es) X.env=(false,X2 e X.env) :: K1 es X.env:=by rfl) (hplain:(w4 cpos (K1 es X.env)).any (·.1)=false:=by rfl) :
  PE X (.Call (.Attribute o "index" apos) (e :: es) [] cpos) (tBM X.K "list" rIndex to t):=pe_bm E6 PySem.F.slot_list_index PySem.F.type_list_index zhs ho ha hbase hfew hline hs hplain
end
theorem zcb {K:d0} {a:Addr} {xs:List V} {H1:Hp} (hq:SqL K H1 a xs):RunsR Same (IteL K a) H1 xs.length (λ i v H=>∃x p,xs[i]? = some x/\v=.ref p/\H p=some (.tup [.int (i:Nat),x])):=by refine ⟨λ i b H s=>⟨xs,xs[i],s.seq hq,by simp [b]⟩,λ H s=>⟨xs,s.seq hq,rfl⟩,λ i b H v e s y=>?_⟩;obtain ⟨p,d,rfl,f⟩:=y;obtain ⟨x,c,rfl⟩:=f xs (s.seq hq);exact ⟨Same.upd d,x,p,c,rfl,upd_same⟩
end L2
set_option maxHeartbeats 1000000
namespace L2
open PySem PySem.Spec PyProof.Rows
section
variable {prog:Program} {w:Q0} {A:X1} {E:Value->A0->Prop} {s:A0}
theorem zd7 {b:Bool} {S it l:Addr} {items:Array Value} (nsi:S≠it) (nsl:S≠l) (nil':it≠l) :∀(ms:List Int) (i:Nat) (ns:List Int) (A:X1) (R:Result->A0->Prop) (s:A0),A.handled=none->s.heap.IsListIter it l i->s.heap.IsList l items->
  J3 (items.toList.drop i) ms->SetAt prog w b s.heap S ns->ns.length + ms.length < scanBound->
  (∀h' tk ns',SetAt prog w b h' S ns'->ns'.Perm (ms.foldl addI ns)->(∀c o,c≠S->c≠it->s.heap.get? c=some o->h'.get? c=some o)->R (.ok (.ret .none)) { s with heap:=h',toks:=tk })->
  Z5 (B1 prog w) A (Code.builtin "set.update.loop" { pos:=[.ref S,.ref it],kw:=[] }) R s
 | [],i,ns,A,R,s,hh,si,sl,al,dd,hz,q=>by
  have E:items[i]? = none:=by
   cases hd:items.toList.drop i with
   | nil=>have:=List.drop_eq_nil_iff.mp hd;rw [B2] at this;exact K9 this
   | cons u us=>rw [hd] at al;cases al
  refine j5 j04 ?_;show S0 _ _ (F8 (.ref it) >>= _) _ _ s;refine u0 (U5 (show (A.under _).handled=none from hh) si sl E λ h' p=>?_);exact G0 (q h' s.toks ns (dd.at' λ o e=>p S o nsi e) (List.Perm.refl _) λ c o _ x e=>p c o x e)
 | m :: ms,i,ns,A,R,s,hh,si,sl,al,dd,hz,q=>by
  cases hd:items.toList.drop i with
  | nil=>rw [hd] at al;cases al
  | cons u us=>
   rw [hd] at al;cases al with
   | cons _ tk al=>
    have I:items.toList[i]? = some (.int m tk):=by have:=congrArg (λ l=>l[0]?) hd;simpa using this
    have D:items[i]? = some (.int m tk):=by simpa using I
    have B:items.toList.drop (i + 1)=us:=by have:=congrArg List.tail hd;simpa using this
    refine j5 j04 ?_;show S0 _ _ (F8 (.ref it) >>= _) _ _ s;refine u0 (v4 si sl D λ g F f=>?_);have K:g.IsList l items:=by obtain ⟨o,d,a⟩:=sl;exact ⟨o,(f.2 l (R3 nil')).trans d,a⟩
    have y:SetAt prog w b g S ns:=dd.at' λ o e=>(f.2 S nsi).trans e;rw [D1] at hz;refine u0 (K2 (show S0 _ _ (setAdd S (.int m tk)) _ _ _ from ?_));unfold setAdd;refine K2 (u0 ((Y3 prog w).pyHash (k:=m) (N6 prog w m tk) ?_));refine zjg (s:={ s with heap:=g,toks:=s.toks + 1 }) y (U0 (by lia) hz) λ c h r j L t=>?_;refine G0 ⟨zf4 _,?_⟩;have H:h.IsListIter it l (i + 1):=by obtain ⟨o,d,a⟩:=F;exact ⟨o,(j.2 it (R3 nsi)).trans d,a⟩
    have G:h.IsList l items:=by obtain ⟨o,d,a⟩:=K;exact ⟨o,(j.2 l (R3 nsl)).trans d,a⟩
    have N:r.length<=ns.length + 1:=by rw [t.length_eq];exact zd6 ns m
    refine zd7 nsi nsl nil' ms (i + 1) r A R { s with heap:=h,toks:=s.toks + 1 } hh H G (by rw [B];exact al) L (by lia) λ h' C ns' M z J=>q h' C ns' M (z.trans (z4e ms t)) λ c o v n e=>J c o v n ((j.2 c v).trans ((f.2 c n).trans e))
theorem zet:isSubtype (.type "list") (.type "set")=G3 false:=by rw [isSubtype_type];kernel_rfl
theorem zco:isSubtype (.type "list") (.type "frozenset")=G3 false:=by rw [isSubtype_type];kernel_rfl
theorem zav {l:Addr} {items:Array Value} {ns:List Int} {Q:Value->A0->Prop} (hh:A.handled=none) (ht:s.heap.IsList l items) (hi:J3 items.toList ns) (hb:ns.length < scanBound)
  (h :∀h' tk ns',SetAt prog w (!w.params.followText "set-order") h' s.heap.objs.size ns'->ns'.Perm (ns.foldl addI [])->(∀b o,s.heap.get? b=some o->h'.get? b=some o)->Q (.ref s.heap.objs.size) { s with heap:=h',toks:=tk }) :
  S0 (B1 prog w) A (call (.type "set") [.ref l]) Q E s:=by
 obtain ⟨c,L,R⟩:=F.called_set.mro;have Z:=F.called_set.made;have V:=F.called_set.sub;refine wpAny_call (codeAny_of_tree (show S0 _ _ (callAny (.type "set") _) _ _ _ from G0 ⟨Code.quiet_builtin _ (by decide +kernel),j5 F.entry_type_call ?_⟩));rw [Around.under_plain (weight_type_call_type "set" [.ref l] []) rfl];have T:=F.called_set.notType;have X:=F.called_set.canCreate;have a0:=F.typeCall_set_1 (.ref l)
 (repeat (any_goals (first|assumption|wp_step)));refine B6 (zj2 (.ref l) (E:=E) (Q₁:=λ q j=>q=.ref s.heap.objs.size/\j={ s with heap:=s.heap.push (set0 w) }) ⟨rfl,rfl⟩) λ r j d=>?_
 cases r with
 | error e=>exact d
 | ok fl=>
  cases fl with
  | next=>exact d.elim
  | brk=>exact d.elim
  | cont=>exact d.elim
  | ret q=>
   obtain ⟨rfl,rfl⟩:=d;have i:(s.heap.push (set0 w)).get? s.heap.objs.size=some (set0 w):=V0 _ rfl;have D:Shared.TypeIs { s with heap:=s.heap.push (set0 w) } (.ref s.heap.objs.size) "set":=⟨_,i,rfl⟩
   have U:=F.called_set.init.lookup;have Y:=F.called_set.init.bind (.ref s.heap.objs.size)
   (repeat (any_goals (first|assumption|wp_step)))
   have G:Z5 (B1 prog w) A.in1 (.call (.builtin "set.__init__") ⟨[.ref s.heap.objs.size,.ref l],[]⟩) (wants (λ r m=>r=.none/\Q (.ref s.heap.objs.size) m) E) { s with heap:=s.heap.push (set0 w) }:=by
    refine codeAny_call_builtin F.called_set.init.plain F.entry_set_init (check_set_init_1 D ?_);obtain ⟨o,g,k,n,p⟩:=ht;obtain ⟨O,v,N,I⟩:=o;dsimp only at k p;subst k p;have z:(s.heap.push (set0 w)).get? l=some { cls:=.type "list",dict:=v,data:=.seq items n,slots:=I }:=F0 _ g;have M:=zet;have K:=zco;have P:(K4 "list" == K4 "dict")=false:=by decide
    have W:(s.heap.push (set0 w)).get? s.heap.objs.size=some { cls:=.type "set",dict:=none,data:=.set #[] 0 (.fresh 0 0 (!w.params.followText "set-order")),slots:=#[] }:=i;have y:(s.heap.push (set0 w)).IsList l items:=⟨_,z,rfl,n,rfl⟩
    have u:l < s.heap.objs.size:=P0 g;unfold Builtin.«set.__init__» noKeywords Builtin.Frozenset.updateFrom;generalize hPI:pyIter=PI
    wp_walk
    subst hPI;refine F5 y (u0 (wpAny_runValue ?_));have t :∀b o,s.heap.get? b=some o->((s.heap.push (set0 w)).push { cls:=.type "list_iterator",data:=.fields #[.ref l,.int 0 0] }).get? b=some o:=λ b o e=>F0 _ (F0 _ e);have f:(s.heap.push (set0 w)).objs.size=s.heap.objs.size + 1:=D3 _ _;refine zd7 (S:=s.heap.objs.size) (it:=(s.heap.push (set0 w)).objs.size) (l:=l) (items:=items) (by rw [f];exact Y0 (U1 _)) (C3 u) (by rw [f];exact C3 (Q1 u)) ns 0 [] _ _ _ (by simp [hh]) ⟨_,V0 _ rfl,rfl,rfl⟩ ⟨_,t _ _ g,rfl,n,rfl⟩ (by rw [M4];exact hi) (ziv (F0 _ i)) (by simpa using hb) λ h' tk ns' H x C=>?_;refine G0 (G0 ⟨rfl,h h' tk ns' H x λ b o e=>C b o (Y0 (P0 e)) (by rw [f];exact Y0 (Q1 (P0 e))) (t b o e)⟩)
   refine B6 G λ J m a=>?_;cases J with
   | error e=>exact a
   | ok f2=>
    cases f2 with
    | next=>exact a.elim
    | brk=>exact a.elim
    | cont=>exact a.elim
    | ret r=>obtain ⟨rfl,B⟩:=a;exact G0 (G0 B)
end
section
variable {X:Cx}
noncomputable def tLSet (K:d0) (te:TE):TE:=λ σ H Q=>te σ H λ x H1=>∃(a:Addr) (ns:List Int),x=.ref a/\SqL K H1 a (ns.map V.int)/\ns.length < 100/\Q (.int ((ns.foldl addI []).length:Nat)) H1
theorem zbe {e:Expr} {te:TE} {p1 p2 c1 c2:Pos} (hcalm:X.calm=true) (g1:Gl X "len") (m1:X.mg "len" = none) (g2:Gl X "set") (m2:X.mg "set" = none) (b1:V4 "len" = some (.builtin "len")) (b2:V4 "set" = some (.type "set")) (ha:PE X e te)
  (he:K1 [e] X.env=[(false,X2 e X.env)]:=by rfl):PE X (.Call (.Name "len" p1) [.Call (.Name "set" p2) [e] [] c2] [] c1) (tLSet X.K te):=by
 intro o s σ H Q I h;have d:X.A.handled=none:=I.ok.hd hcalm;refine O3 (ld_blt I g1 m1 b1 ?_ (by decide) (by decide));refine P7 ?_ rfl rfl;refine (show S0 _ _ (spliced ((false,X2 (.Call (.Name "set" p2) [e] [] c2) X.env) :: [])) _ _ s from W3 ?_);refine O3 (ld_blt I g2 m2 b2 ?_ (by decide) (by decide));refine F2 ?_ he rfl;rw [he];refine (show S0 _ _ (spliced ((false,X2 e X.env) :: [])) _ _ s from W3 (thn (ha o s σ H _ I h) λ u j ⟨x,H1,I1,r1,a,ns,ex,sq,hl,q⟩=>?_));subst ex;cases r1;refine u4 ?_;obtain ⟨z,g,v,C⟩:=I1.list sq;refine zav d v.isList (by simpa using z5v g) (o6 hl (by decide)) λ r b D f c n=>u4 ?_;obtain ⟨k,E,t,m,_,l,B,w,i,_⟩:=f;have p:k.size=(ns.foldl addI []).length:=by rw [<-c.length_eq,zdk l,L0,B2]
 have y:(ns.foldl addI []).length < 100:=by
  have:=z51 ns [];rw [P3,n6] at this
  lia
 refine call_len_set (s:={ j with heap:=r,toks:=b }) m ⟨rfl,rfl,rfl⟩ rfl i (by lia) ?_;rw [p];exact ⟨.int ((ns.foldl addI []).length:Nat),H1,(I1.kept (t':=b + 1 + 1) n),⟨_,rfl⟩,q⟩
end
section
variable {prog:Program} {w:Q0} {A:X1} {E:Value->A0->Prop}
theorem drawL {I l:Addr} {xs:Array Value} (nl:l≠I) :∀(m k:Nat) (s:A0) (R:List Value->A0->Prop),s.heap.IsListIter I l k->s.heap.IsList l xs->k + m<=xs.size->
  (∀g,g.IsListIter I l (k + m)->Q4 I s.heap g->R ((xs.toList.drop k).take m) { s with heap:=g })->S0 (B1 prog w) A (draw (.ref I) m) R E s
 | 0,k,s,R,hI,_,_,hR=>(show S0 (B1 prog w) A (G3 ([]:List Value)) R E s from G0 (by simpa using hR s.heap hI (o9 ..)))
 | m + 1,k,s,R,hI,hl,le,hR=>by
  have lt:k < xs.size:=by lia
  refine (show S0 (B1 prog w) A (F8 (.ref I) >>= _) R E s from u0 (v4 hI hl (x:=xs[k]) (by simp [lt]) λ f c a=>?_));refine u0 (K2 (drawL nl m (k + 1) { s with heap:=f } _ c (hl.extBut a.extBut nl) (by lia) λ d b h=>G0 ?_));have e:xs.toList.drop k=xs[k] :: xs.toList.drop (k + 1):=by simp [T4,lt]
  have z:=hR d (by rw [show k + (m + 1)=k + 1 + m by lia];exact b) (a.trans h);rw [e,List.take_succ_cons] at z;exact z
theorem zjf {l:Addr} {xs:Array Value} {ts:List (Bool×(Value->Sem Unit))} {R:Unit->A0->Prop} {s:A0} (hh:A.handled=none) (hl:s.heap.IsList l xs) (hn:ts.length=xs.size) (hst:ts.findIdx? (·.1)=none)
  (q :∀g,Heap.ExtBut s.heap.objs.size s.heap g->S0 (B1 prog w) A (assignInOrder (ts.map (·.2)) xs.toList) R E { s with heap:=g }):S0 (B1 prog w) A (unpack (.ref l) ts) R E s:=by
 have c:l≠s.heap.objs.size:=hl.elim λ o z=>Y0 (P0 z.1);unfold unpack;rw [hn,hst];refine u0 (K2 ?_);unfold unpackItems;refine u0 ?_;unfold notIterableAtAll;refine u0 (E9 hl.typeIs slot_list_iter.lookup (G0 ?_));simp only [d3,if_false];refine u0 (K2 (F5 hl (u0 (K2 (drawL c xs.size 0 _ _ ⟨_,V0 _ rfl,rfl,rfl⟩ (hl.push _) (by lia) λ j h d=>?_)))));have all:List.take xs.size (List.drop 0 xs.toList)=xs.toList:=by rw [M4,d7 (by simp)]
 rw [all,if_neg (by simp)];have f:j.IsList l xs:=(hl.push _).extBut d.extBut c;refine u0 (K2 (U5 hh h f (by simp) λ i k=>?_));simp only [Option.isSome_none,d3,if_false];exact G0 (q i λ b o a e=>k b o a (d.extBut b o a (F0 _ e)))
end
section
variable {X:Cx} {pos:Pos}
noncomputable def gLst (K:d0) (n:Nat) (t:TGs):TG:=λ v σ H Q=>∃a xs,v=.ref a/\SqL K H a xs/\xs.length=n/\t xs σ H Q
theorem pg_lst {es:List Expr} {k:Nat} {t:TGs} {n:Nat} (hc:X.calm=true) (h:PGs X es t) (hn:(X5 es X.env).length=n:=by rfl) (hst:(X5 es X.env).findIdx? (·.1)=none:=by rfl):PG X (.Tuple es k pos) (gLst X.K n t):=by intro f s σ H v u Q I r ⟨a,xs,e1,hq,hl,hw⟩;subst e1;cases r;obtain ⟨j,c,i,l⟩:=I.list hq;rw [assign_Tuple];refine u0 (z8 (zjf (I.ok.hd hc) i.isList (by simp [hn,<-hl,c.length]) hst λ g d=>?_));exact h f _ σ H xs _ Q (I.kept (t':=s.toks) λ b o e=>d b o (Y0 (P0 e)) e) (by simpa using c) hw
end
theorem z3d {K:d0} {a:Addr} {xs:List V} {tl te:TE} {tc:TT} {g:TG} {m:Nat} {fr:List (Nat×Str)} {σ:L2.St} {H H1:Hp} {Q:VK} (p:Nat->Bool) (R:Nat->V->Hp->Prop) (hR :∀i y H H',Same H H'->R i y H->R i y H') (htl :∀R:VK,R (.ref a) H1->tl σ H R) (hq:SqL K H1 a xs) (hn:xs.length<=sizeLine)
  (body :∀i,i < xs.length->∀v H,Same H1 H->xs[i]? = some v->∀(KT:VK) (KF:Hp->Prop),(p i=true->∀y H',Same H H'->R i y H'->KT y H')->(p i=false->∀H',Same H H'->KF H')->
   g v (cStG σ fr (G2 m none)) H λ σ6 H6=>∃us,us.length=m/\σ6=cStG σ fr us/\tc (cStG σ fr us) H6 λ b H2=>if b=true then te (cStG σ fr us) H2 KT else KF H2)
  (hQ :∀l H' ys,Same H1 H'->H' l=none->All2 (λ i y=>R i y H') ((X0 xs.length).filter p) ys->Q (.ref l) (upd H' l (.lst ys))):tCompG (iList K tl) m fr g tc te σ H Q:=
 htl _ ⟨a,rfl,⟨xs,hq⟩,z41 (Same.refl _) (λ _ _ _ a b=>a.trans b) p R hR (z8j (S:=Same) (λ _ _=>Same.refl _) λ H s=>s.seq hq) hn body hQ⟩
theorem zaz {K:d0} {a:Addr} {xs:List V} {ta:TA} {te:TE} {tc:TT} {g:TG} {m:Nat} {fr:List (Nat×Str)} {σ:L2.St} {H H1:Hp} {Q:VK} (p:Nat->Bool) (R:Nat->V->Hp->Prop) (hR :∀i y H H',Same H H'->R i y H->R i y H') (hta :∀T:List V->Hp->Prop,T [.ref a] H1->ta σ H T) (hq:SqL K H1 a xs) (hn:xs.length<=sizeLine)
  (body :∀i,i < xs.length->∀v H,Same H1 H->(∃x p,xs[i]? = some x/\v=.ref p/\H p=some (.tup [.int (i:Nat),x]))->∀(KT:VK) (KF:Hp->Prop),(p i=true->∀y H',Same H H'->R i y H'->KT y H')->(p i=false->∀H',Same H H'->KF H')->
   g v (cStG σ fr (G2 m none)) H λ σ6 H6=>∃us,us.length=m/\σ6=cStG σ fr us/\tc (cStG σ fr us) H6 λ b H2=>if b=true then te (cStG σ fr us) H2 KT else KF H2)
  (hQ :∀l H' ys,Same H1 H'->H' l=none->All2 (λ i y=>R i y H') ((X0 xs.length).filter p) ys->Q (.ref l) (upd H' l (.lst ys))):tCompG (ieL K ta) m fr g tc te σ H Q:=
 hta _ ⟨a,xs,rfl,hq,z41 (Same.refl _) (λ _ _ _ a b=>a.trans b) p R hR (zcb hq) hn body hQ⟩
theorem zhd {K:d0} {tl te:TE} {tc:TT} {g:TG} {m:Nat} {fr:List (Nat×Str)} {σ:L2.St} {H:Hp} {Q:VK} (Pr:Addr->List V->Hp->Prop) (htl :∀R:VK,(∀a xs H1,Pr a xs H1->R (.ref a) H1)->tl σ H R) (hq :∀a xs H1,Pr a xs H1->SqL K H1 a xs/\xs.length<=sizeLine)
  (p:Nat->Bool) (R:Nat->V->Hp->Prop) (hR :∀i y H H',Same H H'->R i y H->R i y H')
  (body :∀a xs H1,Pr a xs H1->∀i,i < xs.length->∀v H,Same H1 H->xs[i]? = some v->∀(KT:VK) (KF:Hp->Prop),(p i=true->∀y H',Same H H'->R i y H'->KT y H')->(p i=false->∀H',Same H H'->KF H')->
   g v (cStG σ fr (G2 m none)) H λ σ6 H6=>∃us,us.length=m/\σ6=cStG σ fr us/\tc (cStG σ fr us) H6 λ b H2=>if b=true then te (cStG σ fr us) H2 KT else KF H2)
  (hQ :∀a xs H1,Pr a xs H1->∀l H' ys,Same H1 H'->H' l=none->All2 (λ i y=>R i y H') ((X0 xs.length).filter p) ys->Q (.ref l) (upd H' l (.lst ys))):tCompG (iList K tl) m fr g tc te σ H Q:=
 htl _ λ a xs H1 c=>⟨a,rfl,⟨xs,(hq a xs H1 c).1⟩,z41 (Same.refl _) (λ _ _ _ a b=>a.trans b) p R hR (z8j (S:=Same) (λ _ _=>Same.refl _) λ H s=>s.seq (hq a xs H1 c).1) (hq a xs H1 c).2 (body a xs H1 c) (hQ a xs H1 c)⟩
theorem z5f {K:d0} {a:Addr} {xs:List V} {tl te:TE} {tc:TT} {g:TG} {m:Nat} {fr:List (Nat×Str)} {σ:L2.St} {H H1:Hp} {Q:VK} (p:Nat->Bool) (R:Nat->V->Hp->Prop) (hR :∀i y H H',Same H H'->R i y H->R i y H') (htl :∀R:VK,R (.ref a) H1->tl σ H R) (hq:SqT K H1 a xs) (hn:xs.length<=sizeLine)
  (body :∀i,i < xs.length->∀v H,Same H1 H->xs[i]? = some v->∀(KT:VK) (KF:Hp->Prop),(p i=true->∀y H',Same H H'->R i y H'->KT y H')->(p i=false->∀H',Same H H'->KF H')->
   g v (cStG σ fr (G2 m none)) H λ σ6 H6=>∃us,us.length=m/\σ6=cStG σ fr us/\tc (cStG σ fr us) H6 λ b H2=>if b=true then te (cStG σ fr us) H2 KT else KF H2)
  (hQ :∀l H' ys,Same H1 H'->H' l=none->All2 (λ i y=>R i y H') ((X0 xs.length).filter p) ys->Q (.ref l) (upd H' l (.lst ys))):tCompG (iTup K tl) m fr g tc te σ H Q:=
 htl _ ⟨a,rfl,⟨xs,hq⟩,z41 (Same.refl _) (λ _ _ _ a b=>a.trans b) p R hR (zfv (S:=Same) (λ _ _=>Same.refl _) λ H s=>s.seqT hq) hn body hQ⟩
theorem e_cb1 {f:List V->Hp->VK->Prop} {te:TE} {σ:L2.St} {H:Hp} {Q:VK} (h:te σ H λ x H1=>f [x] H1 Q):tCB f (tCons te tNil) σ H Q:=h
theorem t_test {r:R2} {ta tb:TE} {σ:L2.St} {H:Hp} {Q:Bool->Hp->Prop} (h:ta σ H λ x H1=>tb σ H1 λ y H2=>r x y H2 λ x H3=>∃c,x=.bl c/\Q c H3):tTest (tOp r ta tb) σ H Q:=h
theorem t_lset {K:d0} {te:TE} {σ:L2.St} {H:Hp} {Q:VK} (h:te σ H λ x H1=>∃(a:Addr) (ns:List Int),x=.ref a/\SqL K H1 a (ns.map V.int)/\ns.length < 100/\Q (.int ((ns.foldl addI []).length:Nat)) H1):tLSet K te σ H Q:=h
theorem t_or {t u:TT} {σ:L2.St} {H:Hp} {Q:Bool->Hp->Prop} (h:t σ H λ c H1=>if c=true then Q true H1 else u σ H1 Q):tOr t u σ H Q:=h
theorem sq_if {c:TT} {a b rest:TS} {D:Ends} {σ:L2.St} {H:Hp} (h:c σ H λ k H1=>if k=true then a { D with nx:=rest D } σ H1 else b { D with nx:=rest D } σ H1):tSeq (tIfS c a b) rest D σ H:=h
theorem sq_ret {te:TE} {D:Ends} {σ:L2.St} {H:Hp} (h:te σ H D.rt):tRet te D σ H:=h
section
variable {X:Cx} {pins:List (Addr×Obj)} {σ:St} {H:Hp} {s:A0} {a:Addr} {u v:HO}
theorem Inv.retold (I:Inv X pins σ H s) (e:H a=some u) (nt :∀xs,u≠.tup xs) (nb :∀ps,u≠.tbl ps) (no :∀c,u≠.own c) (nf :∀o w,X.H₀ a≠some (.frz o w)) (ok:ObjOk X.prog X.w (upd H a v) s.heap a v):Inv X pins σ (upd H a v) s:=by
 have d :∀{b:Addr},H b=none->b≠a:=λ n z=>by rw [z,e] at n;cases n
 refine ⟨I.ok,I.os,I.bare,⟨I.base.keep,I.base.slot,λ b o q n j=>?_,I.base.there,λ b xs q=>?_,λ b o w q=>?_,λ b ps q=>?_⟩,I.loc,I.cell,?_,λ x c q=>?_,λ p k=>?_,λ b o q=>?_,I.len⟩
 ·have z:=I.base.free b o q n j;rw [upd_ne (d z)];exact z
 ·have z:=I.base.tups b xs q;rw [upd_ne (λ y=>by rw [y,e] at z;exact nt xs (P1 z))];exact z
 ·have z:=I.base.frzs b o w q;rw [upd_ne (λ y=>by rw [y] at q;exact nf o w q)];exact z
 ·obtain ⟨i,z⟩:=I.base.tbls b ps q;exact ⟨i,by rw [upd_ne (λ y=>by rw [y,e] at z;exact nb _ (P1 z))];exact z⟩
 ·rw [upd_ne (d I.free)];exact I.free
 ·rw [upd_ne (d (I.freeC x c q))];exact I.freeC x c q
 ·obtain ⟨g,f,h⟩:=I.pin p k;exact ⟨g,by rw [upd_ne (d f)];exact f,h⟩
 ·by_cases z:b=a
  ·subst z;rw [upd_same] at q;cases q;exact ok
  ·rw [upd_ne z] at q;refine (I.hok b o q).stay (λ _ _ _ y=>y) (λ c y=>?_) λ c xs y=>?_
   ·rw [upd_ne (λ x=>by rw [x,e] at y;exact no b (P1 y))];exact y
   ·rw [upd_ne (λ x=>by rw [x,e] at y;exact nt xs (P1 y))];exact y
theorem Inv.noFrz {kvs:List (Key×V)} (I:Inv X pins σ H s) (e:H a=some (.dK kvs)) :∀o w,X.H₀ a≠some (.frz o w):=λ o w q=>by have z:=I.base.frzs a o w q;rw [e] at z;cases z
theorem Inv.freeze {kvs:List (Key×V)} {ob:Obj} (I:Inv X pins σ H s) (e:H a=some (.dK kvs)) (ho:s.heap.get? a=some ob):Inv X pins σ (upd H a (.frz ob (.dK kvs))) s:=
 I.retold e (λ _ z=>by cases z) (λ _ z=>by cases z) (λ _ z=>by cases z) (I.noFrz e) ⟨ho,(show ObjOk X.prog X.w H s.heap a (.dK kvs) from I.hok a _ e)⟩
theorem Inv.thaw {kvs:List (Key×V)} {ob:Obj} (I:Inv X pins σ H s) (nf :∀o w,X.H₀ a≠some (.frz o w)) (e:H a=some (.frz ob (.dK kvs))):Inv X pins σ (upd H a (.dK kvs)) s:=
 I.retold e (λ _ z=>by cases z) (λ _ z=>by cases z) (λ _ z=>by cases z) nf (show ObjOk X.prog X.w H s.heap a (.frz ob (.dK kvs)) from I.hok a _ e).2
end
theorem zbx {α β:Type} {F:α->β->Prop} :∀{l:List α} {m:List β} {i:Nat} {x:α},z7 F l m->l[i]? = some x->∃y,m[i]? = some y/\F x y
 | _,_,i,x,.nil,e=>by simp at e
 | _,_,0,x,.cons a _,e=>by rw [P2] at e;cases e;exact ⟨_,P2,a⟩
 | _,_,i + 1,x,.cons _ r,e=>by rw [Z1] at e;obtain ⟨y,c,b⟩:=zbx r e;exact ⟨y,by rw [Z1];exact c,b⟩
noncomputable def Itv (a:Addr) (ob:Obj) (kvs:List (Key×V)):It:=
 ⟨λ i H=>H a=some (.frz ob (.dK kvs))/\i < kvs.length,λ i H x H'=>H'=H/\∃k,kvs[i]? = some (k,x),λ i H=>H a=some (.frz ob (.dK kvs))/\kvs.length<=i⟩
theorem frz_at {X:Cx} {pins:List (Addr×Obj)} {σ:St} {H:Hp} {s:A0} {a:Addr} {ob:Obj} {kvs:List (Key×V)} {es:Array DictEntry} {ep:Nat} (I:Inv X pins σ H s) (hob:ob.data=.dict es ep) (e:H a=some (.frz ob (.dK kvs))) :
  ∃vs,KV kvs vs/\vs.length=kvs.length/\s.heap.DictAt (z0p X.prog X.w) a vs ep:=by
 obtain ⟨h,_,_,vs,f,g⟩:=(show ObjOk X.prog X.w H s.heap a (.frz ob (.dK kvs)) from I.hok a _ e)
 obtain ⟨j,c⟩:=g.dictAt;refine ⟨vs,f,f.length.symm,?_⟩;obtain ⟨o,k,b,l,d,i⟩:=id c;rw [h] at b;cases b;rw [hob] at d;cases d;exact c
theorem zgb {P:Program} {w:Q0} {K:d0} {tg:Expr} {a it:Addr} {ob:Obj} {kvs:List (Key×V)} {es:Array DictEntry} {ep:Nat} (hob:ob.data=.dict es ep):Turn P w K tg (Itv a ob kvs) [it] it (λ i h=>h.IsValIter it a i kvs.length ep) where
 mem:=by simp
 obj:=λ i h f b g=>by
  obtain rfl:b=it:=by simpa using g
  obtain ⟨o,e,c,d⟩:=f;exact ⟨o,e,λ v z=>by rw [d] at z;cases z⟩
 keep:=λ i h m f k=>by obtain ⟨o,e,r⟩:=f;exact ⟨o,k it (by simp) o e,r⟩
 item:=by intro X C D t J i O s σ H E I l f F;subst C D t;obtain ⟨x,N⟩:=F;obtain ⟨Q,L,j,n⟩:=frz_at I hob x;obtain ⟨A,p,U,q,y,B⟩:=l it (by simp);have M:kvs[i]? = some kvs[i]:=v1 N;obtain ⟨⟨k',u⟩,R,Z,Y⟩:=zbx L M;rw [<-j] at f;refine wpAny_pyNext_values_item f n R λ m G T=>?_;have W:Inv X O σ H { s with heap:=m }:=I.turned (t':=s.toks) (λ b o g e=>(T.2 b g).trans e) A p q y B;obtain ⟨o,e,c,d⟩:=id G;rw [j] at G;exact ⟨u,rfl,go_of (s:={ s with heap:=m }) e c d (by decide) ⟨kvs[i].2,H,W,Y,⟨rfl,kvs[i].1,M⟩,G,λ b g=>(l b g).1⟩⟩
 done:=by intro X C D t J i O s σ H E I l f F;subst C D t;obtain ⟨x,N⟩:=F;obtain ⟨Q,L,j,n⟩:=frz_at I hob x;obtain ⟨A,p,U,q,y,B⟩:=l it (by simp);rw [<-j] at f;exact wpAny_pyNext_values_end (I.ok.hd J) f n (by rw [F7];lia) λ m S=>⟨rfl,I.turned (t':=s.toks) (λ b o g e=>S b o g e) A p q y B⟩
 self:=λ _ _ _ _ _ f h=>wpAny_pyIter_valiter f h
noncomputable def iVals (td:TE):TI:=λ σ H R=>td σ H λ x H1=>∃a kvs,x=.ref a/\H1 a=some (.dK kvs)/\∀ob,R (Itv a ob kvs) (upd H1 a (.frz ob (.dK kvs)))
section
variable {X:Cx}
theorem zgy {tg o:Expr} {to:TE} {apos cpos:Pos} (ho:PE X o to) (hbase:M3 o "values" X.env (X2 o X.env)=X2 o X.env:=by rfl) (hline:(apos.endLine == cpos.line)=true:=by rfl):PI X tg (.Call (.Attribute o "values" apos) [] [] cpos) (iVals to):=by
 intro m s σ H R I h;refine wpAny_Call_method0_late hbase hline (thn (ho m s σ H _ I h) λ v c ⟨x,H1,I1,r1,a,kvs,ex,ea,q⟩=>?_);subst ex;cases r1;obtain ⟨f,y,C⟩:=isD_at I1 (.inl ⟨_,.inl ea⟩);obtain ⟨_,_,j,z,p⟩:=dk_of I1.hok ea;obtain ⟨D,g⟩:=p.dictAt;obtain ⟨i,l,ho,E,A,_⟩:=id g;refine ⟨"dict","dict.values",F6,Q8,PySem.F.type_dict_values,f,y,X3 rfl (W9 ?_)⟩;refine N8 Q8 f PySem.F.entry_dict_values (PySem.F.args_dict_values_1 _) (meets_dict_values (z0p X.prog X.w) a C) ⟨⟨_,p⟩,?_⟩;have k :∀b o,c.heap.get? b=some o->(c.heap.push { cls:=.type "dict_values",data:=.fields #[.ref a] }).get? b=some o:=λ b o e=>F0 _ e;have d:Inv X m σ (upd H1 a (.frz i (.dK kvs))) { c with heap:=c.heap.push { cls:=.type "dict_values",data:=.fields #[.ref a] } }:=(I1.freeze ea ho).kept (t':=c.toks) k;have n:(c.heap.push { cls:=.type "dict_values",data:=.fields #[.ref a] }).DictAt (z0p X.prog X.w) a j D:=by obtain ⟨o,l,B,r⟩:=g;exact ⟨o,l,k _ _ B,r⟩
 refine wpAny_pyIter_values (s:={ c with heap:=c.heap.push { cls:=.type "dict_values",data:=.fields #[.ref a] } }) ⟨_,V0 _ rfl,rfl,rfl⟩ n ?_;have u:j.length=kvs.length:=z.length.symm;generalize hh2:c.heap.push { cls:=.type "dict_values",data:=.fields #[.ref a] }=h2 at d n;refine ⟨h2.objs.size,[h2.objs.size],_,_,_,rfl,d.kept (t':=c.toks) λ b o e=>F0 _ e,zgb A,⟨_,V0 _ rfl,rfl,by rw [u];rfl⟩,λ b t=>?_,q i⟩;obtain rfl:b=h2.objs.size:=by simpa using t
 exact d.fpOk (C0 _) (d.hok.fresh (C0 _))
noncomputable def tThaw (t:TE):TE:=λ σ H Q=>∃a kvs,H a=some (.dK kvs)/\t σ H λ v H4=>(∃ob,H4 a=some (.frz ob (.dK kvs)))/\Q v (upd H4 a (.dK kvs))
theorem zid {e:Expr} {t:TE} (h:PE X e t):PE X e (tThaw t):=by intro b s σ H Q I ⟨a,kvs,ea,q⟩;refine thn (h b s σ H _ I q) λ u c ⟨v,H4,I4,r4,⟨ob,e4⟩,q4⟩=>?_;exact ⟨v,_,I4.thaw (I.noFrz ea) e4,r4,q4⟩
noncomputable def sThaw (t:TS):TS:=λ D σ H=>∃a kvs,H a=some (.dK kvs)/\t { D with nx:=λ σ' H4=>(∃ob,H4 a=some (.frz ob (.dK kvs)))/\D.nx σ' (upd H4 a (.dK kvs)) } σ H
theorem zik {st:Stmt} {t:TS} (h:PS X st t):PS X st (sThaw t):=by
 intro g s σ H D I ⟨a,kvs,ea,q⟩;refine thn (h g s σ H _ I q) λ f i z=>?_;cases f with
 | next=>obtain ⟨d,k,e,⟨j,b⟩,c⟩:=z;exact ⟨d,_,e.thaw (I.noFrz ea) b,c⟩
 | brk=>exact z
 | cont=>exact z
 | ret u=>exact z
end
theorem ze5 {S:Hp->Hp->Prop} {a:Addr} {ob:Obj} {kvs:List (Key×V)} {H1:Hp} (hs :∀H,S H1 H->S H H) (hq :∀H,S H1 H->H a=some (.frz ob (.dK kvs))):RunsR S (Itv a ob kvs) H1 kvs.length (λ i v _=>∃k,kvs[i]? = some (k,v)):=
 ⟨λ i b H s=>⟨hq H s,b⟩,λ H s=>⟨hq H s,C0 _⟩,λ i b H v c s y=>by obtain ⟨e,y⟩:=y;subst e;exact ⟨hs _ s,y⟩⟩
theorem zch {K:d0} {H:Hp} {l c:Addr} {o:HO} {kvs:List (Key×V)} {xs:List V} (e:H l=some (.dK kvs)) (h:SqT K H c xs):SqT K (upd H l o) c xs:=by
 rcases h with (h|⟨ob,h⟩)|h
 ·exact .inl (.inl (by rw [upd_ne (ne_of h e (by intro z;cases z))];exact h))
 ·exact .inl (.inr ⟨ob,by rw [upd_ne (ne_of h e (by intro z;cases z))];exact h⟩)
 ·exact .inr h
theorem tcompV {K:d0} {a:Addr} {kvs:List (Key×V)} {td te:TE} {tc:TT} {g:TG} {m:Nat} {fr:List (Nat×Str)} {σ:L2.St} {H:Hp} {Q:VK} (p:Nat->Bool) (R:Nat->V->Prop) (htd :∀R:VK,R (.ref a) H->td σ H R) (ea:H a=some (.dK kvs)) (hn:kvs.length<=sizeLine)
  (body :∀i k v,kvs[i]? = some (k,v)->∀H1,(∀c xs,SqT K H c xs->SqT K H1 c xs)->∀(KT:VK) (KF:Hp->Prop),(p i=true->∀y H',Same H1 H'->R i y->KT y H')->(p i=false->∀H',Same H1 H'->KF H')->
   g v (cStG σ fr (G2 m none)) H1 λ σ6 H6=>∃us,us.length=m/\σ6=cStG σ fr us/\tc (cStG σ fr us) H6 λ b H2=>if b=true then te (cStG σ fr us) H2 KT else KF H2)
  (hQ :∀l H' ys,Same H H'->H l=none->H' l=some (.lst ys)->All2 R ((X0 kvs.length).filter p) ys->Q (.ref l) H'):tThaw (tCompG (iVals td) m fr g tc te) σ H Q:=by
 refine ⟨a,kvs,ea,htd _ ⟨a,kvs,rfl,ea,λ d=>?_⟩⟩;have j :∀{H':Hp},Same (upd H a (.frz d (.dK kvs))) H'->H' a=some (.frz d (.dK kvs)):=λ s=>s _ _ upd_same;refine z41 (S:=Same) (H1:=upd H a (.frz d (.dK kvs))) (Q:=λ v r=>(∃d,r a=some (.frz d (.dK kvs)))/\Q v (upd r a (.dK kvs))) (fr:=fr) (g:=g) (tc:=tc) (te:=te) (σ:=σ) (m:=m) (Same.refl _) (λ _ _ _ a b=>a.trans b) p (λ i y _=>R i y) (λ _ _ _ _ _ z=>z) (ze5 (S:=Same) (λ _ _=>Same.refl _) λ H s=>j s) hn (λ i C v H1 A B KT KF t w=>?_) λ l H' ys h f u=>?_
 ·obtain ⟨k,x⟩:=B;exact body i k v x H1 (λ c xs z=>A.seqT (zch ea z)) KT KF t w
 ·have n:l≠a:=λ z=>by rw [z,j h] at f;cases f
  refine ⟨⟨d,by rw [upd_ne n.symm];exact j h⟩,hQ l _ ys (λ b o e=>?_) ?_ (by rw [upd_ne n];exact upd_same) u⟩
  ·by_cases z:b=a
   ·rw [z] at e⊢;rw [ea] at e;cases e;exact upd_same
   ·have q:H' b=some o:=h b o (by rw [upd_ne z];exact e);rw [upd_ne z,upd_ne (λ y=>by rw [y,f] at q;cases q)];exact q
  ·cases hx:H l with
   | none=>rfl
   | some o=>have:=h l o (by rw [upd_ne n];exact hx);rw [f] at this;cases this
theorem zh7 {te:TE} {i:Nat} {rest:TS} {D:Ends} {σ:L2.St} {H:Hp} (h:tThaw te σ H λ x H1=>rest D (σ.set i (some x)) H1):tSeq (sThaw (tAsg te (gName i))) rest D σ H:=h
def TupI (h:Heap) (v:Value) (x:Int×Int):Prop:=∃(p:Addr) (o:Obj) (n:Nat) (t u:Tok),v=.ref p/\h.get? p=some o/\o.cls=.type "tuple"/\o.data=.seq #[.int x.1 t,.int x.2 u] n
noncomputable def gtI (x y:Int×Int):Bool:=if x.1=y.1 then decide (y.2 < x.2) else decide (y.1 < x.1)
section
variable {prog:Program} {w:Q0} {A:X1} {E:Value->A0->Prop} {s:A0}
theorem tup_gt {v z:Value} {x y:Int×Int} {Q:Value->A0->Prop} (hx:TupI s.heap v x) (hy:TupI s.heap z y) (hu:A.units < cLine) (h:Q (.bool (gtI x y)) s):S0 (B1 prog w) A (richCompare .Gt v z) Q E s:=by
 obtain ⟨p,o,n,t,u,rfl,c,e,m⟩:=hx;obtain ⟨l,g,C,D,B,rfl,d,f,r⟩:=hy;refine wpAny_richCompare_same_room (op:=.Gt) (T:="tuple") ⟨o,c,e⟩ ⟨g,d,f⟩ F.slot_tuple_gt (W5 F.slot_tuple_gt ⟨o,c,e⟩ F.entry_tuple_gt ?_ (F.args_tuple_gt_2 _ _)) hu;refine (show S0 _ _ (isInstance (.ref l) (.type "tuple") >>= _) _ _ s from u0 (wpAny_isInstance (T:="tuple") ⟨g,d,f⟩ isSubtype_tuple_tuple ?_));simp only [O5,d3,if_false];refine u0 (D8 c m (u0 (D8 d r (u0 ?_))));simp only [List.zip_cons_cons,List.zip_nil_left,X4,o5];refine u0 (u0 ((Y3 prog w).eqBool (a:=x.1) (b:=y.1) (N6 prog w _ _) (N6 prog w _ _) ?_));have k :∀{i j:Int} {a b:Tok} {R:Value->A0->Prop},R (.bool (decide (j < i))) s->S0 (B1 prog w) A.in1 (richCompare .Gt (.int i a) (.int j b)) R E s:=λ q=>(show S0 _ _ (A2 .Gt _ _) _ _ _ from gt_int q)
 by_cases e1:x.1=y.1
 ·rw [decide_eq_true e1];simp only [O5,d3,if_false];refine G0 (u0 (u0 ((Y3 prog w).eqBool (a:=x.2) (b:=y.2) (N6 prog w _ _) (N6 prog w _ _) ?_)));unfold gtI at h;rw [if_pos e1] at h;by_cases e2:x.2=y.2
  ·rw [decide_eq_true e2];simp only [O5,d3,if_false];rw [decide_eq_false (by lia)] at h;exact G0 (G0 (G0 ⟨_,rfl,(λ z=>nomatch z),h⟩))
  ·rw [decide_eq_false e2];simp only [Bool.not_false,if_true];exact u0 (E8 (u0 (k (u0 (G0 (G0 (G0 (G0 ⟨_,rfl,(λ z=>nomatch z),h⟩))))))))
 ·rw [decide_eq_false e1];simp only [Bool.not_false,if_true];unfold gtI at h;rw [if_neg e1] at h;exact u0 (E8 (u0 (k (u0 (G0 (G0 (G0 (G0 ⟨_,rfl,(λ z=>nomatch z),h⟩))))))))
theorem TupI.kept {h h':Heap} {v:Value} {x:Int×Int} {c:Addr} {oc:Obj} (q:TupI h v x) (e:h.get? c=some oc) (nc:oc.cls≠.type "tuple") (k :∀b o,b≠c->h.get? b=some o->h'.get? b=some o):TupI h' v x:=by obtain ⟨p,o,n,t,u,rfl,a,d,f⟩:=q;exact ⟨p,o,n,t,u,rfl,k p o (λ z=>by rw [z,e] at a;cases a;exact nc d) a,d,f⟩
noncomputable def bestI (m:Value×(Int×Int)):List (Value×(Int×Int))->Value×(Int×Int)
 | []=>m
 | x :: r=>bestI (if gtI x.2 m.2=true then x else m) r
theorem z86 {I l S:Addr} {its:Array Value} (nl:l≠I) (ns:S≠I) (nsl:l≠S) :∀(xs:List (Value×(Int×Int))) (k c:Nat) (m:Value×(Int×Int)) (A:X1) (R:Result->A0->Prop) (s:A0),A.handled=none->A.units + 1 < cLine->s.heap.IsListIter I l k->s.heap.IsList l its->its.toList.drop k=xs.map (·.1)->
  s.heap.get? S=some { cls:=.type "list",dict:=none,data:=.seq #[m.1,m.1] c,slots:=#[] }->TupI s.heap m.1 m.2->(∀x∈xs,TupI s.heap x.1 x.2)->
  (∀h' tk,(∀b o,b≠I->b≠S->s.heap.get? b=some o->h'.get? b=some o)->R (.ok (.ret (bestI m xs).1)) { s with heap:=h',toks:=tk })->
  Z5 (B1 prog w) A (.builtin "max.loop" ⟨[.ref I,.none,.ref S],[]⟩) R s
 | [],k,c,m,A,R,s,hh,hu,hI,hl,hd,hS,hm,hx,q=>by
  have H:its[k]? = none:=by have:=List.drop_eq_nil_iff.mp hd;rw [B2] at this;exact K9 this
  refine j5 T8 ?_;rw [G7 V3 _];refine (show S0 _ A.in1 (d9 (.ref S) >>= _) _ _ s from u0 (E5 hS rfl ?_));refine (show S0 _ A.in1 (tryCatch (F8 (.ref I)) _ >>= _) _ _ s from u0 (d8 (U5 (show A.in1.handled=none from hh) hI hl H λ h' d=>?_)));have f:=d S _ ns hS;refine (show S0 _ A.in1 (updateSeq S (λ _=>#[]) >>= _) _ _ _ from u0 (D9 f rfl (u0 (t9 (G0 ?_)))));exact q _ _ λ b o a h e=>(c4 _ _ (R3 h)).trans (d b o a e)
 | x :: xs,k,c,m,A,R,s,hh,hu,hI,hl,hd,hS,hm,hx,q=>by
  have t:its.toList[k]? = some x.1:=by have:=congrArg (λ z=>z[0]?) hd;simpa using this
  have t:its[k]? = some x.1:=by simpa using t
  have v:its.toList.drop (k + 1)=xs.map (·.1):=by have:=congrArg List.tail hd;simpa using this
  have F:(toString "max"++toString ".loop" : String) = "max.loop":=by decide
  obtain ⟨J,D,L,_⟩:=id hI;have E:J.cls≠.type "tuple":=by rw [L];decide
  refine j5 T8 ?_;rw [G7 V3 _];refine (show S0 _ A.in1 (d9 (.ref S) >>= _) _ _ s from u0 (E5 hS rfl ?_));refine (show S0 _ A.in1 (tryCatch (F8 (.ref I)) _ >>= _) _ _ s from u0 (d8 (v4 hI hl t λ h' G K=>?_)));have g :∀b o,b≠I->s.heap.get? b=some o->h'.get? b=some o:=λ b o n e=>(K.2 b n).trans e;have f:=g S _ ns hS;have C:h'.IsList l its:=hl.elim λ o z=>⟨o,g l o nl z.1,z.2⟩
  have B:TupI h' m.1 m.2:=hm.kept D E g;have p :∀y∈x :: xs,TupI h' y.1 y.2:=λ y j=>(hx y j).kept D E g;refine (show S0 _ A.in1 (tryCatch (K8 [x.1,x.1] (richCompare .Gt x.1 m.1 >>= _)) _ >>= _) _ _ _ from u0 (d8 (K2 (u0 (tup_gt (s:={ s with heap:=h' }) (p x (.head _)) B (by simpa using hu) (u0 (K2 (Q2 (u0 (t9 (G0 ?_)))))))))));have d:bestI m (x :: xs)=bestI (if gtI x.2 m.2=true then x else m) xs:=rfl;cases hg:gtI x.2 m.2 with
  | true=>rw [hg,if_pos rfl] at d;simp only [if_true];refine u0 (D9 f rfl (u0 (t9 ?_)));rw [F];have i :∀b o,b≠S->h'.get? b=some o->(h'.update S (N4 λ _=>#[x.1,x.1])).get? b=some o:=λ b o n e=>(c4 _ _ (R3 n)).trans e;refine G0 ⟨m7 V3 _,z86 nl ns nsl xs (k + 1) _ x A R { s with heap:=h'.update S (N4 λ _=>#[x.1,x.1]) } hh hu (G.elim λ o z=>⟨o,i I o (R3 ns) z.1,z.2⟩) (C.elim λ o z=>⟨o,i l o nsl z.1,z.2⟩) v (p4 _ f rfl) ((p x (.head _)).kept f (show K4 "list"≠.type "tuple" by decide) i) (λ y j=>(p y (.tail _ j)).kept f (show K4 "list"≠.type "tuple" by decide) i) λ r tk u=>?_⟩;rw [<-d];exact q r tk λ b o a h e=>u b o a h (i b o h (g b o a e))
  | false=>rw [hg,if_neg (by decide)] at d;simp only [d3,if_false];refine u0 (t9 ?_);rw [F];refine G0 ⟨m7 V3 _,z86 nl ns nsl xs (k + 1) c m A R { s with heap:=h' } hh hu G C v f B (λ y j=>p y (.tail _ j)) λ r tk u=>?_⟩;rw [<-d];exact q r tk λ b o a h e=>u b o a h (g b o a e)
theorem zg2 {l:Addr} {its:Array Value} {m:Value×(Int×Int)} {xs:List (Value×(Int×Int))} {Q:Value->A0->Prop} (hh:A.handled=none) (hu:A.units + 1 < cLine) (hl:s.heap.IsList l its) (hi:its.toList=(m :: xs).map (·.1)) (ht :∀x∈m :: xs,TupI s.heap x.1 x.2)
  (q :∀h' tk,(∀b o,s.heap.get? b=some o->h'.get? b=some o)->Q (bestI m xs).1 { s with heap:=h',toks:=tk }):S0 (B1 prog w) A (call (.builtin "max") [.ref l]) Q E s:=by
 have K:(toString "max"++toString ".loop" : String) = "max.loop":=by decide
 refine call_function_tree F.kind_max F.plain_max F.entry_max (F.args_max1 _) ?_;refine (show S0 _ A.in1 (O7 "max" ["key","default"] 0 ⟨[],[]⟩ >>= _) _ _ s from u0 (i8 (show O7 "max" ["key","default"] 0 ⟨[],[]⟩=G3 [none,none] from rfl) (u0 (G0 ?_))));refine u0 (F5 hl ?_);refine u0 (L3 ?_);rw [K];dsimp only;generalize hI0:s.heap.push { cls:=.type "list_iterator",data:=.fields #[.ref l,.int 0 0] }=h1;have k:h1.get? s.heap.objs.size=some { cls:=.type "list_iterator",data:=.fields #[.ref l,.int 0 0] }:=by rw [<-hI0];exact V0 _ rfl
 have h:h1.objs.size=s.heap.objs.size + 1:=by rw [<-hI0];exact D3 _ _
 have f :∀b o,s.heap.get? b=some o->h1.get? b=some o:=λ b o e=>by rw [<-hI0];exact F0 _ e
 generalize hS0:h1.push { cls:=.type "list",data:=.seq #[] }=h2;have y:h2.get? h1.objs.size=some { cls:=.type "list",data:=.seq #[] }:=by rw [<-hS0];exact V0 _ rfl
 have a :∀b o,h1.get? b=some o->h2.get? b=some o:=λ b o e=>by rw [<-hS0];exact F0 _ e
 have B:l < s.heap.objs.size:=hl.elim λ o z=>P0 z.1;generalize hI:s.heap.objs.size=I at k h B;generalize hSS:h1.objs.size=S at y h;have v:S≠I:=by lia
 have C:l≠I:=Y0 B;have H:l≠S:=Y0 (by rw [h];exact Q1 B);have R :∀x∈m :: xs,TupI h2 x.1 x.2:=λ x d=>by obtain ⟨p,o,n,t,u,e,T,r⟩:=ht x d;exact ⟨p,o,n,t,u,e,a _ _ (f _ _ T),r⟩
 refine G0 ⟨m7 V3 _,j5 T8 ?_⟩;rw [G7 V3 _];refine (show S0 _ A.in1 (d9 (.ref S) >>= _) _ _ _ from u0 (E5 y rfl ?_));have N:its[0]? = some m.1:=by have:=congrArg (λ z=>z[0]?) hi;simpa using this
 refine (show S0 _ A.in1 (tryCatch (F8 (.ref I)) _ >>= _) _ _ _ from u0 (d8 (v4 (l:=l) ⟨_,a _ _ k,rfl,rfl⟩ (hl.elim λ o z=>⟨o,a _ _ (f _ _ z.1),z.2⟩) N λ c M P=>?_)));have i :∀b o,b≠I->h2.get? b=some o->c.get? b=some o:=λ b o n e=>(P.2 b n).trans e;have j:=i S _ v y;refine (show S0 _ A.in1 (updateSeq S (λ _=>#[m.1,m.1]) >>= _) _ _ _ from u0 (D9 j rfl ?_));rw [K];have g :∀b o,b≠S->c.get? b=some o->(c.update S (N4 λ _=>#[m.1,m.1])).get? b=some o:=λ b o n e=>(c4 _ _ (R3 n)).trans e;have J :∀x∈m :: xs,TupI (c.update S (N4 λ _=>#[m.1,m.1])) x.1 x.2:=λ x d=>((R x d).kept (a _ _ k) (show K4 "list_iterator"≠.type "tuple" by decide) i).kept j (show K4 "list"≠.type "tuple" by decide) g;refine G0 ⟨m7 V3 _,z86 C v H xs 1 _ m A _ { s with heap:=c.update S (N4 λ _=>#[m.1,m.1]) } hh hu (M.elim λ o z=>⟨o,g I o (R3 v) z.1,z.2⟩) (hl.elim λ o z=>⟨o,g l o H (i _ _ C (a _ _ (f _ _ z.1))),z.2⟩) ?_ (p4 _ j rfl) (J m (.head _)) (λ x d=>J x (.tail _ d)) λ h' tk O=>?_⟩
 ·rw [hi];rfl
 ·refine q h' tk λ b o e=>?_;have L:b < I:=by rw [<-hI];exact P0 e
  have D:b≠I:=Y0 L;have G:b≠S:=Y0 (by rw [h];exact Q1 L);exact O b o D G (g _ _ G (i _ _ D (a _ _ (f _ _ e))))
end
section
variable {X:Cx}
theorem gtI_iff {x y:Int×Int}:gtI x y=true↔y.1 < x.1\/(x.1=y.1/\y.2 < x.2):=by
 unfold gtI;by_cases e:x.1=y.1
 ·rw [if_pos e,decide_eq_true_iff];lia
 ·rw [if_neg e,decide_eq_true_iff];lia
theorem zaf :∀(xs:List (Value×(Int×Int))) (m:Value×(Int×Int)),bestI m xs∈m :: xs/\∀x∈m :: xs,gtI x.2 (bestI m xs).2=false
 | [],m=>⟨.head _,λ x d=>by rw [List.mem_singleton.mp d];exact Bool.eq_false_iff.mpr λ z=>by have:m.2.1 < m.2.1\/(m.2.1=m.2.1/\m.2.2 < m.2.2):=gtI_iff.mp z;lia⟩
 | y :: xs,m=>by
  show bestI (if gtI y.2 m.2=true then y else m) xs∈m :: y :: xs/\∀x∈m :: y :: xs,gtI x.2 (bestI (if gtI y.2 m.2=true then y else m) xs).2=false;by_cases z:gtI y.2 m.2=true
  ·rw [if_pos z];obtain ⟨g,f⟩:=zaf xs y;refine ⟨.tail _ g,λ x d=>?_⟩;rcases List.mem_cons.mp d with e|d
   ·have a:=f y (.head _);rw [e];refine Bool.eq_false_iff.mpr λ b=>Bool.eq_false_iff.mp a ?_;have b:=gtI_iff.mp b;have c:=gtI_iff.mp z;exact gtI_iff.mpr (by lia)
   ·exact f x d
  ·rw [if_neg z];obtain ⟨g,f⟩:=zaf xs m;refine ⟨?_,λ x d=>?_⟩
   ·rcases List.mem_cons.mp g with e|e
    ·rw [e];exact .head _
    ·exact .tail _ (.tail _ e)
   ·rcases List.mem_cons.mp d with e|d
    ·rw [e];exact f m (.head _)
    ·rcases List.mem_cons.mp d with e|d
     ·have a:=f m (.head _);rw [e];refine Bool.eq_false_iff.mpr λ b=>Bool.eq_false_iff.mp a ?_;have b:=gtI_iff.mp b;have c:¬ _:=λ c=>z (gtI_iff.mpr c);exact gtI_iff.mpr (by lia)
     ·exact f x (.tail _ d)
theorem zfr (hcalm:X.calm=true) {k:Nat} (hr:Room k X.A):CallR X (.builtin "max") (λ xs H Q=>∃(l:Addr) (m:Addr×(Int×Int)) (r:List (Addr×(Int×Int))),xs=[.ref l]/\SqL X.K H l ((m :: r).map λ x=>V.ref x.1)/\(∀x∈m :: r,SqT X.K H x.1 [.int x.2.1,.int x.2.2])/\
  ∀b,(b∈m :: r)->(∀x∈m :: r,gtI x.2 b.2=false)->Q (.ref b.1) H):=by
 intro Z s σ H xs us Q I C h;obtain ⟨l,m,r,rfl,sq,D,q⟩:=h;obtain ⟨u,rfl,t⟩:=vals1 C;cases t;obtain ⟨i,v,R,Y⟩:=I.list sq;have F:i.toArray.toList=(((W0 m.1,m.2) :: r.map λ x=>(W0 x.1,x.2)):List (Value×(Int×Int))).map (·.1):=by
  have L :∀(f:List (Addr×(Int×Int))) (us:List Value),Vals (f.map λ x=>V.ref x.1) us->us=(f.map λ x=>(W0 x.1,x.2)).map (·.1):=by
   intro f;induction f with
   | nil=>intro us h;cases h;rfl
   | cons y f ih=>
    intro us h;cases h with
    | cons a b=>cases (show _=W0 y.1 from a);rw [j1,j1,<-ih _ b]
  simpa using L (m :: r) i v
 have P :∀x∈(((W0 m.1,m.2) :: r.map λ x=>(W0 x.1,x.2)):List (Value×(Int×Int))),TupI s.heap x.1 x.2:=λ x c=>by
  obtain ⟨y,d,rfl⟩ :∃y∈m :: r,x=(W0 y.1,y.2):=by
   rcases List.mem_cons.mp c with e|c
   ·exact ⟨m,.head _,e⟩
   ·obtain ⟨y,d,e⟩:=List.mem_map.mp c;exact ⟨y,.tail _ d,e.symm⟩
  obtain ⟨W,N,⟨o,J,j,n,G⟩,_⟩:=I.tuple (D y d);obtain ⟨U,S,rfl,O,B⟩:=vals2 N;obtain ⟨p,rfl⟩:=O;obtain ⟨w,rfl⟩:=B;exact ⟨y.1,o,n,p,w,rfl,J,j,G⟩
 refine zg2 (I.ok.hd hcalm) (hu_of hr) R.isList F P λ T M k=>?_;obtain ⟨E,g⟩:=zaf (r.map λ x=>(W0 x.1,x.2)) (W0 m.1,m.2);obtain ⟨y,d,z⟩ :∃y∈m :: r,bestI (W0 m.1,m.2) (r.map λ x=>(W0 x.1,x.2))=(W0 y.1,y.2):=by
  rcases List.mem_cons.mp E with e|c
  ·exact ⟨m,.head _,e⟩
  ·obtain ⟨y,d,e⟩:=List.mem_map.mp c;exact ⟨y,.tail _ d,e.symm⟩
 rw [z] at g⊢;refine ⟨.ref y.1,H,I.kept (t':=M) k,rfl,q y d λ x c=>?_⟩;rcases List.mem_cons.mp c with e|c
 ·rw [e];exact g _ (.head _)
 ·exact g (W0 x.1,x.2) (.tail _ (List.mem_map.mpr ⟨x,c,rfl⟩))
end
end L2
set_option maxHeartbeats 400000
namespace L2
open PySem PySem.Spec PyProof.Rows
end L2
set_option maxHeartbeats 1000000
namespace L2
open PySem PySem.Spec PyProof.Rows
theorem zeq {te:TE} {σ:L2.St} {H:Hp} {Q:List V->Hp->Prop} (h:te σ H λ y H1=>Q [y] H1):tCons te tNil σ H Q:=h
structure ZLAt (h:Heap) (z T U i j a b:Addr) (n:Nat) (f:Value):Prop where
 z:IsZip h z T U f
 t:IsPair h T (.ref i) (.ref j)
 u :∃p q,IsPair h U p q
 i:h.IsListIter i a n
 j:h.IsListIter j b n
noncomputable def jl (c:Nat):List (List Nat)->List Nat
 | []=>[]
 | [a]=>a
 | a :: b :: r=>a++c :: jl c (b :: r)
end L2
namespace L2
open PySem PySem.Spec PyProof.Rows PySem.NumText
end L2
namespace L2
open PySem PySem.Spec PyProof.Rows
end L2
open PySem PySem.W PyProof.Rows
set_option maxHeartbeats 4000000
namespace TJ
section
variable (p:Program) (w:Q0) (n₀:Nat) (ann:Option Value) (code:Code) (q:Pos)
theorem zfj {n m:Nat} :∀{s s' s'':A0} {t t' t'':S9},segGo c3 p w n₀ ann 1 n s t=some (s',t')->segGo c3 p w n₀ ann 1 m s' t'=some (s'',t'')->
  segGo c3 p w n₀ ann 1 (n + m) s t=some (s'',t''):=by
 induction n with
 | zero=>
  intro s s' s'' t t' t'' h k;obtain ⟨rfl,rfl⟩:s=s'/\t=t':=by simpa [segGo] using h
  rw [n6];exact k
 | succ n ih=>
  intro s s' s'' t t' t'' h k;rw [show n + 1 + m=n + m + 1 by omega];unfold segGo at h⊢;cases he:endAt 1 t with
  | some f=>rw [he] at h;cases h
  | none=>
   rw [he] at h;cases hk:stepOk n₀ ann t with
   | false=>rw [hk] at h;cases h
   | true=>
    rw [hk] at h;cases hs:step (denote c3) p w s t with
    | halt o s₂=>rw [hs] at h;cases h
    | go s₂ t₂=>rw [hs] at h;exact ih h k
def Steps (c:Nat) (s:A0) (t:S9) (s':A0) (t':S9):Prop:=∃n,n<=c/\segGo c3 p w n₀ ann 1 n s t=some (s',t')
def Goes {α:Type} (c:Nat) (x:Sem α) (s:A0) (pos:Pos) (a:α) (s':A0) (pos':Pos):Prop:=
 ∀(K:α->Sem Fin) (H:Value->Sem Fin) (gd:Bool->Bool) (lv:List Value->List Value),
  Steps p w n₀ ann c s ⟨x.wrap K H gd lv,code,pos,[topFrame q]⟩ s' ⟨K a,code,pos',[topFrame q]⟩
end
section
variable {p:Program} {w:Q0} {n₀:Nat} {ann:Option Value} {code:Code} {q:Pos}
theorem Steps.trans {c d:Nat} {s s' s'':A0} {t t' t'':S9} (h:Steps p w n₀ ann c s t s' t') (k:Steps p w n₀ ann d s' t' s'' t''):Steps p w n₀ ann (c + d) s t s'' t'':=by obtain ⟨n,b,h⟩:=h;obtain ⟨m,a,k⟩:=k;exact ⟨n + m,by omega,zfj p w n₀ ann h k⟩
theorem Steps.refl {s:A0} {t:S9}:Steps p w n₀ ann 0 s t s t:=⟨0,C0 _,rfl⟩
theorem Steps.le {c d:Nat} {s s':A0} {t t':S9} (h:Steps p w n₀ ann c s t s' t') (l:c<=d):Steps p w n₀ ann d s t s' t':=let ⟨n,a,b⟩:=h;⟨n,K0 a l,b⟩
theorem Steps.one {s s':A0} {t t':S9} (he:endAt 1 t=none) (hk:stepOk n₀ ann t=true) (hs:step (denote c3) p w s t=.go s' t'):Steps p w n₀ ann 1 s t s' t':=by refine ⟨1,C0 _,?_⟩;unfold segGo;rw [he,hk,hs];rfl
variable {α β:Type} {s s' s'':A0} {pos pos' pos'':Pos} {a:α} {b:β} {c d:Nat}
theorem Goes.pure:Goes p w n₀ ann code q 0 (G9 a:Sem α) s pos a s pos:=λ _ _ _ _=>.refl
theorem Goes.le {x:Sem α} (h:Goes p w n₀ ann code q c x s pos a s' pos') (l:c<=d):Goes p w n₀ ann code q d x s pos a s' pos':=λ K H gd b=>(h K H gd b).le l
theorem Goes.bind {x:Sem α} {f:α->Sem β} (h:Goes p w n₀ ann code q c x s pos a s' pos') (k:Goes p w n₀ ann code q d (f a) s' pos' b s'' pos''):Goes p w n₀ ann code q (c + d) (x >>= f) s pos b s'' pos'':=by
 intro K H gd g;have e:(x >>= f).wrap K H gd g=x.wrap (λ a=>(f a).wrap K H gd g) H gd g:=by rw [Sem.bind_eq_wrap',Sem.wrap_wrap];rfl
 rw [e];exact (h _ H gd g).trans (k K H gd g)
theorem Goes.keep {x:Sem α} {vs:List Value} (h:Goes p w n₀ ann code q c x s pos a s' pos'):Goes p w n₀ ann code q c (x.keep vs) s pos a s' pos':=by intro K H gd b;rw [Sem.keep_eq_wrap,Sem.wrap_wrap];exact h K H _ _
theorem Goes.holding {x:Sem α} {vs:List Value} (h:Goes p w n₀ ann code q c x s pos a s' pos'):Goes p w n₀ ann code q c (K8 vs x) s pos a s' pos':=by rw [holding_eq_keep];exact h.keep
theorem Goes.rule {tag:String}:Goes p w n₀ ann code q 1 (PySem.rule tag) s pos () s pos:=λ _ _ _ _=>.one rfl rfl rfl
theorem Goes.at' {pos₁:Pos}:Goes p w n₀ ann code q 1 (L9 pos₁) s pos () s pos₁:=λ _ _ _ _=>.one rfl rfl rfl
theorem Goes.loadPart {A:Addr} {o:Obj} {part:Option Value} (ho:s.heap.get? A=some o):Goes p w n₀ ann code q 1 (loadPart A part) s pos o s pos:=λ K H gd d=>.one rfl rfl (by obtain ⟨heap,b,e,c,a⟩:=s;show (match heap.get? A with|some o=>Step.go _ _|none=>_)=_;have ho:heap.get? A=some o:=ho;rw [ho];rfl)
theorem Goes.updatePart {A:Addr} {o:Obj} {f:Obj->Obj} {part:Option Value} (ho:s.heap.get? A=some o) (hn:Nat.ble n₀ A=true):Goes p w n₀ ann code q 1 (updatePart A part f) s pos () { s with heap:=s.heap.update A f } pos:=λ K H gd d=>
 .one rfl (by
  show (_ && (Nat.ble n₀ A || _ || _ || _))=true;rw [hn];rfl) (by
  obtain ⟨heap,b,e,c,a⟩:=s;have ho:heap.get? A=some o:=ho;show (if (heap.get? A).isSome=true then Step.go _ _ else _)=_;rw [ho];rfl)
theorem Goes.leaf {x:Sem α} {sT sT':SharedT} (n:Nat) (h :∀K H gd lv,segGoT c3 p w n₀ ann 1 n sT ⟨x.wrap K H gd lv,code,pos,[topFrame q]⟩=some (sT',⟨K a,code,pos',[topFrame q]⟩)) :
  Goes p w n₀ ann code q n x sT.abs pos a sT'.abs pos':=λ K H gd lv=>⟨n,C0 _,segGo_of (h K H gd lv)⟩
end
end TJ
open PySem PySem.W PyProof.Rows
namespace TJ
section
variable {p:Program} {w:Q0} {n₀:Nat} {ann:Option Value} {code:Code} {q:Pos} {s:A0} {pos:Pos}
theorem Goes.forIn {γ β:Type} {c:Nat} {f:γ->β->Sem (ForInStep β)} {b:β} :∀{l:List γ},(∀x∈l,Goes p w n₀ ann code q c (f x b) s pos (.yield b) s pos)->Goes p w n₀ ann code q (l.length * c) (ForIn.forIn l b f) s pos b s pos
 | [],_=>by rw [o5];exact Goes.pure.le (j2 _)
 | x :: l,h=>by rw [X4];have k:=Goes.forIn (l:=l) λ y a=>h y (F1 _ a);have e:=Goes.bind (f:=λ r=>match r with | .done b=>(G9 b:Sem β) | .yield b=>ForIn.forIn l b f) (h x N1) k;exact e.le (by rw [D1,Nat.add_mul];omega)
theorem Goes.entries {d:Addr} {o:Obj} {es:Array DictEntry} {ep:Nat} {part:Option Value} (ho:s.heap.get? d=some o) (hd:o.data=.dict es ep):Goes p w n₀ ann code q 1 (dictEntries d part) s pos es s pos:=by unfold dictEntries;refine (Goes.bind (d:=0) (Goes.loadPart ho) ?_);rw [hd];exact Goes.pure
theorem Goes.epoch {d:Addr} {o:Obj} {es:Array DictEntry} {ep:Nat} {part:Option Value} (ho:s.heap.get? d=some o) (hd:o.data=.dict es ep):Goes p w n₀ ann code q 1 (dictEpoch d part) s pos ep s pos:=by unfold dictEpoch;refine (Goes.bind (d:=0) (Goes.loadPart ho) ?_);rw [hd];exact Goes.pure
theorem Goes.mayTell {a:Addr} {stored:List Value} {cq:Nat} (hq:Goes p w n₀ ann code q cq (S3 8 (.ref a)) s pos true s pos) (hs :∀v∈stored,Goes p w n₀ ann code q cq (S3 8 v) s pos true s pos) :
  Goes p w n₀ ann code q (cq + stored.length * cq) (tableMayTell (.ref a) stored) s pos false s pos:=by
 unfold tableMayTell;split
 ·exact Goes.pure.le (j2 _)
 ·refine Goes.bind hq ?_;simp only [O5,d3,if_false];refine (Goes.bind (a:=(none,())) (d:=0) (Goes.forIn λ v b=>?_) ?_).le (C0 _)
  ·refine (Goes.bind (d:=0) (hs v b) ?_).le (C0 _);simp only [O5,d3,if_false];exact Goes.pure
  ·exact Goes.pure
theorem Goes.find_none {d a:Addr} {o:Obj} {es:Array DictEntry} {ep:Nat} {h:Int} {cq ce:Nat} (ho:s.heap.get? d=some o) (hd:o.data=.dict es ep)
  (hq:Goes p w n₀ ann code q cq (S3 8 (.ref a)) s pos true s pos)
  (hk :∀e∈es.toList,∃b,e.key=.ref b/\b≠a/\Goes p w n₀ ann code q cq (S3 8 (.ref b)) s pos true s pos/\Goes p w n₀ ann code q ce (eqBool (.ref b) (.ref a)) s pos false s pos) :
  Goes p w n₀ ann code q (2 + cq + es.size * (cq + ce + 10)) (dictFind d (.ref a) h) s pos none s pos:=by
 have m :∀(i:Nat) (e:DictEntry),es[i]? = some e->e∈es.toList:=λ i e x=>Array.mem_toList_iff.mpr (Array.mem_of_getElem? x);have t:¬ (es.any λ e=>e.key == W0 a && e.hash != h)=true:=by rw [<-Array.any_toList,A8];rintro ⟨e,hin,hc⟩;obtain ⟨b,f,g,_⟩:=hk e hin;simp only [f,V2,beq_iff_eq,Value.ref.injEq] at hc;exact g hc.1
 have l :∀v∈(G5 es.size (λ i=>es[i]?.map (·.hash)) h).filterMap (λ i=>es[i]?.map (·.key)),∃b,v=.ref b/\b≠a/\Goes p w n₀ ann code q cq (S3 8 v) s pos true s pos:=by
  intro v k;obtain ⟨i,_,j⟩:=List.mem_filterMap.mp k;cases hei:es[i]? with
  | none=>rw [hei] at j;cases j
  | some e=>
   rw [hei] at j;obtain rfl:e.key=v:=by simpa using j
   obtain ⟨b,f,g,u,_⟩:=hk e (m i e hei);exact ⟨b,f,g,f ▸ u⟩
 have n:(G5 es.size (λ i=>es[i]?.map (·.hash)) h).length<=es.size:=by unfold G5;exact K0 (T1 _ _) (by rw [v3];exact C0 _)
 have A:((G5 es.size (λ i=>es[i]?.map (·.hash)) h).filterMap (λ i=>es[i]?.map (·.key))).length<=es.size:=K0 (B9 _ _) n;unfold dictFind;refine Goes.holding ?_;refine (Goes.bind (d:=1 + cq + es.size * (cq + ce + 10)) (Goes.entries ho hd) ?_).le (by omega);dsimp only;rw [if_neg (show ¬ ((W0 a :: (G5 es.size (λ i=>es[i]?.map (·.hash)) h).filterMap (λ i=>es[i]?.map (·.key))).all carriedByValue)=true by simp [carriedByValue])];rw [if_neg t];have y:¬ (((G5 es.size (λ i=>es[i]?.map (·.hash)) h).filterMap (λ i=>es[i]?.map (·.key))) == [W0 a])=true:=by intro e;have e:=eq_of_beq e;obtain ⟨b,f,g,_⟩:=l (.ref a) (by rw [e];exact List.mem_singleton.mpr rfl);exact g (by injection f with f;exact f.symm)
 rw [if_neg y];refine (Goes.bind (d:=1 + es.size * (ce + 10)) (Goes.mayTell hq λ v k=>(let ⟨_,_,_,z⟩:=l v k;z)) ?_).le ?_
 ·rw [if_neg (by simp)];refine (Goes.bind (a:=(none,none)) (d:=0) (Goes.forIn (c:=ce + 10) λ i j=>?_) ?_).le ?_
  ·cases hei:es[i]? with
   | none=>exact Goes.pure.le (j2 _)
   | some e=>
    dsimp only;split
    ·obtain ⟨b,f,g,_,B⟩:=hk e (m i e hei);rw [f];refine (Goes.bind (d:=ce + 2) (Goes.epoch ho hd) (Goes.bind (d:=2) B (Goes.bind (d:=1) (Goes.epoch ho hd) ?_))).le (by omega);rw [if_neg (by simp)];rw [if_neg (by simp)];refine Goes.bind (d:=0) Goes.rule ?_;rw [if_neg (by simp)];exact Goes.pure
    ·exact Goes.pure.le (j2 _)
  ·exact Goes.pure
  ·have:=S7 (ce + 10) n;omega
 ·have:=S7 cq A;have r:es.size * (cq + ce + 10)=es.size * cq + es.size * (ce + 10):=by rw [<-Nat.mul_add,J9]
  rw [r];omega
end
end TJ
open PySem PySem.W PyProof.Rows
namespace TJ
noncomputable abbrev dObj (es:Array DictEntry) (ep:Nat):Obj:={ cls:=.type "dict",data:=.dict es ep }
noncomputable abbrev KV3:=Addr×Value×Int
noncomputable def ent (x:KV3):DictEntry:=⟨x.2.2,.ref x.1,x.2.1⟩
noncomputable def unh (a:Addr):Sem Value:=do rule "hash.unhashable";raiseError "TypeError" s!"unhashable type: '{← typeNameOf (.ref a)}'"
noncomputable def zb1 (d:Addr) (vs:List (Value×Value)):Sem PUnit:=L8 vs Z7 λ (x:Value×Value) (_:PUnit)=>(do dictSet d x.1 x.2;G3 (N2 Z7):Sem (ForInStep PUnit))
section
variable {p:Program} {w:Q0} {n₀:Nat} {ann:Option Value} {code:Code} {q:Pos} {pos:Pos} {F:Obj->Nat->SharedT} {d:Addr}
structure Fam (n₀:Nat) (d:Addr) (F:Obj->Nat->SharedT):Prop where
 le:Nat.ble n₀ d=true
 get :∀es ep tk,(F (dObj es ep) tk).abs.heap.get? d=some (dObj es ep)
 upd :∀es ep tk (e:DictEntry),({ (F (dObj es ep) tk).abs with heap:=(F (dObj es ep) tk).abs.heap.update d (D7 (·.push e)) }:A0)=(F (dObj (es.push e) (ep + 1)) tk).abs
theorem Goes.updKeys (Z:Fam n₀ d F) {es:Array DictEntry} {ep tk:Nat} {e:DictEntry} {part:Option Value} (hsz:es.size < sizeLine) :
  Goes p w n₀ ann code q 3 (updateDictKeys d (·.push e) part) (F (dObj es ep) tk).abs pos () (F (dObj (es.push e) (ep + 1)) tk).abs pos:=by
 unfold updateDictKeys;refine (Goes.bind (d:=2) (Goes.loadPart (Z.get es ep tk)) ?_);dsimp only;have u:=Goes.updatePart (p:=p) (w:=w) (ann:=ann) (code:=code) (q:=q) (pos:=pos) (part:=part) (f:=D7 (·.push e)) (Z.get es ep tk) Z.le;rw [Z.upd es ep tk e] at u;refine Goes.bind (d:=1) u ?_;unfold lookBehind;refine Goes.bind (d:=0) (Goes.loadPart (Z.get _ _ tk)) ?_;have a:(dObj (es.push e) (ep + 1)).data.pastItsLine=none:=by unfold Data.pastItsLine;dsimp only;rw [if_neg (by rw [Array.size_push];omega)]
 rw [a];exact Goes.pure
theorem Goes.set (Z:Fam n₀ d F) {a:Addr} {v:Value} {es:Array DictEntry} {ep tk k cp cq ce:Nat} {hsh:Int} (hsz:es.size < sizeLine)
  (hpy:Goes p w n₀ ann code q cp (pyHash (.ref a)) (F (dObj es ep) tk).abs pos hsh (F (dObj es ep) (tk + k)).abs pos)
  (hq:Goes p w n₀ ann code q cq (S3 8 (.ref a)) (F (dObj es ep) (tk + k)).abs pos true (F (dObj es ep) (tk + k)).abs pos)
  (hk :∀e∈es.toList,∃b,e.key=.ref b/\b≠a/\Goes p w n₀ ann code q cq (S3 8 (.ref b)) (F (dObj es ep) (tk + k)).abs pos true (F (dObj es ep) (tk + k)).abs pos/\
   Goes p w n₀ ann code q ce (eqBool (.ref b) (.ref a)) (F (dObj es ep) (tk + k)).abs pos false (F (dObj es ep) (tk + k)).abs pos) :
  Goes p w n₀ ann code q (cp + (2 + cq + es.size * (cq + ce + 10)) + 4) (dictSet d (.ref a) v) (F (dObj es ep) tk).abs pos () (F (dObj (es.push ⟨hsh,.ref a,v⟩) (ep + 1)) (tk + k)).abs pos:=by
 unfold dictSet;refine Goes.holding ?_;refine (Goes.bind (d:=(2 + cq + es.size * (cq + ce + 10)) + 4) hpy ?_).le (by omega);unfold dictSetHashed;refine Goes.holding ?_;refine Goes.bind (d:=4) (Goes.find_none (h:=hsh) (Z.get es ep (tk + k)) rfl hq hk) ?_;exact Goes.bind (d:=3) Goes.rule (Goes.updKeys Z hsz)
theorem zia {γ β:Type} {f:γ->β->Sem (ForInStep β)} {x:γ} {xs:List γ} {b b' b'':β} {c c':Nat} {s s' s'':A0} (h:Goes p w n₀ ann code q c (f x b) s pos (.yield b') s' pos) (k:Goes p w n₀ ann code q c' (L8 xs b' f) s' pos b'' s'' pos) :
  Goes p w n₀ ann code q (c + c') (L8 (x :: xs) b f) s pos b'' s'' pos:=by
 rw [X4];exact Goes.bind (f:=λ r=>match r with | .done b=>(G9 b:Sem β) | .yield b=>L8 xs b f) h k
theorem Goes.loop (Z:Fam n₀ d F) {cp cq ce N:Nat} (all:List KV3) (hN:all.length<=N) (hN':N < sizeLine) (hnd:(all.map (·.1)).Nodup)
  (hQ :∀x∈all,∀oD tk,Goes p w n₀ ann code q cq (S3 8 (.ref x.1)) (F oD tk).abs pos true (F oD tk).abs pos)
  (hE:all.Pairwise λ x y=>∀oD tk,Goes p w n₀ ann code q ce (eqBool (.ref x.1) (.ref y.1)) (F oD tk).abs pos false (F oD tk).abs pos)
  (hH :∀x∈all,∀oD tk,Goes p w n₀ ann code q cp (pyHash (.ref x.1)) (F oD tk).abs pos x.2.2 (F oD (tk + 3)).abs pos) :
  ∀(todo done:List KV3) (tk:Nat),all=done++todo->
   Goes p w n₀ ann code q (todo.length * (cp + (2 + cq + N * (cq + ce + 10)) + 4)) (zb1 d (todo.map λ x=>(W0 x.1,x.2.1)))
    (F (dObj (done.map ent).toArray done.length) tk).abs pos () (F (dObj (all.map ent).toArray all.length) (tk + 3 * todo.length)).abs pos:=by
 intro todo;induction todo with
 | nil=>intro done tk e;rw [Z2] at e;subst e;unfold zb1;rw [d6,o5];exact Goes.pure.le (j2 _)
 | cons x todo ih=>
  intro done tk e;have h:x∈all:=by rw [e];exact J1 _ N1
  have c:=ih (done++[x]) (tk + 3) (by rw [e,n8];rfl);unfold zb1 at c⊢;rw [j1];have f:(done.map ent).toArray.size<=N:=by rw [T0,L0];rw [e,D0] at hN;omega
  have g:=Goes.set (p:=p) (w:=w) (ann:=ann) (code:=code) (q:=q) (pos:=pos) (v:=x.2.1) (ep:=done.length) Z (U0 f hN') (hH x h _ tk) (hQ x h _ _) (es:=(done.map ent).toArray) (ce:=ce) (by
   intro s n;obtain ⟨y,a,rfl⟩:=List.mem_map.mp n;have m:y∈all:=by rw [e];exact P5 _ a
   have r:y.1≠x.1:=by rw [e,A1,j1] at hnd;intro q;exact (List.nodup_append.mp hnd).2.2 y.1 (List.mem_map.mpr ⟨y,a,rfl⟩) x.1 N1 q
   rw [e] at hE;exact ⟨y.1,rfl,r,hQ y m _ _,(List.pairwise_append.mp hE).2.2 y a x N1 _ _⟩)
  have o:((done.map ent).toArray.push ⟨x.2.2,.ref x.1,x.2.1⟩)=((done++[x]).map ent).toArray:=by rw [List.push_toArray,A1];rfl
  have j:done.length + 1=(done++[x]).length:=by rw [D0];rfl
  rw [o,j] at g;have i:tk + 3 * (x :: todo).length=(tk + 3) + 3 * todo.length:=by rw [D1];omega
  rw [i];have l:Goes p w n₀ ann code q (_ + 0) (do dictSet d (W0 x.1,x.2.1).1 (W0 x.1,x.2.1).2;G9 (N2 Z7):Sem (ForInStep PUnit)) _ pos (N2 Z7) _ pos:=Goes.bind g Goes.pure;have k:=zia (b:=Z7) (xs:=todo.map λ x=>(W0 x.1,x.2.1)) l c;refine k.le ?_;rw [D1,Nat.add_mul];have:=S7 (cq + ce + 10) f;omega
noncomputable def zaj (acc:Nat):Int:=if acc == 2 ^ 64 - 1 then 1546275796 else if acc < 2 ^ 63 then acc else (acc:Int) - (2 ^ 64:Nat)
theorem z88 (acc:Nat) (h:acc < 2 ^ 64):-(2:Int) ^ 63<=zaj acc/\zaj acc < 2 ^ 63:=by
 unfold zaj;split
 ·constructor<;>decide
 ·split
  ·constructor<;>omega
  ·constructor<;>omega
theorem z6k (hs:List Int):-(2:Int) ^ 63<=o0 hs/\o0 hs < 2 ^ 63:=
 z88 _ (Nat.mod_lt _ (by decide))
theorem Goes.pyHashT {a:Addr} {s s':A0} {hs:List Int} {tok:Tok} (h1:Goes p w n₀ ann code q 1 (cRoomFor "hash" [.ref a]) s pos () s pos)
  (h2:Goes p w n₀ ann code q 1 (specialOf (.ref a) "__hash__") s pos (some (.builtin "tuple.__hash__")) s pos)
  (h3:Goes p w n₀ ann code q 22 (l6 (.ref a) "__hash__" (unh a)) s pos (some (.int (o0 hs) tok)) s' pos) :
  Goes p w n₀ ann code q 25 (pyHash (.ref a)) s pos (G1 (o0 hs)) s' pos:=by
 have e:pyHash (.ref a)=pyHashByItsType (.ref a):=rfl;rw [e];unfold pyHashByItsType;refine Goes.bind (d:=24) h1 ?_;refine Goes.bind (d:=23) h2 ?_;rw [if_neg (by rw [beq_builtin_none];exact Z0)];refine Goes.bind (d:=22) h2 ?_;show Goes p w n₀ ann code q 22 (l6 (.ref a) "__hash__" (unh a) >>= _) s pos _ s' pos;refine Goes.bind (d:=0) h3 ?_;have r:(decide (-(2:Int) ^ 63<=o0 hs) && decide (o0 hs < 2 ^ 63))=true:=by have r:=z6k hs;rw [decide_eq_true r.1,decide_eq_true r.2];rfl
 show Goes p w n₀ ann code q 0 (if (decide (-(2:Int) ^ 63<=o0 hs) && decide (o0 hs < 2 ^ 63))=true then _ else _) s' pos _ s' pos;have b:G1 (o0 hs)=(if (o0 hs == -1)=true then -2 else o0 hs):=by unfold G1;rw [if_pos r]
 rw [if_pos r,b];exact Goes.pure
theorem Goes.subDict {pairs:List (Sem Value×Sem Value)} {s s₁ s':A0} {vs:List (Value×Value)} {c c':Nat} {d:Addr} (hlen:pairs.length<=15) (hd:s.heap.objs.size=d)
  (h1:Goes p w n₀ ann code q c (evalPairs pairs) { s with heap:=s.heap.push { cls:=.type "dict",data:=.dict #[] } } pos vs s₁ pos)
  (h2:Goes p w n₀ ann code q c' (zb1 d vs) s₁ pos () s' pos):Goes p w n₀ ann code q (1 + (c + c')) (subDict pairs) s pos d s' pos:=by
 subst hd;unfold PySem.subDict;refine Goes.bind (a:=s.heap.objs.size) (λ _ _ _ _=>.one rfl rfl rfl) ?_;refine (Goes.bind (d:=0) (a:=()) (Goes.holding ?_) Goes.pure);rw [if_pos hlen];refine Goes.bind h1 ?_;exact Goes.holding (Goes.bind (d:=0) h2 Goes.pure)
theorem Goes.execs1 {st:Stmt} {env:Env} {s s':A0} {pos':Pos} {c:Nat} (h:Goes p w n₀ ann code q c (exec st env) s pos .next s' pos'):Goes p w n₀ ann code q c (execs [st] env) s pos .next s' pos':=by rw [execs_cons];exact Goes.bind (d:=0) h Goes.pure
theorem Goes.seg {l:List Stmt} {env:Env} {s s':A0} {pos':Pos} {c:Nat} (h:Goes p w n₀ ann code q c (execs l env) s pos .next s' pos') :∃n,n<=c + 1/\segRun c3 p w n₀ ann 1 n s (piecesOf l env code pos [topFrame q])=some (.next,s',code,pos'):=by obtain ⟨n,a,h⟩:=h doneF deadEnd id id;exact ⟨n + 1,by omega,seg_go h rfl⟩
end
theorem zi9 {p q:Program} {loose:List Str} {Xt:A0->Bool} {α:Type} {Yf:A0->α} {Ya:Q0->α} {N:Nat} {H₀:M0->Heap} {gs₀:Array GenState} {d₀:Drawn} {k₀ m₀:Nat} {ann:Option Value} {S:Q0->J2->A0}
  (opens :∀w:Q0,(fencedOpening c3 p w N).map (λ s=>(s.heap,s.gens,s.drawn,s.toks))=some (H₀ w.params,gs₀,d₀,k₀))
  (sizes :∀w:Q0,(((H₀ w.params).isNs Y2 && gs₀.size == 0),(H₀ w.params).objs.size,(H₀ w.params).nsMap Y2 "__annotations__")=(true,m₀,ann))
  (runs :∀(w:Q0) (os:J2),∃M,M<=N/\topRun c3 p w m₀ ann M ⟨H₀ w.params,gs₀,d₀,k₀,os⟩ (topStub p)=some (S w os))
  (looks1 :∀(w:Q0) (os:J2),(staticsOk (v6 p.main.body) (H₀ w.params) (S w os).heap && namesBound p (S w os).heap && gensDone (S w os) && laidKept (H₀ w.params) (S w os).heap)=true)
  (looks2 :∀(w:Q0) (os:J2),openSeen q loose (v6 p.main.body) Xt true (S w os)=openGood q loose) (looks3 :∀(w:Q0) (os:J2),Yf (S w os)=Ya w):LeftO p q loose Xt Yf Ya N:=by
 intro w;obtain ⟨⟨h,f,i,k,os⟩,e,a⟩:=Option.map_eq_some_iff.mp (opens w);simp only [Prod.mk.injEq] at a;obtain ⟨rfl,rfl,rfl,rfl⟩:=a;have z:=sizes w;simp only [Prod.mk.injEq] at z;obtain ⟨c,d,g⟩:=z;obtain ⟨M,b,r⟩:=runs w os;have r:=topRun_mono (N - M) _ _ _ _ r;rw [Nat.add_sub_cancel' b] at r;have t:topFrom c3 p w N ⟨H₀ w.params,f,i,k,os⟩=some (S w os):=by unfold topFrom;dsimp only;rw [c,d,g,r];show (match (staticsOk (v6 p.main.body) (H₀ w.params) (S w os).heap && namesBound p (S w os).heap && gensDone (S w os) && laidKept (H₀ w.params) (S w os).heap) with|true=>some (S w os)|false=>none)=_;rw [looks1 w os]
 unfold openEnds;rw [e];show (topFrom c3 p w N _).map _=_;rw [t];show some (_,_)=some (_,_);rw [looks2 w os,looks3 w os]
theorem zdb {p:Program} {w:Q0} {n₀:Nat} {ann:Option Value} {env:Env} {q:Pos} {c N:Nat} {s s' r:A0} {l rest:List Stmt} {b:Code} {pos pos':Pos} (h:Goes p w n₀ ann b q c (execs l env) s pos .next s' pos')
  (k:topRun c3 p w n₀ ann N s' (restOf rest env b pos' [topFrame q])=some r) :∃M,M<=c + 1 + N/\topRun c3 p w n₀ ann M s (restOf (l++rest) env b pos [topFrame q])=some r:=by
 obtain ⟨n,a,g⟩:=Goes.seg h;exact ⟨n + N,by omega,piece_app g k⟩
end TJ
open PySem PySem.Spec PyProof.Rows
namespace L2
noncomputable abbrev fnX (x q:Str) (s:Stmt) (m:Str) (k c:Nat):FuncData:=c5 x q (z8y s) (z5h s) (z06 s) .none .none .none (.str m k) none (.ref c) .none
noncomputable abbrev fY (x q:Str) (s:Stmt):=fnX x q s "law_talejudge_k23_whole_strict_regular_safe" 789
noncomputable abbrev fO (x q:Str) (s:Stmt) (m:Str) (k c:Nat):Obj:=⟨.type "function",none,.func (fnX x q s m k c),#[]⟩
noncomputable abbrev fL (x q:Str) (s:Stmt):=fO x q s "law_talejudge_k23_whole_strict_regular_safe" 789
noncomputable abbrev cO (x q:Str) (i l n a j:Nat):Obj:=
 ⟨.type "code",none,.fields #[.str x i,.str q (i + 1),.str "/claim/cut.py" (i + 2),.int l 0,.int n 0,.int 0 0,.int 0 0,.int 3 0,.ref a,.bool true,.int 181 0,.ref (a + 1),.none,.ref (a + 2),.ref (a + 3),.ref (a + 4),.int j 0,.int l 0,.str "/claim/cut.py" (j + 1)],#[]⟩
noncomputable abbrev cP (x q:Str) (i l n a j:Nat):Obj:=
 ⟨.type "code",none,.fields #[.str x i,.str q (i + 1),.str "/claim/cut.py" (i + 2),.int l 0,.int n 0,.int 0 0,.int 0 0,.int 3 0,.ref a,.bool true,.int 181 0,.ref (a + 1),.none,.none,.none,.ref (a + 2),.int j 0,.int l 0,.str "/claim/cut.py" (j + 1)],#[]⟩
noncomputable abbrev kR (P:M0) (x:Str) (i a:Nat):DictEntry:=⟨j0 P x,.str x i,.ref a⟩
section
variable {P:Program} {w:Q0} {K:d0} {mg:Str->Option Value} {base:Heap} {x q:Str} {st:Stmt} {f:Addr} {fd:FuncData} {k:Nat} {ps:List Str} {sp:Sp}
theorem z0a {m:Str} {i c:Nat} (l:K.lookup f=some (fO x q st m i c):=by kernel_rfl) (hc:v7 K (.ref c) q=true:=by kernel_rfl) (hk:j3 K (.ref f)=true:=by kernel_rfl):Fun K x q st f (fnX x q st m i c):=fun_mk l hc hk
theorem cal_mk (T:TX K mg) (F:Fun K x q st f fd) (g:S5 K Y2 x=some (some (.ref f))) (b:Binds K fd ps []) (G:FnOk P w K mg base CX0 k f fd ps sp):Cal P w K mg base x ps k sp:=⟨⟨f,fd,G,T.of g,F.kp,b⟩⟩
end
section
variable {p:List Value->Prop}
theorem us1 (h :∀a,p [a]) :∀us:List Value,us.length=1->p us | [a],_=>h a
theorem us2 (h :∀a b,p [a,b]) :∀us:List Value,us.length=2->p us | [a,b],_=>h a b
theorem us3 (h :∀a b c,p [a,b,c]) :∀us:List Value,us.length=3->p us | [a,b,c],_=>h a b c
theorem us4 (h :∀a b c d,p [a,b,c,d]) :∀us:List Value,us.length=4->p us | [a,b,c,d],_=>h a b c d
theorem us6 (h :∀a b c d e f,p [a,b,c,d,e,f]) :∀us:List Value,us.length=6->p us | [a,b,c,d,e,f],_=>h a b c d e f
end
end L2
set_option maxHeartbeats 1000000
namespace L2
open PySem PySem.Spec PyProof.Rows
mutual
noncomputable def keyD:PyData->Bool
 | .int _=>true
 | .str _=>false
 | .tuple xs=>keyDs xs
 | .none=>false
 | .bool _=>false
 | .list _=>false
 | .dict _=>false
noncomputable def keyDs:List PyData->Bool
 | []=>true
 | x :: xs=>keyD x && keyDs xs
end
mutual
noncomputable def hashD:PyData->Int
 | .int i=>hashInt i
 | .str _=>0
 | .tuple xs=>G1 (o0 (hashDs xs))
 | .none=>0
 | .bool _=>0
 | .list _=>0
 | .dict _=>0
noncomputable def hashDs:List PyData->List Int
 | []=>[]
 | x :: xs=>hashD x :: hashDs xs
end
mutual
noncomputable def drawD:PyData->Nat
 | .tuple xs=>drawDs xs + 1
 | .int _=>1
 | .str _=>1
 | .none=>1
 | .bool _=>1
 | .list _=>1
 | .dict _=>1
noncomputable def drawDs:List PyData->Nat
 | []=>0
 | x :: xs=>drawD x + drawDs xs
end
mutual
theorem zeh {h h':Heap} (k :∀b o vs n,h.get? b=some o->o.cls=.type "tuple"->o.data=.seq vs n->h'.get? b=some o) :∀(d:PyData) (v:Value) (as:List Addr),keyD d=true->Reads h v d as->Reads h' v d as
 | .int i,v,as,_,r=>by cases r;exact .int _ _
 | .str _,_,_,hk,_=>by cases hk
 | .tuple xs,v,as,hk,r=>by
  cases r with
  | tuple e c d r=>exact .tuple (k _ _ _ _ e c d) c d (zc4 k xs _ _ hk r)
 | .none,_,_,hk,_=>by cases hk
 | .bool _,_,_,hk,_=>by cases hk
 | .list _,_,_,hk,_=>by cases hk
 | .dict _,_,_,hk,_=>by cases hk
theorem zc4 {h h':Heap} (k :∀b o vs n,h.get? b=some o->o.cls=.type "tuple"->o.data=.seq vs n->h'.get? b=some o) :∀(ds:List PyData) (vs:List Value) (as:List Addr),keyDs ds=true->U9 h vs ds as->U9 h' vs ds as
 | [],_,_,_,r=>by cases r;exact .nil
 | d :: ds,_,_,c,r=>by
  have c:=Bool.and_eq_true_iff.mp (show (keyD d && keyDs ds)=true from c);cases r with
  | cons a r=>exact .cons (zeh k d _ _ c.1 a) (zc4 k ds _ _ c.2 r)
end
mutual
theorem z82 :∀d:PyData,keyD d=true->plainP d=true
 | .int _,_=>rfl
 | .str _,hk=>by cases hk
 | .tuple xs,h=>z96 xs h
 | .none,hk=>by cases hk
 | .bool _,hk=>by cases hk
 | .list _,hk=>by cases hk
 | .dict _,hk=>by cases hk
theorem z96 :∀ds:List PyData,keyDs ds=true->z1n ds=true
 | [],_=>rfl
 | d :: ds,a=>by have a:=Bool.and_eq_true_iff.mp (show (keyD d && keyDs ds)=true from a);show (plainP d && z1n ds)=true;rw [z82 d a.1,z96 ds a.2];rfl
end
mutual
theorem zb7 :∀d:PyData,keyD d=true->d.canLay0=true
 | .int _,_=>rfl
 | .str _,hk=>by cases hk
 | .tuple xs,h=>zdh xs h
 | .none,hk=>by cases hk
 | .bool _,hk=>by cases hk
 | .list _,hk=>by cases hk
 | .dict _,hk=>by cases hk
theorem zdh :∀ds:List PyData,keyDs ds=true->z6 ds=true
 | [],_=>rfl
 | d :: ds,a=>by have a:=Bool.and_eq_true_iff.mp (show (keyD d && keyDs ds)=true from a);show (d.canLay0 && z6 ds)=true;rw [zb7 d a.1,zdh ds a.2];rfl
end
section
variable {prog:Program} {w:Q0} {E:Value->A0->Prop}
mutual
theorem zek :∀(d:PyData) (v:Value) (as:List Addr) (A:X1) (s:A0) (Q:Int->A0->Prop),keyD d=true->Reads s.heap v d as->A.units + d.depth < cLine->Q (hashD d) { s with toks:=s.toks + drawD d }->S0 (B1 prog w) A (pyHash v) Q E s
 | .int i,v,as,A,s,Q,_,r,_,q=>by cases r;exact wpAny_pyHash_int q
 | .str _,_,_,_,_,_,hk,_,_,_=>by cases hk
 | .tuple xs,v,as,A,s,Q,hk,r,b,q=>by
  cases r with
  | @tuple a o vs n _ _ e c d r=>
   have b:A.units + (y3 xs + 1) < cLine:=b;have ty:s.TypeIs (.ref a) "tuple":=⟨o,e,c⟩
   refine W.pyHash_slot (v:=.ref a) ty F.slot_tuple_hash F.entry_tuple_hash (F.args_tuple_hash_1 _) rfl (.inr (by lia)) ?_;refine u0 (G0 ?_);refine u0 (D8 e d ?_);refine u0 ?_;rw [<-Array.forIn_toList];refine z9l xs vs.toList _ #[] A.in1 s _ hk r (show A.units + 1 + y3 xs < cLine by lia) ?_;refine u0 (wpAny_mkInt (G0 ⟨_,_,rfl,?_⟩));simpa [hashD,drawD,J9] using q
 | .none,_,_,_,_,_,hk,_,_,_=>by cases hk
 | .bool _,_,_,_,_,_,hk,_,_,_=>by cases hk
 | .list _,_,_,_,_,_,hk,_,_,_=>by cases hk
 | .dict _,_,_,_,_,_,hk,_,_,_=>by cases hk
theorem z9l :∀(ds:List PyData) (vs:List Value) (as:List Addr) (hs:Array Int) (A:X1) (s:A0) (Q:Array Int->A0->Prop),keyDs ds=true->U9 s.heap vs ds as->A.units + y3 ds < cLine->Q (hs++(hashDs ds).toArray) { s with toks:=s.toks + drawDs ds }->
  S0 (B1 prog w) A (L8 vs hs λ x hs=>do let h <-pyHash x;G3 (N2 (hs.push h))) Q E s
 | [],_,_,hs,A,s,Q,_,r,_,q=>by cases r;rw [o5];exact G0 (by simpa [hashDs,drawDs] using q)
 | d :: ds,_,_,hs,A,s,Q,b,r,c,q=>by
  have b:=Bool.and_eq_true_iff.mp (show (keyD d && keyDs ds)=true from b);have c:A.units + max d.depth (y3 ds) < cLine:=c;cases r with
  | @cons v vs _ _ as bs a r=>rw [X4];refine u0 (u0 (zek d v as A s _ b.1 a (by lia) (G0 ?_)));refine z9l ds vs bs (hs.push (hashD d)) A { s with toks:=s.toks + drawD d } Q b.2 r (by lia) ?_;simpa [hashDs,drawDs,J9] using q
end
theorem zdp {a:Addr} {n:Nat} {o:Obj} {vs:Array Value} {m:Nat} {A:X1} {s:A0} {Q:Bool->A0->Prop} (e:s.heap.get? a=some o) (c:o.cls=.type "tuple") (d:o.data=.seq vs m)
  (h:S0 (B1 prog w) A (L8 vs.toList ((none:Option Bool),()) λ y _=>do
    let b <-S3 n y
    if (!b)=true then G3 (ForInStep.done (some false,())) else G3 (N2 (none,())))
   (λ r s'=>r.1=none/\Q true s') E s):S0 (B1 prog w) A (S3 (n + 1) (.ref a)) Q E s:=by
 rw [eqIsQuiet.eq_2];have ty:s.TypeIs (.ref a) "tuple":=⟨o,e,c⟩
 refine u0 (E9 (r:=some (.builtin "tuple.__eq__")) ty (by rfl) ?_);refine u0 (wpAny_isInstance (T:="tuple") ty isSubtype_tuple_tuple ?_);simp only [O5,d3,if_false];refine u0 (E5 e d (u0 ?_));show S0 _ _ (L8 vs _ _) _ _ _;rw [<-Array.forIn_toList];refine E3 h (λ r s' h=>?_) (λ _ _ h=>h);obtain ⟨g,j⟩:=r;obtain ⟨i,f⟩:=h;cases (show g=none from i);exact G0 f
mutual
theorem zbo :∀(d:PyData) (v:Value) (as:List Addr) (n:Nat) (A:X1) (s:A0) (Q:Bool->A0->Prop),keyD d=true->Reads s.heap v d as->d.depth<=n->Q true s->S0 (B1 prog w) A (S3 n v) Q E s
 | .int i,v,as,n,A,s,Q,_,r,_,q=>by cases r;rw [eqIsQuiet.eq_3];exact G0 q;intro a h;cases h
 | .str _,_,_,_,_,_,_,hk,_,_,_=>by cases hk
 | .tuple xs,v,as,n,A,s,Q,hk,r,b,q=>by
  cases r with
  | @tuple a o vs m _ _ e c d r=>
   have b:y3 xs + 1<=n:=b;obtain ⟨n,rfl⟩ :∃k,n=k + 1:=⟨n - 1,by lia⟩
   exact zdp e c d (z8d xs vs.toList _ n A s _ hk r (by lia) ⟨rfl,q⟩)
 | .none,_,_,_,_,_,_,hk,_,_,_=>by cases hk
 | .bool _,_,_,_,_,_,_,hk,_,_,_=>by cases hk
 | .list _,_,_,_,_,_,_,hk,_,_,_=>by cases hk
 | .dict _,_,_,_,_,_,_,hk,_,_,_=>by cases hk
theorem z8d :∀(ds:List PyData) (vs:List Value) (as:List Addr) (n:Nat) (A:X1) (s:A0) (Q:Option Bool×Unit->A0->Prop),keyDs ds=true->U9 s.heap vs ds as->y3 ds<=n->Q (none,()) s->
  S0 (B1 prog w) A (L8 vs ((none:Option Bool),()) λ y _=>do
    let b <-S3 n y
    if (!b)=true then G3 (ForInStep.done (some false,())) else G3 (N2 (none,()))) Q E s
 | [],_,_,n,A,s,Q,_,r,_,q=>by cases r;rw [o5];exact G0 q
 | d :: ds,_,_,n,A,s,Q,c,r,e,q=>by
  have c:=Bool.and_eq_true_iff.mp (show (keyD d && keyDs ds)=true from c);have e:max d.depth (y3 ds)<=n:=e;cases r with
  | @cons v vs _ _ as bs a r=>rw [X4];refine u0 (u0 (zbo d v as n A s _ c.1 a (by lia) ?_));exact G0 (z8d ds vs bs n A s Q c.2 r (by lia) q)
end
end
open Classical in
noncomputable instance:DecidableEq PyData:=λ a b=>Classical.propDecidable (a=b)
noncomputable def z7y (prog:Program) (w:Q0):HeapKind prog w PyData where
 is h d a:=keyD d=true/\d.depth<=7/\∃as,Reads h (.ref a) d as
 hash:=hashD
 draws:=drawD
 room A:=A.units + 8 < cLine
 inj:=λ {h a x y} hx hy=>by obtain ⟨kx,_,as,rx⟩:=hx;obtain ⟨_,_,bs,ry⟩:=hy;exact SeqAt.Reads.unique x y _ as bs (zb7 x kx) rx ry
 keeps:=λ {h h' k a d o es ep} hk e hd sb=>by
  obtain ⟨k1,k2,as,r⟩:=hk;refine ⟨k1,k2,as,zeh (λ b o' vs n eb _ eo=>?_) k _ as k1 r⟩;have nb:b≠d:=λ z=>by rw [z,e] at eb;cases eb;rw [hd] at eo;cases eo
  rw [sb.2 b nb];exact eb
 pyHash:=λ {A E s k a Q} hr hk q=>by obtain ⟨k1,k2,as,r⟩:=hk;exact zek k _ as A s Q k1 r (by lia) q
 eqBool:=λ {A E s x y a b Q} hr hx hy q=>by obtain ⟨x1,x2,as,rx⟩:=hx;obtain ⟨y1,y2,bs,ry⟩:=hy;refine SeqAt.eqAt_reads x y A s _ _ as bs rx ry (zb7 x x1) (zb7 y y1) (by have:=Nat.min_le_left x.depth y.depth;lia) prog w E Q ?_;rw [zig (p:=x=y) (z82 x x1) (z82 y y1) Iff.rfl];exact q
 quiet:=λ {A E s k a Q} hk q=>by obtain ⟨k1,k2,as,r⟩:=hk;exact zbo k _ as 8 A s Q k1 r (by lia) q
section
variable {prog:Program} {w:Q0} {A:X1} {E:Value->A0->Prop} {s:A0}
def DcAt (h:Heap) (d:Addr) (es:Array DictEntry) (ep:Nat):Prop:=∃o,h.get? d=some o/\o.ExactDict/\o.data=.dict es ep
end
mutual
noncomputable def ltD:PyData->PyData->Option Bool
 | .int i,e=>match e with
  | .int j=>some (decide (i < j))
  | _=>none
 | .tuple xs,e=>match e with
  | .tuple ys=>ltDs xs ys
  | _=>none
 | .none,_=>none
 | .bool _,_=>none
 | .str _,_=>none
 | .list _,_=>none
 | .dict _,_=>none
noncomputable def ltDs:List PyData->List PyData->Option Bool
 | [],ys=>some (decide (0 < ys.length))
 | x :: xs,ys=>match ys with
  | []=>some false
  | y :: ys=>if x=y then ltDs xs ys else ltD x y
end
noncomputable def nsE (k:PyData×Addr):DictEntry:={ hash:=hashD k.1,key:=.ref k.2,val:=.bool true }
noncomputable def NsO (a:Addr) (ks:List (PyData×Addr)):HO:=.ext λ h=>(a == F3)=false/\ks.length<=sizeLine/\(ks.map (·.1)).Nodup/\∃ep,DcAt h a (ks.map nsE).toArray ep
def NsAt (K:d0) (H:Hp) (a:Addr) (ks:List (PyData×Addr)):Prop:=Rd H a (NsO a ks)/\∀k∈ks,keyD k.1=true/\k.1.depth<=7/\IsPd K H k.1 (.ref k.2)
noncomputable def putN (ks:List (PyData×Addr)) (d:PyData) (b:Addr):List (PyData×Addr):=if d∈ks.map (·.1) then ks else ks++[(d,b)]
section
variable {X:Cx} {pins:List (Addr×Obj)} {σ:St} {H:Hp} {s:A0} {a b:Addr} {ks:List (PyData×Addr)} {d:PyData} {A:X1} {E:Value->A0->Prop}
theorem ns_is (I:Inv X pins σ H s) (hk:keyD d=true) (hd:d.depth<=7) (h:IsPd X.K H d (.ref b)):(z7y X.prog X.w).is s.heap d b:=by obtain ⟨a,r⟩:=z3i I d (.ref b) (.ref b) h rfl;exact ⟨hk,hd,a,r⟩
theorem zgn (I:Inv X pins σ H s) (h:NsAt X.K H a ks):(a == F3)=false/\ks.length<=sizeLine/\(ks.map (·.1)).Nodup/\(∃ep,DcAt s.heap a (ks.map nsE).toArray ep)/\s.heap.DictOfH (z7y X.prog X.w) a (ks.map λ k=>(k.1,k.2,U3 true)):=by
 obtain ⟨e,i⟩:=h;obtain ⟨⟨l,g,c,ep,b⟩,_⟩:=(show ObjOk X.prog X.w H s.heap a (NsO a ks) from e.ok I.hok)
 refine ⟨l,g,c,⟨ep,b⟩,?_⟩;obtain ⟨o,d,p,f⟩:=b;refine ⟨o,_,ep,d,p,f,?_,λ x q=>?_,?_⟩
 ·rw [u3];rfl
 ·obtain ⟨k,j,rfl⟩:=List.mem_map.mp q;obtain ⟨r,n,m⟩:=i k j;exact ns_is I r n m
 ·rw [u3];exact c
theorem at_ns:(K7 (ks.map λ k=>(k.1,k.2,U3 true)) d).isSome=decide (d∈ks.map (·.1)):=by
 unfold K7;rw [i5,Bool.eq_iff_iff,List.find?_isSome,decide_eq_true_iff];constructor
 ·rintro ⟨x,hx,e⟩;obtain ⟨k,a,rfl⟩:=List.mem_map.mp hx;exact List.mem_map.mpr ⟨k,a,of_decide_eq_true e⟩
 ·intro h;obtain ⟨k,a,e⟩:=List.mem_map.mp h;exact ⟨_,List.mem_map.mpr ⟨k,a,rfl⟩,decide_eq_true e⟩
theorem zfe:storedH (ks.map λ k=>(k.1,k.2,U3 true)) d b (.bool true)=(putN ks d b).map λ k=>(k.1,k.2,U3 true):=by
 unfold storedH putN;rw [at_ns];by_cases z:d∈ks.map (·.1)
 ·rw [if_pos (decide_eq_true z),if_pos z,u3];refine List.map_congr_left λ k a=>?_;show putAt d (.bool true) (k.1,k.2,U3 true)=_;unfold putAt;split<;>rfl
 ·rw [if_neg (by rw [decide_eq_false z];decide),if_neg z,A1];rfl
theorem zh3:(putN ks d b).length<=ks.length + 1:=by
 unfold putN;split
 ·lia
 ·rw [D0];exact C0 _
theorem ns_put {Q:Unit->A0->Prop} (hu:A.units + 9 < cLine) (I:Inv X pins σ H s) (ha:H a=some (NsO a ks)) (h:NsAt X.K H a ks) (hl:ks.length < sizeLine) (hk:keyD d=true) (hd:d.depth<=7) (hb:IsPd X.K H d (.ref b)) (q :∀s',Inv X pins σ (upd H a (NsO a (putN ks d b))) s'->Q () s'):S0 (B1 X.prog X.w) A (setItem (.ref a) (.ref b) (.bool true)) Q E s:=by
 obtain ⟨r,C,J,_,y⟩:=zgn I h;refine wpAny_setItem_heap (knd:=z7y X.prog X.w) (hsz:=by rw [L0];exact C) (show A.units + 1 + 8 < cLine by lia) (ns_is I hk hd hb) y λ G g n=>q _ ?_;rw [zfe] at g;obtain ⟨o,t,F,c,u,z,l,_,f⟩:=g;have B:t=((putN ks d b).map nsE).toArray:=by apply Array.ext';rw [l,u3];rfl
 subst B;refine z92 I (by rw [ha];exact True.intro) n ⟨o,c⟩ ⟨⟨r,by have:=zh3 (ks:=ks) (d:=d) (b:=b);lia,?_,F,o,c,u,z⟩,⟨o,c⟩,λ L M p k=>?_⟩
 ·rw [u3] at f;exact f
 ·obtain ⟨x,D,m,v,e,i,j⟩:=p;exact ⟨x,D,m,v,e,k e i,j⟩
end
noncomputable def tDNewN:TE:=λ _ H Q=>∀p,H p=none->Q (.ref p) (upd H p (NsO p []))
noncomputable def rInN (K:d0) (neg:Bool):R2:=λ y x H Q=>∃a b ks d,x=.ref a/\y=.ref b/\NsAt K H a ks/\keyD d=true/\d.depth<=7/\IsPd K H d (.ref b)/\Q (.bl (xor neg (decide (d∈ks.map (·.1))))) H
noncomputable def sNPut (K:d0) (td ty tv:TE):TS:=λ D σ H=>tv σ H λ v H1=>td σ H1 λ x H2=>ty σ H2 λ y H3=>∃a b ks d,v=.bl true/\x=.ref a/\y=.ref b/\H3 a=some (NsO a ks)/\NsAt K H3 a ks/\ks.length < sizeLine/\keyD d=true/\d.depth<=7/\IsPd K H3 d (.ref b)/\D.nx σ (upd H3 a (NsO a (putN ks d b)))
section
variable {X:Cx}
theorem zhr {P:Program} {w:Q0} {H:Hp} (h:Heap) (hb:F3 < h.objs.size):ObjOk P w H (h.push { cls:=.type "dict",data:=.dict #[] }) h.objs.size (NsO h.objs.size []):=by refine ⟨⟨beq_eq_false_iff_ne.mpr (R3 (Y0 hb)),j2 _,Y8,0,_,V0 _ rfl,⟨rfl,rfl,rfl⟩,rfl⟩,⟨_,V0 _ rfl⟩,λ i j p k=>?_⟩;obtain ⟨b,d,c,g,a,e,f⟩:=p;exact ⟨b,d,c,g,a,k a e,f⟩
theorem zhu {pos:Pos}:PE X (.Dict [] [] pos) tDNewN:=λ b s σ H Q I h=>wpAny_Dict_empty ⟨.ref s.heap.objs.size,_,I.laid (a:=s.heap.objs.size) (o:=NsO s.heap.objs.size []) (t':=s.toks) (λ _ _ q=>F0 _ q) (C0 _) (zhr s.heap I.big),rfl,h _ (I.hok.fresh (C0 _))⟩
theorem zfm {k:Nat} (hr:Room k X.A):OpR X (A2 .NotIn) (rInN X.K true):=by intro r s σ H y x u v Q I m e h;obtain ⟨a,b,o,d,rfl,rfl,i,l,c,f,q⟩:=h;cases m;cases e;have n:=hr.units;obtain ⟨g,t,p,_,j⟩:=zgn I i;refine c9 (knd:=z7y X.prog X.w) (show X.A.units + 1 + 8 < cLine by lia) (ns_is I l c f) g j ?_;rw [at_ns];rw [Bool.true_xor] at q;exact ⟨.bl _,H,I.tok _,rfl,q⟩
theorem zix {o i value:Expr} {pos pos':Pos} {td ty tv:TE} {k:Nat} (hr:Room k X.A) (ho:PE X o td) (hi:PE X i ty) (hv:PE X value tv) (hs:K6 value (some (.Subscript o i pos')) pos.line X.env=G3 false) :
  PS X (.Assign [.Subscript o i pos'] value pos) (sNPut X.K td ty tv):=by
 intro c s σ H D I h;refine wpAny_Assign_Subscript (thn (hv c s σ H _ I h) λ r j ⟨v,H1,I1,rv,q1⟩=>thn (ho c j σ H1 _ I1 q1) λ u e ⟨x,H2,I2,rx,q2⟩=>thn (hi c e σ H2 _ I2 q2) λ f l ⟨y,H3,I3,ry,a,b,ks,d,ev,ex,ey,h0,h1,h2,h3,h4,h5,q3⟩=>?_) hs;subst ev ex ey;obtain rfl:u=W0 a:=rx;obtain rfl:f=W0 b:=ry;obtain rfl:r=U3 true:=rv;have m:=hr.units;exact ns_put (by lia) I3 h0 h1 h2 h3 h4 h5 λ n g=>⟨σ,_,g,q3⟩
end
noncomputable def ItRv (a:Addr) (n:Nat):It:=
 ⟨λ i H=>i < n/\∃xs,H a=some (.lst xs)/\xs.length=n,λ i H x H'=>H'=H/\∀xs,H a=some (.lst xs)->xs[n - 1 - i]? = some x,λ i H=>i=n⟩
theorem zhp {P:Program} {w:Q0} {K:d0} {tg:Expr} (a it:Addr) (n:Nat):Turn P w K tg (ItRv a n) [it] it (λ i h=>h.IsRevIter it a ((n:Int) - 1 - (i:Nat))) where
 mem:=by simp
 obj:=λ i h f b g=>by
  obtain rfl:b=it:=by simpa using g
  obtain ⟨o,e,c,d⟩:=f;exact ⟨o,e,λ v z=>by rw [d] at z;cases z⟩
 keep:=λ i h l f k=>by obtain ⟨o,e,r⟩:=f;exact ⟨o,k it (by simp) o e,r⟩
 item:=by
  intro X C D x G i N s σ H E I j f m;subst C D x;obtain ⟨Y,M,L,hx⟩:=m;obtain ⟨W,J,p,hz⟩:=I.list (SqL.of L);obtain ⟨A,q,T,t,y,B⟩:=j it (by simp);have Z:=J.length;have lt:n - 1 - i < M.length:=by lia
  obtain ⟨u,Q,V⟩:=J.get (v1 lt);rw [show (n:Int) - 1 - (i:Nat)=((n - 1 - i:Nat):Int) by lia] at f;refine wpAny_pyNext_rev_item f p.isList (by simpa using Q) λ l F S=>?_;have U:Inv X N σ H { s with heap:=l }:=I.turned (t':=s.toks) (λ b o g e=>(S.2 b g).trans e) A q t y B;obtain ⟨o,e,c,d⟩:=id F;rw [show ((n - 1 - i:Nat):Int) - 1=(n:Int) - 1 - ((i + 1:Nat):Int) by lia] at F;refine ⟨_,rfl,go_of (s:={ s with heap:=l }) e c d (by decide) ⟨M[n - 1 - i],H,U,V,⟨rfl,λ a0 O=>?_⟩,F,λ b g=>(j b g).1⟩⟩;rw [L] at O;cases O;exact v1 lt
 done:=by intro X C D x G i N s σ H E I j f m;subst C D x;obtain ⟨A,q,T,t,y,B⟩:=j it (by simp);have m:i=n:=m;rw [show (n:Int) - 1 - (i:Nat)=-1 by lia] at f;exact wpAny_pyNext_rev_end (I.ok.hd G) f λ l R=>⟨rfl,I.turned (t':=s.toks) (λ b o g e=>R b o g e) A q t y B⟩
 self:=λ _ _ _ _ _ f h=>wpAny_pyIter_revIter f h
noncomputable def iRevL (tl:TE):TI:=λ σ H R=>tl σ H λ x H1=>∃a xs,x=.ref a/\H1 a=some (.lst xs)/\R (ItRv a xs.length) H1
theorem zij {X:Cx} {tg e:Expr} {te:TE} {p2 c2:Pos} (g2:Gl X "reversed") (m2:X.mg "reversed" = none) (ha:PE X e te) (he:K1 [e] X.env=[(false,X2 e X.env)]:=by rfl):PI X tg (.Call (.Name "reversed" p2) [e] [] c2) (iRevL te):=by
 intro k s σ H R I h;refine Call_ (ld_blt I g2 m2 boot_reversed (F2 ?_ he rfl));rw [he];refine (show S0 _ _ (spliced ((false,X2 e X.env) :: [])) _ _ s from W3 (thn (ha k s σ H _ I h) λ u c ⟨x,H1,I1,r1,a,xs,ex,sq,q⟩=>?_));subst ex;cases r1;refine u4 ?_;obtain ⟨d,g,l,m⟩:=I1.list (SqL.of sq);have j:=g.length;refine call_reversed_list l.isList ?_;have f:(c.heap.push (revObj a ((d.toArray.size:Int) - 1))).IsRevIter c.heap.objs.size a ((d.toArray.size:Int) - 1):=⟨_,V0 _ rfl,rfl,rfl⟩
 refine wpAny_pyIter_revIter f ?_;refine ⟨c.heap.objs.size,[c.heap.objs.size],_,_,H1,rfl,I1.kept (t':=c.toks) λ b o e=>F0 _ e,zhp a _ _,?_,λ b i=>?_,q⟩
 ·rw [show (xs.length:Int) - 1 - ((0:Nat):Int)=(d.toArray.size:Int) - 1 by rw [T0,<-j];lia];exact f
 obtain rfl:b=c.heap.objs.size:=by simpa using i
 exact I1.fpOk (C0 _) (I1.hok.fresh (C0 _))
theorem zit {a:Addr} {xs:List V} {g:TG} {tb:TS} {D:Ends} {σ:St} {H:Hp} (Pv:Nat->St->Hp->Prop) (h0:Pv 0 σ H) (hl :∀i σ H,Pv i σ H->H a=some (.lst xs))
  (hs :∀i x σ H,xs.reverse[i]? = some x->Pv i σ H->g x σ H λ σ2 H2=>tb { D with nx:=Pv (i + 1),ct:=Pv (i + 1),bk:=D.nx } σ2 H2) (hd :∀σ H,Pv xs.length σ H->D.nx σ H) :
  ∃W:Nat->Nat->St->Hp->Prop,(∃m,W 0 m σ H)/\∀i m σ H,W i m σ H->
   ((ItRv a xs.length).stop i H/\D.nx σ H)\/((ItRv a xs.length).go i H/\∃N:St->Hp->Prop,(∀σ' H',N σ' H'->∃m',m' < m/\W (i + 1) m' σ' H')/\∀x H',(ItRv a xs.length).yld i H x H'->g x σ H' λ σ2 H2=>tb { D with nx:=N,ct:=N,bk:=D.nx } σ2 H2):=by
 refine ⟨λ i m σ H=>m=xs.length - i/\i<=xs.length/\Pv i σ H,⟨xs.length,by simp,j2 _,h0⟩,?_⟩;rintro i m σ H ⟨rfl,hi,p⟩;have q:=hl i σ H p;by_cases hlt:i < xs.length
 ·refine .inr ⟨⟨hlt,xs,q,rfl⟩,Pv (i + 1),λ σ' H' b=>⟨xs.length - (i + 1),by lia,rfl,hlt,b⟩,λ x H' y=>?_⟩;obtain ⟨rfl,y⟩:=y;refine hs i x σ _ ?_ p;rw [List.getElem?_reverse hlt];exact y xs q
 ·obtain rfl:i=xs.length:=by lia
  exact .inl ⟨rfl,hd σ H p⟩
end L2
set_option maxHeartbeats 400000
namespace L2
open PySem PySem.Spec PyProof.Rows
section
variable {X:Cx}
theorem zj3 {o:Expr} {to:TE} {apos cpos:Pos} (ho:PE X o to) (hbase:M3 o "pop" X.env (X2 o X.env)=X2 o X.env:=by rfl) (hline:(apos.endLine == cpos.line)=true:=by rfl):PE X (.Call (.Attribute o "pop" apos) [] [] cpos) (tBM0 X.K "list" rPop to):=
 pe_bm0 E6 PySem.F.slot_list_pop PySem.F.type_list_pop mt_pop ho hbase hline
end
end L2
set_option maxHeartbeats 1000000
namespace L2
open PySem PySem.Spec PyProof.Rows
theorem hid {P:Prop} (h :∀G:Prop,(P->G)->G):P:=h P id
end L2
set_option maxHeartbeats 0
namespace K23
open PySem PySem.W PyProof.Rows TJ L2
noncomputable abbrev PX:Program:=PySem.Challenge.pw_talejudge_k23_whole_strict_regular_safe
noncomputable abbrev annX:Option Value:=some (.ref 6)
noncomputable def tp (a b:Str) (t:Nat):Obj:={ cls:=.type "tuple",data:=.seq #[.str a t,.str b (t + 1)] 0 }
noncomputable def tups:List Obj:=[tp "register" "read" 407,tp "register" "write" 409,tp "counter" "read" 411,tp "counter" "add" 413,tp "queue" "put" 415,tp "queue" "take" 417,tp "set" "put" 419,tp "set" "cut" 421,tp "set" "has" 423,tp "cell" "read" 425,tp "cell" "write" 427,tp "cell" "swap" 429]
noncomputable def insAll:List Obj->Nat->BT->BT
 | [],_,t=>t
 | x :: r,n,t=>insAll r (n + 1) (t.ins n x)
noncomputable def treeD (P:M0) (oD:Obj):BT:=insAll tups 165 ((K23.pre.tree_194 P).ins 164 oD)
noncomputable def FX (w:Q0) (os:J2) (oD:Obj) (tk:Nat):SharedT:=⟨treeD w.params oD,177,{},⟨[]⟩,{},tk,os⟩
noncomputable abbrev cdX:Code:=.body (behindTheImports PX) K23.pre.env_1
noncomputable abbrev qX:Pos:=⟨0,0,0,0⟩
noncomputable abbrev BX:List Frame:=[topFrame qX]
noncomputable abbrev GX {α:Type} (w:Q0) (c:Nat) (x:Sem α) (s:A0) (pos:Pos) (a:α) (s':A0) (pos':Pos):Prop:=Goes PX w 11 annX cdX qX c x s pos a s' pos'
def LX (n:Nat) {α:Type} (x:Sem α) (w:Q0) (pos:Pos) (s:J2->Obj->Nat->SharedT) (a:Nat->α) (s':J2->Obj->Nat->SharedT) (pos':Pos):Prop:=
 ∀(os:J2) (oD:Obj) (tk:Nat) (K:α->Sem PySem.Fin) (H:Value->Sem PySem.Fin) (gd:Bool->Bool) (lv:List Value->List Value),
  PySem.W.Fast.tw10295753902157049106 W6 PX w 11 annX 1 n (s os oD tk) ⟨x.wrap K H gd lv,cdX,pos,BX⟩=some (s' os oD tk,⟨K (a tk),cdX,pos',BX⟩)
theorem LX.goes {n:Nat} {α:Type} {x:Sem α} {w:Q0} {pos pos':Pos} {s s':J2->Obj->Nat->SharedT} {a:Nat->α} (h:LX n x w pos s a s' pos') (os:J2) (oD:Obj) (tk:Nat):GX w n x (s os oD tk).abs pos (a tk) (s' os oD tk).abs pos':=by refine Goes.leaf n λ K H gd b=>?_;have e:=h os oD tk K H gd b;rw [<-PySem.W.Fast.te10295753902157049106,<-E4] at e;exact e
noncomputable abbrev stay (w:Q0):J2->Obj->Nat->SharedT:=FX w
noncomputable abbrev plus3 (w:Q0):J2->Obj->Nat->SharedT:=λ os oD tk=>FX w os oD (tk + 3)
theorem qtH (a:Addr) (h :∀(w:Q0) (pos:Pos),LX 3 (PySem.W.Fast.tw13066428366354244818 8 (.ref a)) w pos (stay w) (λ _=>true) (stay w) pos:=by intro w pos os oD tk K H gd lv;kernel_rfl) (w:Q0) (pos:Pos):LX 3 (S3 8 (.ref a)) w pos (stay w) (λ _=>true) (stay w) pos:=by rw [PySem.W.Fast.te13066428366354244818];exact h w pos
noncomputable def qt0:=qtH 165
noncomputable def qt1:=qtH 166
noncomputable def qt2:=qtH 167
noncomputable def qt3:=qtH 168
noncomputable def qt4:=qtH 169
noncomputable def qt5:=qtH 170
noncomputable def qt6:=qtH 171
noncomputable def qt7:=qtH 172
noncomputable def qt8:=qtH 173
noncomputable def qt9:=qtH 174
noncomputable def qt10:=qtH 175
noncomputable def qt11:=qtH 176
theorem eqH (n:Nat) (a b:Addr) (hf :∀(w:Q0) (pos:Pos),LX n (C4 (.ref a) (.ref b)) (w.withFollow "special-get-raises" false) pos (stay (w.withFollow "special-get-raises" false)) (λ _=>false) (stay (w.withFollow "special-get-raises" false)) pos:=by intro w pos os oD tk K H gd lv;kernel_rfl) (ht :∀(w:Q0) (pos:Pos),LX n (C4 (.ref a) (.ref b)) (w.withFollow "special-get-raises" true) pos (stay (w.withFollow "special-get-raises" true)) (λ _=>false) (stay (w.withFollow "special-get-raises" true)) pos:=by intro w pos os oD tk K H gd lv;kernel_rfl) (w:Q0) (pos:Pos):LX n (eqBool (.ref a) (.ref b)) w pos (stay w) (λ _=>false) (stay w) pos:=by rw [PySem.W.Fast.te13926502685295537346];exact byRow2 "special-get-raises" (P:=λ w=>LX n (C4 (.ref a) (.ref b)) w pos (stay w) (λ _=>false) (stay w) pos) (λ w=>hf w pos) (λ w=>ht w pos) w
noncomputable def eq0_1:=eqH 20 165 166
noncomputable def eq0_2:=eqH 16 165 167
noncomputable def eq0_3:=eqH 16 165 168
noncomputable def eq0_4:=eqH 16 165 169
noncomputable def eq0_5:=eqH 16 165 170
noncomputable def eq0_6:=eqH 16 165 171
noncomputable def eq0_7:=eqH 16 165 172
noncomputable def eq0_8:=eqH 16 165 173
noncomputable def eq0_9:=eqH 16 165 174
noncomputable def eq0_10:=eqH 16 165 175
noncomputable def eq0_11:=eqH 16 165 176
noncomputable def eq1_2:=eqH 16 166 167
noncomputable def eq1_3:=eqH 16 166 168
noncomputable def eq1_4:=eqH 16 166 169
noncomputable def eq1_5:=eqH 16 166 170
noncomputable def eq1_6:=eqH 16 166 171
noncomputable def eq1_7:=eqH 16 166 172
noncomputable def eq1_8:=eqH 16 166 173
noncomputable def eq1_9:=eqH 16 166 174
noncomputable def eq1_10:=eqH 16 166 175
noncomputable def eq1_11:=eqH 16 166 176
noncomputable def eq2_3:=eqH 20 167 168
noncomputable def eq2_4:=eqH 16 167 169
noncomputable def eq2_5:=eqH 16 167 170
noncomputable def eq2_6:=eqH 16 167 171
noncomputable def eq2_7:=eqH 16 167 172
noncomputable def eq2_8:=eqH 16 167 173
noncomputable def eq2_9:=eqH 16 167 174
noncomputable def eq2_10:=eqH 16 167 175
noncomputable def eq2_11:=eqH 16 167 176
noncomputable def eq3_4:=eqH 16 168 169
noncomputable def eq3_5:=eqH 16 168 170
noncomputable def eq3_6:=eqH 16 168 171
noncomputable def eq3_7:=eqH 16 168 172
noncomputable def eq3_8:=eqH 16 168 173
noncomputable def eq3_9:=eqH 16 168 174
noncomputable def eq3_10:=eqH 16 168 175
noncomputable def eq3_11:=eqH 16 168 176
noncomputable def eq4_5:=eqH 20 169 170
noncomputable def eq4_6:=eqH 16 169 171
noncomputable def eq4_7:=eqH 16 169 172
noncomputable def eq4_8:=eqH 16 169 173
noncomputable def eq4_9:=eqH 16 169 174
noncomputable def eq4_10:=eqH 16 169 175
noncomputable def eq4_11:=eqH 16 169 176
noncomputable def eq5_6:=eqH 16 170 171
noncomputable def eq5_7:=eqH 16 170 172
noncomputable def eq5_8:=eqH 16 170 173
noncomputable def eq5_9:=eqH 16 170 174
noncomputable def eq5_10:=eqH 16 170 175
noncomputable def eq5_11:=eqH 16 170 176
noncomputable def eq6_7:=eqH 20 171 172
noncomputable def eq6_8:=eqH 20 171 173
noncomputable def eq6_9:=eqH 16 171 174
noncomputable def eq6_10:=eqH 16 171 175
noncomputable def eq6_11:=eqH 16 171 176
noncomputable def eq7_8:=eqH 20 172 173
noncomputable def eq7_9:=eqH 16 172 174
noncomputable def eq7_10:=eqH 16 172 175
noncomputable def eq7_11:=eqH 16 172 176
noncomputable def eq8_9:=eqH 16 173 174
noncomputable def eq8_10:=eqH 16 173 175
noncomputable def eq8_11:=eqH 16 173 176
noncomputable def eq9_10:=eqH 20 174 175
noncomputable def eq9_11:=eqH 20 174 176
noncomputable def zj6:=eqH 20 175 176
theorem crH (a:Addr) (hf :∀(w:Q0) (pos:Pos),LX 1 (D4 "hash" [.ref a]) (w.withFollow "special-get-raises" false) pos (stay (w.withFollow "special-get-raises" false)) (λ _=>()) (stay (w.withFollow "special-get-raises" false)) pos:=by intro w pos os oD tk K H gd lv;kernel_rfl) (ht :∀(w:Q0) (pos:Pos),LX 1 (D4 "hash" [.ref a]) (w.withFollow "special-get-raises" true) pos (stay (w.withFollow "special-get-raises" true)) (λ _=>()) (stay (w.withFollow "special-get-raises" true)) pos:=by intro w pos os oD tk K H gd lv;kernel_rfl) (w:Q0) (pos:Pos):LX 1 (cRoomFor "hash" [.ref a]) w pos (stay w) (λ _=>()) (stay w) pos:=by rw [PySem.W.Fast.te13383273872528276517];exact byRow2 "special-get-raises" (P:=λ w=>LX 1 (D4 "hash" [.ref a]) w pos (stay w) (λ _=>()) (stay w) pos) (λ w=>hf w pos) (λ w=>ht w pos) w
theorem soH (a:Addr) (hf :∀(w:Q0) (pos:Pos),LX 1 (L4 (.ref a) "__hash__") (w.withFollow "special-get-raises" false) pos (stay (w.withFollow "special-get-raises" false)) (λ _=>some (.builtin "tuple.__hash__")) (stay (w.withFollow "special-get-raises" false)) pos:=by intro w pos os oD tk K H gd lv;kernel_rfl) (ht :∀(w:Q0) (pos:Pos),LX 1 (L4 (.ref a) "__hash__") (w.withFollow "special-get-raises" true) pos (stay (w.withFollow "special-get-raises" true)) (λ _=>some (.builtin "tuple.__hash__")) (stay (w.withFollow "special-get-raises" true)) pos:=by intro w pos os oD tk K H gd lv;kernel_rfl) (w:Q0) (pos:Pos):LX 1 (specialOf (.ref a) "__hash__") w pos (stay w) (λ _=>some (.builtin "tuple.__hash__")) (stay w) pos:=by rw [PySem.W.Fast.te4214721358667687652];exact byRow2 "special-get-raises" (P:=λ w=>LX 1 (L4 (.ref a) "__hash__") w pos (stay w) (λ _=>some (.builtin "tuple.__hash__")) (stay w) pos) (λ w=>hf w pos) (λ w=>ht w pos) w
theorem csH (a:Addr) (k l:Str) (hf :∀(w:Q0) (pos:Pos),LX 22 (A4 (.ref a) "__hash__" (unh a)) (w.withFollow "special-get-raises" false) pos (stay (w.withFollow "special-get-raises" false)) (λ tk=>some (.int (o0 [j0 (w.withFollow "special-get-raises" false).params k,j0 (w.withFollow "special-get-raises" false).params l]) (tk + 2))) (plus3 (w.withFollow "special-get-raises" false)) pos:=by intro w pos os oD tk K H gd lv;kernel_rfl) (ht :∀(w:Q0) (pos:Pos),LX 22 (A4 (.ref a) "__hash__" (unh a)) (w.withFollow "special-get-raises" true) pos (stay (w.withFollow "special-get-raises" true)) (λ tk=>some (.int (o0 [j0 (w.withFollow "special-get-raises" true).params k,j0 (w.withFollow "special-get-raises" true).params l]) (tk + 2))) (plus3 (w.withFollow "special-get-raises" true)) pos:=by intro w pos os oD tk K H gd lv;kernel_rfl) (w:Q0) (pos:Pos):LX 22 (l6 (.ref a) "__hash__" (unh a)) w pos (stay w) (λ tk=>some (.int (o0 [j0 w.params k,j0 w.params l]) (tk + 2))) (plus3 w) pos:=by rw [PySem.W.Fast.te16697807410369149715];exact byRow2 "special-get-raises" (P:=λ w=>LX 22 (A4 (.ref a) "__hash__" (unh a)) w pos (stay w) (λ tk=>some (.int (o0 [j0 w.params k,j0 w.params l]) (tk + 2))) (plus3 w) pos) (λ w=>hf w pos) (λ w=>ht w pos) w
noncomputable def cr0:=crH 165
noncomputable def so0:=soH 165
noncomputable def cs0:=csH 165 "register" "read"
noncomputable def cr1:=crH 166
noncomputable def so1:=soH 166
noncomputable def cs1:=csH 166 "register" "write"
noncomputable def cr2:=crH 167
noncomputable def so2:=soH 167
noncomputable def cs2:=csH 167 "counter" "read"
noncomputable def cr3:=crH 168
noncomputable def so3:=soH 168
noncomputable def cs3:=csH 168 "counter" "add"
noncomputable def cr4:=crH 169
noncomputable def so4:=soH 169
noncomputable def cs4:=csH 169 "queue" "put"
noncomputable def cr5:=crH 170
noncomputable def so5:=soH 170
noncomputable def cs5:=csH 170 "queue" "take"
noncomputable def cr6:=crH 171
noncomputable def so6:=soH 171
noncomputable def cs6:=csH 171 "set" "put"
noncomputable def cr7:=crH 172
noncomputable def so7:=soH 172
noncomputable def cs7:=csH 172 "set" "cut"
noncomputable def cr8:=crH 173
noncomputable def so8:=soH 173
noncomputable def cs8:=csH 173 "set" "has"
noncomputable def cr9:=crH 174
noncomputable def so9:=soH 174
noncomputable def cs9:=csH 174 "cell" "read"
noncomputable def cr10:=crH 175
noncomputable def so10:=soH 175
noncomputable def cs10:=csH 175 "cell" "write"
noncomputable def cr11:=crH 176
noncomputable def so11:=soH 176
noncomputable def cs11:=csH 176 "cell" "swap"
noncomputable def allX (P:M0):List KV3:=[(165,(.ref 109),(G1 (o0 [j0 P "register",j0 P "read"]))),(166,(.ref 116),(G1 (o0 [j0 P "register",j0 P "write"]))),(167,(.ref 109),(G1 (o0 [j0 P "counter",j0 P "read"]))),(168,(.ref 123),(G1 (o0 [j0 P "counter",j0 P "add"]))),(169,(.ref 130),(G1 (o0 [j0 P "queue",j0 P "put"]))),(170,(.ref 137),(G1 (o0 [j0 P "queue",j0 P "take"]))),(171,(.ref 144),(G1 (o0 [j0 P "set",j0 P "put"]))),(172,(.ref 149),(G1 (o0 [j0 P "set",j0 P "cut"]))),(173,(.ref 156),(G1 (o0 [j0 P "set",j0 P "has"]))),(174,(.ref 109),(G1 (o0 [j0 P "cell",j0 P "read"]))),(175,(.ref 116),(G1 (o0 [j0 P "cell",j0 P "write"]))),(176,(.ref 163),(G1 (o0 [j0 P "cell",j0 P "swap"])))]
theorem zj0 (w:Q0) (os:J2) (pos:Pos):(allX w.params).Pairwise λ x y=>∀oD tk,GX w 20 (eqBool (.ref x.1) (.ref y.1)) (FX w os oD tk).abs pos false (FX w os oD tk).abs pos:=by
 unfold allX;refine
 .cons (λ y a oD tk=>(by
  revert y;simp only [W1,B0,false_implies,implies_true,and_true];exact ⟨(eq0_1 w pos).goes os oD tk |>.le (by decide),(eq0_2 w pos).goes os oD tk |>.le (by decide),(eq0_3 w pos).goes os oD tk |>.le (by decide),(eq0_4 w pos).goes os oD tk |>.le (by decide),(eq0_5 w pos).goes os oD tk |>.le (by decide),(eq0_6 w pos).goes os oD tk |>.le (by decide),(eq0_7 w pos).goes os oD tk |>.le (by decide),(eq0_8 w pos).goes os oD tk |>.le (by decide),(eq0_9 w pos).goes os oD tk |>.le (by decide),(eq0_10 w pos).goes os oD tk |>.le (by decide),(eq0_11 w pos).goes os oD tk |>.le (by decide)⟩))
  (.cons (λ y a oD tk=>(by
  revert y;simp only [W1,B0,false_implies,implies_true,and_true];exact ⟨(eq1_2 w pos).goes os oD tk |>.le (by decide),(eq1_3 w pos).goes os oD tk |>.le (by decide),(eq1_4 w pos).goes os oD tk |>.le (by decide),(eq1_5 w pos).goes os oD tk |>.le (by decide),(eq1_6 w pos).goes os oD tk |>.le (by decide),(eq1_7 w pos).goes os oD tk |>.le (by decide),(eq1_8 w pos).goes os oD tk |>.le (by decide),(eq1_9 w pos).goes os oD tk |>.le (by decide),(eq1_10 w pos).goes os oD tk |>.le (by decide),(eq1_11 w pos).goes os oD tk |>.le (by decide)⟩))
  (.cons (λ y a oD tk=>(by
  revert y;simp only [W1,B0,false_implies,implies_true,and_true];exact ⟨(eq2_3 w pos).goes os oD tk |>.le (by decide),(eq2_4 w pos).goes os oD tk |>.le (by decide),(eq2_5 w pos).goes os oD tk |>.le (by decide),(eq2_6 w pos).goes os oD tk |>.le (by decide),(eq2_7 w pos).goes os oD tk |>.le (by decide),(eq2_8 w pos).goes os oD tk |>.le (by decide),(eq2_9 w pos).goes os oD tk |>.le (by decide),(eq2_10 w pos).goes os oD tk |>.le (by decide),(eq2_11 w pos).goes os oD tk |>.le (by decide)⟩))
  (.cons (λ y a oD tk=>(by
  revert y;simp only [W1,B0,false_implies,implies_true,and_true];exact ⟨(eq3_4 w pos).goes os oD tk |>.le (by decide),(eq3_5 w pos).goes os oD tk |>.le (by decide),(eq3_6 w pos).goes os oD tk |>.le (by decide),(eq3_7 w pos).goes os oD tk |>.le (by decide),(eq3_8 w pos).goes os oD tk |>.le (by decide),(eq3_9 w pos).goes os oD tk |>.le (by decide),(eq3_10 w pos).goes os oD tk |>.le (by decide),(eq3_11 w pos).goes os oD tk |>.le (by decide)⟩))
  (.cons (λ y a oD tk=>(by
  revert y;simp only [W1,B0,false_implies,implies_true,and_true];exact ⟨(eq4_5 w pos).goes os oD tk |>.le (by decide),(eq4_6 w pos).goes os oD tk |>.le (by decide),(eq4_7 w pos).goes os oD tk |>.le (by decide),(eq4_8 w pos).goes os oD tk |>.le (by decide),(eq4_9 w pos).goes os oD tk |>.le (by decide),(eq4_10 w pos).goes os oD tk |>.le (by decide),(eq4_11 w pos).goes os oD tk |>.le (by decide)⟩))
  (.cons (λ y a oD tk=>(by
  revert y;simp only [W1,B0,false_implies,implies_true,and_true];exact ⟨(eq5_6 w pos).goes os oD tk |>.le (by decide),(eq5_7 w pos).goes os oD tk |>.le (by decide),(eq5_8 w pos).goes os oD tk |>.le (by decide),(eq5_9 w pos).goes os oD tk |>.le (by decide),(eq5_10 w pos).goes os oD tk |>.le (by decide),(eq5_11 w pos).goes os oD tk |>.le (by decide)⟩))
  (.cons (λ y a oD tk=>(by
  revert y;simp only [W1,B0,false_implies,implies_true,and_true];exact ⟨(eq6_7 w pos).goes os oD tk |>.le (by decide),(eq6_8 w pos).goes os oD tk |>.le (by decide),(eq6_9 w pos).goes os oD tk |>.le (by decide),(eq6_10 w pos).goes os oD tk |>.le (by decide),(eq6_11 w pos).goes os oD tk |>.le (by decide)⟩))
  (.cons (λ y a oD tk=>(by
  revert y;simp only [W1,B0,false_implies,implies_true,and_true];exact ⟨(eq7_8 w pos).goes os oD tk |>.le (by decide),(eq7_9 w pos).goes os oD tk |>.le (by decide),(eq7_10 w pos).goes os oD tk |>.le (by decide),(eq7_11 w pos).goes os oD tk |>.le (by decide)⟩))
  (.cons (λ y a oD tk=>(by
  revert y;simp only [W1,B0,false_implies,implies_true,and_true];exact ⟨(eq8_9 w pos).goes os oD tk |>.le (by decide),(eq8_10 w pos).goes os oD tk |>.le (by decide),(eq8_11 w pos).goes os oD tk |>.le (by decide)⟩))
  (.cons (λ y a oD tk=>(by
  revert y;simp only [W1,B0,false_implies,implies_true,and_true];exact ⟨(eq9_10 w pos).goes os oD tk |>.le (by decide),(eq9_11 w pos).goes os oD tk |>.le (by decide)⟩))
  (.cons (λ y a oD tk=>(by
  revert y;simp only [W1,B0,false_implies,implies_true,and_true];exact (zj6 w pos).goes os oD tk |>.le (by decide)))
  (.cons (λ y a=>nomatch a)
  (C7))))))))))))
theorem allX_q (w:Q0) (os:J2) (pos:Pos) :∀x∈allX w.params,∀oD tk,GX w 3 (S3 8 (.ref x.1)) (FX w os oD tk).abs pos true (FX w os oD tk).abs pos:=by unfold allX;simp only [W1,B0,false_implies,implies_true,and_true];exact ⟨λ oD tk=>(qt0 w pos).goes os oD tk,λ oD tk=>(qt1 w pos).goes os oD tk,λ oD tk=>(qt2 w pos).goes os oD tk,λ oD tk=>(qt3 w pos).goes os oD tk,λ oD tk=>(qt4 w pos).goes os oD tk,λ oD tk=>(qt5 w pos).goes os oD tk,λ oD tk=>(qt6 w pos).goes os oD tk,λ oD tk=>(qt7 w pos).goes os oD tk,λ oD tk=>(qt8 w pos).goes os oD tk,λ oD tk=>(qt9 w pos).goes os oD tk,λ oD tk=>(qt10 w pos).goes os oD tk,λ oD tk=>(qt11 w pos).goes os oD tk⟩
theorem allX_h (w:Q0) (os:J2) (pos:Pos) :∀x∈allX w.params,∀oD tk,GX w 25 (pyHash (.ref x.1)) (FX w os oD tk).abs pos x.2.2 (FX w os oD (tk + 3)).abs pos:=by unfold allX;simp only [W1,B0,false_implies,implies_true,and_true];exact ⟨λ oD tk=>Goes.pyHashT ((cr0 w pos).goes os oD tk) ((so0 w pos).goes os oD tk) ((cs0 w pos).goes os oD tk),λ oD tk=>Goes.pyHashT ((cr1 w pos).goes os oD tk) ((so1 w pos).goes os oD tk) ((cs1 w pos).goes os oD tk),λ oD tk=>Goes.pyHashT ((cr2 w pos).goes os oD tk) ((so2 w pos).goes os oD tk) ((cs2 w pos).goes os oD tk),λ oD tk=>Goes.pyHashT ((cr3 w pos).goes os oD tk) ((so3 w pos).goes os oD tk) ((cs3 w pos).goes os oD tk),λ oD tk=>Goes.pyHashT ((cr4 w pos).goes os oD tk) ((so4 w pos).goes os oD tk) ((cs4 w pos).goes os oD tk),λ oD tk=>Goes.pyHashT ((cr5 w pos).goes os oD tk) ((so5 w pos).goes os oD tk) ((cs5 w pos).goes os oD tk),λ oD tk=>Goes.pyHashT ((cr6 w pos).goes os oD tk) ((so6 w pos).goes os oD tk) ((cs6 w pos).goes os oD tk),λ oD tk=>Goes.pyHashT ((cr7 w pos).goes os oD tk) ((so7 w pos).goes os oD tk) ((cs7 w pos).goes os oD tk),λ oD tk=>Goes.pyHashT ((cr8 w pos).goes os oD tk) ((so8 w pos).goes os oD tk) ((cs8 w pos).goes os oD tk),λ oD tk=>Goes.pyHashT ((cr9 w pos).goes os oD tk) ((so9 w pos).goes os oD tk) ((cs9 w pos).goes os oD tk),λ oD tk=>Goes.pyHashT ((cr10 w pos).goes os oD tk) ((so10 w pos).goes os oD tk) ((cs10 w pos).goes os oD tk),λ oD tk=>Goes.pyHashT ((cr11 w pos).goes os oD tk) ((so11 w pos).goes os oD tk) ((cs11 w pos).goes os oD tk)⟩
theorem famX (w:Q0) (os:J2):Fam 11 164 (FX w os):=by
 have g :∀c,(treeD w.params c).get 164=some c:=λ c=>by kernel_rfl
 refine ⟨by decide,λ a b d=>abs_get (show 164 < 177 by decide) (g _),λ a b d e=>?_⟩;have u:(absHeap (treeD w.params (dObj a b)) 177 {}).update 164 (D7 (·.push e))=absHeap (treeD w.params (dObj (a.push e) (b + 1))) 177 {}:=by
  rw [<-absHeap_set (g _)];have v:(treeD w.params (dObj a b)).set 164 (D7 (·.push e))=treeD w.params (dObj (a.push e) (b + 1)):=by kernel_rfl
  rw [v]
 exact congrArg (λ h=>(⟨h,⟨[]⟩,{},d,os⟩:A0)) u
noncomputable def stD:Stmt:=(behindTheImports PX).getD 24 (.Pass ⟨0,0,0,0⟩)
noncomputable def sufX:List Stmt:=(behindTheImports PX).drop 25
theorem bodyX:behindTheImports PX=K23.pre.sts_7++(K23.pre.sts_33++(K23.pre.sts_52++(K23.pre.sts_71++(K23.pre.sts_118++(K23.pre.sts_172++([stD]++sufX)))))):=by kernel_rfl
noncomputable def dKeys:Stmt->List (Option Expr)
 | .Assign _ (.Dict ks _ _) _=>ks
 | _=>[]
noncomputable def dVals:Stmt->List Expr
 | .Assign _ (.Dict _ vs _) _=>vs
 | _=>[]
noncomputable def dPos:Stmt->Pos
 | .Assign _ (.Dict _ _ p) _=>p
 | _=>⟨0,0,0,0⟩
noncomputable def sPos:Stmt->Pos
 | .Assign _ _ p=>p
 | _=>⟨0,0,0,0⟩
noncomputable abbrev p1X:Pos:=sPos stD
noncomputable abbrev p2X:Pos:=dPos stD
noncomputable abbrev p3X:Pos:=⟨52,0,52,5⟩
noncomputable def runX:List (Sem Value×Sem Value):=(((evalEachOpt (dKeys stD) K23.pre.env_1).zip ((evalEach (dVals stD) K23.pre.env_1).map λ v=>do let x <-v;L9 p2X;G3 x))).filterMap λ x=>x.1.map (·,x.2)
theorem stD_eq:stD=.Assign [.Name "DOERS" p3X] (.Dict (dKeys stD) (dVals stD) p2X) p1X:=by kernel_rfl
theorem evD:X2 (.Dict (dKeys stD) (dVals stD) p2X) K23.pre.env_1=(do L9 p2X;let r <-(do let x <-subDict runX;G3 (some x));match r with|some x=>G3 (W0 x)|none=>newDict):=by kernel_rfl
theorem swD:K6 (.Dict (dKeys stD) (dVals stD) p2X) (some (.Name "DOERS" p3X)) p1X.line K23.pre.env_1=G3 false:=by kernel_rfl
noncomputable def F0X (w:Q0) (os:J2):SharedT:=⟨K23.pre.tree_194 w.params,164,{},⟨[]⟩,{},407,os⟩
noncomputable def F1X (w:Q0) (os:J2):SharedT:=⟨(K23.pre.tree_194 w.params).ins 164 (dObj #[] 0),165,{},⟨[]⟩,{},407,os⟩
noncomputable def vsX:List (Value×Value):=[(.ref 165,(.ref 109)),(.ref 166,(.ref 116)),(.ref 167,(.ref 109)),(.ref 168,(.ref 123)),(.ref 169,(.ref 130)),(.ref 170,(.ref 137)),(.ref 171,(.ref 144)),(.ref 172,(.ref 149)),(.ref 173,(.ref 156)),(.ref 174,(.ref 109)),(.ref 175,(.ref 116)),(.ref 176,(.ref 163))]
theorem zds (w:Q0):LX 84 (evalPairs runX) w p2X (λ os _ _=>F1X w os) (λ _=>vsX) (λ os _ _=>FX w os (dObj #[] 0) 431) p2X:=by rw [PySem.W.Fast.te1788576489739465902];exact λ os a c K H gd b=>by kernel_rfl
noncomputable def F2X (w:Q0) (os:J2) (oD:Obj) (tk:Nat):SharedT:=⟨(treeD w.params oD).set 3 (Obj.putName "DOERS" (j0 w.params "DOERS") (.str "DOERS" tk) (.ref 164)),177,{},⟨[]⟩,{},tk + 1,os⟩
theorem zfw (w:Q0) (pos:Pos):LX 6 (bindName K23.pre.env_1 "DOERS" (.ref 164)) w pos (stay w) (λ _=>()) (λ os oD tk=>F2X w os oD tk) pos:=by
 rw [PySem.W.Fast.te7536695828754713326];exact byRow2 "special-get-raises" (P:=λ w=>LX 6 (PySem.W.Fast.tw7536695828754713326 K23.pre.env_1 "DOERS" (.ref 164)) w pos (stay w) (λ _=>()) (λ os oD tk=>F2X w os oD tk) pos)
  (λ w os oD tk K H gd a=>by kernel_rfl) (λ w os oD tk K H gd a=>by kernel_rfl) w
noncomputable abbrev oDX (P:M0):Obj:=dObj ((allX P).map ent).toArray 12
noncomputable abbrev S2X (w:Q0) (os:J2):SharedT:=F2X w os (oDX w.params) 467
theorem stD_go (w:Q0) (os:J2) (pos:Pos):GX w 100000 (exec stD K23.pre.env_1) (F0X w os).abs pos .next (S2X w os).abs p3X:=by
 rw [stD_eq,exec_Assign_Name _ _ _ _ _ swD];have l:=Goes.loop (p:=PX) (w:=w) (ann:=annX) (code:=cdX) (q:=qX) (pos:=p2X) (famX w os) (N:=12) (allX w.params) (show 12<=12 by decide) (by decide) (show ([165,166,167,168,169,170,171,172,173,174,175,176]:List Nat).Nodup by decide) (allX_q w os p2X) (zj0 w os p2X) (allX_h w os p2X) (allX w.params) [] 431 rfl;have d:=(zds w).goes os (dObj #[] 0) 0;have b:GX w _ (subDict runX) (F0X w os).abs p2X 164 (FX w os (oDX w.params) 467).abs p2X:=
  Goes.subDict (by decide +kernel) (absHeap_size _ _ _) (show GX w _ (evalPairs runX) _ p2X vsX _ p2X from by
   have e:({ (F0X w os).abs with heap:=(F0X w os).abs.heap.push { cls:=.type "dict",data:=.dict #[] } }:A0)=(F1X w os).abs:=by have i:=absHeap_ins (t:=K23.pre.tree_194 w.params) (n:=164) (life:={}) (o:=dObj #[] 0) (by kernel_rfl);exact congrArg (λ h=>(⟨h,⟨[]⟩,{},407,os⟩:A0)) i.symm
   rw [e];exact d) l
 refine (Goes.bind Goes.at' (Goes.bind (a:=W0 164) (pos':=p2X) ?_ (Goes.bind Goes.at' (Goes.bind (f:=λ _=>G3 Flow.next) ((zfw w p3X).goes os (oDX w.params) 467) Goes.pure)))).le (c:=1 + (((1 + ((1 + (84 + 12 * (25 + (2 + 3 + 12 * (3 + 20 + 10)) + 4))) + 0 + 0)) + (1 + (6 + 0))))) (by decide);rw [evD];exact Goes.bind Goes.at' (Goes.bind (Goes.bind b Goes.pure) Goes.pure)
noncomputable abbrev pLX:Pos:=⟨357,0,368,71⟩
noncomputable def R3X (w:Q0) (os:J2):Option (Flow×SharedT×Code×Pos):=PySem.W.Fast.tw10110043849684766642 W6 PX w 11 annX 1 1844 (S2X w os) ⟨(PySem.W.Fast.tw12563942051412417395 sufX K23.pre.env_1).wrap doneF deadEnd id id,cdX,p3X,BX⟩
noncomputable def S3X (w:Q0) (os:J2):SharedT:=match R3X w os with|some r=>r.2.1|none=>S2X w os
theorem R3X_eq (w:Q0) (os:J2):R3X w os=some (.next,S3X w os,cdX,pLX):=by kernel_rfl
theorem ziy (w:Q0) (os:J2):segRun c3 PX w 11 annX 1 1844 (S2X w os).abs (piecesOf sufX K23.pre.env_1 cdX p3X BX)=some (.next,(S3X w os).abs,cdX,pLX):=by have e:=R3X_eq w os;unfold R3X at e;rw [<-PySem.W.Fast.te10110043849684766642,<-E4,<-PySem.W.Fast.te12563942051412417395] at e;exact segRun_of e
noncomputable def S0X (w:Q0) (os:J2):SharedT:=⟨K23.pre.tree_6 w.params,15,{},⟨[]⟩,{},187,os⟩
theorem pre_go (w:Q0) (os:J2):topGo c3 PX w 11 annX 12 ⟨boot_heap w.params,Array.mk [],boot_drawn,boot_toks,os⟩ (topStub PX)=some ((S0X w os).abs,⟨denote c3 cdX,cdX,qX,BX⟩):=by rw [PySem.W.Fast.te15667345088766844465,E4,PySem.W.Fast.te11892475500146522536];kernel_rfl
theorem zh6 (w:Q0) (os:J2) :∃M,M<=200000/\topRun c3 PX w 11 annX M ⟨boot_heap w.params,Array.mk [],boot_drawn,boot_toks,os⟩ (topStub PX)=some (S3X w os).abs:=by have c:topRun c3 PX w 11 annX 2 (S3X w os).abs (restOf [] K23.pre.env_1 cdX pLX BX)=some (S3X w os).abs:=rfl;have b:=piece_app (ziy w os) c;rw [Z2] at b;obtain ⟨M,h,e⟩:=zdb (Goes.execs1 (stD_go w os ⟨48,0,51,21⟩)) b;have a:=K23.pre.chain PX (behindTheImports PX) w os _ M _ e;rw [<-bodyX] at a;have g:segRun c3 PX w 11 annX 1 1 (S0X w os).abs (blockOf (behindTheImports PX) K23.pre.env_1 cdX qX BX)=some (.next,(S0X w os).abs,cdX,qX):=rfl;have d:=piece_block g a;have f:=go_top (pre_go w os) d;refine ⟨_,?_,f⟩;simp only [Nat.add_eq];omega
noncomputable def looseX:List Str:=[("_wall" : Str),("TaleError" : Str),("NoDeed" : Str),("NoStrictness" : Str),("NotPlain" : Str),("GREATEST_WORTH" : Str),("is_whole" : Str),("is_within" : Str),("is_worth" : Str),("is_tuple_of" : Str),("FIRST_STATES" : Str),("WORTHS_OF_VERBS" : Str),("read_state" : Str),("write_state" : Str),("add_to_number" : Str),("put_behind" : Str),("take_first" : Str),("put_into_set" : Str),("cut_from_set" : Str),("has_in_set" : Str),("swap_state" : Str),("DOERS" : Str),("is_kind" : Str),("first_state" : Str),("is_deed" : Str),("do" : Str),("deeds" : Str),("FIRST_WRITE" : Str),("plain_deeds" : Str),("are_plain" : Str),("is_answered" : Str),("writers" : Str),("ended_reads" : Str),("lone_writer_deeds" : Str),("is_regular" : Str),("is_safe" : Str),("writes_beside" : Str),("last_ahead" : Str),("turn_about" : Str),("STRICTNESSES" : Str),("has_to" : Str),("check_strictness" : Str),("goes_ahead" : Str),("Candidate" : Str),("Board" : Str),("step_of" : Str),("ended_numbers" : Str),("holds_all" : Str),("first_place" : Str),("judged" : Str),("_law_cell_at" : Str),("_law_stream" : Str),("_law_take" : Str),("_law_worth" : Str),("_law_name" : Str),("_law_fresh" : Str),("_law_answer" : Str),("_law_events" : Str),("_law_tale" : Str),("_law_deeds" : Str),("_law_order_right" : Str),("_law_turn_right" : Str)]
noncomputable def viewX:Program:={ PX with main:={ PX.main with body:=(PX.main.body[72]?).toList } }
noncomputable def top (i:Nat):Stmt:=PX.main.body.getD i (.Pass ⟨0,0,0,0⟩)
noncomputable def subS (s:Stmt) (j:Nat):Stmt:=match s with
 | .ClassDef _ _ _ b _ _ _ _ _ _ _=>b.getD j s
 | _=>s
noncomputable def asX:List Addr:=[3,22,24,29,30,31,35,37,42,43,44,47,49,54,55,56,59,61,66,67,68,76,77,83,84,90,91,97,98,99,100,101,102,108,109,115,116,164,165,166,167,168,169,170,171,172,173,174,175,176,182,183,189,190,194,195,201,202,208,209,210,214,215,219,220,226,227,233,234,238,239,243,244,250,251,257,258,262,263,267,268,272,273,274,280,281,287,288,294,295,296,298,306,307,313,314,315,316,317,322,324,332,333,339,340,346,347,355,356,357,367,368,372,373,377,378,382,383,389,390,396,397,403,404,410,411,417,418,424,425,431,432,438,439,445,446,452,453,459,460,466,467,473,474,480,481]
noncomputable def KX (P:M0):Frag:=[
 (3,⟨(.type "dict"),none,(.dict #[⟨(j0 P "__name__"),(.str "__name__" 165),(.str "law_talejudge_k23_whole_strict_regular_safe" 789)⟩,⟨(j0 P "__doc__"),(.str "__doc__" 166),.none⟩,⟨(j0 P "__package__"),(.str "__package__" 167),.none⟩,⟨(j0 P "__loader__"),(.str "__loader__" 168),(.builtin "__main__.__loader__#opaque")⟩,⟨(j0 P "__spec__"),(.str "__spec__" 169),.none⟩,kR P "__annotations__" 170 6,kR P "__builtins__" 171 4,⟨(j0 P "__file__"),(.str "__file__" 173),(.str "/claim/cut.py" 172)⟩,⟨(j0 P "__cached__"),(.str "__cached__" 174),.none⟩,kR P "_wall" 193 21,kR P "TaleError" 213 31,kR P "NoDeed" 229 44,kR P "NoStrictness" 245 56,kR P "NotPlain" 261 68,⟨(j0 P "GREATEST_WORTH"),(.str "GREATEST_WORTH" 265),(.int (1000000000) 264)⟩,kR P "is_whole" 272 77,kR P "is_within" 280 84,kR P "is_worth" 287 91,kR P "is_tuple_of" 295 98,kR P "FIRST_STATES" 311 99,kR P "WORTHS_OF_VERBS" 336 102,kR P "read_state" 344 109,kR P "write_state" 352 116,kR P "add_to_number" 360 123,kR P "put_behind" 368 130,kR P "take_first" 376 137,kR P "put_into_set" 384 144,kR P "cut_from_set" 390 149,kR P "has_in_set" 398 156,kR P "swap_state" 406 163,kR P "DOERS" 467 164,kR P "is_kind" 474 183,kR P "first_state" 481 190,kR P "is_deed" 487 195,kR P "do" 498 202,kR P "deeds" 513 209,kR P "FIRST_WRITE" 520 210,kR P "plain_deeds" 526 215,kR P "are_plain" 532 220,kR P "is_answered" 539 227,kR P "writers" 548 234,kR P "ended_reads" 554 239,kR P "lone_writer_deeds" 562 244,kR P "is_regular" 573 251,kR P "is_safe" 584 258,kR P "writes_beside" 590 263,kR P "last_ahead" 596 268,kR P "turn_about" 602 273,kR P "STRICTNESSES" 608 274,kR P "has_to" 622 281,kR P "check_strictness" 629 288,kR P "goes_ahead" 638 295,kR P "Candidate" 684 317,kR P "Board" 741 357,kR P "step_of" 753 368,kR P "ended_numbers" 759 373,kR P "holds_all" 765 378,kR P "first_place" 771 383,kR P "judged" 788 390,kR P "_law_cell_at" 798 397,kR P "_law_stream" 807 404,kR P "_law_take" 816 411,kR P "_law_worth" 824 418,kR P "_law_name" 834 425,kR P "_law_fresh" 843 432,kR P "_law_answer" 853 439,kR P "_law_events" 873 446,kR P "_law_tale" 884 453,kR P "_law_deeds" 896 460,kR P "_law_order_right" 918 467,kR P "_law_turn_right" 935 474,kR P "law" 946 481] 72),#[]⟩),
 (22,⟨(.type "tuple"),none,(.seq #[(.type "ValueError")] 0),#[]⟩),
 (24,⟨(.type "dict"),none,(.dict #[⟨(j0 P "__module__"),(.str "__module__" 203),(.str "talejudge.errors" 194)⟩,⟨(j0 P "__qualname__"),(.str "__qualname__" 205),(.str "TaleError" 204)⟩,⟨(j0 P "__firstlineno__"),(.str "__firstlineno__" 207),(.int (5) 206)⟩,kR P "__static_attributes__" 208 29] 4),#[]⟩),
 (29,⟨(.type "tuple"),none,(.seq #[] 0),#[]⟩),
 (30,⟨(.type "dict"),none,(.dict #[⟨(j0 P "__module__"),(.str "__module__" 203),(.str "talejudge.errors" 194)⟩,⟨(j0 P "__firstlineno__"),(.str "__firstlineno__" 207),(.int (5) 206)⟩,kR P "__static_attributes__" 208 29,kR P "__weakref__" 210 32,⟨(j0 P "__doc__"),(.str "__doc__" 211),.none⟩] 3),#[]⟩),
 (31,⟨(.type "type"),none,(.cls ⟨"TaleError",[(.type "ValueError")],[(.ref 31),(.type "ValueError"),(.type "Exception"),(.type "BaseException"),(.type "object")],30,"TaleError",true,[],[(.ref 44),(.ref 56),(.ref 68)],false,none,false⟩),#[some (.ref 22),none,some (.str "TaleError" 196),some (.str "TaleError" 204),some (.builtin "ValueError.__new__"),some (.bool true)]⟩),
 (35,⟨(.type "tuple"),none,(.seq #[(.ref 31)] 0),#[]⟩),
 (37,⟨(.type "dict"),none,(.dict #[⟨(j0 P "__module__"),(.str "__module__" 221),(.str "talejudge.errors" 194)⟩,⟨(j0 P "__qualname__"),(.str "__qualname__" 223),(.str "NoDeed" 222)⟩,⟨(j0 P "__firstlineno__"),(.str "__firstlineno__" 225),(.int (7) 224)⟩,kR P "__static_attributes__" 226 42] 4),#[]⟩),
 (42,⟨(.type "tuple"),none,(.seq #[] 0),#[]⟩),
 (43,⟨(.type "dict"),none,(.dict #[⟨(j0 P "__module__"),(.str "__module__" 221),(.str "talejudge.errors" 194)⟩,⟨(j0 P "__firstlineno__"),(.str "__firstlineno__" 225),(.int (7) 224)⟩,kR P "__static_attributes__" 226 42,⟨(j0 P "__doc__"),(.str "__doc__" 227),.none⟩] 2),#[]⟩),
 (44,⟨(.type "type"),none,(.cls ⟨"NoDeed",[(.ref 31)],[(.ref 44),(.ref 31),(.type "ValueError"),(.type "Exception"),(.type "BaseException"),(.type "object")],43,"NoDeed",true,[],[],false,none,false⟩),#[some (.ref 35),none,some (.str "NoDeed" 214),some (.str "NoDeed" 222),some (.builtin "ValueError.__new__"),some (.bool true)]⟩),
 (47,⟨(.type "tuple"),none,(.seq #[(.ref 31)] 0),#[]⟩),
 (49,⟨(.type "dict"),none,(.dict #[⟨(j0 P "__module__"),(.str "__module__" 237),(.str "talejudge.errors" 194)⟩,⟨(j0 P "__qualname__"),(.str "__qualname__" 239),(.str "NoStrictness" 238)⟩,⟨(j0 P "__firstlineno__"),(.str "__firstlineno__" 241),(.int (9) 240)⟩,kR P "__static_attributes__" 242 54] 4),#[]⟩),
 (54,⟨(.type "tuple"),none,(.seq #[] 0),#[]⟩),
 (55,⟨(.type "dict"),none,(.dict #[⟨(j0 P "__module__"),(.str "__module__" 237),(.str "talejudge.errors" 194)⟩,⟨(j0 P "__firstlineno__"),(.str "__firstlineno__" 241),(.int (9) 240)⟩,kR P "__static_attributes__" 242 54,⟨(j0 P "__doc__"),(.str "__doc__" 243),.none⟩] 2),#[]⟩),
 (56,⟨(.type "type"),none,(.cls ⟨"NoStrictness",[(.ref 31)],[(.ref 56),(.ref 31),(.type "ValueError"),(.type "Exception"),(.type "BaseException"),(.type "object")],55,"NoStrictness",true,[],[],false,none,false⟩),#[some (.ref 47),none,some (.str "NoStrictness" 230),some (.str "NoStrictness" 238),some (.builtin "ValueError.__new__"),some (.bool true)]⟩),
 (59,⟨(.type "tuple"),none,(.seq #[(.ref 31)] 0),#[]⟩),
 (61,⟨(.type "dict"),none,(.dict #[⟨(j0 P "__module__"),(.str "__module__" 253),(.str "talejudge.errors" 194)⟩,⟨(j0 P "__qualname__"),(.str "__qualname__" 255),(.str "NotPlain" 254)⟩,⟨(j0 P "__firstlineno__"),(.str "__firstlineno__" 257),(.int (11) 256)⟩,kR P "__static_attributes__" 258 66] 4),#[]⟩),
 (66,⟨(.type "tuple"),none,(.seq #[] 0),#[]⟩),
 (67,⟨(.type "dict"),none,(.dict #[⟨(j0 P "__module__"),(.str "__module__" 253),(.str "talejudge.errors" 194)⟩,⟨(j0 P "__firstlineno__"),(.str "__firstlineno__" 257),(.int (11) 256)⟩,kR P "__static_attributes__" 258 66,⟨(j0 P "__doc__"),(.str "__doc__" 259),.none⟩] 2),#[]⟩),
 (68,⟨(.type "type"),none,(.cls ⟨"NotPlain",[(.ref 31)],[(.ref 68),(.ref 31),(.type "ValueError"),(.type "Exception"),(.type "BaseException"),(.type "object")],67,"NotPlain",true,[],[],false,none,false⟩),#[some (.ref 59),none,some (.str "NotPlain" 246),some (.str "NotPlain" 254),some (.builtin "ValueError.__new__"),some (.bool true)]⟩),
 (76,cO "is_whole" "is_whole" 266 15 1 71 270),
 (77,fO "is_whole" "is_whole" (top 8) "talejudge.basics" 262 76),
 (83,cO "is_within" "is_within" 273 17 2 78 278),
 (84,fO "is_within" "is_within" (top 9) "talejudge.basics" 262 83),
 (90,cO "is_worth" "is_worth" 281 19 1 85 285),
 (91,fO "is_worth" "is_worth" (top 10) "talejudge.basics" 262 90),
 (97,cO "is_tuple_of" "is_tuple_of" 288 21 2 92 293),
 (98,fO "is_tuple_of" "is_tuple_of" (top 11) "talejudge.basics" 262 97),
 (99,⟨(.type "dict"),none,(.dict #[⟨(j0 P "register"),(.str "register" 298),(.int (0) 299)⟩,⟨(j0 P "counter"),(.str "counter" 300),(.int (0) 301)⟩,kR P "queue" 302 100,kR P "set" 303 101,⟨(j0 P "cell"),(.str "cell" 304),(.int (0) 305)⟩] 5),#[]⟩),
 (100,⟨(.type "tuple"),none,(.seq #[] 0),#[]⟩),
 (101,⟨(.type "tuple"),none,(.seq #[] 0),#[]⟩),
 (102,⟨(.type "dict"),none,(.dict #[⟨(j0 P "read"),(.str "read" 312),(.int (0) 313)⟩,⟨(j0 P "take"),(.str "take" 314),(.int (0) 315)⟩,⟨(j0 P "write"),(.str "write" 316),(.int (1) 317)⟩,⟨(j0 P "add"),(.str "add" 318),(.int (1) 319)⟩,⟨(j0 P "put"),(.str "put" 320),(.int (1) 321)⟩,⟨(j0 P "cut"),(.str "cut" 322),(.int (1) 323)⟩,⟨(j0 P "has"),(.str "has" 324),(.int (1) 325)⟩,⟨(j0 P "swap"),(.str "swap" 326),(.int (2) 327)⟩] 8),#[]⟩),
 (108,cO "read_state" "read_state" 337 26 2 103 342),
 (109,fO "read_state" "read_state" (top 15) "talejudge.store" 296 108),
 (115,cO "write_state" "write_state" 345 28 2 110 350),
 (116,fO "write_state" "write_state" (top 16) "talejudge.store" 296 115),
 (164,⟨(.type "dict"),none,(.dict #[⟨(G1 (o0 [j0 P "register",j0 P "read"])),(.ref 165),(.ref 109)⟩,⟨(G1 (o0 [j0 P "register",j0 P "write"])),(.ref 166),(.ref 116)⟩,⟨(G1 (o0 [j0 P "counter",j0 P "read"])),(.ref 167),(.ref 109)⟩,⟨(G1 (o0 [j0 P "counter",j0 P "add"])),(.ref 168),(.ref 123)⟩,⟨(G1 (o0 [j0 P "queue",j0 P "put"])),(.ref 169),(.ref 130)⟩,⟨(G1 (o0 [j0 P "queue",j0 P "take"])),(.ref 170),(.ref 137)⟩,⟨(G1 (o0 [j0 P "set",j0 P "put"])),(.ref 171),(.ref 144)⟩,⟨(G1 (o0 [j0 P "set",j0 P "cut"])),(.ref 172),(.ref 149)⟩,⟨(G1 (o0 [j0 P "set",j0 P "has"])),(.ref 173),(.ref 156)⟩,⟨(G1 (o0 [j0 P "cell",j0 P "read"])),(.ref 174),(.ref 109)⟩,⟨(G1 (o0 [j0 P "cell",j0 P "write"])),(.ref 175),(.ref 116)⟩,⟨(G1 (o0 [j0 P "cell",j0 P "swap"])),(.ref 176),(.ref 163)⟩] 12),#[]⟩),
 (165,⟨(.type "tuple"),none,(.seq #[(.str "register" 407),(.str "read" 408)] 0),#[]⟩),
 (166,⟨(.type "tuple"),none,(.seq #[(.str "register" 409),(.str "write" 410)] 0),#[]⟩),
 (167,⟨(.type "tuple"),none,(.seq #[(.str "counter" 411),(.str "read" 412)] 0),#[]⟩),
 (168,⟨(.type "tuple"),none,(.seq #[(.str "counter" 413),(.str "add" 414)] 0),#[]⟩),
 (169,⟨(.type "tuple"),none,(.seq #[(.str "queue" 415),(.str "put" 416)] 0),#[]⟩),
 (170,⟨(.type "tuple"),none,(.seq #[(.str "queue" 417),(.str "take" 418)] 0),#[]⟩),
 (171,⟨(.type "tuple"),none,(.seq #[(.str "set" 419),(.str "put" 420)] 0),#[]⟩),
 (172,⟨(.type "tuple"),none,(.seq #[(.str "set" 421),(.str "cut" 422)] 0),#[]⟩),
 (173,⟨(.type "tuple"),none,(.seq #[(.str "set" 423),(.str "has" 424)] 0),#[]⟩),
 (174,⟨(.type "tuple"),none,(.seq #[(.str "cell" 425),(.str "read" 426)] 0),#[]⟩),
 (175,⟨(.type "tuple"),none,(.seq #[(.str "cell" 427),(.str "write" 428)] 0),#[]⟩),
 (176,⟨(.type "tuple"),none,(.seq #[(.str "cell" 429),(.str "swap" 430)] 0),#[]⟩),
 (182,cO "is_kind" "is_kind" 468 53 1 177 472),
 (183,fO "is_kind" "is_kind" (top 25) "talejudge.store" 296 182),
 (189,cO "first_state" "first_state" 475 55 1 184 479),
 (190,fO "first_state" "first_state" (top 26) "talejudge.store" 296 189),
 (194,cP "is_deed" "is_deed" 482 59 3 191 485),
 (195,fO "is_deed" "is_deed" (top 27) "talejudge.store" 296 194),
 (201,cO "do" "do" 488 68 4 196 496),
 (202,fO "do" "do" (top 28) "talejudge.store" 296 201),
 (208,cO "deeds" "deeds" 501 74 1 203 511),
 (209,fO "deeds" "deeds" (top 30) "talejudge.tales" 499 208),
 (210,⟨(.type "tuple"),none,(.seq #[(.int (-2) 517),(.int (-1) 519)] 0),#[]⟩),
 (214,cP "plain_deeds" "plain_deeds" 521 88 1 211 524),
 (215,fO "plain_deeds" "plain_deeds" (top 33) "talejudge.zones" 514 214),
 (219,cP "are_plain" "are_plain" 527 93 1 216 530),
 (220,fO "are_plain" "are_plain" (top 34) "talejudge.zones" 514 219),
 (226,cO "is_answered" "is_answered" 533 98 1 221 537),
 (227,fO "is_answered" "is_answered" (top 35) "talejudge.zones" 514 226),
 (233,cO "writers" "writers" 540 102 1 228 546),
 (234,fO "writers" "writers" (top 36) "talejudge.zones" 514 233),
 (238,cP "ended_reads" "ended_reads" 549 108 1 235 552),
 (239,fO "ended_reads" "ended_reads" (top 37) "talejudge.zones" 514 238),
 (243,cP "lone_writer_deeds" "lone_writer_deeds" 557 111 1 240 560),
 (244,fO "lone_writer_deeds" "lone_writer_deeds" (top 39) "talejudge.weaker" 555 243),
 (250,cO "is_regular" "is_regular" 563 116 1 245 571),
 (251,fO "is_regular" "is_regular" (top 40) "talejudge.weaker" 555 250),
 (257,cO "is_safe" "is_safe" 574 123 1 252 582),
 (258,fO "is_safe" "is_safe" (top 41) "talejudge.weaker" 555 257),
 (262,cP "writes_beside" "writes_beside" 585 130 2 259 588),
 (263,fO "writes_beside" "writes_beside" (top 42) "talejudge.weaker" 555 262),
 (267,cP "last_ahead" "last_ahead" 591 133 2 264 594),
 (268,fO "last_ahead" "last_ahead" (top 43) "talejudge.weaker" 555 267),
 (272,cP "turn_about" "turn_about" 597 135 1 269 600),
 (273,fO "turn_about" "turn_about" (top 44) "talejudge.weaker" 555 272),
 (274,⟨(.type "tuple"),none,(.seq #[(.str "strict" 605),(.str "hands" 606),(.str "bare" 607)] 0),#[]⟩),
 (280,cO "has_to" "has_to" 609 146 2 275 620),
 (281,fO "has_to" "has_to" (top 47) "talejudge.orders" 603 280),
 (287,cO "check_strictness" "check_strictness" 623 155 1 282 627),
 (288,fO "check_strictness" "check_strictness" (top 48) "talejudge.orders" 603 287),
 (294,cO "goes_ahead" "goes_ahead" 630 158 3 289 636),
 (295,fO "goes_ahead" "goes_ahead" (top 49) "talejudge.orders" 603 294),
 (296,⟨(.type "tuple"),none,(.seq #[] 0),#[]⟩),
 (298,⟨(.type "dict"),none,(.dict #[⟨(j0 P "__module__"),(.str "__module__" 648),(.str "talejudge.places" 639)⟩,⟨(j0 P "__qualname__"),(.str "__qualname__" 650),(.str "Candidate" 649)⟩,⟨(j0 P "__firstlineno__"),(.str "__firstlineno__" 652),(.int (165) 651)⟩,kR P "__init__" 658 307,kR P "may_stand" 668 314,kR P "__static_attributes__" 677 315] 6),#[]⟩),
 (306,cP "__init__" "Candidate.__init__" 653 167 6 303 656),
 (307,fO "__init__" "Candidate.__init__" (subS (top 51) 0) "talejudge.places" 639 306),
 (313,cO "may_stand" "Candidate.may_stand" 659 177 2 308 666),
 (314,fO "may_stand" "Candidate.may_stand" (subS (top 51) 1) "talejudge.places" 639 313),
 (315,⟨(.type "tuple"),none,(.seq #[(.str "aheads" 669),(.str "answer" 670),(.str "behinds" 671),(.str "kind" 672),(.str "number" 673),(.str "thing" 674),(.str "verb" 675),(.str "worth" 676)] 0),#[]⟩),
 (316,⟨(.type "dict"),none,(.dict #[⟨(j0 P "__module__"),(.str "__module__" 648),(.str "talejudge.places" 639)⟩,⟨(j0 P "__firstlineno__"),(.str "__firstlineno__" 652),(.int (165) 651)⟩,kR P "__init__" 658 307,kR P "may_stand" 668 314,kR P "__static_attributes__" 677 315,kR P "__dict__" 679 318,kR P "__weakref__" 681 319,⟨(j0 P "__doc__"),(.str "__doc__" 682),.none⟩] 4),#[]⟩),
 (317,⟨(.type "type"),none,(.cls ⟨"Candidate",[(.type "object")],[(.ref 317),(.type "object")],316,"Candidate",true,[],[],false,none,false⟩),#[none,none,some (.str "Candidate" 641),some (.str "Candidate" 649),some (.builtin "object.__new__"),some (.bool true)]⟩),
 (322,⟨(.type "tuple"),none,(.seq #[] 0),#[]⟩),
 (324,⟨(.type "dict"),none,(.dict #[⟨(j0 P "__module__"),(.str "__module__" 692),(.str "talejudge.places" 639)⟩,⟨(j0 P "__qualname__"),(.str "__qualname__" 694),(.str "Board" 693)⟩,⟨(j0 P "__firstlineno__"),(.str "__firstlineno__" 696),(.int (187) 695)⟩,kR P "__init__" 702 333,kR P "steps_from" 713 340,kR P "ends_at" 721 347,kR P "has_place" 729 354,kR P "__static_attributes__" 734 355] 8),#[]⟩),
 (332,cP "__init__" "Board.__init__" 697 189 3 329 700),
 (333,fO "__init__" "Board.__init__" (subS (top 52) 0) "talejudge.places" 639 332),
 (339,cO "steps_from" "Board.steps_from" 703 201 2 334 711),
 (340,fO "steps_from" "Board.steps_from" (subS (top 52) 1) "talejudge.places" 639 339),
 (346,cO "ends_at" "Board.ends_at" 714 210 2 341 719),
 (347,fO "ends_at" "Board.ends_at" (subS (top 52) 2) "talejudge.places" 639 346),
 (355,⟨(.type "tuple"),none,(.seq #[(.str "candidates" 730),(.str "ended" 731),(.str "first" 732),(.str "kinds" 733)] 0),#[]⟩),
 (356,⟨(.type "dict"),none,(.dict #[⟨(j0 P "__module__"),(.str "__module__" 692),(.str "talejudge.places" 639)⟩,⟨(j0 P "__firstlineno__"),(.str "__firstlineno__" 696),(.int (187) 695)⟩,kR P "__init__" 702 333,kR P "steps_from" 713 340,kR P "ends_at" 721 347,kR P "has_place" 729 354,kR P "__static_attributes__" 734 355,kR P "__dict__" 736 358,kR P "__weakref__" 738 359,⟨(j0 P "__doc__"),(.str "__doc__" 739),.none⟩] 4),#[]⟩),
 (357,⟨(.type "type"),none,(.cls ⟨"Board",[(.type "object")],[(.ref 357),(.type "object")],356,"Board",true,[],[],false,none,false⟩),#[none,none,some (.str "Board" 685),some (.str "Board" 693),some (.builtin "object.__new__"),some (.bool true)]⟩),
 (367,cO "step_of" "step_of" 742 215 2 362 751),
 (368,fO "step_of" "step_of" (top 53) "talejudge.places" 639 367),
 (372,cP "ended_numbers" "ended_numbers" 754 221 1 369 757),
 (373,fO "ended_numbers" "ended_numbers" (top 54) "talejudge.places" 639 372),
 (377,cP "holds_all" "holds_all" 760 223 2 374 763),
 (378,fO "holds_all" "holds_all" (top 55) "talejudge.places" 639 377),
 (382,cP "first_place" "first_place" 766 225 1 379 769),
 (383,fO "first_place" "first_place" (top 56) "talejudge.places" 639 382),
 (389,cO "judged" "judged" 774 228 2 384 786),
 (390,fO "judged" "judged" (top 58) "talejudge.judge" 772 389),
 (396,cO "_law_cell_at" "_law_cell_at" 791 242 2 391 796),
 (397,fL "_law_cell_at" "_law_cell_at" (top 60) 396),
 (403,cO "_law_stream" "_law_stream" 799 246 2 398 805),
 (404,fL "_law_stream" "_law_stream" (top 61) 403),
 (410,cO "_law_take" "_law_take" 808 249 2 405 814),
 (411,fL "_law_take" "_law_take" (top 62) 410),
 (417,cO "_law_worth" "_law_worth" 817 256 1 412 822),
 (418,fL "_law_worth" "_law_worth" (top 63) 417),
 (424,cO "_law_name" "_law_name" 825 263 1 419 832),
 (425,fL "_law_name" "_law_name" (top 64) 424),
 (431,cO "_law_fresh" "_law_fresh" 835 269 2 426 841),
 (432,fL "_law_fresh" "_law_fresh" (top 65) 431),
 (438,cO "_law_answer" "_law_answer" 844 277 2 433 851),
 (439,fL "_law_answer" "_law_answer" (top 66) 438),
 (445,cO "_law_events" "_law_events" 854 283 4 440 871),
 (446,fL "_law_events" "_law_events" (top 67) 445),
 (452,cO "_law_tale" "_law_tale" 874 306 2 447 882),
 (453,fL "_law_tale" "_law_tale" (top 68) 452),
 (459,cO "_law_deeds" "_law_deeds" 885 311 1 454 894),
 (460,fL "_law_deeds" "_law_deeds" (top 69) 459),
 (466,cO "_law_order_right" "_law_order_right" 897 325 2 461 916),
 (467,fL "_law_order_right" "_law_order_right" (top 70) 466),
 (473,cO "_law_turn_right" "_law_turn_right" 919 346 2 468 933),
 (474,fL "_law_turn_right" "_law_turn_right" (top 71) 473),
 (480,cO "law" "law" 936 357 1 475 944),
 (481,fL "law" "law" (top 72) 480)]
noncomputable def HX:Hook:=kHook KX asX (λ _=>by kernel_rfl)
noncomputable abbrev XtX:A0->Bool:=λ s=>xlAt viewX [] s && recOk (RowW.records (OpenRow.toRowW PySem.Challenge.rw_talejudge_k23_whole_strict_regular_safe.row)) s
theorem look1 (w:Q0) (os:J2):(staticsOk (v6 PX.main.body) (boot_heap w.params) (S3X w os).abs.heap && namesBound PX (S3X w os).abs.heap && gensDone (S3X w os).abs && laidKept (boot_heap w.params) (S3X w os).abs.heap)=true:=by kernel_rfl
theorem look2 (w:Q0) (os:J2):openSeen viewX looseX (v6 PX.main.body) XtX true (S3X w os).abs=openGood viewX looseX:=by rw [PySem.W.Fast.te4187177175401517315];kernel_rfl
theorem look3 (w:Q0) (os:J2):Hook.obs HX (S3X w os).abs=Hook.val HX w:=by kernel_rfl
theorem leftX:LeftO PX viewX looseX XtX (Hook.obs HX) (Hook.val HX) 200000:=
 zi9 (H₀:=boot_heap) (gs₀:=Array.mk []) (boot_open (by kernel_rfl) (by decide) (λ s=>rfl)) (λ w=>by kernel_rfl) zh6 look1 look2 look3
end K23
set_option maxHeartbeats 4000000
namespace L2
open PySem PySem.Spec PyProof.Rows
theorem FnScope.k {N P:List Str} {sc:Scope} (a:sc.kind=.function:=by exact rfl) (b:sc.isCoroutine=false:=by exact rfl) (c:sc.isGenerator=false:=by exact rfl) (d:N.Nodup:=by decide +kernel) (e:N.take P.length=P:=by exact rfl) (f :∀x∈P,sc.names.lookup x=some .local\/sc.names.lookup x=some .cell:=by decide +kernel) (g :∀y∈sc.names,y.2≠.free:=by decide +kernel):FnScope N P sc:=⟨a,b,c,d,e,f,g⟩
theorem newA {H:Hp} {p:Addr} (o:HO) (h:H p=none) :∃H',H'=upd H p o/\Same H H'/\H' p=some o:=⟨_,rfl,Same.upd h,upd_same⟩
theorem iteK {c A B:Prop} [Decidable c] (h:B) (hc:¬ c:=by decide +kernel):if c then A else B:=iteN hc h
theorem pg_cn {X:Cx} {scope:Scope} {cl:List (Str×Addr)} {N:List Str} {C:Addr} {s₂:A0} {H₂:Hp} {fp:List Addr} {x:Str} {px:Pos} (i:Nat) (hN:N.Nodup:=by decide +kernel) (hi:N[i]? = some x:=by exact rfl) (hx:scope.names.lookup x=some .local:=by exact rfl):PG (cxComp X scope cl N C s₂ H₂ fp) (.Name x px) (gName i):=zgz i hN hi hx
theorem pe_cg {X:Cx} {xs:List Str} {tg:Expr} {g:TG} {pos:Pos} {elt iter:Expr} {ifs:List Expr} {scope:Scope} {fr:List (Nat×Str)} {wi:TI} {tc:TT} {te:TE} (hi:PI X tg iter wi)
  (hg :∀cl C s₂ H₂ fp,PG (cxComp X scope cl (xs++fr.map (·.2)) C s₂ H₂ fp) tg g)
  (ht :∀cl C s₂ H₂ fp,PF (cxComp X scope cl (xs++fr.map (·.2)) C s₂ H₂ fp) ifs tc) (he :∀cl C s₂ H₂ fp,PE (cxComp X scope cl (xs++fr.map (·.2)) C s₂ H₂ fp) elt te) (hcalm:X.calm=true:=by exact rfl)
  (hfr :∀p∈fr,X.N[p.1]? = some p.2/\(X.env.kindOf p.2=some .cell\/X.env.kindOf p.2=some .free):=by first|exact λ _ z=>absurd z B0|(intro p hp;obtain rfl:=List.mem_singleton.mp hp;first|exact ⟨rfl,.inl rfl⟩|exact ⟨rfl,.inr rfl⟩))
  (hin:(scope.names.all λ y=>y.2 != Y1 || fr.any λ p=>p.2 == y.1)=true:=by decide +kernel)
  (hfs :∀p∈fr,(p.2,Y1)∈scope.names/\((b7 scope X.env).names.lookup p.2=some .cell\/(b7 scope X.env).names.lookup p.2=some .free):=by first|exact λ _ z=>absurd z B0|(intro p hp;obtain rfl:=List.mem_singleton.mp hp;exact ⟨by decide +kernel,by first|exact .inl rfl|exact .inr rfl⟩))
  (hcell :∀y∈scope.names,y.2≠NameKind.cell:=by decide +kernel) (hkind:scope.kind=.function:=by exact rfl) (hnames :∀y∈scope.names,y.2=NameKind.local->scope.names.lookup y.1=some .local:=by decide +kernel)
  (hs :∀x,J5 iter X.env x=G3 x:=by intro _;rfl):PE X (.ListComp elt [⟨tg,iter,ifs,0⟩] scope pos) (tCompG wi xs.length fr g tc te):=
 zi0 hcalm hi hfr (λ y a e=>by
  have h:=List.all_eq_true.mp hin y a;rw [e] at h;obtain ⟨p,hp,z⟩:=List.any_eq_true.mp (show fr.any (λ p=>p.2 == y.1)=true from h);have:=(hfr p hp).2
  rwa [eq_of_beq z] at this) hfs hcell hkind hnames hg ht he hs
end L2
namespace K23
open PySem PySem.Spec PyProof.Rows TJ L2
abbrev Gg (n:Str) (a:Addr):Prop:=∀P,S5 (KX P) Y2 n=some (some (.ref a))
abbrev Gn (n:Str):Prop:=∀P,S5 (KX P) Y2 n=some none
noncomputable abbrev kx (w:Q0):=KX w.params
noncomputable abbrev Ca (P:Program) (w:Q0) (mg:Str->Option Value) (base:Heap):=Cal P w (KX w.params) mg base
noncomputable abbrev CaE (P:Program) (w:Q0) (mg:Str->Option Value) (base:Heap):=CalE P w (KX w.params) mg base
noncomputable abbrev Fo (P:Program) (w:Q0) (mg:Str->Option Value) (base:Heap):=FnOk P w (KX w.params) mg base
theorem z0w:Gn "isinstance":=λ _=>by kernel_rfl
theorem n_len:Gn "len":=λ _=>by kernel_rfl
theorem n_all:Gn "all":=λ _=>by kernel_rfl
theorem n_max:Gn "max":=λ _=>by kernel_rfl
theorem n_int:Gn "int":=λ _=>by kernel_rfl
theorem n_str:Gn "str":=λ _=>by kernel_rfl
theorem n_bool:Gn "bool":=λ _=>by kernel_rfl
theorem ze7:Gn "tuple":=λ _=>by kernel_rfl
theorem n_list:Gn "list":=λ _=>by kernel_rfl
theorem zgm:Gn "range":=λ _=>by kernel_rfl
theorem zi5:Gn "sorted":=λ _=>by kernel_rfl
theorem n_set:Gn "set":=λ _=>by kernel_rfl
theorem z0m:Gn "enumerate":=λ _=>by kernel_rfl
theorem zei:Gn "reversed":=λ _=>by kernel_rfl
theorem z65 (P:M0):S5 (KX P) Y2 "GREATEST_WORTH" = some (some (.int (1000000000) 264)):=by kernel_rfl
theorem zd5:Gg "is_whole" 77:=λ _=>by kernel_rfl
theorem zce:Gg "is_within" 84:=λ _=>by kernel_rfl
theorem zeu:Gg "is_worth" 91:=λ _=>by kernel_rfl
theorem z8f:Gg "is_tuple_of" 98:=λ _=>by kernel_rfl
theorem z3x:Gg "FIRST_STATES" 99:=λ _=>by kernel_rfl
theorem z5b:Gg "WORTHS_OF_VERBS" 102:=λ _=>by kernel_rfl
theorem z6c:Gg "read_state" 109:=λ _=>by kernel_rfl
theorem z59:Gg "write_state" 116:=λ _=>by kernel_rfl
theorem zgo:Gg "DOERS" 164:=λ _=>by kernel_rfl
theorem zfg:Gg "is_kind" 183:=λ _=>by kernel_rfl
theorem z8t:Gg "first_state" 190:=λ _=>by kernel_rfl
theorem zf7:Gg "is_deed" 195:=λ _=>by kernel_rfl
theorem g_do:Gg "do" 202:=λ _=>by kernel_rfl
theorem zib:Gg "deeds" 209:=λ _=>by kernel_rfl
theorem z4y:Gg "FIRST_WRITE" 210:=λ _=>by kernel_rfl
theorem z8o:Gg "plain_deeds" 215:=λ _=>by kernel_rfl
theorem zc9:Gg "are_plain" 220:=λ _=>by kernel_rfl
theorem z9h:Gg "is_answered" 227:=λ _=>by kernel_rfl
theorem zbv:Gg "writers" 234:=λ _=>by kernel_rfl
theorem z9c:Gg "ended_reads" 239:=λ _=>by kernel_rfl
theorem z40:Gg "lone_writer_deeds" 244:=λ _=>by kernel_rfl
theorem zao:Gg "is_regular" 251:=λ _=>by kernel_rfl
theorem zfs:Gg "is_safe" 258:=λ _=>by kernel_rfl
theorem z6d:Gg "writes_beside" 263:=λ _=>by kernel_rfl
theorem z9v:Gg "last_ahead" 268:=λ _=>by kernel_rfl
theorem z9w:Gg "turn_about" 273:=λ _=>by kernel_rfl
theorem z7w:Gg "STRICTNESSES" 274:=λ _=>by kernel_rfl
theorem zha:Gg "has_to" 281:=λ _=>by kernel_rfl
theorem z4x:Gg "check_strictness" 288:=λ _=>by kernel_rfl
theorem zac:Gg "goes_ahead" 295:=λ _=>by kernel_rfl
theorem zcm:Gg "Candidate" 317:=λ _=>by kernel_rfl
theorem zj1:Gg "Board" 357:=λ _=>by kernel_rfl
theorem zf3:Gg "step_of" 368:=λ _=>by kernel_rfl
theorem z6e:Gg "ended_numbers" 373:=λ _=>by kernel_rfl
theorem zcs:Gg "holds_all" 378:=λ _=>by kernel_rfl
theorem z9a:Gg "first_place" 383:=λ _=>by kernel_rfl
theorem zh8:Gg "judged" 390:=λ _=>by kernel_rfl
theorem z7v:Gg "_law_cell_at" 397:=λ _=>by kernel_rfl
theorem z9n:Gg "_law_stream" 404:=λ _=>by kernel_rfl
theorem zcp:Gg "_law_take" 411:=λ _=>by kernel_rfl
theorem zag:Gg "_law_worth" 418:=λ _=>by kernel_rfl
theorem zc7:Gg "_law_name" 425:=λ _=>by kernel_rfl
theorem zab:Gg "_law_fresh" 432:=λ _=>by kernel_rfl
theorem z8l:Gg "_law_answer" 439:=λ _=>by kernel_rfl
theorem z99:Gg "_law_events" 446:=λ _=>by kernel_rfl
theorem zcg:Gg "_law_tale" 453:=λ _=>by kernel_rfl
theorem zal:Gg "_law_deeds" 460:=λ _=>by kernel_rfl
theorem z4r:Gg "_law_order_right" 467:=λ _=>by kernel_rfl
theorem z5c:Gg "_law_turn_right" 474:=λ _=>by kernel_rfl
theorem g_law:Gg "law" 481:=λ _=>by kernel_rfl
noncomputable def z6l:List (Str×V):=[("register",.int (0)),("counter",.int (0)),("queue",.ref 100),("set",.ref 101),("cell",.int (0))]
theorem z2z (P:M0):KDict (KX P) P 99 z6l:=⟨⟨#[⟨(j0 P "register"),(.str "register" 298),(.int (0) 299)⟩,⟨(j0 P "counter"),(.str "counter" 300),(.int (0) 301)⟩,⟨(j0 P "queue"),(.str "queue" 302),(.ref 100)⟩,⟨(j0 P "set"),(.str "set" 303),(.ref 101)⟩,⟨(j0 P "cell"),(.str "cell" 304),(.int (0) 305)⟩],5,by kernel_rfl,(.cons ⟨⟨_,rfl⟩,rfl,⟨_,rfl⟩⟩ (.cons ⟨⟨_,rfl⟩,rfl,⟨_,rfl⟩⟩ (.cons ⟨⟨_,rfl⟩,rfl,rfl⟩ (.cons ⟨⟨_,rfl⟩,rfl,rfl⟩ (.cons ⟨⟨_,rfl⟩,rfl,⟨_,rfl⟩⟩ .nil)))))⟩,by decide⟩
noncomputable def z4s:List (Str×V):=[("read",.int (0)),("take",.int (0)),("write",.int (1)),("add",.int (1)),("put",.int (1)),("cut",.int (1)),("has",.int (1)),("swap",.int (2))]
theorem z4k (P:M0):KDict (KX P) P 102 z4s:=⟨⟨#[⟨(j0 P "read"),(.str "read" 312),(.int (0) 313)⟩,⟨(j0 P "take"),(.str "take" 314),(.int (0) 315)⟩,⟨(j0 P "write"),(.str "write" 316),(.int (1) 317)⟩,⟨(j0 P "add"),(.str "add" 318),(.int (1) 319)⟩,⟨(j0 P "put"),(.str "put" 320),(.int (1) 321)⟩,⟨(j0 P "cut"),(.str "cut" 322),(.int (1) 323)⟩,⟨(j0 P "has"),(.str "has" 324),(.int (1) 325)⟩,⟨(j0 P "swap"),(.str "swap" 326),(.int (2) 327)⟩],8,by kernel_rfl,(.cons ⟨⟨_,rfl⟩,rfl,⟨_,rfl⟩⟩ (.cons ⟨⟨_,rfl⟩,rfl,⟨_,rfl⟩⟩ (.cons ⟨⟨_,rfl⟩,rfl,⟨_,rfl⟩⟩ (.cons ⟨⟨_,rfl⟩,rfl,⟨_,rfl⟩⟩ (.cons ⟨⟨_,rfl⟩,rfl,⟨_,rfl⟩⟩ (.cons ⟨⟨_,rfl⟩,rfl,⟨_,rfl⟩⟩ (.cons ⟨⟨_,rfl⟩,rfl,⟨_,rfl⟩⟩ (.cons ⟨⟨_,rfl⟩,rfl,⟨_,rfl⟩⟩ .nil))))))))⟩,by decide⟩
noncomputable def zhk:List ((Str×Str)×V):=[(("register","read"),.ref 109),(("register","write"),.ref 116),(("counter","read"),.ref 109),(("counter","add"),.ref 123),(("queue","put"),.ref 130),(("queue","take"),.ref 137),(("set","put"),.ref 144),(("set","cut"),.ref 149),(("set","has"),.ref 156),(("cell","read"),.ref 109),(("cell","write"),.ref 116),(("cell","swap"),.ref 163)]
theorem zeb (P:M0):KDictT (KX P) P 164 zhk:=⟨⟨#[⟨(G1 (o0 [j0 P "register",j0 P "read"])),(.ref 165),(.ref 109)⟩,⟨(G1 (o0 [j0 P "register",j0 P "write"])),(.ref 166),(.ref 116)⟩,⟨(G1 (o0 [j0 P "counter",j0 P "read"])),(.ref 167),(.ref 109)⟩,⟨(G1 (o0 [j0 P "counter",j0 P "add"])),(.ref 168),(.ref 123)⟩,⟨(G1 (o0 [j0 P "queue",j0 P "put"])),(.ref 169),(.ref 130)⟩,⟨(G1 (o0 [j0 P "queue",j0 P "take"])),(.ref 170),(.ref 137)⟩,⟨(G1 (o0 [j0 P "set",j0 P "put"])),(.ref 171),(.ref 144)⟩,⟨(G1 (o0 [j0 P "set",j0 P "cut"])),(.ref 172),(.ref 149)⟩,⟨(G1 (o0 [j0 P "set",j0 P "has"])),(.ref 173),(.ref 156)⟩,⟨(G1 (o0 [j0 P "cell",j0 P "read"])),(.ref 174),(.ref 109)⟩,⟨(G1 (o0 [j0 P "cell",j0 P "write"])),(.ref 175),(.ref 116)⟩,⟨(G1 (o0 [j0 P "cell",j0 P "swap"])),(.ref 176),(.ref 163)⟩],12,by kernel_rfl,(.cons ⟨⟨165,407,408,0,rfl,by kernel_rfl⟩,rfl,rfl⟩ (.cons ⟨⟨166,409,410,0,rfl,by kernel_rfl⟩,rfl,rfl⟩ (.cons ⟨⟨167,411,412,0,rfl,by kernel_rfl⟩,rfl,rfl⟩ (.cons ⟨⟨168,413,414,0,rfl,by kernel_rfl⟩,rfl,rfl⟩ (.cons ⟨⟨169,415,416,0,rfl,by kernel_rfl⟩,rfl,rfl⟩ (.cons ⟨⟨170,417,418,0,rfl,by kernel_rfl⟩,rfl,rfl⟩ (.cons ⟨⟨171,419,420,0,rfl,by kernel_rfl⟩,rfl,rfl⟩ (.cons ⟨⟨172,421,422,0,rfl,by kernel_rfl⟩,rfl,rfl⟩ (.cons ⟨⟨173,423,424,0,rfl,by kernel_rfl⟩,rfl,rfl⟩ (.cons ⟨⟨174,425,426,0,rfl,by kernel_rfl⟩,rfl,rfl⟩ (.cons ⟨⟨175,427,428,0,rfl,by kernel_rfl⟩,rfl,rfl⟩ (.cons ⟨⟨176,429,430,0,rfl,by kernel_rfl⟩,rfl,rfl⟩ .nil))))))))))))⟩,by decide +kernel,by decide⟩
noncomputable abbrev y2d:Stmt:=top 8
noncomputable abbrev y1h:FuncData:=fnX "is_whole" "is_whole" (top 8) "talejudge.basics" 262 76
theorem z5t (P:M0):Fun (KX P) "is_whole" "is_whole" y2d 77 y1h:=z0a
theorem zd4 (P:M0):Binds (KX P) y1h ["value"] []:=(z5t P).binds λ _ _ _ _ _ _=>us1 λ _=>rfl
theorem zcr:FnScope ["value"] ["value"] (z06 y2d):=.k
noncomputable abbrev y25:Stmt:=top 9
noncomputable abbrev y17:FuncData:=fnX "is_within" "is_within" (top 9) "talejudge.basics" 262 83
theorem z4t (P:M0):Fun (KX P) "is_within" "is_within" y25 84 y17:=z0a
theorem zcd (P:M0):Binds (KX P) y17 ["value","greatest"] []:=(z4t P).binds λ _ _ _ _ _ _=>us2 λ _ _=>rfl
theorem zak:FnScope ["value","greatest"] ["value","greatest"] (z06 y25):=.k
noncomputable abbrev y2e:Stmt:=top 10
noncomputable abbrev y1i:FuncData:=fnX "is_worth" "is_worth" (top 10) "talejudge.basics" 262 90
theorem z5g (P:M0):Fun (KX P) "is_worth" "is_worth" y2e 91 y1i:=z0a
theorem zen (P:M0):Binds (KX P) y1i ["value"] []:=(z5g P).binds λ _ _ _ _ _ _=>us1 λ _=>rfl
theorem zcu:FnScope ["value"] ["value"] (z06 y2e):=.k
noncomputable abbrev y1j:Stmt:=top 11
noncomputable abbrev y0i:FuncData:=fnX "is_tuple_of" "is_tuple_of" (top 11) "talejudge.basics" 262 97
theorem z2h (P:M0):Fun (KX P) "is_tuple_of" "is_tuple_of" y1j 98 y0i:=z0a
theorem z8p (P:M0):Binds (KX P) y0i ["value","many"] []:=(z2h P).binds λ _ _ _ _ _ _=>us2 λ _ _=>rfl
theorem z80:FnScope ["value","many"] ["value","many"] (z06 y1j):=.k
noncomputable abbrev y1x:Stmt:=top 15
noncomputable abbrev y0t:FuncData:=fnX "read_state" "read_state" (top 15) "talejudge.store" 296 108
theorem z3b (P:M0):Fun (KX P) "read_state" "read_state" y1x 109 y0t:=z0a
theorem za6 (P:M0):Binds (KX P) y0t ["state","worth"] []:=(z3b P).binds λ _ _ _ _ _ _=>us2 λ _ _=>rfl
theorem z8v:FnScope ["state","worth"] ["state","worth"] (z06 y1x):=.k
noncomputable abbrev y1k:Stmt:=top 16
noncomputable abbrev y0j:FuncData:=fnX "write_state" "write_state" (top 16) "talejudge.store" 296 115
theorem z2g (P:M0):Fun (KX P) "write_state" "write_state" y1k 116 y0j:=z0a
theorem z9e (P:M0):Binds (KX P) y0j ["state","worth"] []:=(z2g P).binds λ _ _ _ _ _ _=>us2 λ _ _=>rfl
theorem z85:FnScope ["state","worth"] ["state","worth"] (z06 y1k):=.k
noncomputable abbrev y2g:Stmt:=top 25
noncomputable abbrev y1t:FuncData:=fnX "is_kind" "is_kind" (top 25) "talejudge.store" 296 182
theorem z7p (P:M0):Fun (KX P) "is_kind" "is_kind" y2g 183 y1t:=z0a
theorem zg5 (P:M0):Binds (KX P) y1t ["kind"] []:=(z7p P).binds λ _ _ _ _ _ _=>us1 λ _=>rfl
theorem zcw:FnScope ["kind"] ["kind"] (z06 y2g):=.k
noncomputable abbrev y1l:Stmt:=top 26
noncomputable abbrev y0k:FuncData:=fnX "first_state" "first_state" (top 26) "talejudge.store" 296 189
theorem z2r (P:M0):Fun (KX P) "first_state" "first_state" y1l 190 y0k:=z0a
theorem z8x (P:M0):Binds (KX P) y0k ["kind"] []:=(z2r P).binds λ _ _ _ _ _ _=>us1 λ _=>rfl
theorem z7r:FnScope ["kind"] ["kind"] (z06 y1l):=.k
noncomputable abbrev y2h:Stmt:=top 27
noncomputable abbrev y1u:FuncData:=fnX "is_deed" "is_deed" (top 27) "talejudge.store" 296 194
theorem z7e (P:M0):Fun (KX P) "is_deed" "is_deed" y2h 195 y1u:=z0a
theorem zfd (P:M0):Binds (KX P) y1u ["kind","verb","worth"] []:=(z7e P).binds λ _ _ _ _ _ _=>us3 λ _ _ _=>rfl
theorem sc_is_deed:FnScope ["kind","verb","worth","many"] ["kind","verb","worth"] (z06 y2h):=.k
noncomputable abbrev y2o:Stmt:=top 28
noncomputable abbrev y2p:FuncData:=fnX "do" "do" (top 28) "talejudge.store" 296 201
theorem F_do (P:M0):Fun (KX P) "do" "do" y2o 202 y2p:=z0a
theorem b_do (P:M0):Binds (KX P) y2p ["kind","state","verb","worth"] []:=(F_do P).binds λ _ _ _ _ _ _=>us4 λ _ _ _ _=>rfl
theorem sc_do:FnScope ["kind","state","verb","worth","doer"] ["kind","state","verb","worth"] (z06 y2o):=.k
noncomputable abbrev y2n:Stmt:=top 30
noncomputable abbrev y2f:FuncData:=fnX "deeds" "deeds" (top 30) "talejudge.tales" 499 208
theorem zd3 (P:M0):Fun (KX P) "deeds" "deeds" y2n 209 y2f:=z0a
theorem zic (P:M0):Binds (KX P) y2f ["tale"] []:=(zd3 P).binds λ _ _ _ _ _ _=>us1 λ _=>rfl
theorem sc_deeds:FnScope ["tale","told","numbers","place","event","number","begun"] ["tale"] (z06 y2n):=.k
noncomputable abbrev y1m:Stmt:=top 33
noncomputable abbrev y0l:FuncData:=fnX "plain_deeds" "plain_deeds" (top 33) "talejudge.zones" 514 214
theorem z2f (P:M0):Fun (KX P) "plain_deeds" "plain_deeds" y1m 215 y0l:=z0a
theorem z8s (P:M0):Binds (KX P) y0l ["tale"] []:=(z2f P).binds λ _ _ _ _ _ _=>us1 λ _=>rfl
theorem sc_plain_deeds:FnScope ["tale","told"] ["tale"] (z06 y1m):=.k
noncomputable abbrev y26:Stmt:=top 34
noncomputable abbrev y18:FuncData:=fnX "are_plain" "are_plain" (top 34) "talejudge.zones" 514 219
theorem z4o (P:M0):Fun (KX P) "are_plain" "are_plain" y26 220 y18:=z0a
theorem zck (P:M0):Binds (KX P) y18 ["told"] []:=(z4o P).binds λ _ _ _ _ _ _=>us1 λ _=>rfl
theorem sc_are_plain:FnScope ["told","worths"] ["told"] (z06 y26):=.k
noncomputable abbrev y1n:Stmt:=top 35
noncomputable abbrev y0m:FuncData:=fnX "is_answered" "is_answered" (top 35) "talejudge.zones" 514 226
theorem z2o (P:M0):Fun (KX P) "is_answered" "is_answered" y1n 227 y0m:=z0a
theorem z9p (P:M0):Binds (KX P) y0m ["deed"] []:=(z2o P).binds λ _ _ _ _ _ _=>us1 λ _=>rfl
theorem z83:FnScope ["deed"] ["deed"] (z06 y1n):=.k
noncomputable abbrev y2i:Stmt:=top 36
noncomputable abbrev y16:FuncData:=fnX "writers" "writers" (top 36) "talejudge.zones" 514 233
theorem z3q (P:M0):Fun (KX P) "writers" "writers" y2i 234 y16:=z0a
theorem zc1 (P:M0):Binds (KX P) y16 ["told"] []:=(z3q P).binds λ _ _ _ _ _ _=>us1 λ _=>rfl
theorem sc_writers:FnScope ["told","found","deed"] ["told"] (z06 y2i):=.k
noncomputable abbrev y1o:Stmt:=top 37
noncomputable abbrev y0n:FuncData:=fnX "ended_reads" "ended_reads" (top 37) "talejudge.zones" 514 238
theorem z2b (P:M0):Fun (KX P) "ended_reads" "ended_reads" y1o 239 y0n:=z0a
theorem z9r (P:M0):Binds (KX P) y0n ["told"] []:=(z2b P).binds λ _ _ _ _ _ _=>us1 λ _=>rfl
theorem z81:FnScope ["told"] ["told"] (z06 y1o):=.k
noncomputable abbrev y0d:Stmt:=top 39
noncomputable abbrev y04:FuncData:=fnX "lone_writer_deeds" "lone_writer_deeds" (top 39) "talejudge.weaker" 555 243
theorem z0s (P:M0):Fun (KX P) "lone_writer_deeds" "lone_writer_deeds" y0d 244 y04:=z0a
theorem z4d (P:M0):Binds (KX P) y04 ["tale"] []:=(z0s P).binds λ _ _ _ _ _ _=>us1 λ _=>rfl
theorem sc_lone_writer_deeds:FnScope ["tale","told"] ["tale"] (z06 y0d):=.k
noncomputable abbrev y1y:Stmt:=top 40
noncomputable abbrev y0u:FuncData:=fnX "is_regular" "is_regular" (top 40) "talejudge.weaker" 555 250
theorem z3e (P:M0):Fun (KX P) "is_regular" "is_regular" y1y 251 y0u:=z0a
theorem z9u (P:M0):Binds (KX P) y0u ["tale"] []:=(z3e P).binds λ _ _ _ _ _ _=>us1 λ _=>rfl
theorem sc_is_regular:FnScope ["tale","told","written","number","read"] ["tale"] (z06 y1y):=.k
noncomputable abbrev y2j:Stmt:=top 41
noncomputable abbrev y1v:FuncData:=fnX "is_safe" "is_safe" (top 41) "talejudge.weaker" 555 257
theorem z89 (P:M0):Fun (KX P) "is_safe" "is_safe" y2j 258 y1v:=z0a
theorem zf6 (P:M0):Binds (KX P) y1v ["tale"] []:=(z89 P).binds λ _ _ _ _ _ _=>us1 λ _=>rfl
theorem sc_is_safe:FnScope ["tale","told","written","number","read"] ["tale"] (z06 y2j):=.k
noncomputable abbrev y19:Stmt:=top 42
noncomputable abbrev y0a:FuncData:=fnX "writes_beside" "writes_beside" (top 42) "talejudge.weaker" 555 262
theorem z1p (P:M0):Fun (KX P) "writes_beside" "writes_beside" y19 263 y0a:=z0a
theorem z6n (P:M0):Binds (KX P) y0a ["written","read"] []:=(z1p P).binds λ _ _ _ _ _ _=>us2 λ _ _=>rfl
theorem sc_writes_beside:FnScope ["written","read","begun"] ["written","read"] (z06 y19):=.k
noncomputable abbrev y1z:Stmt:=top 43
noncomputable abbrev y0v:FuncData:=fnX "last_ahead" "last_ahead" (top 43) "talejudge.weaker" 555 267
theorem z3g (P:M0):Fun (KX P) "last_ahead" "last_ahead" y1z 268 y0v:=z0a
theorem zaq (P:M0):Binds (KX P) y0v ["written","read"] []:=(z3g P).binds λ _ _ _ _ _ _=>us2 λ _ _=>rfl
theorem z9f:FnScope ["written","read"] ["written","read"] (z06 y1z):=.k
noncomputable abbrev y20:Stmt:=top 44
noncomputable abbrev y0w:FuncData:=fnX "turn_about" "turn_about" (top 44) "talejudge.weaker" 555 272
theorem z3f (P:M0):Fun (KX P) "turn_about" "turn_about" y20 273 y0w:=z0a
theorem zas (P:M0):Binds (KX P) y0w ["tale"] []:=(z3f P).binds λ _ _ _ _ _ _=>us1 λ _=>rfl
theorem sc_turn_about:FnScope ["tale","told","written","reads","number","read","behind","other"] ["tale"] (z06 y20):=.k
noncomputable abbrev y2l:Stmt:=top 47
noncomputable abbrev y27:FuncData:=fnX "has_to" "has_to" (top 47) "talejudge.orders" 603 280
theorem za4 (P:M0):Fun (KX P) "has_to" "has_to" y2l 281 y27:=z0a
theorem zh1 (P:M0):Binds (KX P) y27 ["tale","strictness"] []:=(za4 P).binds λ _ _ _ _ _ _=>us2 λ _ _=>rfl
theorem sc_has_to:FnScope ["tale","strictness","told","pairs","ahead","one","behind","other"] ["tale","strictness"] (z06 y2l):=.k
noncomputable abbrev y0f:Stmt:=top 48
noncomputable abbrev y06:FuncData:=fnX "check_strictness" "check_strictness" (top 48) "talejudge.orders" 603 287
theorem z0y (P:M0):Fun (KX P) "check_strictness" "check_strictness" y0f 288 y06:=z0a
theorem z4u (P:M0):Binds (KX P) y06 ["strictness"] []:=(z0y P).binds λ _ _ _ _ _ _=>us1 λ _=>rfl
theorem z4c:FnScope ["strictness"] ["strictness"] (z06 y0f):=.k
noncomputable abbrev y21:Stmt:=top 49
noncomputable abbrev y0x:FuncData:=fnX "goes_ahead" "goes_ahead" (top 49) "talejudge.orders" 603 294
theorem z34 (P:M0):Fun (KX P) "goes_ahead" "goes_ahead" y21 295 y0x:=z0a
theorem z9s (P:M0):Binds (KX P) y0x ["one","other","strictness"] []:=(z34 P).binds λ _ _ _ _ _ _=>us3 λ _ _ _=>rfl
theorem z8u:FnScope ["one","other","strictness"] ["one","other","strictness"] (z06 y21):=.k
noncomputable abbrev y2k:Stmt:=top 53
noncomputable abbrev y1w:FuncData:=fnX "step_of" "step_of" (top 53) "talejudge.places" 639 367
theorem z7i (P:M0):Fun (KX P) "step_of" "step_of" y2k 368 y1w:=z0a
theorem zfh (P:M0):Binds (KX P) y1w ["candidate","place"] []:=(z7i P).binds λ _ _ _ _ _ _=>us2 λ _ _=>rfl
theorem sc_step_of:FnScope ["candidate","place","thing","states","done","numbers"] ["candidate","place"] (z06 y2k):=.k
noncomputable abbrev y1a:Stmt:=top 54
noncomputable abbrev y0b:FuncData:=fnX "ended_numbers" "ended_numbers" (top 54) "talejudge.places" 639 372
theorem z1o (P:M0):Fun (KX P) "ended_numbers" "ended_numbers" y1a 373 y0b:=z0a
theorem z6m (P:M0):Binds (KX P) y0b ["told"] []:=(z1o P).binds λ _ _ _ _ _ _=>us1 λ _=>rfl
theorem z5q:FnScope ["told"] ["told"] (z06 y1a):=.k
noncomputable abbrev y28:Stmt:=top 55
noncomputable abbrev y1b:FuncData:=fnX "holds_all" "holds_all" (top 55) "talejudge.places" 639 377
theorem z4h (P:M0):Fun (KX P) "holds_all" "holds_all" y28 378 y1b:=z0a
theorem zcf (P:M0):Binds (KX P) y1b ["done","numbers"] []:=(z4h P).binds λ _ _ _ _ _ _=>us2 λ _ _=>rfl
theorem zat:FnScope ["done","numbers"] ["done","numbers"] (z06 y28):=.k
noncomputable abbrev y1p:Stmt:=top 56
noncomputable abbrev y0o:FuncData:=fnX "first_place" "first_place" (top 56) "talejudge.places" 639 382
theorem z25 (P:M0):Fun (KX P) "first_place" "first_place" y1p 383 y0o:=z0a
theorem z8m (P:M0):Binds (KX P) y0o ["tale"] []:=(z25 P).binds λ _ _ _ _ _ _=>us1 λ _=>rfl
theorem z76:FnScope ["tale"] ["tale"] (z06 y1p):=.k
noncomputable abbrev y2m:Stmt:=top 58
noncomputable abbrev y29:FuncData:=fnX "judged" "judged" (top 58) "talejudge.judge" 772 389
theorem z9x (P:M0):Fun (KX P) "judged" "judged" y2m 390 y29:=z0a
theorem zhn (P:M0):Binds (KX P) y29 ["tale","strictness"] []:=(z9x P).binds λ _ _ _ _ _ _=>us2 λ _ _=>rfl
theorem sc_judged:FnScope ["tale","strictness","board","seen","waiting","reached","number","answer","place"] ["tale","strictness"] (z06 y2m):=.k
noncomputable abbrev y1g:Stmt:=top 60
noncomputable abbrev y0e:FuncData:=fY "_law_cell_at" "_law_cell_at" (top 60) 396
theorem z1w (P:M0):Fun (KX P) "_law_cell_at" "_law_cell_at" y1g 397 y0e:=z0a
theorem z7l (P:M0):Binds (KX P) y0e ["script","k"] []:=(z1w P).binds λ _ _ _ _ _ _=>us2 λ _ _=>rfl
theorem z6h:FnScope ["script","k"] ["script","k"] (z06 y1g):=.k
noncomputable abbrev y1q:Stmt:=top 61
noncomputable abbrev y0p:FuncData:=fY "_law_stream" "_law_stream" (top 61) 403
theorem z29 (P:M0):Fun (KX P) "_law_stream" "_law_stream" y1q 404 y0p:=z0a
theorem z8b (P:M0):Binds (KX P) y0p ["cell","way"] []:=(z29 P).binds λ _ _ _ _ _ _=>us2 λ _ _=>rfl
theorem sc__law_stream:FnScope ["cell","way","low"] ["cell","way"] (z06 y1q):=.k
noncomputable abbrev y2a:Stmt:=top 62
noncomputable abbrev y1c:FuncData:=fY "_law_take" "_law_take" (top 62) 410
theorem z4n (P:M0):Fun (KX P) "_law_take" "_law_take" y2a 411 y1c:=z0a
theorem zcj (P:M0):Binds (KX P) y1c ["row","many"] []:=(z4n P).binds λ _ _ _ _ _ _=>us2 λ _ _=>rfl
theorem sc__law_take:FnScope ["row","many","told"] ["row","many"] (z06 y2a):=.k
noncomputable abbrev y22:Stmt:=top 63
noncomputable abbrev y0y:FuncData:=fY "_law_worth" "_law_worth" (top 63) 417
theorem z3a (P:M0):Fun (KX P) "_law_worth" "_law_worth" y22 418 y0y:=z0a
theorem zai (P:M0):Binds (KX P) y0y ["row"] []:=(z3a P).binds λ _ _ _ _ _ _=>us1 λ _=>rfl
theorem sc__law_worth:FnScope ["row","kind"] ["row"] (z06 y22):=.k
noncomputable abbrev y2b:Stmt:=top 64
noncomputable abbrev y1d:FuncData:=fY "_law_name" "_law_name" (top 64) 424
theorem z4l (P:M0):Fun (KX P) "_law_name" "_law_name" y2b 425 y1d:=z0a
theorem zci (P:M0):Binds (KX P) y1d ["row"] []:=(z4l P).binds λ _ _ _ _ _ _=>us1 λ _=>rfl
theorem sc__law_name:FnScope ["row","letters","name","k"] ["row"] (z06 y2b):=.k
noncomputable abbrev y23:Stmt:=top 65
noncomputable abbrev y0z:FuncData:=fY "_law_fresh" "_law_fresh" (top 65) 431
theorem z3c (P:M0):Fun (KX P) "_law_fresh" "_law_fresh" y23 432 y0z:=z0a
theorem z9z (P:M0):Binds (KX P) y0z ["row","used"] []:=(z3c P).binds λ _ _ _ _ _ _=>us2 λ _ _=>rfl
theorem sc__law_fresh:FnScope ["row","used","worth"] ["row","used"] (z06 y23):=.k
noncomputable abbrev y1r:Stmt:=top 66
noncomputable abbrev y0q:FuncData:=fY "_law_answer" "_law_answer" (top 66) 438
theorem z2s (P:M0):Fun (KX P) "_law_answer" "_law_answer" y1r 439 y0q:=z0a
theorem z8q (P:M0):Binds (KX P) y0q ["row","worths"] []:=(z2s P).binds λ _ _ _ _ _ _=>us2 λ _ _=>rfl
theorem sc__law_answer:FnScope ["row","worths","kind","back"] ["row","worths"] (z06 y1r):=.k
noncomputable abbrev y1s:Stmt:=top 67
noncomputable abbrev y0r:FuncData:=fY "_law_events" "_law_events" (top 67) 445
theorem z2m (P:M0):Fun (KX P) "_law_events" "_law_events" y1s 446 y0r:=z0a
theorem z8i (P:M0):Binds (KX P) y0r ["cells","way","head","name"] []:=(z2m P).binds λ _ _ _ _ _ _=>us4 λ _ _ _ _=>rfl
theorem sc__law_events:FnScope ["cells","way","head","name","hands","writer","used","worths","busy","events","cell","row","hand","answer"] ["cells","way","head","name"] (z06 y1s):=.k
noncomputable abbrev y2c:Stmt:=top 68
noncomputable abbrev y1e:FuncData:=fY "_law_tale" "_law_tale" (top 68) 452
theorem z4p (P:M0):Fun (KX P) "_law_tale" "_law_tale" y2c 453 y1e:=z0a
theorem zc8 (P:M0):Binds (KX P) y1e ["script","most"] []:=(z4p P).binds λ _ _ _ _ _ _=>us2 λ _ _=>rfl
theorem sc__law_tale:FnScope ["script","most","first","head","name"] ["script","most"] (z06 y2c):=.k
noncomputable abbrev y24:Stmt:=top 69
noncomputable abbrev y14:FuncData:=fY "_law_deeds" "_law_deeds" (top 69) 459
theorem z39 (P:M0):Fun (KX P) "_law_deeds" "_law_deeds" y24 460 y14:=z0a
theorem zad (P:M0):Binds (KX P) y14 ["events"] []:=(z39 P).binds λ _ _ _ _ _ _=>us1 λ _=>rfl
theorem sc__law_deeds:FnScope ["events","found","last","place","event","deed"] ["events"] (z06 y24):=.k
noncomputable abbrev y0g:Stmt:=top 70
noncomputable abbrev y07:FuncData:=fY "_law_order_right" "_law_order_right" (top 70) 466
theorem z0x (P:M0):Fun (KX P) "_law_order_right" "_law_order_right" y0g 467 y07:=z0a
theorem z4i (P:M0):Binds (KX P) y07 ["events","order"] []:=(z0x P).binds λ _ _ _ _ _ _=>us2 λ _ _=>rfl
theorem sc__law_order_right:FnScope ["events","order","rows","worth","placed","seat","step","number","answer","verb","own","said","begin","end","deed","other"] ["events","order"] (z06 y0g):=.k
noncomputable abbrev y0s:Stmt:=top 71
noncomputable abbrev y08:FuncData:=fY "_law_turn_right" "_law_turn_right" (top 71) 473
theorem z14 (P:M0):Fun (KX P) "_law_turn_right" "_law_turn_right" y0s 474 y08:=z0a
theorem z5d (P:M0):Binds (KX P) y08 ["events","turn"] []:=(z14 P).binds λ _ _ _ _ _ _=>us2 λ _ _=>rfl
theorem sc__law_turn_right:FnScope ["events","turn","rows","since","verb","worth","answer","begin","end","one","other"] ["events","turn"] (z06 y0s):=.k
noncomputable abbrev y2q:Stmt:=top 72
noncomputable abbrev fd_law:FuncData:=fY "law" "law" (top 72) 480
theorem F_law (P:M0):Fun (KX P) "law" "law" y2q 481 fd_law:=z0a
theorem sc_law:FnScope ["script","tale","regular","turn","order"] ["script"] (z06 y2q):=.k
noncomputable abbrev y0c:Stmt:=subS (top 51) 0
noncomputable abbrev y01:FuncData:=fnX "__init__" "Candidate.__init__" (subS (top 51) 0) "talejudge.places" 639 306
theorem z1c (P:M0):Fun (KX P) "__init__" "Candidate.__init__" y0c 307 y01:=z0a
theorem z33 (P:M0):Binds (KX P) y01 ["self","number","deed","thing","kind","pairs"] []:=(z1c P).binds λ _ _ _ _ _ _=>us6 λ _ _ _ _ _ _=>rfl
theorem z2y:FnScope ["self","number","deed","thing","kind","pairs"] ["self","number","deed","thing","kind","pairs"] (z06 y0c):=.k
theorem zau (P:M0):Mk (KX P) 317 307:=⟨by kernel_rfl,by kernel_rfl,by kernel_rfl,by kernel_rfl⟩
theorem z09 (P:M0):Cls (KX P) 317:=⟨by kernel_rfl,by kernel_rfl,by kernel_rfl,by kernel_rfl⟩
theorem z0i (P:M0):NoAttr (KX P) 317 "number":=by unfold NoAttr;kernel_rfl
theorem z1r (P:M0):NoAttr (KX P) 317 "thing":=by unfold NoAttr;kernel_rfl
theorem z21 (P:M0):NoAttr (KX P) 317 "kind":=by unfold NoAttr;kernel_rfl
theorem z1z (P:M0):NoAttr (KX P) 317 "verb":=by unfold NoAttr;kernel_rfl
theorem z1u (P:M0):NoAttr (KX P) 317 "worth":=by unfold NoAttr;kernel_rfl
theorem z0u (P:M0):NoAttr (KX P) 317 "answer":=by unfold NoAttr;kernel_rfl
theorem z1j (P:M0):NoAttr (KX P) 317 "aheads":=by unfold NoAttr;kernel_rfl
theorem z1e (P:M0):NoAttr (KX P) 317 "behinds":=by unfold NoAttr;kernel_rfl
noncomputable abbrev y09:Stmt:=subS (top 51) 1
noncomputable abbrev y00:FuncData:=fnX "may_stand" "Candidate.may_stand" (subS (top 51) 1) "talejudge.places" 639 313
theorem z16 (P:M0):Fun (KX P) "may_stand" "Candidate.may_stand" y09 314 y00:=z0a
theorem z2x (P:M0):Binds (KX P) y00 ["self","done"] []:=(z16 P).binds λ _ _ _ _ _ _=>us2 λ _ _=>rfl
theorem sc_Candidate_may_stand:FnScope ["self","done","ahead","behind"] ["self","done"] (z06 y09):=.k
theorem z2k (P:M0):Meth (KX P) 317 "may_stand" 314:=⟨by kernel_rfl,by kernel_rfl,by kernel_rfl⟩
noncomputable abbrev y15:Stmt:=subS (top 52) 0
noncomputable abbrev y03:FuncData:=fnX "__init__" "Board.__init__" (subS (top 52) 0) "talejudge.places" 639 332
theorem z2n (P:M0):Fun (KX P) "__init__" "Board.__init__" y15 333 y03:=z0a
theorem z60 (P:M0):Binds (KX P) y03 ["self","tale","strictness"] []:=(z2n P).binds λ _ _ _ _ _ _=>us3 λ _ _ _=>rfl
theorem sc_Board___init__:FnScope ["self","tale","strictness","pairs","told","names","number","deed","thing"] ["self","tale","strictness"] (z06 y15):=.k
theorem zhf (P:M0):Mk (KX P) 357 333:=⟨by kernel_rfl,by kernel_rfl,by kernel_rfl,by kernel_rfl⟩
theorem z1b (P:M0):Cls (KX P) 357:=⟨by kernel_rfl,by kernel_rfl,by kernel_rfl,by kernel_rfl⟩
theorem z4b (P:M0):NoAttr (KX P) 357 "kinds":=by unfold NoAttr;kernel_rfl
theorem z3o (P:M0):NoAttr (KX P) 357 "first":=by unfold NoAttr;kernel_rfl
theorem z43 (P:M0):NoAttr (KX P) 357 "ended":=by unfold NoAttr;kernel_rfl
theorem z0v (P:M0):NoAttr (KX P) 357 "candidates":=by unfold NoAttr;kernel_rfl
noncomputable abbrev y0h:Stmt:=subS (top 52) 1
noncomputable abbrev y02:FuncData:=fnX "steps_from" "Board.steps_from" (subS (top 52) 1) "talejudge.places" 639 339
theorem z1t (P:M0):Fun (KX P) "steps_from" "Board.steps_from" y0h 340 y02:=z0a
theorem z4g (P:M0):Binds (KX P) y02 ["self","place"] []:=(z1t P).binds λ _ _ _ _ _ _=>us2 λ _ _=>rfl
theorem sc_Board_steps_from:FnScope ["self","place","steps","candidate","step"] ["self","place"] (z06 y0h):=.k
theorem z3l (P:M0):Meth (KX P) 357 "steps_from" 340:=⟨by kernel_rfl,by kernel_rfl,by kernel_rfl⟩
noncomputable abbrev y1f:Stmt:=subS (top 52) 2
noncomputable abbrev y05:FuncData:=fnX "ends_at" "Board.ends_at" (subS (top 52) 2) "talejudge.places" 639 346
theorem z31 (P:M0):Fun (KX P) "ends_at" "Board.ends_at" y1f 347 y05:=z0a
theorem z6f (P:M0):Binds (KX P) y05 ["self","place"] []:=(z31 P).binds λ _ _ _ _ _ _=>us2 λ _ _=>rfl
theorem z5u:FnScope ["self","place"] ["self","place"] (z06 y1f):=.k
theorem z5r (P:M0):Meth (KX P) 357 "ends_at" 347:=⟨by kernel_rfl,by kernel_rfl,by kernel_rfl⟩
section
variable {P:Program} {w:Q0} {mg:Str->Option Value} {base:Heap}
def z30 (K:d0):Sp:=λ vs H Q _=>∃(a:Addr) (ns:List Int),vs=[.ref a,.int 0]/\SqL K H a (ns.map V.int)/\∀i,Q (.int i) H
theorem z6j (T:TX (kx w) mg):Fo P w mg base CX0 1 397 y0e ["script","k"] (z30 (kx w)):=by
 refine (z1w w.params).ok z6h (λ c H Q E h=>?_) (λ f A d s H c Q E e h=>?_)
 ·obtain ⟨a,b,rfl,_⟩:=h;rfl
 ·obtain ⟨a,b,rfl,sq,q⟩:=h;refine ⟨_,(z01 (ps_if (z08 op_lt (pv 1) (z0g z3s rfl (T.no (n_len _)) K5 (z00 (pv 0) pa_nil)) (nomark _))
   (z03 (ps_ret (pe_ix ix_seq (pv 0) (pv 1) (λ _ _=>rfl))))
   z0d)
   (z03 (ps_ret pe_int))),?_⟩
  refine ⟨_,rfl,_,rfl,.inl ⟨a,_,rfl,.inl sq,_,_,rfl,rfl,_,rfl,?_⟩⟩;cases b with
  | nil=>exact iteF (q 0)
  | cons n b=>rw [if_pos (by simp)];exact ⟨_,rfl,_,rfl,.inl ⟨a,_,0,.int n,rfl,rfl,sq,z04 (xs:=(n :: b).map V.int) (j:=0) rfl,q n⟩⟩
def z1v:Sp:=λ vs H Q _=>∃(c d:Int),vs=[.int c,.int d]/\∀p t,H p=none->0<=t->t < 536870909->Q (.ref p) (upd H p (.lst [.int c,.int d,.int t]))
theorem z84 (T:TX (kx w) mg):Fo P w mg base CX0 1 404 y0p ["cell","way"] z1v:=by
 refine (z29 w.params).ok sc__law_stream (λ a H Q E h=>?_) (λ g A e s H a Q E l h=>?_)
 ·obtain ⟨c,d,rfl,_⟩:=h;rfl
 ·obtain ⟨c,d,rfl,q⟩:=h;refine ⟨_,(z01 (ps_set (i:=2) sc__law_stream.nd rfl (O0 rfl) (pe_op op_mod (pv 0) pe_int))
   (z03 (ps_ret (pe_lst (z00 (pv 0) (z00 (pv 1) (z00 (pe_op op_mod (pe_op opAdd (pe_op op_mul (pe_op op_mod (pe_op op_mul (pv 2) (pv 2)) pe_int) (pe_op opAdd (pv 2) pe_int)) pe_int) pe_int) pa_nil))))))),?_⟩
  have k:0<=c % 536870909:=Z4 _ (by decide);have j:c % 536870909 < 536870909:=i4 _ (by decide);refine ⟨_,rfl,_,_,rfl,rfl,(show (0:Int) < 536870909 by decide),?_⟩;refine ⟨_,rfl,_,rfl,_,rfl,_,rfl,_,_,rfl,rfl,.inl ⟨by lia,by lia⟩,_,_,rfl,rfl,(show (0:Int) < 536870909 by decide),?_⟩;have m:0<=(c % 536870909 * (c % 536870909)) % 536870909:=Z4 _ (by decide);have f:(c % 536870909 * (c % 536870909)) % 536870909 < 536870909:=i4 _ (by decide);refine ⟨_,rfl,.inl ⟨_,_,rfl,rfl,_,_,rfl,rfl,.inl ⟨by lia,by lia⟩,.inl ⟨_,_,rfl,rfl,_,_,rfl,rfl,(show (0:Int) < 536870909 by decide),?_⟩⟩⟩;exact ⟨w_3,λ p b=>q p _ b (Z4 _ (by decide)) (i4 _ (by decide))⟩
def z1f:Sp:=λ vs H Q _=>∃(r:Addr) (m:Int),vs=[.ref r,.int m]/\RowAt H r/\0 < m/\m < 2 ^ 64/\∀t H',Rw r H H'->0<=t->t < m->Q (.int t) H'
theorem z9t (T:TX (kx w) mg):Fo P w mg base CX0 1 411 y1c ["row","many"] z1f:=by
 refine (z4n w.params).ok sc__law_take (λ l H Q E h=>?_) (λ z A y s H l Q E B h=>?_)
 ·obtain ⟨r,m,rfl,_⟩:=h;rfl
 ·obtain ⟨r,m,rfl,⟨a,b,c,e,n,x⟩,g,o,q⟩:=h;refine ⟨_,(z01 (ps_if (PW.pt (pw_and (z08 opEq (pe_ix ix_seq (pv 0) pe_int (λ _ _=>rfl)) pe_int (nomark _)) (z2i (z08 z36 (pe_ix ix_seq (pv 0) pe_int (λ _ _=>rfl)) (pe_tup (z00 pe_int (z00 (pe_un un_neg pe_int) pa_nil))) (by with_unfolding_all rfl)))))
   (z01 (ps_set (i:=2) sc__law_take.nd rfl (O0 rfl) (pe_op op_mod (pe_ix ix_seq (pv 0) pe_int (λ _ _=>rfl)) (pv 1)))
   (z01 (ps_asg (pe_op za1 (pe_ix ix_seq (pv 0) pe_int (λ _ _=>rfl)) (pv 1)) (pg_sub (pv 0) pe_int z4f))
   (z03 (ps_ret (pv 2)))))
   z0d)
   (z01 (ps_asg (pe_op op_mod (pe_op op_mul (pe_op opAdd (pe_ix ix_seq (pv 0) pe_int (λ _ _=>rfl)) pe_int) (pe_op opAdd (pe_ix ix_seq (pv 0) pe_int (λ _ _=>rfl)) pe_int)) pe_int) (pg_sub (pv 0) pe_int z4f))
   (z03 (ps_ret (pe_op op_mod (pe_op opAdd (pe_op op_mul (pe_ix ix_seq (pv 0) pe_int (λ _ _=>rfl)) pe_int) pe_int) (pv 1)))))),?_⟩
  have j :∀f,Same H f->SqL (kx w) f r [.int a,.int b,.int c]:=λ f d=>SqL.of (d _ _ e);refine seq_if (λ f=>Same H f) (λ f d=>?_) λ k=>?_
  ·have u:0<=((c + 7919) * (c + 104729)) % 536870909:=Z4 _ (by decide);have t:((c + 7919) * (c + 104729)) % 536870909 < 536870909:=i4 _ (by decide);refine ⟨_,rfl,.inl ⟨r,_,2,.int c,rfl,rfl,j f d,rfl,.inl ⟨_,_,rfl,rfl,?_⟩⟩⟩;refine ⟨_,rfl,.inl ⟨r,_,2,.int c,rfl,rfl,j f d,rfl,.inl ⟨_,_,rfl,rfl,?_⟩⟩⟩;refine ⟨_,_,rfl,rfl,.inl ⟨by lia,by lia⟩,_,_,rfl,rfl,(show (0:Int) < 536870909 by decide),?_⟩;refine ⟨_,rfl,r,_,2,2,rfl,rfl,d _ _ e,rfl,?_⟩;refine ⟨_,rfl,.inl ⟨r,_,2,.int _,rfl,rfl,SqL.of upd_same,rfl,?_⟩⟩;refine ⟨_,_,rfl,rfl,.inl ⟨by lia,by lia⟩,.inl ⟨_,_,rfl,rfl,_,rfl,_,_,rfl,rfl,g,?_⟩⟩;exact q _ _ ⟨(Same.kept d).trans .set,a,b,_,upd_same,u,t⟩ (Z4 _ (by lia)) (i4 _ g)
  ·refine ⟨_,rfl,.inl ⟨r,_,1,.int b,rfl,rfl,SqL.of e,rfl,rfl,_,rfl,?_⟩⟩;by_cases hb:b=0
   ·subst hb;refine iteT ⟨_,rfl,.inl ⟨r,_,0,.int a,rfl,rfl,SqL.of e,rfl,?_⟩⟩;refine ⟨_,rfl,w_2,λ p v=>⟨p,_,rfl,.inr (SqT.of upd_same),rfl,rfl,_,rfl,?_⟩⟩;have d:Same H (upd H p (.tup [.int 0,.int (-1)])):=Same.upd v;refine ite2 (λ _=>?_) λ _=>k _ d;refine ⟨_,rfl,.inl ⟨r,_,0,.int a,rfl,rfl,j _ d,rfl,_,rfl,_,_,rfl,rfl,g,?_⟩⟩;refine ⟨_,rfl,.inl ⟨r,_,0,.int a,rfl,rfl,j _ d,rfl,_,rfl,_,_,rfl,rfl,⟨g,o⟩,?_⟩⟩;refine ⟨_,rfl,r,_,0,0,rfl,rfl,d _ _ e,rfl,?_⟩;exact ⟨_,rfl,q _ _ ⟨(Same.kept d).trans .set,_,_,c,upd_same,n,x⟩ (Z4 _ (by lia)) (i4 _ g)⟩
   ·have:decide (V.int b=V.int 0)=false:=by simp [hb]
    rw [this];exact iteF (k _ (Same.refl H))
theorem e9:(10:Int) ^ (9:Int).toNat=1000000000:=by decide
theorem p9:CPow 10 9:=⟨by decide,by decide,by decide⟩
def z2a:Sp:=λ vs H Q _=>∃r:Addr,vs=[.ref r]/\RowAt H r/\∀i H',Rw r H H'->-1000000000<=i->i<=1000000000->Q (.int i) H'
theorem z95 (T:TX (kx w) mg) (c0:Ca P w mg base "_law_take" ["row","many"] 1 z1f):Fo P w mg base CX0 2 418 y0y ["row"] z2a:=by
 refine (z3a w.params).ok sc__law_worth (λ m H Q E h=>?_) (λ x A u s H m Q E d h=>?_)
 ·obtain ⟨r,rfl,_⟩:=h;rfl
 ·obtain ⟨r,rfl,R,q⟩:=h;refine ⟨_,(z01 (ps_set (i:=1) sc__law_worth.nd rfl (O0 rfl) (pe_cal c0 (d.mono (by decide)) rfl (z00 (pv 0) (z00 pe_int pa_nil))))
   (z01 (ps_if (z08 opEq (pv 1) pe_int (nomark _))
   (z03 (ps_ret (pe_op op_sub (pe_cal c0 (d.mono (by decide)) rfl (z00 (pv 0) (z00 (pe_op opAdd (pe_op op_mul pe_int (pe_op op_pow pe_int pe_int)) pe_int) pa_nil))) (pe_op op_pow pe_int pe_int))))
   z0d)
   (z01 (ps_if (z08 opEq (pv 1) pe_int (nomark _))
   (z03 (ps_ret (pe_ix ix_seq (pe_lst (z00 (pe_op op_pow pe_int pe_int) (z00 (pe_un un_neg (pe_op op_pow pe_int pe_int)) (z00 (pe_op op_sub (pe_op op_pow pe_int pe_int) pe_int) (z00 (pe_op op_sub pe_int (pe_op op_pow pe_int pe_int)) pa_nil))))) (pe_cal c0 (d.mono (by decide)) rfl (z00 (pv 0) (z00 pe_int pa_nil))) (λ _ _=>rfl))))
   z0d)
   (z03 (ps_ret (pe_op op_sub (pe_cal c0 (d.mono (by decide)) rfl (z00 (pv 0) (z00 pe_int pa_nil))) pe_int)))))),?_⟩
  refine ⟨_,rfl,r,4,rfl,R,by decide,by decide,λ t B b z y=>?_⟩;refine ⟨_,rfl,rfl,_,rfl,?_⟩;refine ite2 (λ _=>?_) λ _=>?_
  ·refine ⟨_,rfl,_,_,rfl,rfl,p9,_,_,rfl,rfl,.inl ⟨by decide,by decide⟩,.inl ⟨_,_,rfl,rfl,r,_,rfl,b.r,by decide,by decide,λ j e a g c=>?_⟩⟩;rw [e9] at c;refine ⟨_,_,rfl,rfl,p9,_,_,rfl,rfl,?_⟩;rw [e9];exact q _ _ (b.trans a) (by lia) (by lia)
  ·refine ⟨_,rfl,rfl,_,rfl,?_⟩;refine ite2 (λ _=>?_) λ _=>?_
   ·refine ⟨_,_,rfl,rfl,p9,_,_,rfl,rfl,p9,_,rfl,_,_,rfl,rfl,p9,_,_,rfl,rfl,_,_,rfl,rfl,p9,_,_,rfl,rfl,w_4,λ p f=>?_⟩;refine ⟨_,rfl,r,4,rfl,b.r.same (Same.upd f),by decide,by decide,λ j e a g c=>?_⟩;rw [e9] at a;obtain ⟨v,o,l⟩:=atI_of (xs:=[V.int 1000000000,.int (-1000000000),.int (1000000000 - 1),.int (1 - 1000000000)]) g c;refine .inl ⟨p,_,_,v,rfl,rfl,SqL.of (a.k _ _ (b.r.fresh f) upd_same),o,?_⟩;have n:Rw r H e:=(b.same (Same.upd f)).trans a;simp only [T2,B0,or_false] at l;rcases l with rfl|rfl|rfl|rfl<;>exact q _ _ n (by decide) (by decide)
   ·refine ⟨_,rfl,r,7,rfl,b.r,by decide,by decide,λ j e a g c=>?_⟩;exact ⟨_,_,rfl,rfl,q _ _ (b.trans a) (by lia) (by lia)⟩
inductive Ev
 | beg (h:Int) (n v x:V)
 | fin (h:Int) (a:V)
noncomputable def EvAt (K:d0) (H:Hp):Ev->V->Prop
 | .beg h n v x,y=>∃p,y=.ref p/\SqT K H p [.str "begin",.int h,n,v,x]
 | .fin h a,y=>∃p,y=.ref p/\SqT K H p [.str "end",.int h,a]
structure Rc where
 h:Int
 n:V
 v:V
 x:V
 a:V
 b:Nat
 e:Option Nat
noncomputable def endV:Option Nat->V
 | none=>.non
 | some i=>.int i
def RcAt (K:d0) (H:Hp) (r:Rc) (y:V):Prop:=∃p,y=.ref p/\SqT K H p [.int r.h,r.n,r.v,r.x,r.a,.int r.b,endV r.e]
def Tups (K:d0) (H H':Hp):Prop:=∀a xs,SqT K H a xs->SqT K H' a xs
theorem Tups.of {K:d0} {H H':Hp} (s:Same H H'):Tups K H H':=λ _ _ q=>s.seqT q
theorem Tups.trans {K:d0} {H H1 H2:Hp} (a:Tups K H H1) (b:Tups K H1 H2):Tups K H H2:=λ _ _ q=>b _ _ (a _ _ q)
theorem Tups.lst {K:d0} {H:Hp} {l:Addr} {o:HO} {zs:List V} (e:H l=some (.lst zs)):Tups K H (upd H l o):=λ _ _ q=>q.wrote e
theorem Tups.dict {K:d0} {H:Hp} {l:Addr} {o:HO} {kvs:List (Key×V)} (e:H l=some (.dK kvs)):Tups K H (upd H l o):=λ a b h=>by
 rcases h with (h|⟨ob,h⟩)|h
 ·exact .inl (.inl (by rw [upd_ne (ne_of h e (by intro z;cases z))];exact h))
 ·exact .inl (.inr ⟨ob,by rw [upd_ne (ne_of h e (by intro z;cases z))];exact h⟩)
 ·exact .inr h
theorem ziw {n j:Nat} (h:j < n):ixN n (j:Nat)=some j:=by unfold ixN;rw [if_pos (by lia),if_pos (by lia)];rfl
theorem Same.keep {H H':Hp} {l:Addr} {o:HO} (s:Same H H') (n:H l=none):Same H (upd H' l o):=λ a x e=>by rw [upd_ne (z0e e n)];exact s a x e
theorem z0q {α β:Type} {R:α->β->Prop} {x:α} {y:β} :∀{xs:List α} {ys:List β},All2 R xs ys->R x y->All2 R (xs++[x]) (ys++[y])
 | _,_,.nil,h=>.cons h .nil
 | _,_,.cons a r,h=>.cons a (z0q r h)
theorem z5m {κ:Type} [DecidableEq κ] {kvs:List (κ×V)} {k:κ} {v:V}:(putK kvs k v).length<=kvs.length + 1:=by
 unfold putK;by_cases z:(kvs.any λ a=>decide (a.1=k))=true
 ·rw [if_pos z,L0];lia
 ·rw [if_neg z,D0];exact C0 _
noncomputable def lastI (h:Int) (hs:List Int):Option Nat:=(hs.foldl (λ (acc:Nat×Option Nat) k=>(acc.1 + 1,if k=h then some acc.1 else acc.2)) (0,none)).2
theorem lastF (h:Int) :∀hs:List Int,(hs.foldl (λ (acc:Nat×Option Nat) k=>(acc.1 + 1,if k=h then some acc.1 else acc.2)) (0,none)).1=hs.length:=by
 have b :∀(hs:List Int) (a:Nat×Option Nat),(hs.foldl (λ (acc:Nat×Option Nat) k=>(acc.1 + 1,if k=h then some acc.1 else acc.2)) a).1=a.1 + hs.length:=by
  intro hs;induction hs with
  | nil=>intro a;rfl
  | cons k hs ih=>intro a;rw [Y4,ih,D1];show a.1 + 1 + hs.length=_;lia
 intro hs;rw [b hs (0,none)];simp
theorem z1q (h k:Int) (hs:List Int):lastI h (hs++[k])=if k=h then some hs.length else lastI h hs:=by unfold lastI;rw [u5];show (if k=h then some _ else _)=_;rw [lastF]
theorem z7d {h:Int} {hs:List Int} {j:Nat} (e:lastI h hs=some j):j < hs.length:=by
 have c :∀(hs:List Int) (a:Nat×Option Nat),(∀j,a.2=some j->j < a.1)->∀j,(hs.foldl (λ (acc:Nat×Option Nat) k=>(acc.1 + 1,if k=h then some acc.1 else acc.2)) a).2=some j->j < a.1 + hs.length:=by
  intro hs;induction hs with
  | nil=>intro a b j e;exact b j e
  | cons k hs ih=>
   intro a b j e;rw [Y4] at e;have:=ih (a.1 + 1,if k=h then some a.1 else a.2) (λ j e=>by
    dsimp only at e⊢;by_cases z:k=h
    ·rw [if_pos z] at e;cases e;lia
    ·rw [if_neg z] at e;have:=b j e;lia) j e
   rw [D1];dsimp only at this
   lia
 have:=c hs (0,none) (λ j e=>by cases e) j e;simpa using this
noncomputable def dstep (i:Nat) (rs:List Rc):Ev->List Rc
 | .beg h n v x=>rs++[⟨h,n,v,x,.non,i,none⟩]
 | .fin h a=>match lastI h (rs.map Rc.h) with|some j=>rs.modify j (λ r=>{ r with a:=a,e:=some i })|none=>rs
noncomputable def dAll:Nat->List Rc->List Ev->List Rc
 | _,rs,[]=>rs
 | i,rs,e :: es=>dAll (i + 1) (dstep i rs e) es
noncomputable def dWf:Nat->List Rc->List Ev->Prop
 | _,_,[]=>True
 | i,rs,e :: es=>(∀h a,e=.fin h a->(lastI h (rs.map Rc.h)).isSome=true)/\dWf (i + 1) (dstep i rs e) es
theorem RcAt.tups {K:d0} {H H':Hp} {r:Rc} {y:V} (t:Tups K H H') (h:RcAt K H r y):RcAt K H' r y:=h.elim λ p z=>⟨p,z.1,t _ _ z.2⟩
theorem EvAt.tups {K:d0} {H H':Hp} (t:Tups K H H') :∀{e:Ev} {y:V},EvAt K H e y->EvAt K H' e y
 | .beg h n v x,_,z=>z.elim λ p z=>⟨p,z.1,t _ _ z.2⟩
 | .fin h a,_,z=>z.elim λ p z=>⟨p,z.1,t _ _ z.2⟩
theorem z6w {α β:Type} {R:α->β->Prop} {f:α->α} {y:β} :∀{xs:List α} {ys:List β} {j:Nat} {x:α},All2 R xs ys->xs[j]? = some x->R (f x) y->All2 R (xs.modify j f) (ys.set j y)
 | _,_,_,_,.nil,e,_=>by simp at e
 | _,_,0,x,.cons a r,e,h=>by rw [P2] at e;cases e;exact .cons h r
 | _,_,j + 1,x,.cons a r,e,h=>by rw [Z1] at e;exact .cons a (z6w r e h)
theorem z4z {α β:Type} {R:α->β->Prop} :∀{xs:List α} {ys:List β} {i:Nat} {x:α},All2 R xs ys->xs[i]? = some x->∃y,ys[i]? = some y/\R x y
 | _,_,i,x,.nil,e=>by simp at e
 | _,_,0,x,.cons a _,e=>by rw [P2] at e;cases e;exact ⟨_,P2,a⟩
 | _,_,i + 1,x,.cons _ r,e=>by rw [Z1] at e;obtain ⟨y,c,b⟩:=z4z r e;exact ⟨y,by rw [Z1];exact c,b⟩
def z78 (K:d0):Sp:=λ vs H Q _=>∃(t te:Addr) (th:V) (ys:List V) (es:List Ev),vs=[.ref t]/\SqT K H t [th,.ref te]/\SqT K H te ys/\All2 (EvAt K H) es ys/\es.length<=100/\dWf 0 [] es/\
 ∀l zs H',Same H H'->H l=none->H' l=some (.lst zs)->All2 (RcAt K H') (dAll 0 [] es) zs->Q (.ref l) H'
theorem zhv (T:TX (kx w) mg):Fo P w mg base CX0 1 209 y2f ["tale"] (z78 (kx w)):=by
 refine (zd3 w.params).ok sc_deeds (λ vs H Q E h=>?_) (λ c5 A c4 s H vs Q E hr h=>?_)
 ·obtain ⟨t,te,th,ys,B,rfl,_⟩:=h;rfl
 ·obtain ⟨t,te,th,ys,B,rfl,st,se,al,hl,wf,q⟩:=h;refine ⟨_,(z01 (ps_set (i:=1) sc_deeds.nd rfl (O0 rfl) (pe_lst pa_nil))
   (z01 (ps_set (i:=2) sc_deeds.nd rfl (O0 rfl) z7j)
   (z01 (ps_for L1 rfl (zdm rfl (T.no (z0m _)) (z00 (pe_ix ix_seq (pv 0) pe_int (λ _ _=>rfl)) pa_nil)) (pg_tup rfl (z07 (z0b (i:=3) sc_deeds.nd rfl (O0 rfl)) (z07 (z0b (i:=4) sc_deeds.nd rfl (O0 rfl)) z0j)))
   (z03 (ps_if (z08 opEq (pe_ix ix_seq (pv 4) pe_int (λ _ _=>rfl)) pe_str (nomark _))
   (z01 (z3t (hu_of hr) (pv 2) (pe_ix ix_seq (pv 4) pe_int (λ _ _=>rfl)) (z0g z3s rfl (T.no (n_len _)) K5 (z00 (pv 1) pa_nil)) rfl)
   (z03 (z2q (z11 (pv 1) (z00 (pe_op opAdd (z37 slSeq (pv 4) (z54 pe_int) z70) (pe_tup (z00 pe_non (z00 (pv 3) (z00 pe_non pa_nil))))) pa_nil)))))
   (z01 (ps_set (i:=5) sc_deeds.nd rfl (O0 rfl) (z58 (hu_of hr) (pv 2) (pe_ix ix_seq (pv 4) pe_int (λ _ _=>rfl)) (λ _ _=>rfl)))
   (z01 (ps_set (i:=6) sc_deeds.nd rfl (O0 rfl) (pe_ix ix_seq (pv 1) (pv 5) (λ _ _=>rfl)))
   (z03 (ps_asg (pe_op opAdd (z37 slSeq (pv 6) z70 (z54 pe_int)) (pe_tup (z00 (pe_ix ix_seq (pv 4) pe_int (λ _ _=>rfl)) (z00 (pe_ix ix_seq (pv 6) pe_int (λ _ _=>rfl)) (z00 (pv 3) pa_nil))))) (pg_sub (pv 1) (pv 5) z4f))))))))
   (z03 (ps_ret (pv 1)))))),?_⟩
  refine ⟨w_0,λ l a0=>?_⟩;intro d a5;have S:l≠d:=z0e upd_same a5;have s0:upd H l (.lst []) d=none->H d=none:=λ z=>by rwa [upd_ne S.symm] at z
  have s2:Same H (upd (upd H l (.lst [])) d (.dK [])):=(Same.upd a0).trans (Same.upd a5);have e1:upd (upd H l (.lst [])) d (.dK []) l=some (.lst []):=by rw [upd_ne S];exact upd_same
  have e2:upd (upd H l (.lst [])) d (.dK []) d=some (.dK []):=upd_same;generalize upd (upd H l (.lst [])) d (.dK [])=H2 at s2 e1 e2⊢;have b9:=z05 al;refine ⟨_,rfl,.inr (.inl ⟨t,_,1,.ref te,rfl,rfl,s2.seqT st,z04 (j:=1) rfl,te,ys,rfl,s2.seqT se,?_⟩)⟩;refine zbw (K:=KX w.params) (a:=te) (xs:=ys) (λ i σ R=>∃rs c f,R l=some (.lst c)/\All2 (RcAt (kx w) R) rs c/\R d=some (.dK f)/\f.length<=i/\rs.length<=i/\(∀h,valV f (.inl h)=(lastI h (rs.map Rc.h)).map λ j=>V.int (j:Nat))/\dAll i rs (B.drop i)=dAll 0 [] B/\dWf i rs (B.drop i)/\Same H R/\∃x3 x4 x5 x6,σ=[some (.ref t),some (.ref l),some (.ref d),x3,x4,x5,x6])
   ⟨[],[],[],e1,.nil,e2,C0 _,C0 _,λ h=>rfl,by rw [M4],by rw [M4];exact wf,s2,_,_,_,_,rfl⟩ (λ i σ R h=>?_) ?_ ?_
  ·obtain ⟨rs,c,f,_,_,_,_,_,_,_,_,s',_⟩:=h;exact s'.seqT se
  ·intro i y σ H3 p hy z0 hp;refine hid λ _ X=>?_;obtain ⟨rs,c,f,el,ar,ed,hk,a9,hv,C,J,s3,x3,x4,x5,x6,rfl⟩:=z0;refine X ?_;clear X;obtain ⟨e,he,ev⟩:=z0c al hy;obtain ⟨hi,ee⟩:=List.getElem?_eq_some_iff.mp he;have dr:B.drop i=e :: B.drop (i + 1):=by rw [T4 hi,ee]
   rw [dr] at C J;have s4:=s3.trans (Same.upd (o:=.tup [.int i,y]) hp);have M:=(Same.upd (o:=.tup [.int i,y]) hp) _ _ el;have O:=(Same.upd (o:=.tup [.int i,y]) hp) _ _ ed;have N:=z02 (λ a b z=>RcAt.tups (.of (Same.upd (o:=.tup [.int i,y]) hp)) z) ar;have a7:upd H3 p (.tup [.int i,y]) p=some (.tup [.int i,y]):=upd_same;generalize upd H3 p (.tup [.int i,y])=H4 at s4 M O N a7⊢;have b2:=EvAt.tups (.of s4) ev;refine ⟨p,_,rfl,SqT.of a7,rfl,.int i,_,rfl,y,_,rfl,rfl,?_⟩;have lz:c.length=rs.length:=z05 N;have a8:100<=sizeLine:=by decide
   have b0:i < 100:=O1 hi hl;cases e with
   | beg h n v x=>
    obtain ⟨I,rfl,G⟩:=b2;refine ⟨_,rfl,.inr (.inl ⟨I,_,0,.str "begin",rfl,rfl,G,z04 (j:=0) rfl,rfl,_,rfl,iteP (decide_eq_true rfl) ?_⟩)⟩;refine ⟨_,rfl,.inl ⟨l,c,rfl,.inl (SqL.of M),⟨_,rfl,⟨_,rfl,.inr (.inl ⟨I,_,1,.int h,rfl,rfl,G,z04 (j:=1) rfl,d,_,rfl,DPut.k (k:=.inl h) O (U0 hk (O1 b0 a8)),?_⟩)⟩⟩⟩⟩;have c2:H d=none:=s0 a5;have t5:Tups (kx w) H4 (upd H4 d (.dK (putK f (.inl h) (.int (c.length:Nat))))):=Tups.dict O;have s5:=Same.keep (o:=.dK (putK f (.inl h) (.int (c.length:Nat)))) s4 c2;have a1:upd H4 d (.dK (putK f (.inl h) (.int (c.length:Nat)))) l=some (.lst c):=by rw [upd_ne S];exact M
    have b4:upd H4 d (.dK (putK f (.inl h) (.int (c.length:Nat)))) d=some (.dK (putK f (.inl h) (.int (c.length:Nat)))):=upd_same;generalize upd H4 d (.dK (putK f (.inl h) (.int (c.length:Nat))))=H5 at t5 s5 a1 b4⊢;have b6:=t5 _ _ G;have b8:=z02 (λ a b z=>RcAt.tups t5 z) N;refine ⟨_,rfl,.inl ⟨rfl,c,SqL.of a1⟩,⟨_,rfl,1,rfl,.inr (.inl ⟨I,_,rfl,b6,λ z=>absurd z.1 (show ¬ HT.sIx 5 0 (some 1)=0 by decide),λ D U=>?_⟩)⟩⟩;have c1:cutV [V.str "begin",.int h,n,v,x] (some 1) none=[.int h,n,v,x]:=rfl;rw [c1];refine ⟨_,rfl,w_3,λ F L=>.inr (.inr (.inr ⟨D,F,_,_,rfl,rfl,(Same.upd L).seqT (SqT.of upd_same),SqT.of upd_same,by simp,w_7,λ z=>(by cases z),λ _ g a2=>?_⟩))⟩;have u:Same H5 (upd (upd (upd H5 D (.tup [.int h,n,v,x])) F (.tup [.non,.int i,.non])) g (.tup ([.int h,n,v,x]++[.non,.int i,.non]))):=((Same.upd U).trans (Same.upd L)).trans (Same.upd a2);have Z:upd (upd (upd H5 D (.tup [.int h,n,v,x])) F (.tup [.non,.int i,.non])) g (.tup ([.int h,n,v,x]++[.non,.int i,.non])) g=some (.tup ([.int h,n,v,x]++[.non,.int i,.non])):=upd_same;generalize upd (upd (upd H5 D (.tup [.int h,n,v,x])) F (.tup [.non,.int i,.non])) g (.tup ([.int h,n,v,x]++[.non,.int i,.non]))=H6 at u Z⊢;have W:=u _ _ a1;have a3:=u _ _ b4;have a4:=z02 (λ a b z=>RcAt.tups (.of u) z) b8;have Y:Tups (kx w) H6 (upd H6 l (.lst (c++[.ref g]))):=Tups.lst W;refine ⟨l,c,_,rfl,rfl,W,U0 (K0 (u8 lz) a9) (O1 b0 a8),?_⟩;refine ⟨rs++[⟨h,n,v,x,.non,i,none⟩],c++[.ref g],putK f (.inl h) (.int (c.length:Nat)),upd_same,?_,?_,?_,?_,?_,(show dAll (i + 1) (dstep i rs (.beg h n v x)) _=_ from C),J.2,Same.keep (s5.trans u) a0,_,_,_,_,rfl⟩
    ·exact z0q (z02 (λ a b z=>RcAt.tups Y z) a4) ⟨g,rfl,Y _ _ (SqT.of Z)⟩
    ·rw [upd_ne S.symm];exact a3
    ·exact K0 z5m (by lia)
    ·rw [D0];show rs.length + 1<=i + 1;lia
    ·intro k;rw [z4j,A1];show _=Option.map _ (lastI k (rs.map Rc.h++[h]));rw [z1q,hv k,L0,lz];by_cases z:h=k
     ·rw [if_pos z,if_pos (by rw [z])];rfl
     ·rw [if_neg z,if_neg (λ y=>z (O2 y).symm)]
   | fin h a=>
    obtain ⟨I,rfl,G⟩:=b2;obtain ⟨j,hj⟩:=Option.isSome_iff_exists.mp (J.1 h a rfl);have c3:valV f (.inl h)=some (.int (j:Nat)):=by rw [hv h,hj];rfl
    have b1:j < rs.length:=by have:=z7d hj;rwa [L0] at this
    have a6:rs[j]? = some rs[j]:=v1 b1;obtain ⟨yj,b7,pj,rfl,sj⟩:=z4z N a6;have c0:DGet H4 d (.int h) (some (.int (j:Nat))):=c3 ▸ DGet.k (k:=.inl h) O;refine ⟨_,rfl,.inr (.inl ⟨I,_,0,.str "end",rfl,rfl,G,z04 (j:=0) rfl,rfl,_,rfl,iteK ?_⟩)⟩;refine ⟨_,rfl,⟨_,rfl,.inr (.inl ⟨I,_,1,.int h,rfl,rfl,G,z04 (j:=1) rfl,d,_,rfl,c0,?_⟩)⟩⟩;refine ⟨_,rfl,_,rfl,.inl ⟨l,c,j,.ref pj,rfl,rfl,SqL.of M,z04 b7,?_⟩⟩;refine ⟨_,rfl,4,rfl,.inr (.inl ⟨pj,_,rfl,sj,λ z=>absurd z.2 (show ¬ HT.sIx 7 7 (some 4)=7 by decide),λ D U=>?_⟩)⟩;have c1:cutV [.int rs[j].h,rs[j].n,rs[j].v,rs[j].x,rs[j].a,.int rs[j].b,endV rs[j].e] none (some 4)=[.int rs[j].h,rs[j].n,rs[j].v,rs[j].x]:=rfl;rw [c1];refine ⟨_,rfl,.inr (.inl ⟨I,_,2,a,rfl,rfl,(Same.upd U).seqT G,z04 (j:=2) rfl,?_⟩)⟩;refine ⟨_,rfl,.inr (.inl ⟨pj,_,5,.int rs[j].b,rfl,rfl,(Same.upd U).seqT sj,z04 (j:=5) rfl,?_⟩)⟩;refine ⟨_,rfl,w_3,λ F L=>.inr (.inr (.inr ⟨D,F,_,_,rfl,rfl,(Same.upd L).seqT (SqT.of upd_same),SqT.of upd_same,by simp,w_7,λ z=>(by cases z),λ _ g a2=>?_⟩))⟩;have u:Same H4 _:=((Same.upd U).trans (Same.upd L)).trans (Same.upd (o:=.tup ([.int rs[j].h,rs[j].n,rs[j].v,rs[j].x]++[a,.int rs[j].b,.int (i:Nat)])) a2);have Z:upd (upd (upd H4 D (.tup [.int rs[j].h,rs[j].n,rs[j].v,rs[j].x])) F (.tup [a,.int rs[j].b,.int (i:Nat)])) g (.tup ([.int rs[j].h,rs[j].n,rs[j].v,rs[j].x]++[a,.int rs[j].b,.int (i:Nat)])) g=some (.tup ([.int rs[j].h,rs[j].n,rs[j].v,rs[j].x]++[a,.int rs[j].b,.int (i:Nat)])):=upd_same;generalize upd (upd (upd H4 D (.tup [.int rs[j].h,rs[j].n,rs[j].v,rs[j].x])) F (.tup [a,.int rs[j].b,.int (i:Nat)])) g (.tup ([.int rs[j].h,rs[j].n,rs[j].v,rs[j].x]++[a,.int rs[j].b,.int (i:Nat)]))=H6 at u Z⊢;have W:=u _ _ M;have a3:=u _ _ O;have a4:=z02 (λ a b z=>RcAt.tups (.of u) z) N;have Y:Tups (kx w) H6 (upd H6 l (.lst (c.set j (.ref g)))):=Tups.lst W;refine ⟨_,rfl,_,rfl,l,c,j,j,rfl,rfl,W,ziw (show j < c.length by rw [lz];exact b1),?_⟩;have dd:dstep i rs (.fin h a)=rs.modify j (λ r=>{ r with a:=a,e:=some i }):=by unfold dstep;dsimp only;rw [hj]
    have b5:dAll (i + 1) (dstep i rs (.fin h a)) (List.drop (i + 1) B)=_:=C;have b3:=J.2;rw [dd] at b5 b3;have mh:(rs.modify j (λ r=>{ r with a:=a,e:=some i })).map Rc.h=rs.map Rc.h:=by
     apply List.ext_getElem?;intro m;rw [E2,E2,V1];cases rs[m]? with
     | none=>rfl
     | some r=>
      show some (if j=m then _ else r).h=some r.h;by_cases z:j=m
      ·rw [if_pos z]
      ·rw [if_neg z]
    refine ⟨_,c.set j (.ref g),f,upd_same,?_,?_,?_,?_,?_,b5,b3,Same.keep (s4.trans u) a0,_,_,_,_,rfl⟩
    ·exact z6w (z02 (λ a b z=>RcAt.tups Y z) a4) a6 ⟨g,rfl,Y _ _ (SqT.of Z)⟩
    ·rw [upd_ne S.symm];exact a3
    ·lia
    ·rw [u6];lia
    ·intro k;rw [mh];exact hv k
  ·intro σ H3 z0;refine hid λ _ X=>?_;obtain ⟨rs,c,f,el,ar,ed,hk,a9,hv,C,J,s3,x3,x4,x5,x6,rfl⟩:=z0;refine X ?_;clear X;have:B.drop ys.length=[]:=by rw [b9];exact List.drop_length
   rw [this] at C;have C:rs=dAll 0 [] B:=C;rw [<-C] at q;exact ⟨_,rfl,q l c H3 s3 a0 el ar⟩
end
section
noncomputable def oStep (os:List Int):Ev->List Int
 | .beg h _ _ _=>os++[h]
 | .fin h _=>os.filter λ k=>decide (k≠h)
noncomputable def oOk (os:List Int):Ev->Prop
 | .beg h _ _ _=>h∉os
 | .fin h _=>h∈os
noncomputable def EWf:List Int->List Ev->Prop
 | _,[]=>True
 | os,e :: es=>oOk os e/\EWf (oStep os e) es
theorem EWf.snoc :∀{es:List Ev} {os:List Int} {e:Ev},EWf os es->oOk (es.foldl oStep os) e->EWf os (es++[e])
 | [],os,e,_,h=>⟨h,trivial⟩
 | x :: es,os,e,w,h=>⟨w.1,EWf.snoc w.2 h⟩
theorem zfb {h:Int} (hs:List Int) :∀{j:Nat},lastI h hs=some j->hs[j]? = some h/\∀k,j < k->hs[k]?≠some h:=by
 suffices key :∀n (hs:List Int),hs.length=n->∀{j:Nat},lastI h hs=some j->hs[j]? = some h/\∀k,j < k->hs[k]?≠some h from λ {j} a=>key _ hs rfl a;intro n;induction n with
 | zero=>intro hs e j a;have:=z7d a;lia
 | succ n ih=>
  intro hs e j a;have d:hs≠[]:=λ z=>by rw [z] at e;cases e
  obtain ⟨b,t,rfl⟩ :∃b t,hs=b++[t]:=⟨hs.dropLast,hs.getLast d,(V5 d).symm⟩
  rw [D0] at e;have e:b.length=n:=by simpa using e
  rw [z1q] at a;by_cases z:t=h
  ·rw [if_pos z] at a;cases a;refine ⟨by simp [z],λ k c=>?_⟩;rw [F7 (by rw [D0];show b.length + 1<=k;lia)];intro y;cases y
  ·rw [if_neg z] at a;obtain ⟨f,g⟩:=ih b e a;have lt:=z7d a;refine ⟨by rw [C1 lt];exact f,λ k c=>?_⟩;by_cases y:k < b.length
   ·rw [C1 y];exact g k c
   ·by_cases y2:k=b.length
    ·subst y2;rw [E1 (C0 _)];simp;exact z
    ·rw [F7 (by rw [D0];show b.length + 1<=k;lia)];intro y;cases y
theorem zev {h:Int} (hs:List Int) (hm:h∈hs):(lastI h hs).isSome=true:=by
 suffices key :∀n (hs:List Int),hs.length=n->h∈hs->(lastI h hs).isSome=true from key _ hs rfl hm;intro n;induction n with
 | zero=>intro hs e hm;rw [List.length_eq_zero_iff.mp e] at hm;cases hm
 | succ n ih=>
  intro hs e hm;have b:hs≠[]:=λ z=>by rw [z] at e;cases e
  obtain ⟨a,t,rfl⟩ :∃a t,hs=a++[t]:=⟨hs.dropLast,hs.getLast b,(V5 b).symm⟩
  rw [D0] at e;rw [z1q];by_cases z:t=h
  ·rw [if_pos z];rfl
  ·rw [if_neg z];refine ih a (by simpa using e) ?_;rcases List.mem_append.mp hm with y|y
   ·exact y
   ·exact absurd (List.mem_singleton.mp y).symm z
structure DInv (i:Nat) (rs:List Rc) (os:List Int):Prop where
 b :∀r∈rs,r.b < i
 e :∀r∈rs,∀e,r.e=some e->e < i
 p :∀(x y:Nat) (r q:Rc),x < y->rs[x]? = some r->rs[y]? = some q->r.b < q.b/\(r.h=q.h->∃e,r.e=some e/\e < q.b)
 o :∀r∈rs,r.h∉os->r.e.isSome=true
 m :∀h∈os,h∈rs.map Rc.h
theorem DInv.nil:DInv 0 [] []:=⟨λ _ h=>(by cases h),λ _ h=>(by cases h),λ x y r q _ h=>(by simp at h),λ _ h=>(by cases h),λ _ h=>(by cases h)⟩
theorem z7u {rs:List Rc} {j:Nat} {f:Rc->Rc} (hf :∀r,(f r).h=r.h):(rs.modify j f).map Rc.h=rs.map Rc.h:=by
 apply List.ext_getElem?;intro m;rw [E2,E2,V1];cases rs[m]? with
 | none=>rfl
 | some r=>
  show some (if j=m then f r else r).h=some r.h;by_cases z:j=m
  ·rw [if_pos z,hf]
  ·rw [if_neg z]
theorem DInv.step {i:Nat} {rs:List Rc} {os:List Int} (I:DInv i rs os) {e:Ev} (ok:oOk os e):DInv (i + 1) (dstep i rs e) (oStep os e)/\∀h a,e=.fin h a->(lastI h (rs.map Rc.h)).isSome=true:=by
 cases e with
 | beg h n v x=>
  have ok:h∉os:=ok;refine ⟨⟨λ r d=>?_,λ r d e c=>?_,λ t g r q E O D=>?_,λ r d B=>?_,λ k H=>?_⟩,λ h a e=>by cases e⟩
  ·rcases List.mem_append.mp d with z|z
   ·have:=I.b r z;lia
   ·rw [List.mem_singleton.mp z];exact U1 i
  ·rcases List.mem_append.mp d with z|z
   ·have:=I.e r z e c;lia
   ·rw [List.mem_singleton.mp z] at c;cases c
  ·have a0:g < (dstep i rs (.beg h n v x)).length:=(List.getElem?_eq_some_iff.mp D).1;have hl:(dstep i rs (.beg h n v x)).length=rs.length + 1:=by show (rs++[_]).length=_;rw [D0];rfl
   have R:rs[t]? = some r:=by
    have:(rs++[_])[t]? = some r:=O
    rwa [C1 (by lia)] at this
   by_cases z:g < rs.length
   ·have Y:rs[g]? = some q:=by
     have:(rs++[_])[g]? = some q:=D
     rwa [C1 z] at this
    exact I.p t g r q E R Y
   ·have F:(rs++[_])[g]? = some q:=D;have Z:g=rs.length:=by lia
    subst Z;rw [E1 (C0 _)] at F;simp at F;have M:=v0 R;rw [<-F];refine ⟨I.b r M,λ A=>?_⟩;have:r.e.isSome=true:=I.o r M (by rw [A];exact ok);obtain ⟨e,c⟩:=Option.isSome_iff_exists.mp this;exact ⟨e,c,I.e r M e c⟩
  ·rcases List.mem_append.mp d with z|z
   ·exact I.o r z λ y=>B (List.mem_append.mpr (.inl y))
   ·rw [List.mem_singleton.mp z] at B;exact absurd (List.mem_append.mpr (.inr (List.mem_singleton.mpr rfl))) B
  ·show k∈(rs++[_]).map Rc.h;rw [A1];rcases List.mem_append.mp H with z|z
   ·exact List.mem_append.mpr (.inl (I.m k z))
   ·rw [List.mem_singleton.mp z];exact List.mem_append.mpr (.inr (List.mem_singleton.mpr rfl))
 | fin h a=>
  have ok:h∈os:=ok;obtain ⟨j,K⟩:=Option.isSome_iff_exists.mp (zev _ (I.m h ok));refine ⟨?_,λ h' a' e=>by cases e;rw [K];rfl⟩;obtain ⟨S,V⟩:=zfb _ K;have hd:dstep i rs (.fin h a)=rs.modify j (λ r=>{ r with a:=a,e:=some i }):=by unfold dstep;dsimp only;rw [K]
  rw [hd];have hs:oStep os (.fin h a)=os.filter λ k=>decide (k≠h):=rfl;rw [hs];rw [E2] at S;obtain ⟨rj,P,W⟩:=Option.map_eq_some_iff.mp S;have get :∀m q,(rs.modify j (λ r=>{ r with a:=a,e:=some i }))[m]? = some q->∃r,rs[m]? = some r/\q.h=r.h/\q.b=r.b/\(m=j->q.e=some i)/\(m≠j->q=r):=λ m q T=>by
   rw [V1] at T;obtain ⟨r,d,e⟩:=Option.map_eq_some_iff.mp T;refine ⟨r,d,?_⟩;by_cases z:j=m
   ·rw [if_pos z] at e;rw [<-e];exact ⟨rfl,rfl,λ _=>rfl,λ y=>absurd z.symm y⟩
   ·rw [if_neg z] at e;rw [<-e];exact ⟨rfl,rfl,λ y=>absurd y.symm z,λ _=>rfl⟩
  refine ⟨λ r d=>?_,λ r d e c=>?_,λ t g r q E O D=>?_,λ r d B=>?_,λ k H=>?_⟩
  ·obtain ⟨m,C⟩:=List.mem_iff_getElem?.mp d;obtain ⟨s,u,_,h3,_⟩:=get m r C;have:=I.b s (v0 u)
   lia
  ·obtain ⟨m,C⟩:=List.mem_iff_getElem?.mp d;obtain ⟨s,u,_,_,G,J⟩:=get m r C;by_cases z:m=j
   ·rw [G z] at c;cases c;exact U1 i
   ·rw [J z] at c;have:=I.e s (v0 u) e c
    lia
  ·obtain ⟨s,L,r2,r3,r4,r5⟩:=get t r O;obtain ⟨Q,U,X,q3,_⟩:=get g q D;obtain ⟨p1,N⟩:=I.p t g s Q E L U;refine ⟨by lia,λ A=>?_⟩;by_cases z:t=j
   ·subst z;rw [P] at L;cases L;refine absurd ?_ (V g E);rw [E2,U];show some Q.h=some h;rw [<-X,<-A,r2,W]
   ·rw [r5 z] at A⊢;rw [X] at A;obtain ⟨e,c,lt⟩:=N A;exact ⟨e,c,by lia⟩
  ·obtain ⟨m,C⟩:=List.mem_iff_getElem?.mp d;obtain ⟨s,u,h2,_,G,J⟩:=get m r C;by_cases z:m=j
   ·rw [G z];rfl
   ·rw [J z] at B⊢;by_cases y:s.h=h
    ·have lt:m < j:=by
      rcases Nat.lt_or_gt_of_ne z with l|l
      ·exact l
      ·exact absurd (by rw [E2,u];show some s.h=_;rw [y]) (V m l)
     obtain ⟨_,N⟩:=I.p m j s rj lt u P;obtain ⟨e,c,_⟩:=N (by rw [y,W]);rw [c];rfl
    ·exact I.o s (v0 u) λ w=>B (List.mem_filter.mpr ⟨w,decide_eq_true y⟩)
  ·rw [z7u (f:=λ r=>{ r with a:=a,e:=some i }) (λ r=>rfl)];exact I.m k (List.mem_filter.mp H).1
theorem DInv.all :∀{es:List Ev} {i:Nat} {rs:List Rc} {os:List Int},DInv i rs os->EWf os es->dWf i rs es/\∃os',DInv (i + es.length) (dAll i rs es) os'
 | [],i,rs,os,I,_=>⟨trivial,os,I⟩
 | e :: es,i,rs,os,I,w=>by obtain ⟨d,c⟩:=I.step w.1;obtain ⟨a,os',b⟩:=DInv.all d w.2;refine ⟨⟨c,a⟩,os',?_⟩;rw [D1,show i + (es.length + 1)=i + 1 + es.length by lia];exact b
theorem z71 {kvs:List (Key×V)} {k:Key}:(valV kvs k).isSome=true↔k∈kvs.map (·.1):=by
 induction kvs with
 | nil=>simp [valV]
 | cons p r ih=>
  obtain ⟨a,pv⟩:=p;by_cases y:a=k
  ·subst y;rw [z0n rfl];simp
  ·rw [z0o y,ih,j1,T2];exact ⟨λ z=>.inr z,λ z=>z.resolve_left λ x=>y x.symm⟩
theorem z44 {kvs:List (Key×V)} {k:Key} {v:V} (h:k∉kvs.map (·.1)):putK kvs k v=kvs++[(k,v)]:=by unfold putK;rw [if_neg];intro z;obtain ⟨p,a,e⟩:=List.any_eq_true.mp z;exact h (List.mem_map.mpr ⟨p,a,of_decide_eq_true e⟩)
theorem z6x {α β:Type} {R S:α->β->Prop} :∀{xs:List α} {ys:List β},(∀a b,b∈ys->R a b->S a b)->All2 R xs ys->All2 S xs ys
 | _,_,_,.nil=>.nil
 | _,_,h,.cons a r=>.cons (h _ _ N1 a) (z6x (λ x y c z=>h x y (F1 _ c) z) r)
theorem z72 {α β:Type} {R:α->β->Prop} :∀{xs:List α} {ys:List β},ys.length=xs.length->(∀(k:Nat) a b,xs[k]? = some a->ys[k]? = some b->R a b)->All2 R xs ys
 | [],[],_,_=>.nil
 | [],y :: ys,h,_=>by cases h
 | x :: xs,[],h,_=>by cases h
 | x :: xs,y :: ys,h,f=>.cons (f 0 x y rfl rfl) (z72 (by simpa using h) λ k a b c d=>f (k + 1) a b (by rw [Z1];exact c) (by rw [Z1];exact d))
end
section
variable {P:Program} {w:Q0} {mg:Str->Option Value} {base:Heap}
theorem ze9 :∀{xs ys:List Int},xs.Nodup->(∀x∈xs,x∈ys)->xs.length<=ys.length
 | [],_,_,_=>j2 _
 | x :: r,ys,nd,h=>by
  rw [A7] at nd;have a:=h x (List.mem_cons.mpr (.inl rfl));have:=ze9 (xs:=r) (ys:=ys.erase x) nd.2 λ y b=>(j02 (λ e=>nd.1 (by rw [<-e];exact b))).mpr (h y (List.mem_cons.mpr (.inr b)));rw [L6 a] at this;have c:0 < ys.length:=i7 a;rw [D1]
  lia
noncomputable def cyc (x:Int):Int:=if x > 1000000000 then x - 2000000001 else x
theorem z32 {f:Nat->Int} :∀n:Nat,(∀i j,i < j->j < n->f i≠f j)->((X0 n).map f).Nodup
 | 0,_=>.nil
 | n + 1,h=>by rw [W4,A1,n5];refine ⟨z32 n λ i j a b=>h i j a (by lia),by show [f n].Nodup;rw [A7];exact ⟨B0,.nil⟩,λ a c b d e=>?_⟩;obtain ⟨i,g,rfl⟩:=List.mem_map.mp c;rw [List.mem_singleton.mp d] at e;exact h i n (List.mem_range.mp g) (U1 n) e
theorem zie {s0:Int} {ks:List Int} {j:Nat} (h1:-1000000000<=s0) (h2:s0<=1000000000) (hj:j<=1000) (h :∀i,i < j->cyc (s0 + i)∈ks):j<=ks.length:=by
 have:=ze9 (xs:=(X0 j).map λ i=>cyc (s0 + (i:Nat))) (ys:=ks) (z32 j λ a b e f=>by
  unfold cyc;split<;>split<;>lia) λ x d=>by
  obtain ⟨i,c,rfl⟩:=List.mem_map.mp d;exact h i (List.mem_range.mp c)
 rwa [L0,v3] at this
def z6b (K:d0):Sp:=λ vs H Q _=>∃r:Addr,vs=[.ref r]/\RowAt H r/\∀(nm:Str) H',Rw r H H'->Q (.str nm) H'
theorem za9 (T:TX (kx w) mg) (c0:Ca P w mg base "_law_take" ["row","many"] 1 z1f):Fo P w mg base CX0 2 425 y1d ["row"] (z6b (kx w)):=by
 refine (z4l w.params).ok sc__law_name (λ j H Q E h=>?_) (λ z A x s H j Q E d h=>?_)
 ·obtain ⟨r,rfl,_⟩:=h;rfl
 ·obtain ⟨r,rfl,R,q⟩:=h;refine ⟨_,(z01 (ps_set (i:=1) sc__law_name.nd rfl (O0 rfl) pe_str)
   (z01 (ps_set (i:=2) sc__law_name.nd rfl (O0 rfl) pe_str)
   (z01 (ps_for L1 rfl (zfp rfl (T.no (zgm _)) (z00 (pe_op opAdd pe_int (pe_cal c0 (d.mono (by decide)) rfl (z00 (pv 0) (z00 pe_int pa_nil)))) pa_nil)) (z0b (i:=3) sc__law_name.nd rfl (O0 rfl))
   (z03 (ps_set (i:=2) sc__law_name.nd rfl (O0 rfl) (pe_op opAdd (pv 2) (pe_ix ix_seq (pv 1) (pe_cal c0 (d.mono (by decide)) rfl (z00 (pv 0) (z00 pe_int pa_nil))) (λ _ _=>rfl))))))
   (z03 (ps_ret (pv 2)))))),?_⟩
  have k:("abcdefghijklmnopqrstuvwxyz" : Str).cps.toList.length=26:=by decide +kernel
  have o:("abcdefghijklmnopqrstuvwxyz" : Str).length<=sizeLine:=by decide +kernel
  refine ⟨_,rfl,r,8,rfl,R,by decide,by decide,λ t F v B y=>.inl ⟨_,_,rfl,rfl,1 + t,rfl,by lia,by lia,?_⟩⟩;refine zc0 (lo:=0) (n:=(1 + t).toNat) (λ i σ l=>Rw r H l/\∃(nm:Str) (x3:Option V),nm.length<=i/\σ=[some (.ref r),some (.str "abcdefghijklmnopqrstuvwxyz"),some (.str nm),x3]) ⟨v,"",_,C0 _,rfl⟩ ?_ ?_
  ·rintro i σ p D ⟨w2,nm,x3,ln,rfl⟩;rw [Int.zero_add];refine g_name ?_;refine ⟨_,rfl,_,rfl,_,rfl,r,26,rfl,w2.r,by decide,by decide,λ g C u a b=>?_⟩;obtain ⟨c,f,_⟩:=atI_of (xs:=("abcdefghijklmnopqrstuvwxyz" : Str).cps.toList) a (by rw [k];exact b);have e:(⟨#[c]⟩:Str).length=1:=rfl;refine .inr (.inr ⟨_,g,c,rfl,rfl,o,f,.inr (.inl ⟨nm,⟨#[c]⟩,rfl,rfl,by rw [e];exact K0 (m:=100) (by lia) (by decide),?_⟩)⟩);exact ⟨w2.trans u,_,_,by rw [PySem.Str.length_append,e];lia,rfl⟩
  ·rintro σ p ⟨w2,nm,x3,ln,rfl⟩;exact ⟨_,rfl,q _ _ w2⟩
def z52 (K:d0):Sp:=λ vs H Q _=>∃(r u:Addr) (ks:List Int) (kvs:List (Key×V)),vs=[.ref r,.ref u]/\RowAt H r/\H u=some (.dK kvs)/\r≠u/\kvs.map (·.1)=ks.map Sum.inl/\ks.length<=100/\∀(i:Int) H',Rw r H H'->-1000000000<=i->i<=1000000000->i∉ks->Q (.int i) (upd H' u (.dK (putK kvs (.inl i) (.bl true))))
theorem z8n (T:TX (kx w) mg) (c0:Ca P w mg base "_law_worth" ["row"] 2 z2a):Fo P w mg base CX0 3 432 y0z ["row","used"] (z52 (kx w)):=by
 refine (z3c w.params).ok sc__law_fresh (λ F H Q E h=>?_) (λ M A L s H F Q E f h=>?_)
 ·obtain ⟨r,u,b,g,rfl,_⟩:=h;rfl
 ·obtain ⟨r,u,b,g,rfl,R,J,C,o,N,q⟩:=h;refine ⟨_,(z01 (ps_set (i:=2) sc__law_fresh.nd rfl (O0 rfl) (pe_cal c0 (f.mono (by decide)) rfl (z00 (pv 0) pa_nil)))
   (z01 (zde L1 (pt_cmp (pc_din (hu_of f) (pv 2) (pv 1)) (by with_unfolding_all rfl))
   (z01 (ps_set (i:=2) sc__law_fresh.nd rfl (O0 rfl) (pe_op opAdd (pv 2) pe_int))
   (z03 (ps_if (z08 op_gt (pv 2) (pe_op op_pow pe_int pe_int) (nomark _))
   (z03 (ps_set (i:=2) sc__law_fresh.nd rfl (O0 rfl) (pe_un un_neg (pe_op op_pow pe_int pe_int))))
   z0d))))
   (z01 (z3t (hu_of f) (pv 1) (pv 2) pe_bl rfl)
   (z03 (ps_ret (pv 2)))))),?_⟩
  refine ⟨_,rfl,r,rfl,R,λ a t B I K=>?_⟩;refine g_name ?_;have y:t u=some (.dK g):=B.k _ _ (R3 C) J;have x :∀i:Int,(valV g (.inl i)).isSome=true↔i∈b:=λ i=>by rw [z71,o];exact ⟨λ z=>by obtain ⟨k,c,e⟩:=List.mem_map.mp z;exact O2 e ▸ c,λ z=>List.mem_map.mpr ⟨i,z,rfl⟩⟩
  refine ⟨λ m σ d=>d=t/\∃j:Nat,j<=b.length/\m=100 - j/\(∀i:Nat,i < j->cyc (a + i)∈b)/\σ=[some (.ref r),some (.ref u),some (.int (cyc (a + j)))],⟨100,rfl,0,j2 _,rfl,λ _ z=>absurd z (U2 _),?_⟩,?_⟩
  ·have:cyc (a + ((0:Nat):Int))=a:=by unfold cyc;rw [if_neg (by lia)];lia
   rw [this];rfl
  ·rintro m σ G ⟨rfl,j,hj,rfl,hin,rfl⟩;have v:-1000000000<=cyc (a + j)/\cyc (a + j)<=1000000000:=by unfold cyc;split<;>lia
   have n:cyc (a + ((j + 1:Nat):Int))=if cyc (a + j) + 1 > 1000000000 then -1000000000 else cyc (a + j) + 1:=by unfold cyc;split<;>split<;>split<;>lia
   refine ⟨_,rfl,_,rfl,u,_,rfl,DGet.k (k:=.inl (cyc (a + j))) y,_,rfl,?_⟩;by_cases c:cyc (a + j)∈b
   ·refine iteP ((x _).mpr c) ?_;have l :∀i:Nat,i < j + 1->cyc (a + i)∈b:=λ i O=>by
     rcases r6 i j with z|z
     ·exact hin i z
     ·have:i=j:=by lia
      rw [this];exact c
    have D:=zie I K (j:=j + 1) (by lia) l;refine ⟨λ p d=>d=G/\p=[some (.ref r),some (.ref u),some (.int (cyc (a + ((j + 1:Nat):Int))))],?_,?_⟩
    ·rintro p d ⟨rfl,rfl⟩;exact ⟨100 - (j + 1),by lia,rfl,j + 1,D,rfl,l,rfl⟩
    ·refine ⟨_,rfl,.inl ⟨_,_,rfl,rfl,?_⟩⟩;refine ⟨_,rfl,_,_,rfl,rfl,p9,_,_,rfl,rfl,_,rfl,?_⟩;rw [e9];by_cases z:cyc (a + j) + 1 > 1000000000
     ·refine iteP (decide_eq_true z) ⟨_,_,rfl,rfl,p9,_,rfl,rfl,?_⟩;rw [n,if_pos z,e9];rfl
     ·refine iteN (λ e=>z (of_decide_eq_true e)) ⟨rfl,?_⟩;rw [n,if_neg z];rfl
   ·refine iteN (λ e=>c ((x _).mp e)) ?_;refine ⟨_,rfl,_,rfl,u,_,rfl,DPut.k (k:=.inl (cyc (a + j))) y (U0 (m:=100) (by have:=congrArg List.length o;rw [L0,L0] at this;lia) (by decide)),?_⟩;exact ⟨_,rfl,q _ _ B v.1 v.2 c⟩
end
section
inductive TW (nm:Str) (wr:Int):List Ev->List (Int×Bool)->List Int->Prop
 | nil:TW nm wr [] [] []
 | wri {es:List Ev} {os:List (Int×Bool)} {us:List Int} {i:Int}:TW nm wr es os us->wr∉os.map (·.1)->i≠0->i∉us->TW nm wr (es++[.beg wr (.str nm) (.str "write") (.int i)]) (os++[(wr,true)]) (us++[i])
 | rd {es:List Ev} {os:List (Int×Bool)} {us:List Int} {h:Int}:TW nm wr es os us->h∉os.map (·.1)->TW nm wr (es++[.beg h (.str nm) (.str "read") .non]) (os++[(h,false)]) us
 | fin {es:List Ev} {os:List (Int×Bool)} {us:List Int} {h:Int} {b:Bool} {a:V}:TW nm wr es os us->(h,b)∈os->(b=true->a=.str "ok")->(b=false->∃i,a=.int i)->TW nm wr (es++[.fin h a]) (os.filter λ k=>decide (k.1≠h)) us
theorem TW.us {nm:Str} {wr:Int} {es:List Ev} {os:List (Int×Bool)} {us:List Int} (h:TW nm wr es os us):us.Nodup/\(0:Int)∉us:=by
 induction h with
 | nil=>exact ⟨.nil,B0⟩
 | wri _ _ h0 h1 ih=>
  refine ⟨List.nodup_append.mpr ⟨ih.1,by simp,λ a c b d e=>?_⟩,λ z=>?_⟩
  ·rw [List.mem_singleton.mp d] at e;exact h1 (e ▸ c)
  ·rcases List.mem_append.mp z with z|z
   ·exact ih.2 z
   ·exact h0 (List.mem_singleton.mp z).symm
 | rd _ _ ih=>exact ih
 | fin _ _ _ _ ih=>exact ih
theorem z9q {os:List (Int×Bool)} {h:Int}:(os.filter λ k=>decide (k.1≠h)).map (·.1)=(os.map (·.1)).filter λ k=>decide (k≠h):=by
 induction os with
 | nil=>rfl
 | cons o os ih=>
  by_cases z:o.1=h
  ·rw [D2 (by simp [z]),j1,D2 (by simp [z]),ih]
  ·rw [C2 (by simp [z]),j1,j1,C2 (by simp [z]),ih]
theorem TW.wf {nm:Str} {wr:Int} {es:List Ev} {os:List (Int×Bool)} {us:List Int} (h:TW nm wr es os us):EWf [] es/\es.foldl oStep []=os.map (·.1):=by
 induction h with
 | nil=>exact ⟨trivial,rfl⟩
 | wri _ h0 _ _ ih=>refine ⟨ih.1.snoc (by rw [ih.2];exact h0),?_⟩;rw [u5,ih.2,A1];rfl
 | rd _ h0 ih=>refine ⟨ih.1.snoc (by rw [ih.2];exact h0),?_⟩;rw [u5,ih.2,A1];rfl
 | fin _ h0 _ _ ih=>refine ⟨ih.1.snoc (by rw [ih.2];exact List.mem_map.mpr ⟨_,h0,rfl⟩),?_⟩;rw [u5,ih.2,z9q];rfl
theorem z10 :∀{es:List Ev} {i:Nat} {rs:List Rc} {e:Ev},dAll i rs (es++[e])=dstep (i + es.length) (dAll i rs es) e
 | [],i,rs,e=>rfl
 | x :: es,i,rs,e=>by show dAll (i + 1) (dstep i rs x) (es++[e])=dstep (i + (es.length + 1)) (dAll (i + 1) (dstep i rs x) es) e;rw [z10,show i + (es.length + 1)=i + 1 + es.length by lia]
noncomputable def isW (r:Rc):Bool:=decide (r.v=.str "write")
noncomputable def intV:V->Int
 | .int i=>i
 | _=>0
def RdG (r:Rc):Prop:=r.v=.str "read"/\r.x=.non/\∀e,r.e=some e->r.a=.int (intV r.a)
def WrG (wr:Int) (r:Rc):Prop:=r.v=.str "write"/\r.h=wr/\r.x=.int (intV r.x)/\∀e,r.e=some e->r.a=.str "ok"
theorem z0z:(V.str "read")≠.str "write":=by decide +kernel
theorem WrG.w {wr:Int} {r:Rc} (h:WrG wr r):isW r=true:=decide_eq_true h.1
theorem RdG.w {r:Rc} (h:RdG r):isW r=false:=decide_eq_false λ e=>z0z (h.1.symm.trans e)
structure TWr (wr:Int) (rs:List Rc) (os:List (Int×Bool)) (us:List Int):Prop where
 g :∀r∈rs,RdG r\/WrG wr r
 u:(rs.filter isW).map (λ r=>intV r.x)=us
 o :∀h b,(h,b)∈os->∃j r,lastI h (rs.map Rc.h)=some j/\rs[j]? = some r/\r.v=.str (if b=true then "write" else "read")
theorem z2j {f:Rc->Rc} (hw :∀r,isW (f r)=isW r) (hx :∀r,(f r).x=r.x) :∀(rs:List Rc) (j:Nat),((rs.modify j f).filter isW).map (λ r=>intV r.x)=(rs.filter isW).map (λ r=>intV r.x)
 | [],j=>by cases j<;>rfl
 | r :: rs,0=>by
  show (((f r) :: rs).filter isW).map _=_;cases h:isW r with
  | true=>rw [C2 (by rw [hw,h]),C2 h,j1,j1,hx]
  | false=>rw [D2 (by rw [hw,h];decide),D2 (by rw [h];decide)]
 | r :: rs,j + 1=>by
  show ((r :: rs.modify j f).filter isW).map _=_;cases h:isW r with
  | true=>rw [C2 h,C2 h,j1,j1,z2j hw hx rs j]
  | false=>rw [D2 (by rw [h];decide),D2 (by rw [h];decide),z2j hw hx rs j]
theorem TW.rs {nm:Str} {wr:Int} {es:List Ev} {os:List (Int×Bool)} {us:List Int} (h:TW nm wr es os us):TWr wr (dAll 0 [] es) os us:=by
 have C :∀{rs:List Rc} {os:List (Int×Bool)} {us y:List Int} (k:Int) (b:Bool) (r:Rc),TWr wr rs os us->k∉os.map (·.1)->r.h=k->(RdG r\/WrG wr r)->r.v=.str (if b=true then "write" else "read")->y=us++(if b=true then [intV r.x] else [])->TWr wr (rs++[r]) (os++[(k,b)]) y:=by
  intro rs os us y k b r I J M P B H;refine ⟨λ q w=>?_,?_,λ h c p=>?_⟩
  ·rcases List.mem_append.mp w with z|z
   ·exact I.g q z
   ·rw [List.mem_singleton.mp z];exact P
  ·rw [Z3,A1,I.u,H];congr 1;cases b with
   | true=>rw [C2 (show isW r=true from decide_eq_true B)];rfl
   | false=>rw [D2 (show ¬ isW r=true from λ z=>z0z (B.symm.trans (of_decide_eq_true z)))];rfl
  ·rw [A1];show∃j q,lastI h (rs.map Rc.h++[r.h])=some j/\_;rw [z1q,M];rcases List.mem_append.mp p with z|z
   ·have L:¬ k=h:=λ e=>J (e ▸ List.mem_map.mpr ⟨_,z,rfl⟩);obtain ⟨j,q,n,l,d⟩:=I.o h c z;refine ⟨j,q,by rw [if_neg L];exact n,?_,d⟩;rw [C1 (List.getElem?_eq_some_iff.mp l).1];exact l
   ·have e:=List.mem_singleton.mp z;cases e;refine ⟨rs.length,r,by rw [if_pos rfl,L0],?_,B⟩;rw [E1 (C0 _),A5];rfl
 induction h with
 | nil=>exact ⟨λ _ h=>absurd h B0,rfl,λ _ _ h=>absurd h B0⟩
 | @wri es os us i _ h0 _ _ ih=>rw [z10];exact C wr true ⟨wr,.str nm,.str "write",.int i,.non,0 + es.length,none⟩ ih h0 rfl (.inr ⟨rfl,rfl,rfl,λ e z=>by cases z⟩) rfl rfl
 | @rd es os us h _ h0 ih=>rw [z10];exact C h false ⟨h,.str nm,.str "read",.non,.non,0 + es.length,none⟩ ih h0 rfl (.inl ⟨rfl,rfl,λ e z=>by cases z⟩) rfl (Z2 _).symm
 | @fin es os us h b a _ h0 ht hf ih=>
  rw [z10];obtain ⟨j,r,n,l,d⟩:=ih.o h b h0;have N :∀i,dstep i (dAll 0 [] es) (.fin h a)=(dAll 0 [] es).modify j (λ r=>{ r with a:=a,e:=some i }):=λ i=>by unfold dstep;dsimp only;rw [n]
  rw [N];generalize 0 + es.length=i;generalize hrs:dAll 0 [] es=rs at ih n l d;refine ⟨λ q w=>?_,?_,λ k c p=>?_⟩
  ·obtain ⟨m,F⟩:=List.mem_iff_getElem?.mp w;rw [V1] at F;obtain ⟨G,A,e⟩:=Option.map_eq_some_iff.mp F;have t:=ih.g G (v0 A);by_cases z:j=m
   ·subst z;rw [if_pos rfl] at e;rw [l] at A;cases A;subst e;cases b with
    | true=>
     have v:r.v=.str "write":=d;rcases t with g|g
     ·exact absurd (g.1.symm.trans v) z0z
     ·exact .inr ⟨g.1,g.2.1,g.2.2.1,λ _ _=>ht rfl⟩
    | false=>
     have v:r.v=.str "read":=d;rcases t with g|g
     ·obtain ⟨x,Q⟩:=hf rfl;exact .inl ⟨g.1,g.2.1,λ _ _=>by show a=.int (intV a);rw [Q];rfl⟩
     ·exact absurd (v.symm.trans g.1) z0z
   ·rw [if_neg z] at e;rw [<-e];exact t
  ·rw [z2j (f:=λ r=>{ r with a:=a,e:=some i }) (λ _=>rfl) (λ _=>rfl)];exact ih.u
  ·rw [z7u (f:=λ r=>{ r with a:=a,e:=some i }) (λ r=>rfl)];obtain ⟨s,D,K,O,E⟩:=ih.o k c (List.mem_filter.mp p).1;refine ⟨s,if j=s then { D with a:=a,e:=some i } else D,K,?_,?_⟩
   ·rw [V1,O];rfl
   ·by_cases z:j=s
    ·rw [if_pos z];exact E
    ·rw [if_neg z];exact E
noncomputable def sinceF (rs:List Rc) (x:Int):Option Int:=rs.foldl (λ (o:Option Int) r=>if isW r=true/\x=intV r.x then some (r.b:Int) else o) (if x=0 then some (-1) else none)
theorem z94 (x:Int):sinceF [] x=if x=0 then some (-1) else none:=rfl
theorem z2u (rs:List Rc) (r:Rc) (x:Int):sinceF (rs++[r]) x=if isW r=true/\x=intV r.x then some (r.b:Int) else sinceF rs x:=by unfold sinceF;rw [u5];rfl
theorem z2w {rs:List Rc} {i:Nat} {r:Rc} (h:rs[i]? = some r):rs.take (i + 1)=rs.take i++[r]:=by rw [List.take_succ,h];rfl
def Bad (rs:List Rc) (i j:Nat):Prop:=∃(r q:Rc) (e f:Nat) (s t:Int),rs[i]? = some r/\rs[j]? = some q/\r.v=.str "read"/\q.v=.str "read"/\r.e=some e/\q.e=some f/\e < q.b/\sinceF rs (intV r.a)=some s/\sinceF rs (intV q.a)=some t/\t < s
def FstB (rs:List Rc) (i j:Nat):Prop:=Bad rs i j/\∀i' j',Bad rs i' j'->i < i'\/(i=i'/\j<=j')
def EndsB (rs:List Rc):Prop:=∀r∈rs,∀e,r.e=some e->r.b < e
theorem EndsB.all :∀{es:List Ev} {i:Nat} {rs:List Rc},EndsB rs->(∀r∈rs,r.b < i)->EndsB (dAll i rs es)/\∀r∈dAll i rs es,r.b < i + es.length
 | [],i,rs,h,hb=>⟨h,hb⟩
 | e :: es,i,rs,h,hb=>by
  have s:EndsB (dstep i rs e)/\∀r∈dstep i rs e,r.b < i + 1:=by
   cases e with
   | beg k n v x=>
    have l:dstep i rs (.beg k n v x)=rs++[⟨k,n,v,x,.non,i,none⟩]:=rfl;rw [l];refine ⟨λ r c e d=>?_,λ r c=>?_⟩
    ·rcases List.mem_append.mp c with z|z
     ·exact h r z e d
     ·rw [List.mem_singleton.mp z] at d;cases d
    ·rcases List.mem_append.mp c with z|z
     ·have:=hb r z;lia
     ·rw [List.mem_singleton.mp z];exact U1 i
   | fin k a=>
    cases hl:lastI k (rs.map Rc.h) with
    | none=>
     have p:dstep i rs (.fin k a)=rs:=by unfold dstep;dsimp only;rw [hl]
     rw [p];exact ⟨h,λ r c=>Q1 (hb r c)⟩
    | some j=>
     have p:dstep i rs (.fin k a)=rs.modify j (λ r=>{ r with a:=a,e:=some i }):=by unfold dstep;dsimp only;rw [hl]
     rw [p];have get :∀q∈rs.modify j (λ r=>{ r with a:=a,e:=some i }),∃r∈rs,q.b=r.b/\(q.e=some i\/q.e=r.e):=λ q f=>by
      obtain ⟨m,l⟩:=List.mem_iff_getElem?.mp f;rw [V1] at l;obtain ⟨r,c,e⟩:=Option.map_eq_some_iff.mp l;refine ⟨r,v0 c,?_⟩;by_cases z:j=m
      ·rw [if_pos z] at e;rw [<-e];exact ⟨rfl,.inl rfl⟩
      ·rw [if_neg z] at e;rw [<-e];exact ⟨rfl,.inr rfl⟩
     refine ⟨λ q f e d=>?_,λ q f=>?_⟩
     ·obtain ⟨r,c,o,g⟩:=get q f;rcases g with g|g
      ·rw [g] at d;cases d;rw [o];exact hb r c
      ·rw [o];exact h r c e (by rw [<-g];exact d)
     ·obtain ⟨r,c,o,_⟩:=get q f;have:=hb r c
      lia
  obtain ⟨t,u⟩:=EndsB.all (es:=es) s.1 s.2;refine ⟨t,λ r c=>?_⟩;have:=u r c;rw [D1]
  lia
theorem z8z :∀(us ns:List Int),us.Nodup->(∀u∈us,u∉ns)->(us.foldl addI ns).length=ns.length + us.length
 | [],ns,_,_=>rfl
 | u :: us,ns,nd,h=>by
  rw [A7] at nd;have e:addI ns u=ns++[u]:=by unfold addI;rw [if_neg (h u (.head _))]
  rw [Y4,e,z8z us (ns++[u]) nd.2 λ v a z=>?_]
  ·simp only [D0,D1,P3];lia
  ·rcases List.mem_append.mp z with z|z
   ·exact h v (.tail _ a) z
   ·rw [List.mem_singleton.mp z] at a;exact nd.1 a
theorem z9j {w:Int} :∀(us ns:List Int),(∀u∈us,u=w)->(ns=[]\/ns=[w])->(us.foldl addI ns).length<=1
 | [],ns,_,h=>by rcases h with rfl|rfl<;>simp
 | u :: us,ns,hu,h=>by
  have e:=hu u (.head _);subst e;rw [Y4];refine z9j (w:=u) us _ (λ v a=>hu v (.tail _ a)) (.inr ?_);rcases h with rfl|rfl
  ·rfl
  ·unfold addI;rw [if_pos (List.mem_singleton.mpr rfl)]
theorem z48 (p:Nat->Bool) (n:Nat):((X0 n).filter p).Pairwise (· < ·):=d5 _ m5
end
section
variable {P:Program} {w:Q0} {mg:Str->Option Value} {base:Heap}
theorem e12:(10:Int) ^ (12:Int).toNat=1000000000000:=by decide
theorem p12:CPow 10 12:=⟨by decide,by decide,by decide⟩
def z46 (K:d0):Sp:=λ vs H Q _=>∃(r l:Addr) (ws:List Int),vs=[.ref r,.ref l]/\RowAt H r/\H l=some (.lst (ws.map V.int))/\r≠l/\0 < ws.length/\ws.length<=100/\∀(i:Int) H',Rw r H H'->Q (.int i) H'
theorem z79 (T:TX (kx w) mg) (c0:Ca P w mg base "_law_take" ["row","many"] 1 z1f) (c1:Ca P w mg base "_law_worth" ["row"] 2 z2a):Fo P w mg base CX0 3 439 y0q ["row","worths"] (z46 (kx w)):=by
 refine (z2s w.params).ok sc__law_answer (λ O H Q E h=>?_) (λ a3 A a2 s H O Q E f h=>?_)
 ·obtain ⟨r,l,c,rfl,_⟩:=h;rfl
 ·obtain ⟨r,l,c,rfl,R,N,a0,w0,w1,q⟩:=h;refine q_of (zar (QS.mk (ps_set (i:=2) sc__law_answer.nd rfl (O0 rfl) (pe_cal c0 (f.mono (by decide)) rfl (z00 (pv 0) (z00 pe_int pa_nil)))))
   (zar (QS.mk (ps_if (z08 opEq (pv 2) pe_int (nomark _))
   (z03 (ps_ret (pe_ix ix_seq (pe_lst (z00 (pe_cal c1 (f.mono (by decide)) rfl (z00 (pv 0) pa_nil)) (z00 (pe_cal c1 (f.mono (by decide)) rfl (z00 (pv 0) pa_nil)) (z00 (pe_op op_pow pe_int pe_int) (z00 (pe_un un_neg (pe_op op_pow pe_int pe_int)) (z00 (pe_op opAdd (pe_op op_pow pe_int pe_int) pe_int) pa_nil)))))) (pe_cal c0 (f.mono (by decide)) rfl (z00 (pv 0) (z00 pe_int pa_nil))) (λ _ _=>rfl))))
   z0d))
   (zar (qs_set (i:=3) sc__law_answer.nd rfl (O0 rfl) (qe_ix ix_seq (qe_lst (z53 (QE.mk pe_int) (z53 (QE.mk pe_int) (z53 (QE.mk pe_int) (z53 (QE.mk pe_int) (z53 (QE.mk pe_int) (z53 (QE.mk pe_int) (z53 (QE.mk pe_int) (z53 (QE.mk (pe_cal c0 (f.mono (by decide)) rfl (z00 (pv 0) (z00 pe_int pa_nil)))) qa_nil))))))))) (QE.mk (pv 2)) (λ _ _=>rfl)))
   (zio (QS.mk (ps_ret (pe_ix ix_seq (pv 1) (z0g (zfo rfl) rfl (T.no (n_max _)) boot_max (z00 pe_int (z00 (pe_op op_sub (pe_op op_sub (z0g z3s rfl (T.no (n_len _)) K5 (z00 (pv 1) pa_nil)) pe_int) (pv 3)) pa_nil))) (λ _ _=>rfl)))))))) ?_
  refine z0f ?_;refine ⟨_,rfl,r,9,rfl,R,by decide,by decide,λ t H1 m X h1=>?_⟩;refine g_name ?_;refine sq_if ?_;refine ⟨_,rfl,rfl,_,rfl,?_⟩;by_cases z:t=8
  ·refine iteP (decide_eq_true (by rw [z])) ?_;refine sq_ret ?_;refine ⟨_,rfl,r,rfl,m.r,λ S H2 G _ _=>⟨_,rfl,r,rfl,G.r,λ Y H3 C _ _=>?_⟩⟩;refine ⟨_,_,rfl,rfl,p12,_,_,rfl,rfl,p12,_,rfl,_,_,rfl,rfl,p9,.inl ⟨_,_,rfl,rfl,w_5,λ p g=>?_⟩⟩;refine ⟨_,rfl,r,5,rfl,C.r.same (Same.upd g),by decide,by decide,λ t4 K y a1 J=>?_⟩;rw [e9,e12] at y;obtain ⟨v,j,d⟩:=atI_of (xs:=[V.int S,.int Y,.int 1000000000000,.int (-1000000000000),.int (1000000000 + 1)]) a1 J;refine .inl ⟨p,_,_,v,rfl,rfl,SqL.of (y.k _ _ (C.r.fresh g) upd_same),j,?_⟩;have x:Rw r H K:=(((m.trans G).trans C).same (Same.upd g)).trans y;simp only [T2,B0,or_false] at d;rcases d with rfl|rfl|rfl|rfl|rfl<;>exact q _ _ x
  ·refine iteN (λ e=>z (by have:=of_decide_eq_true e;injection this)) ?_;refine t_nx (z0f ?_);refine ⟨_,rfl,r,24,rfl,m.r,by decide,by decide,λ u F x a5 a4=>?_⟩;refine ⟨w_8,λ p g=>?_⟩;obtain ⟨v,j,d⟩:=atI_of (xs:=[V.int 0,.int 0,.int 0,.int 0,.int 1,.int 1,.int 2,.int u]) X (show t < 8 by lia);obtain ⟨bk,rfl,b0⟩ :∃bk:Int,v=.int bk/\0<=bk:=by simp only [T2,B0,or_false] at d;rcases d with rfl|rfl|rfl|rfl|rfl|rfl|rfl|rfl<;>exact ⟨_,rfl,by lia⟩
   refine ⟨_,rfl,.inl ⟨p,_,t,_,rfl,rfl,SqL.of upd_same,j,?_⟩⟩;refine g_name ?_;have U:=Same.upd (o:=.lst [V.int 0,.int 0,.int 0,.int 0,.int 1,.int 1,.int 2,.int u]) g;have D:Rw r H (upd F p (.lst [V.int 0,.int 0,.int 0,.int 0,.int 1,.int 1,.int 2,.int u])):=(m.trans x).same U;have B:=D.k _ _ (R3 a0) N;generalize upd F p (.lst [V.int 0,.int 0,.int 0,.int 0,.int 1,.int 1,.int 2,.int u])=H6 at D B⊢;have I:(c.map V.int).length=c.length:=L0 ..;have hx :∀L:Int,0<=L->L < c.length->∃i:Int,atI (c.map V.int) L=some (.int i):=λ L a b=>by obtain ⟨v,j,d⟩:=atI_of (xs:=c.map V.int) a (by rw [I];exact b);obtain ⟨i,_,rfl⟩:=List.mem_map.mp d;exact ⟨i,j⟩
   have Z :∀n:Int,n=(c.length:Int)->0<=(if n - 1 - bk > 0 then n - 1 - bk else 0)/\(if n - 1 - bk > 0 then n - 1 - bk else 0) < c.length:=λ n hn=>by split<;>lia
   obtain ⟨M,l1⟩:=Z ((c.map V.int).length:Nat) (by rw [I]);obtain ⟨i,W⟩:=hx _ M l1;refine sq_ret ?_;refine ⟨_,rfl,_,rfl,.inl ⟨l,_,rfl,.inl (SqL.of B),?_⟩⟩;refine ⟨_,_,rfl,rfl,_,rfl,_,_,rfl,rfl,_,_,rfl,?_⟩;exact .inl ⟨l,_,_,_,rfl,rfl,SqL.of B,W,q _ _ D⟩
noncomputable def vbS (b:Bool):Str:=if b=true then "write" else "read"
noncomputable def busyK (os:List (Int×Bool)):List (Key×V):=os.map λ o=>(Sum.inl o.1,V.str (vbS o.2))
theorem zbf (os:List (Int×Bool)):(busyK os).map (·.1)=(os.map (·.1)).map Sum.inl:=by unfold busyK;rw [u3,u3];rfl
theorem busy_in {os:List (Int×Bool)} {h:Int}:(valV (busyK os) (.inl h)).isSome=true↔h∈os.map (·.1):=by rw [z71,zbf];exact ⟨λ z=>by obtain ⟨k,a,e⟩:=List.mem_map.mp z;exact O2 e ▸ a,λ z=>List.mem_map.mpr ⟨h,z,rfl⟩⟩
theorem ze1 :∀{os:List (Int×Bool)} {h:Int},h∈os.map (·.1)->∃b,(h,b)∈os/\valV (busyK os) (.inl h)=some (.str (vbS b))
 | [],_,z=>absurd z B0
 | (k,c) :: os,h,z=>by
  by_cases e:k=h
  ·subst e;exact ⟨c,.head _,z0n rfl⟩
  ·rcases List.mem_cons.mp z with y|y
   ·exact absurd y.symm e
   ·obtain ⟨b,f,d⟩:=ze1 (os:=os) y;exact ⟨b,.tail _ f,by show valV ((Sum.inl k,_) :: busyK os) _=_;rw [z0o (λ a=>e (O2 a))];exact d⟩
theorem z8a :∀{os:List (Int×Bool)} {h:Int},dropK (busyK os) (.inl h)=busyK (os.filter λ k=>decide (k.1≠h))
 | [],_=>rfl
 | (k,c) :: os,h=>by
  show dropK ((Sum.inl k,_) :: busyK os) _=_;by_cases e:k=h
  ·rw [zf8 (by rw [e]),D2 (by simp [e]),z8a]
  ·rw [zf5 (λ a=>e (O2 a)),C2 (by simp [e]),z8a];rfl
theorem ze2 {os:List (Int×Bool)} {h:Int} {b:Bool} (n:h∉os.map (·.1)):putK (busyK os) (.inl h) (.str (vbS b))=busyK (os++[(h,b)]):=by rw [z44 (by rw [zbf];exact λ z=>n (by obtain ⟨k,a,e⟩:=List.mem_map.mp z;exact O2 e ▸ a))];unfold busyK;rw [A1];rfl
theorem zh4 {α:Type} (xs:List α) (x:α):atI (xs++[x]) (-1)=some x:=by unfold atI ixN;rw [if_neg (by decide),if_pos (by rw [D0,E7];lia)];show (xs++[x])[((-1:Int) + ((xs++[x]).length:Nat)).toNat]? = _;rw [show ((-1:Int) + ((xs++[x]).length:Nat)).toNat=xs.length by rw [D0,E7];lia,E1 (C0 _),A5];rfl
theorem zbj {K:d0} {r:Addr} {H H':Hp} (R:RowAt H r) (h:Rw r H H'):Tups K H H':=λ a b z=>by
 obtain ⟨x,y,c,e,_⟩:=R;rcases z with (z|⟨ob,z⟩)|z
 ·exact .inl (.inl (h.k _ _ (λ n=>by rw [n,e] at z;cases z) z))
 ·exact .inl (.inr ⟨ob,h.k _ _ (λ n=>by rw [n,e] at z;cases z) z⟩)
 ·exact .inr z
def UB (us:List Int):Prop:=∀u∈us,-1000000000<=u/\u<=1000000000
def EvJ (K:d0) (nm:Str) (wr:Int) (H:Hp) (u wl bz ev:Addr) (i:Nat):Prop:=
 ∃ku os us ys es,H u=some (.dK ku)/\ku.map (·.1)=((0:Int) :: us).map Sum.inl/\H wl=some (.lst (((0:Int) :: us).map V.int))/\H bz=some (.dK (busyK os))/\H ev=some (.lst ys)/\All2 (EvAt K H) es ys/\TW nm wr es os us/\es.length<=i/\us.length<=i/\os.length<=i/\UB us
def z3m (K:d0):Sp:=λ vs H Q _=>∃(c hd:Addr) (wy:Int) (nm:Str) (ns:List Int),vs=[.ref c,.int wy,.ref hd,.str nm]/\SqL K H c (ns.map V.int)/\c≠hd/\ns.length<=63/\RowAt H hd/\
 ∀l ys es os us wr H',Rw hd H H'->H' l=some (.lst ys)->All2 (EvAt K H') es ys->TW nm wr es os us->UB us->es.length<=ns.length->Q (.ref l) H'
theorem z7z (T:TX (kx w) mg) (c0:Ca P w mg base "_law_take" ["row","many"] 1 z1f) (c1:Ca P w mg base "_law_stream" ["cell","way"] 1 z1v) (c2:Ca P w mg base "_law_answer" ["row","worths"] 3 (z46 (kx w))) (c3:Ca P w mg base "_law_fresh" ["row","used"] 3 (z52 (kx w))):Fo P w mg base CX0 4 446 y0r ["cells","way","head","name"] (z3m (kx w)):=by
 refine (z2m w.params).ok sc__law_events (λ vs H Q E h=>?_) (λ i7 A i6 s H vs Q E G h=>?_)
 ·obtain ⟨c,hd,wy,nm,ns,rfl,_⟩:=h;rfl
 ·obtain ⟨c,hd,wy,nm,ns,rfl,h1,e4,ln,R0,q⟩:=h;refine ⟨_,(z01 (ps_set (i:=4) sc__law_events.nd rfl (O0 rfl) (pe_op opAdd pe_int (pe_cal c0 (G.mono (by decide)) rfl (z00 (pv 2) (z00 pe_int pa_nil)))))
   (z01 (ps_set (i:=5) sc__law_events.nd rfl (O0 rfl) (pe_cal c0 (G.mono (by decide)) rfl (z00 (pv 2) (z00 (pv 4) pa_nil))))
   (z01 (ps_set (i:=6) sc__law_events.nd rfl (O0 rfl) (zay (z7f pe_int pe_bl zbp) rfl rfl (by simp) (by decide)))
   (z01 (ps_set (i:=7) sc__law_events.nd rfl (O0 rfl) (pe_lst (z00 pe_int pa_nil)))
   (z01 (ps_set (i:=8) sc__law_events.nd rfl (O0 rfl) z7j)
   (z01 (ps_set (i:=9) sc__law_events.nd rfl (O0 rfl) (pe_lst pa_nil))
   (z01 (ps_for L1 rfl (z0t (pv 0)) (z0b (i:=10) sc__law_events.nd rfl (O0 rfl))
   (z01 (ps_set (i:=11) sc__law_events.nd rfl (O0 rfl) (pe_cal c1 (G.mono (by decide)) rfl (z00 (pe_op za1 (pv 10) pe_int) (z00 (pv 1) pa_nil))))
   (z01 (ps_set (i:=12) sc__law_events.nd rfl (O0 rfl) (pe_cal c0 (G.mono (by decide)) rfl (z00 (pv 11) (z00 (pv 4) pa_nil))))
   (z03 (ps_if (pt_cmp (pc_din (hu_of G) (pv 12) (pv 8)) (by with_unfolding_all rfl))
   (z01 (ps_set (i:=13) sc__law_events.nd rfl (O0 rfl) pe_str)
   (z01 (ps_if (z08 opEq (zi4 (pv 8) (pv 12) ⟨rfl,rfl,rfl,rfl⟩) pe_str (nomark _))
   (z03 (ps_set (i:=13) sc__law_events.nd rfl (O0 rfl) (pe_cal c2 (G.mono (by decide)) rfl (z00 (pv 11) (z00 (pv 7) pa_nil)))))
   z0d)
   (z03 (z2q (z11 (pv 9) (z00 (pe_tup (z00 pe_str (z00 (pv 12) (z00 (pv 13) pa_nil)))) pa_nil))))))
   (z03 (ps_if (PW.pt (pw_and (z08 opEq (pv 12) (pv 5) (nomark _)) (z2i (z08 op_gt (pe_cal c0 (G.mono (by decide)) rfl (z00 (pv 11) (z00 pe_int pa_nil))) pe_int (nomark _)))))
   (z01 (z2q (z11 (pv 7) (z00 (pe_cal c3 (G.mono (by decide)) rfl (z00 (pv 11) (z00 (pv 6) pa_nil))) pa_nil)))
   (z01 (z3t (hu_of G) (pv 8) (pv 12) pe_str rfl)
   (z03 (z2q (z11 (pv 9) (z00 (pe_tup (z00 pe_str (z00 (pv 12) (z00 (pv 3) (z00 pe_str (z00 (pe_ix ix_seq (pv 7) (pe_un un_neg pe_int) (λ _ _=>rfl)) pa_nil)))))) pa_nil))))))
   (z01 (z3t (hu_of G) (pv 8) (pv 12) pe_str rfl)
   (z03 (z2q (z11 (pv 9) (z00 (pe_tup (z00 pe_str (z00 (pv 12) (z00 (pv 3) (z00 pe_str (z00 pe_non pa_nil)))))) pa_nil))))))))))))
   (z03 (ps_ret (pv 9)))))))))),?_⟩
  refine ⟨_,rfl,hd,5,rfl,R0,by decide,by decide,λ R H1 k1 j5 j0=>.inl ⟨2,R,rfl,rfl,?_⟩⟩;refine ⟨_,rfl,_,rfl,hd,2 + R,rfl,k1.r,by lia,by lia,λ U l k2 i8 j4=>?_⟩;have b5:=k1.trans k2;intro u hu;refine ⟨upd_same,[(.inl 0,.bl true)],rfl,(show (1:Nat)<=15 by decide),?_⟩;have fu:l u=none:=hu;have s3:Same l (upd (upd l u (.dK [])) u (.dK (mergeK [] [(.inl 0,.bl true)]))):=Same.keep (Same.upd hu) fu;have e2:upd (upd l u (.dK [])) u (.dK (mergeK [] [(.inl 0,.bl true)])) u=some (.dK [(.inl 0,.bl true)]):=upd_same;generalize upd (upd l u (.dK [])) u (.dK (mergeK [] [(.inl 0,.bl true)]))=H3 at s3 e2⊢;refine ⟨w_1,λ j b9=>?_⟩;have s4:=Same.upd (o:=.lst [V.int 0]) b9;have e0:upd H3 j (.lst [V.int 0]) j=some (.lst [V.int 0]):=upd_same;have d8:=s4 _ _ e2;have d4:=s3.trans s4;have fw:l j=none:=s3.free b9;generalize upd H3 j (.lst [V.int 0])=H4 at s4 e0 d8 d4⊢;intro d Z;have s5:=Same.upd (o:=.dK []) Z;have d7:upd H4 d (.dK []) d=some (.dK []):=upd_same;have d9:=s5 _ _ e0;have d2:=s5 _ _ d8;have c8:=d4.trans s5;have fb:l d=none:=d4.free Z;have b4:d≠u:=λ z=>by rw [z,d8] at Z;cases Z
  have b7:d≠j:=λ z=>by rw [z,e0] at Z;cases Z
  have g5:j≠u:=λ z=>by rw [z,e2] at b9;cases b9
  generalize upd H4 d (.dK [])=H5 at s5 d7 d9 d2 c8⊢;refine ⟨w_0,λ g I=>?_⟩;have s6:=Same.upd (o:=.lst []) I;have e9:upd H5 g (.lst []) g=some (.lst []):=upd_same;have g6:=s6 _ _ d7;have f7:=s6 _ _ d9;have f3:=s6 _ _ d2;have c7:=c8.trans s6;have fe:l g=none:=c8.free I;have J:g≠d:=λ z=>by rw [z,d7] at I;cases I
  have b8:g≠u:=λ z=>by rw [z,d2] at I;cases I
  have new:g≠j:=λ z=>by rw [z,d9] at I;cases I
  generalize upd H5 g (.lst [])=H6 at s6 e9 g6 f7 f3 c7⊢;have e6:SqL (kx w) l c (ns.map V.int):=(by
   rcases h1 with (z|⟨ob,z⟩)|z
   ·exact .inl (.inl (b5.k _ _ e4 z))
   ·exact .inl (.inr ⟨ob,b5.k _ _ e4 z⟩)
   ·exact .inr z)
  have J0:EvJ (kx w) nm U H6 u j d g 0:=⟨[(.inl 0,.bl true)],[],[],[],[],f3,rfl,f7,g6,e9,.nil,.nil,C0 _,C0 _,C0 _,λ _ h=>absurd h B0⟩
  refine ⟨_,rfl,c,rfl,⟨_,c7.seq e6⟩,?_⟩;refine z1g (K:=KX w.params) (a:=c) (xs:=ns.map V.int) (λ i σ H'=>Same l H'/\EvJ (kx w) nm U H' u j d g i/\∃x10 x11 x12 x13,σ=[some (.ref c),some (.int wy),some (.ref hd),some (.str nm),some (.int (2 + R)),some (.int U),some (.ref u),some (.ref j),some (.ref d),some (.ref g),x10,x11,x12,x13])
   ⟨c7,J0,_,_,_,_,rfl⟩ (λ _ σ H' _ h=>h.1.seq e6) ?_ ?_
  ·rintro i y σ H7 hy ⟨s7,⟨ku,os,us,ys,es,eu,eku,ew,eb,ee,al,tw,le,lu,lo,ub⟩,x10,x11,x12,x13,rfl⟩;obtain ⟨cl,_,rfl⟩:=List.mem_map.mp (v0 hy);have hi:i < 63:=by have:=(List.getElem?_eq_some_iff.mp hy).1;rw [L0] at this;lia
   refine g_name ?_;refine ⟨_,rfl,_,_,rfl,rfl,⟨by decide,by decide⟩,_,rfl,_,_,rfl,λ r tr F b0 b1=>?_⟩;have s8:=Same.upd (o:=.lst [.int (cl / 2),.int wy,.int tr]) F;have R8:RowAt (upd H7 r (.lst [.int (cl / 2),.int wy,.int tr])) r:=⟨_,_,_,upd_same,b0,b1⟩
   have fr:l r=none:=s7.free F;have a5:r≠u:=λ z=>by rw [z,eu] at F;cases F
   have b2:r≠j:=λ z=>by rw [z,ew] at F;cases F
   have a7:r≠d:=λ z=>by rw [z,eb] at F;cases F
   have a1:r≠g:=λ z=>by rw [z,ee] at F;cases F
   generalize upd H7 r (.lst [.int (cl / 2),.int wy,.int tr])=H8 at s8 R8⊢;refine ⟨_,rfl,_,rfl,r,2 + R,rfl,R8,by lia,by lia,λ h B k9 j2 i5=>?_⟩;have b3 :∀{a:Addr} {o:HO},a≠r->H7 a=some o->B a=some o:=λ n e=>k9.k _ _ n (s8 _ _ e);have c9:Same l B:=λ a o e=>k9.k _ _ (λ z=>by rw [z,fr] at e;cases e) ((s7.trans s8) a o e);have h6:Tups (kx w) H7 B:=(Tups.of s8).trans (zbj R8 k9);have d6:=b3 a5.symm eu;have d0:=b3 b2.symm ew;have M:=b3 a7.symm eb;have c4:=b3 a1.symm ee;have d3:=z02 (λ _ _ z=>EvAt.tups h6 z) al;have R9:=k9.r;have ly:ys.length=es.length:=z05 al;refine ⟨_,rfl,_,rfl,d,_,rfl,DGet.k (k:=.inl h) M,_,rfl,?_⟩;by_cases hb:h∈os.map (·.1)
   ·refine iteP (busy_in.mpr hb) ?_;obtain ⟨b,h8,i0⟩:=ze1 hb;have g9 :∀(a:V) (f:Hp),(b=true->a=.str "ok")->(b=false->∃i,a=.int i)->Same l f->Tups (kx w) B f->f u=some (.dK ku)->f j=some (.lst (((0:Int) :: us).map V.int))->f d=some (.dK (busyK (os.filter λ k=>decide (k.1≠h))))->f g=some (.lst ys)->∀p,f p=none->Same l (upd (upd f p (.tup [.str "end",.int h,a])) g (.lst (ys++[.ref p])))/\EvJ (kx w) nm U (upd (upd f p (.tup [.str "end",.int h,a])) g (.lst (ys++[.ref p]))) u j d g (i + 1):=by intro a f h9 h3 sx tx xu xw xb xe p v;have t:=Same.upd (o:=.tup [.str "end",.int h,a]) v;have e1:upd f p (.tup [.str "end",.int h,a]) p=some (.tup [.str "end",.int h,a]):=upd_same;have a2:=t _ _ xe;have a9:=t _ _ xu;have a8:=t _ _ xw;have a6:=t _ _ xb;have a4:=sx.trans t;have g8:=tx.trans (.of t);generalize upd f p (.tup [.str "end",.int h,a])=Hy at t e1 a2 a9 a8 a6 a4 g8⊢;have ty:Tups (kx w) Hy (upd Hy g (.lst (ys++[.ref p]))):=Tups.lst a2;refine ⟨Same.keep a4 fe,ku,os.filter λ k=>decide (k.1≠h),us,ys++[.ref p],es++[.fin h a],by rw [upd_ne b8.symm];exact a9,eku,by rw [upd_ne new.symm];exact a8,by rw [upd_ne J.symm];exact a6,upd_same,?_,.fin tw h8 h9 h3,by rw [D0];show es.length + 1<=i + 1;lia,by lia,K0 (T1 _ _) (by lia),ub⟩;exact z0q (z02 (λ _ _ z=>EvAt.tups (g8.trans ty) z) d3) ⟨p,rfl,ty _ _ (SqT.of e1)⟩
    have kb:Tups (kx w) B (upd B d (.dK (dropK (busyK os) (.inl h)))):=Tups.dict M;refine ⟨_,rfl,d,rfl,.inl ⟨_,.inl M⟩,_,rfl,busyK os,.inl h,.str (vbS b),M,rfl,i0,rfl,_,rfl,?_⟩;have W:upd B d (.dK (dropK (busyK os) (.inl h))) u=some (.dK ku):=by rw [upd_ne b4.symm];exact d6
    have L:upd B d (.dK (dropK (busyK os) (.inl h))) j=some (.lst (((0:Int) :: us).map V.int)):=by rw [upd_ne b7.symm];exact d0
    have D:upd B d (.dK (dropK (busyK os) (.inl h))) g=some (.lst ys):=by rw [upd_ne J];exact c4
    have N:upd B d (.dK (dropK (busyK os) (.inl h))) d=some (.dK (busyK (os.filter λ k=>decide (k.1≠h)))):=by rw [z8a];exact upd_same
    have c5:RowAt (upd B d (.dK (dropK (busyK os) (.inl h)))) r:=R9.elim λ a z=>z.elim λ b z=>z.elim λ c z=>⟨a,b,c,by rw [upd_ne a7];exact z.1,z.2⟩
    have a0:Same l (upd B d (.dK (dropK (busyK os) (.inl h)))):=Same.keep c9 fb;generalize upd B d (.dK (dropK (busyK os) (.inl h)))=X at kb W L D N c5 a0⊢;cases b with
    | true=>refine iteK ?_;refine ⟨_,rfl,.inl ⟨rfl,ys,SqL.of D⟩,_,rfl,_,rfl,w_3,λ p v=>?_⟩;refine ⟨g,ys,_,rfl,rfl,(Same.upd v) _ _ D,U0 (m:=100) (by lia) (by decide),?_⟩;obtain ⟨Y,O⟩:=g9 (.str "ok") X (λ _=>rfl) (λ z=>by cases z) a0 kb W L N D p v;exact ⟨Y,O,_,_,_,_,rfl⟩
    | false=>refine iteP (by decide +kernel) ?_;refine ⟨_,rfl,_,rfl,r,j,(0:Int) :: us,rfl,c5,L,b2,by simp,by show us.length + 1<=100;lia,λ a C S=>?_⟩;have k :∀{a:Addr} {o:HO},a≠r->X a=some o->C a=some o:=λ n e=>S.k _ _ n e;refine ⟨_,rfl,.inl ⟨rfl,ys,SqL.of (k a1.symm D)⟩,_,rfl,_,rfl,w_3,λ p v=>?_⟩;refine ⟨g,ys,_,rfl,rfl,(Same.upd v) _ _ (k a1.symm D),U0 (m:=100) (by lia) (by decide),?_⟩;obtain ⟨Y,O⟩:=g9 (.int a) C (λ z=>by cases z) (λ _=>⟨a,rfl⟩) (λ c o e=>S.k _ _ (λ z=>by rw [z,fr] at e;cases e) (a0 c o e)) (kb.trans (zbj c5 S)) (k a5.symm W) (k b2.symm L) (k a7.symm N) (k a1.symm D) p v;exact ⟨Y,O,_,_,_,_,rfl⟩
   ·refine iteN (λ z=>hb (busy_in.mp z)) ?_;have rd :∀(f:Hp),Same l f->Tups (kx w) B f->f u=some (.dK ku)->f j=some (.lst (((0:Int) :: us).map V.int))->f d=some (.dK (busyK os))->f g=some (.lst ys)->∀p,upd f d (.dK (putK (busyK os) (.inl h) (.str (vbS false)))) p=none->upd f d (.dK (putK (busyK os) (.inl h) (.str (vbS false)))) g=some (.lst ys)/\Same l (upd (upd (upd f d (.dK (putK (busyK os) (.inl h) (.str (vbS false))))) p (.tup [.str "begin",.int h,.str nm,.str "read",.non])) g (.lst (ys++[.ref p])))/\EvJ (kx w) nm U (upd (upd (upd f d (.dK (putK (busyK os) (.inl h) (.str (vbS false))))) p (.tup [.str "begin",.int h,.str nm,.str "read",.non])) g (.lst (ys++[.ref p]))) u j d g (i + 1):=by
     intro f sx tx xu xw xb xe p v;rw [ze2 hb] at v⊢;have R:Tups (kx w) f (upd f d (.dK (busyK (os++[(h,false)])))):=Tups.dict xb;have a6:upd f d (.dK (busyK (os++[(h,false)]))) d=some (.dK (busyK (os++[(h,false)]))):=upd_same;have a9:upd f d (.dK (busyK (os++[(h,false)]))) u=some (.dK ku):=by rw [upd_ne b4.symm];exact xu
     have a8:upd f d (.dK (busyK (os++[(h,false)]))) j=some (.lst (((0:Int) :: us).map V.int)):=by rw [upd_ne b7.symm];exact xw
     have a2:upd f d (.dK (busyK (os++[(h,false)]))) g=some (.lst ys):=by rw [upd_ne J];exact xe
     have a4:Same l (upd f d (.dK (busyK (os++[(h,false)])))):=Same.keep sx fb;refine ⟨a2,?_⟩;generalize upd f d (.dK (busyK (os++[(h,false)])))=Hy at R a6 a9 a8 a2 a4 v⊢;obtain ⟨Hz,v_,t,e1⟩:=newA (.tup [.str "begin",.int h,.str nm,.str "read",.non]) v;rw [<-v_];have ty:Tups (kx w) Hz (upd Hz g (.lst (ys++[.ref p]))):=Tups.lst (t _ _ a2);refine ⟨Same.keep (a4.trans t) fe,ku,os++[(h,false)],us,ys++[.ref p],es++[.beg h (.str nm) (.str "read") .non],by rw [upd_ne b8.symm];exact t _ _ a9,eku,by rw [upd_ne new.symm];exact t _ _ a8,by rw [upd_ne J.symm];exact t _ _ a6,upd_same,?_,.rd tw hb,by rw [D0];show es.length + 1<=i + 1;lia,by lia,by rw [D0];show os.length + 1<=i + 1;lia,ub⟩;exact z0q (z02 (λ _ _ z=>EvAt.tups ((tx.trans R).trans ((Tups.of t).trans ty)) z) d3) ⟨p,rfl,ty _ _ (SqT.of e1)⟩
    have j3 :∀(f:Hp) (x13:Option V),Same l f->Tups (kx w) B f->f u=some (.dK ku)->f j=some (.lst (((0:Int) :: us).map V.int))->f d=some (.dK (busyK os))->f g=some (.lst ys)->True:=λ _ _ _ _ _ _ _ _=>trivial;refine ⟨_,rfl,_,rfl,rfl,_,rfl,?_⟩;by_cases hw:h=U
    ·refine iteP (decide_eq_true (by rw [hw])) ?_;refine ⟨_,rfl,r,5,rfl,R9,by decide,by decide,λ t5 X a3 j1 i9=>⟨_,_,rfl,rfl,_,rfl,?_⟩⟩;have k :∀{a:Addr} {o:HO},a≠r->B a=some o->X a=some o:=λ n e=>a3.k _ _ n e;have a0:Same l X:=λ c o e=>a3.k _ _ (λ z=>by rw [z,fr] at e;cases e) (c9 c o e);have e3:=zbj (K:=KX w.params) R9 a3;have W:=k a5.symm d6;have L:=k b2.symm d0;have N:=k a7.symm M;have D:=k a1.symm c4;by_cases hz:t5 > 0
     ·refine iteP (decide_eq_true hz) ?_;refine ⟨_,rfl,.inl ⟨rfl,_,SqL.of L⟩,_,rfl,_,rfl,r,u,(0:Int) :: us,ku,rfl,a3.r,W,a5,eku,by show us.length + 1<=100;lia,λ x C S i3 i4 hx=>?_⟩;have kk :∀{a:Addr} {o:HO},a≠r->X a=some o->C a=some o:=λ n e=>S.k _ _ n e;have h4:Same l C:=λ c o e=>S.k _ _ (λ z=>by rw [z,fr] at e;cases e) (a0 c o e);have i1:=zbj (K:=KX w.params) a3.r S;have i2:=kk a5.symm W;have h5:=kk b2.symm L;have h7:=kk a7.symm N;have h2:=kk a1.symm D;have xk:putK ku (.inl x) (.bl true)=ku++[(.inl x,.bl true)]:=z44 (by rw [eku];exact λ z=>hx (by obtain ⟨k,hk,e⟩:=List.mem_map.mp z;exact O2 e ▸ hk));have f4:Tups (kx w) C (upd C u (.dK (putK ku (.inl x) (.bl true)))):=Tups.dict i2;have g3:Same l (upd C u (.dK (putK ku (.inl x) (.bl true)))):=Same.keep h4 fu;have g1:upd C u (.dK (putK ku (.inl x) (.bl true))) u=some (.dK (putK ku (.inl x) (.bl true))):=upd_same;have d1:upd C u (.dK (putK ku (.inl x) (.bl true))) j=some (.lst (((0:Int) :: us).map V.int)):=by rw [upd_ne g5];exact h5
      have f6:upd C u (.dK (putK ku (.inl x) (.bl true))) d=some (.dK (busyK os)):=by rw [upd_ne b4];exact h7
      have g7:upd C u (.dK (putK ku (.inl x) (.bl true))) g=some (.lst ys):=by rw [upd_ne b8];exact h2
      generalize upd C u (.dK (putK ku (.inl x) (.bl true)))=H12 at f4 g3 g1 d1 f6 g7⊢;refine ⟨j,_,_,rfl,rfl,d1,U0 (m:=100) (by rw [L0];show us.length + 1<=100;lia) (by decide),?_⟩;have f8:Tups (kx w) H12 (upd H12 j (.lst (((0:Int) :: us).map V.int++[.int x]))):=Tups.lst d1;have g0:Same l (upd H12 j (.lst (((0:Int) :: us).map V.int++[.int x]))):=Same.keep g3 fw;have f9:upd H12 j (.lst (((0:Int) :: us).map V.int++[.int x])) j=some (.lst (((0:Int) :: us).map V.int++[.int x])):=upd_same;have g2:upd H12 j (.lst (((0:Int) :: us).map V.int++[.int x])) u=some (.dK (putK ku (.inl x) (.bl true))):=by rw [upd_ne g5.symm];exact g1
      have d5:upd H12 j (.lst (((0:Int) :: us).map V.int++[.int x])) d=some (.dK (busyK os)):=by rw [upd_ne b7];exact f6
      have e8:upd H12 j (.lst (((0:Int) :: us).map V.int++[.int x])) g=some (.lst ys):=by rw [upd_ne new];exact g7
      generalize upd H12 j (.lst (((0:Int) :: us).map V.int++[.int x]))=H13 at f8 g0 f9 g2 d5 e8⊢;refine ⟨_,rfl,_,rfl,d,_,rfl,DPut.k (k:=.inl h) d5 (U0 (m:=100) (by unfold busyK;rw [L0];lia) (by decide)),?_⟩;rw [show putK (busyK os) (.inl h) (.str "write")=busyK (os++[(h,true)]) from ze2 (b:=true) hb];have e7:Tups (kx w) H13 (upd H13 d (.dK (busyK (os++[(h,true)])))):=Tups.dict d5;have f5:Same l (upd H13 d (.dK (busyK (os++[(h,true)])))):=Same.keep g0 fb;have g4:upd H13 d (.dK (busyK (os++[(h,true)]))) d=some (.dK (busyK (os++[(h,true)]))):=upd_same;have e5:upd H13 d (.dK (busyK (os++[(h,true)]))) u=some (.dK (putK ku (.inl x) (.bl true))):=by rw [upd_ne b4.symm];exact g2
      have c6:upd H13 d (.dK (busyK (os++[(h,true)]))) j=some (.lst (((0:Int) :: us).map V.int++[.int x])):=by rw [upd_ne b7.symm];exact f9
      have b6:upd H13 d (.dK (busyK (os++[(h,true)]))) g=some (.lst ys):=by rw [upd_ne J];exact e8
      generalize upd H13 d (.dK (busyK (os++[(h,true)])))=H14 at e7 f5 g4 e5 c6 b6⊢;refine ⟨_,rfl,.inl ⟨rfl,ys,SqL.of b6⟩,_,rfl,_,rfl,_,rfl,_,rfl,.inl ⟨j,_,-1,.int x,rfl,rfl,SqL.of c6,zh4 _ _,w_5,λ p v=>?_⟩⟩;obtain ⟨h0,v_,t,e1⟩:=newA (.tup [.str "begin",.int h,.str nm,.str "write",.int x]) v;rw [<-v_];refine ⟨g,ys,_,rfl,rfl,t _ _ b6,U0 (m:=100) (by lia) (by decide),?_⟩;have ty:Tups (kx w) h0 (upd h0 g (.lst (ys++[.ref p]))):=Tups.lst (t _ _ b6);have ux:x≠0/\x∉us:=⟨λ z=>hx (by rw [z];exact .head _),λ z=>hx (.tail _ z)⟩
      refine ⟨Same.keep (f5.trans t) fe,⟨putK ku (.inl x) (.bl true),os++[(h,true)],us++[x],ys++[.ref p],es++[.beg h (.str nm) (.str "write") (.int x)],by rw [upd_ne b8.symm];exact t _ _ e5,?_,?_,by rw [upd_ne J.symm];exact t _ _ g4,upd_same,?_,?_,by rw [D0];show es.length + 1<=i + 1;lia,by rw [D0];show us.length + 1<=i + 1;lia,by rw [D0];show os.length + 1<=i + 1;lia,λ u hu=>(List.mem_append.mp hu).elim (ub u) λ z=>by rw [List.mem_singleton.mp z];exact ⟨i3,i4⟩⟩,_,_,_,_,rfl⟩
      ·rw [xk,A1,eku];show ((0:Int) :: us).map Sum.inl++[Sum.inl x]=(((0:Int) :: us)++[x]).map Sum.inl;rw [A1];rfl
      ·rw [upd_ne new.symm];have:=t _ _ c6;rw [this];show some (HO.lst (((0:Int) :: us).map V.int++[.int x]))=some (.lst ((((0:Int) :: us)++[x]).map V.int));rw [A1];rfl
      ·exact z0q (z02 (λ _ _ z=>EvAt.tups ((((e3.trans i1).trans f4).trans (f8.trans e7)).trans ((Tups.of t).trans ty)) z) d3) ⟨p,rfl,ty _ _ (SqT.of e1)⟩
      ·rw [hw];exact .wri tw (by rw [<-hw];exact hb) ux.1 ux.2
     ·refine iteN (λ e=>hz (of_decide_eq_true e)) ?_;refine ⟨_,rfl,_,rfl,d,_,rfl,DPut.k (k:=.inl h) N (U0 (m:=100) (by unfold busyK;rw [L0];lia) (by decide)),?_⟩;have er:=λ p v=>rd X a0 e3 W L N D p v;refine ⟨_,rfl,.inl ⟨rfl,ys,SqL.of (by rw [upd_ne J];exact D)⟩,_,rfl,_,rfl,w_5,λ p v=>?_⟩;obtain ⟨f0,Y,O⟩:=er p v;refine ⟨g,ys,_,rfl,rfl,(Same.upd v) _ _ f0,U0 (m:=100) (by lia) (by decide),?_⟩;exact ⟨Y,O,_,_,_,_,rfl⟩
    ·refine iteN (λ e=>hw (by have:=of_decide_eq_true e;injection this)) ?_;refine iteN (by decide) ?_;refine ⟨_,rfl,_,rfl,d,_,rfl,DPut.k (k:=.inl h) M (U0 (m:=100) (by unfold busyK;rw [L0];lia) (by decide)),?_⟩;refine ⟨_,rfl,.inl ⟨rfl,ys,SqL.of (by rw [upd_ne J];exact c4)⟩,_,rfl,_,rfl,w_5,λ p v=>?_⟩;obtain ⟨f0,Y,O⟩:=rd B c9 (λ _ _ z=>z) d6 d0 M c4 p v;refine ⟨g,ys,_,rfl,rfl,(Same.upd v) _ _ f0,U0 (m:=100) (by lia) (by decide),?_⟩;exact ⟨Y,O,_,_,_,_,rfl⟩
  ·rintro σ H7 ⟨s7,⟨ku,os,us,ys,es,eu,eku,ew,eb,ee,al,tw,le,lu,lo,ub⟩,x10,x11,x12,x13,rfl⟩;rw [L0] at le;exact ⟨_,rfl,q g ys es os us U H7 ⟨b5.k.trans s7.kept,b5.r.same s7⟩ ee al tw ub le⟩
def z5w (K:d0):Sp:=λ vs H Q _=>∃(sc:Addr) (ns:List Int),vs=[.ref sc,.int 16]/\SqL K H sc (ns.map V.int)/\ns.length<=63/\
 ∀t pt th te ys es os us wr nm H',Same H H'->H' t=some (.tup [.ref pt,.ref te])->H' pt=some (.tup [.ref th])->H' th=some (.tup [.str nm,.str "register"])->H' te=some (.tup ys)->All2 (EvAt K H') es ys->TW nm wr es os us->UB us->es.length<=16->Q (.ref t) H'
theorem zh0 (ns:List Int) (a b:Option Int) :∃ms:List Int,cutV (ns.map V.int) a b=ms.map V.int/\ms.length<=ns.length/\ms.length<=HT.sIx ns.length ns.length b - HT.sIx ns.length 0 a:=by
 refine ⟨(ns.drop (HT.sIx (ns.map V.int).length 0 a)).take (HT.sIx (ns.map V.int).length (ns.map V.int).length b - HT.sIx (ns.map V.int).length 0 a),?_,?_⟩
 ·unfold cutV;rw [List.map_take,List.map_drop]
 ·rw [P4,T6,L0]
  lia
theorem za0 (T:TX (kx w) mg) (c1:Ca P w mg base "_law_cell_at" ["script","k"] 1 (z30 (kx w))) (c2:Ca P w mg base "_law_stream" ["cell","way"] 1 z1v) (c3:Ca P w mg base "_law_name" ["row"] 2 (z6b (kx w))) (c4:Ca P w mg base "_law_events" ["cells","way","head","name"] 4 (z3m (kx w))):Fo P w mg base CX0 5 453 y1e ["script","most"] (z5w (kx w)):=by
 refine (z4p w.params).ok sc__law_tale (λ vs H Q E h=>?_) (λ a7 A a6 s H vs Q E D h=>?_)
 ·obtain ⟨p,J,rfl,_⟩:=h;rfl
 ·obtain ⟨p,J,rfl,sq,hn,q⟩:=h;refine ⟨_,(z01 (ps_set (i:=2) sc__law_tale.nd rfl (O0 rfl) (pe_cal c1 (D.mono (by decide)) rfl (z00 (pv 0) (z00 pe_int pa_nil))))
   (z01 (ps_set (i:=3) sc__law_tale.nd rfl (O0 rfl) (pe_cal c2 (D.mono (by decide)) rfl (z00 (pe_op za1 (pv 2) pe_int) (z00 (pe_op op_mod (pv 2) pe_int) pa_nil))))
   (z01 (ps_set (i:=4) sc__law_tale.nd rfl (O0 rfl) (pe_cal c3 (D.mono (by decide)) rfl (z00 (pv 3) pa_nil)))
   (z03 (ps_ret (pe_tup (z00 (pe_tup (z00 (pe_tup (z00 (pv 4) (z00 pe_str pa_nil))) pa_nil)) (z00 (z7q z2d rfl (T.no (ze7 _)) boot_tuple (z00 (pe_cal c4 (D.mono (by decide)) rfl (z00 (z37 slSeq (pv 0) (z54 pe_int) (z54 (pe_op opAdd pe_int (pv 1)))) (z00 (pe_op op_mod (pv 2) pe_int) (z00 (pv 3) (z00 (pv 4) pa_nil))))) pa_nil)) pa_nil)))))))),?_⟩
  refine ⟨_,rfl,p,J,rfl,sq,λ f=>?_⟩;refine ⟨_,rfl,_,_,rfl,rfl,⟨by decide,by decide⟩,_,rfl,_,_,rfl,rfl,(show (0:Int) < 2 by decide),_,_,rfl,λ d G C b0 b1=>?_⟩;have Z:=Same.upd (o:=.lst [.int (f / 2),.int (f % 2),.int G]) C;have Y:RowAt (upd H d (.lst [.int (f / 2),.int (f % 2),.int G])) d:=⟨_,_,_,upd_same,b0,b1⟩
  have a8 :∀{xs:List V},H p=some (.lst xs)->p≠d:=λ e z=>by rw [z,C] at e;cases e
  generalize upd H d (.lst [.int (f / 2),.int (f % 2),.int G])=H1 at Z Y⊢;refine ⟨_,rfl,d,rfl,Y,λ nm K k2=>?_⟩;have s2:Same H K:=λ c o e=>k2.k _ _ (λ z=>by rw [z,C] at e;cases e) (Z c o e);refine ⟨_,rfl,w_2,λ b a4=>⟨w_1,λ pt U=>?_⟩⟩;have I:=Same.upd (o:=.tup [.str nm,.str "register"]) a4;have e3:upd K b (.tup [.str nm,.str "register"]) b=some (.tup [.str nm,.str "register"]):=upd_same;generalize upd K b (.tup [.str nm,.str "register"])=H3 at I e3 U⊢;have v:=Same.upd (o:=.tup [.ref b]) U;have O:upd H3 pt (.tup [.ref b]) pt=some (.tup [.ref b]):=upd_same;have a0:=v _ _ e3;generalize upd H3 pt (.tup [.ref b])=H4 at v O a0⊢;have s4:=s2.trans (I.trans v);have R:=k2.r.same (I.trans v);refine ⟨_,rfl,1,rfl,_,rfl,.inl ⟨1,16,rfl,rfl,_,rfl,.inl ⟨p,_,rfl,s4.seq sq,λ j W=>?_⟩⟩⟩;obtain ⟨u,em,lm,a5⟩:=zh0 J (some 1) (some (1 + 16));rw [show (some (1:Int))=some ((1:Nat):Int) from rfl,show (some ((1:Int) + 16))=some ((17:Nat):Int) from rfl,HT.sIx_nat,HT.sIx_nat] at a5;rw [em];have n:=Same.upd (o:=.lst (u.map V.int)) W;have S:upd H4 j (.lst (u.map V.int)) j=some (.lst (u.map V.int)):=upd_same;have a2:j≠d:=R.fresh W;have L:=R.same n;have M:=s4.trans n;have a1:=n _ _ a0;have N:=n _ _ O;generalize upd H4 j (.lst (u.map V.int))=H5 at n S L M a1 N⊢;refine ⟨_,rfl,_,_,rfl,rfl,(show (0:Int) < 2 by decide),_,rfl,_,rfl,j,d,_,nm,u,rfl,SqL.of S,a2,by lia,L,λ l g es os us wr B k6 el al tw ub le=>?_⟩;have s6:Same H B:=λ c o e=>k6.k _ _ (λ z=>by rw [z,C] at e;cases e) (M c o e);have rt :∀{a:Addr} {xs:List V},H5 a=some (.tup xs)->B a=some (.tup xs):=λ e=>k6.k _ _ (λ z=>by obtain ⟨x,y,c,e',_⟩:=L;rw [z,e'] at e;cases e) e;refine ⟨l,_,rfl,.inl ⟨SqL.of el,λ m a3=>⟨w_2,λ t ht=>?_⟩⟩⟩;have X:=Same.upd (o:=.tup g) a3;have e7:upd B m (.tup g) m=some (.tup g):=upd_same;generalize upd B m (.tup g)=H7 at X e7 ht⊢;have q8:=Same.upd (o:=.tup [.ref pt,.ref m]) ht;have F:=X.trans q8;exact q t pt b m g es os us wr nm _ (s6.trans F) upd_same (F _ _ (rt N)) (F _ _ (rt a1)) (q8 _ _ e7) (z02 (λ _ _ z=>EvAt.tups (.of F) z) al) tw ub (by lia)
noncomputable def xaV (r:Rc):V:=if r.v=.str "read"/\r.e.isSome=true then r.a else r.x
def ActAt (H:Hp) (r:Rc) (y:V):Prop:=∃p,y=.ref p/\H p=some (.lst [r.v,xaV r,r.a,.int r.b,endV r.e])
theorem ActAt.same {H H':Hp} {r:Rc} {y:V} (s:Same H H') (h:ActAt H r y):ActAt H' r y:=h.elim λ p z=>⟨p,z.1,s _ _ z.2⟩
theorem ActAt.wrote {H:Hp} {l:Addr} {o:HO} {r:Rc} {y:V} (n:y≠.ref l) (h:ActAt H r y):ActAt (upd H l o) r y:=h.elim λ p z=>⟨p,z.1,by rw [upd_ne (λ e=>n (by rw [z.1,e]))];exact z.2⟩
noncomputable def EvV:Ev->Prop
 | .beg _ _ v _=>∃z,v=.str z
 | .fin _ _=>True
def z2c (K:d0):Sp:=λ vs H Q _=>∃(te:Addr) (es:List Ev) (ys:List V),vs=[.ref te]/\SqT K H te ys/\All2 (EvAt K H) es ys/\es.length<=100/\dWf 0 [] es/\(∀e∈es,EvV e)/\∀l zs H',Same H H'->H' l=some (.lst zs)->All2 (ActAt H') (dAll 0 [] es) zs->Q (.ref l) H'
theorem z9k (T:TX (kx w) mg):Fo P w mg base CX0 1 460 y14 ["events"] (z2c (kx w)):=by
 refine (z39 w.params).ok sc__law_deeds (λ vs H Q E h=>?_) (λ d5 A d4 s H vs Q E hr h=>?_)
 ·obtain ⟨te,u,ys,rfl,_⟩:=h;rfl
 ·obtain ⟨te,u,ys,rfl,se,al,hl,wf,evv,q⟩:=h;refine ⟨_,(z01 (ps_set (i:=1) sc__law_deeds.nd rfl (O0 rfl) (pe_lst pa_nil))
   (z01 (ps_set (i:=2) sc__law_deeds.nd rfl (O0 rfl) z7j)
   (z01 (ps_for L1 rfl (zdm rfl (T.no (z0m _)) (z00 (pv 0) pa_nil)) (pg_tup rfl (z07 (z0b (i:=3) sc__law_deeds.nd rfl (O0 rfl)) (z07 (z0b (i:=4) sc__law_deeds.nd rfl (O0 rfl)) z0j)))
   (z03 (ps_if (z08 opEq (pe_ix ix_seq (pv 4) pe_int (λ _ _=>rfl)) pe_str (nomark _))
   (z01 (z3t (hu_of hr) (pv 2) (pe_ix ix_seq (pv 4) pe_int (λ _ _=>rfl)) (z0g z3s rfl (T.no (n_len _)) K5 (z00 (pv 1) pa_nil)) rfl)
   (z03 (z2q (z11 (pv 1) (z00 (pe_lst (z00 (pe_ix ix_seq (pv 4) pe_int (λ _ _=>rfl)) (z00 (pe_ix ix_seq (pv 4) pe_int (λ _ _=>rfl)) (z00 pe_non (z00 (pv 3) (z00 pe_non pa_nil)))))) pa_nil)))))
   (z01 (ps_set (i:=5) sc__law_deeds.nd rfl (O0 rfl) (pe_ix ix_seq (pv 1) (z58 (hu_of hr) (pv 2) (pe_ix ix_seq (pv 4) pe_int (λ _ _=>rfl)) (λ _ _=>rfl)) (λ _ _=>rfl)))
   (z01 (ps_asg (pv 3) (pg_sub (pv 5) pe_int z4f))
   (z01 (ps_asg (pe_ix ix_seq (pv 4) pe_int (λ _ _=>rfl)) (pg_sub (pv 5) pe_int z4f))
   (z03 (ps_if (z08 opEq (pe_ix ix_seq (pv 5) pe_int (λ _ _=>rfl)) pe_str (nomark _))
   (z03 (ps_asg (pe_ix ix_seq (pv 4) pe_int (λ _ _=>rfl)) (pg_sub (pv 5) pe_int z4f)))
   z0d))))))))
   (z03 (ps_ret (pv 1)))))),?_⟩
  refine ⟨w_0,λ l b8=>?_⟩;intro d b0;have a2:l≠d:=z0e upd_same b0;have d1:H d=none:=by rwa [upd_ne a2.symm] at b0
  have s2:Same H (upd (upd H l (.lst [])) d (.dK [])):=(Same.upd b8).trans (Same.upd b0);have N:upd (upd H l (.lst [])) d (.dK []) l=some (.lst []):=by rw [upd_ne a2];exact upd_same
  have C:upd (upd H l (.lst [])) d (.dK []) d=some (.dK []):=upd_same;generalize upd (upd H l (.lst [])) d (.dK [])=H2 at s2 N C⊢;have c5:=z05 al;refine ⟨_,rfl,te,ys,rfl,s2.seqT se,?_⟩;refine zbw (K:=KX w.params) (a:=te) (xs:=ys) (λ i σ H'=>∃rs c t,H' l=some (.lst c)/\All2 (ActAt H') rs c/\c.Nodup/\(∀p,V.ref p∈c->p≠l/\H p=none)/\H' d=some (.dK t)/\t.length<=i/\rs.length<=i/\(∀h,valV t (.inl h)=(lastI h (rs.map Rc.h)).map λ j=>V.int (j:Nat))/\dAll i rs (u.drop i)=dAll 0 [] u/\dWf i rs (u.drop i)/\(∀(k:Nat) (r:Rc),rs[k]? = some r->∃z,r.v=V.str z)/\Same H H'/\∃x3 x4 x5,σ=[some (.ref te),some (.ref l),some (.ref d),x3,x4,x5])
   ⟨[],[],[],N,.nil,.nil,λ _ z=>absurd z B0,C,C0 _,C0 _,λ h=>rfl,by rw [M4],by rw [M4];exact wf,(λ k r z=>by simp at z),s2,_,_,_,rfl⟩ (λ i σ H' h=>?_) ?_ ?_
  ·obtain ⟨rs,c,t,_,_,_,_,_,_,_,_,_,_,_,s',_⟩:=h;exact s'.seqT se
  ·rintro i y σ H3 pe hy ⟨rs,c,t,el3,ar3,nd,nzl,ed3,hk,hr',hv,B,dw,rv,s3,x3,x4,x5,rfl⟩ hpe;obtain ⟨e,he,ev⟩:=z0c al hy;obtain ⟨b2,ee⟩:=List.getElem?_eq_some_iff.mp he;have dr:u.drop i=e :: u.drop (i + 1):=by rw [T4 b2,ee]
   rw [dr] at B dw;have Y:=Same.upd (o:=.tup [.int i,y]) hpe;have s4:=s3.trans Y;have X:=Y _ _ el3;have G:=Y _ _ ed3;have M:=z02 (λ a b z=>ActAt.same Y z) ar3;have b4:upd H3 pe (.tup [.int i,y]) pe=some (.tup [.int i,y]):=upd_same;generalize upd H3 pe (.tup [.int i,y])=H4 at Y s4 X G M b4⊢;have b9:=EvAt.tups (.of s4) ev;have d6:i < 100:=O1 b2 hl;have lz:c.length=rs.length:=z05 M;refine ⟨pe,_,rfl,SqT.of b4,rfl,.int i,_,rfl,y,_,rfl,rfl,?_⟩;cases e with
   | beg h n v x=>
    obtain ⟨F,rfl,L⟩:=b9;refine ⟨_,rfl,.inr (.inl ⟨F,_,0,.str "begin",rfl,rfl,L,z04 (j:=0) rfl,rfl,_,rfl,iteP (decide_eq_true rfl) ?_⟩)⟩;refine ⟨_,rfl,.inl ⟨l,c,rfl,.inl (SqL.of X),⟨_,rfl,⟨_,rfl,.inr (.inl ⟨F,_,1,.int h,rfl,rfl,L,z04 (j:=1) rfl,d,_,rfl,DPut.k (k:=.inl h) G (U0 (m:=100) (by lia) (by decide)),?_⟩)⟩⟩⟩⟩;have t5:Tups (kx w) H4 (upd H4 d (.dK (putK t (.inl h) (.int (c.length:Nat))))):=Tups.dict G;have s5:=Same.keep (o:=.dK (putK t (.inl h) (.int (c.length:Nat)))) s4 d1;have a0:upd H4 d (.dK (putK t (.inl h) (.int (c.length:Nat)))) l=some (.lst c):=by rw [upd_ne a2];exact X
    have c1:upd H4 d (.dK (putK t (.inl h) (.int (c.length:Nat)))) d=some (.dK (putK t (.inl h) (.int (c.length:Nat)))):=upd_same;have a7:All2 (ActAt (upd H4 d (.dK (putK t (.inl h) (.int (c.length:Nat)))))) rs c:=z02 (λ a b z=>z.wrote (λ e=>by obtain ⟨p,N,C⟩:=z;rw [N] at e;cases e;rw [G] at C;cases C)) M;generalize upd H4 d (.dK (putK t (.inl h) (.int (c.length:Nat))))=H5 at t5 s5 a0 c1 a7⊢;have R:=t5 _ _ L;refine ⟨_,rfl,.inl ⟨rfl,c,SqL.of a0⟩,?_⟩;refine ⟨_,rfl,.inr (.inl ⟨F,_,3,v,rfl,rfl,R,z04 (j:=3) rfl,_,rfl,.inr (.inl ⟨F,_,4,x,rfl,rfl,R,z04 (j:=4) rfl,_,rfl,w_5,λ J Z=>?_⟩)⟩)⟩;have W:=Same.upd (o:=.lst [v,x,.non,.int (i:Nat),.non]) Z;have e6:upd H5 J (.lst [v,x,.non,.int (i:Nat),.non]) J=some (.lst [v,x,.non,.int (i:Nat),.non]):=upd_same;have fr :∀z∈c,z≠.ref J:=λ z hz e=>by obtain ⟨m,hm⟩:=List.mem_iff_getElem?.mp hz;obtain ⟨_,_,p,N,C⟩:=z0c a7 hm;rw [N] at e;cases e;rw [Z] at C;cases C
    have b5:J≠l:=λ z=>by rw [z,a0] at Z;cases Z
    generalize upd H5 J (.lst [v,x,.non,.int (i:Nat),.non])=H6 at W e6⊢;have c9:=W _ _ a0;have c4:=W _ _ c1;have c8:=z02 (λ a b z=>ActAt.same W z) a7;refine ⟨l,c,_,rfl,rfl,c9,U0 (m:=100) (by lia) (by decide),?_⟩;refine ⟨rs++[⟨h,n,v,x,.non,i,none⟩],c++[.ref J],putK t (.inl h) (.int (c.length:Nat)),upd_same,?_,?_,?_,?_,?_,?_,?_,(show dAll (i + 1) (dstep i rs (.beg h n v x)) _=_ from B),dw.2,?_,Same.keep (s5.trans W) b8,_,_,_,rfl⟩
    ·refine z0q ?_ ⟨J,rfl,by rw [upd_ne b5,e6];unfold xaV;rw [if_neg (λ z=>by cases z.2)];rfl⟩;refine z6x (λ a b hb z=>ActAt.wrote (λ e=>(nzl l (e ▸ hb)).1 rfl) z) c8
    ·rw [n5];refine ⟨nd,by simp,λ a ha b hb=>?_⟩;rw [List.mem_singleton.mp hb];exact fr a ha
    ·intro p hz;rcases List.mem_append.mp hz with y|y
     ·exact nzl p y
     ·have e:=List.mem_singleton.mp y;cases e;exact ⟨b5,s5.free Z⟩
    ·rw [upd_ne a2.symm];exact c4
    ·exact K0 z5m (by lia)
    ·rw [D0];show rs.length + 1<=i + 1;lia
    ·intro k;rw [z4j,A1];show _=Option.map _ (lastI k (rs.map Rc.h++[h]));rw [z1q,L0,lz];by_cases z:h=k
     ·rw [if_pos z,if_pos (by rw [z])];rfl
     ·rw [if_neg z,if_neg (λ y=>z (O2 y).symm)];exact hv k
    ·intro k r D;by_cases z:k < rs.length
     ·rw [C1 z] at D;exact rv k r D
     ·rw [E1 (Nat.not_lt.mp z)] at D;have D:=List.mem_singleton.mp (v0 D);rw [D];exact evv _ (v0 he)
   | fin h a=>
    obtain ⟨F,rfl,L⟩:=b9;obtain ⟨j,hj⟩:=Option.isSome_iff_exists.mp (dw.1 h a rfl);have d3:valV t (.inl h)=some (.int (j:Nat)):=by rw [hv h,hj];rfl
    have c6:j < rs.length:=by have:=z7d hj;rwa [L0] at this
    have a5:rs[j]? = some rs[j]:=v1 c6;obtain ⟨yj,S,g,rfl,ej⟩:=z4z M a5;have d0:DGet H4 d (.int h) (some (.int (j:Nat))):=d3 ▸ DGet.k (k:=.inl h) G;refine ⟨_,rfl,.inr (.inl ⟨F,_,0,.str "end",rfl,rfl,L,z04 (j:=0) rfl,rfl,_,rfl,iteK ?_⟩)⟩;obtain ⟨c2,d2⟩:=nzl g (v0 S);have c7:g≠d:=λ z=>by rw [z,G] at ej;cases ej
    refine ⟨_,rfl,_,rfl,_,rfl,.inr (.inl ⟨F,_,1,.int h,rfl,rfl,L,z04 (j:=1) rfl,d,_,rfl,d0,.inl ⟨l,c,j,.ref g,rfl,rfl,SqL.of X,z04 S,?_⟩⟩)⟩;refine ⟨_,rfl,_,rfl,g,_,4,4,rfl,rfl,ej,rfl,?_⟩;rw [show [rs[j].v,xaV rs[j],rs[j].a,V.int rs[j].b,endV rs[j].e].set 4 (.int (i:Nat))=[rs[j].v,xaV rs[j],rs[j].a,.int rs[j].b,.int (i:Nat)] from rfl];have k5:KeptL [g] H4 (upd H4 g (.lst [rs[j].v,xaV rs[j],rs[j].a,.int rs[j].b,.int (i:Nat)])):=KeptL.set (by simp);have t5:Tups (kx w) H4 (upd H4 g (.lst [rs[j].v,xaV rs[j],rs[j].a,.int rs[j].b,.int (i:Nat)])):=Tups.lst ej;have a8:upd H4 g (.lst [rs[j].v,xaV rs[j],rs[j].a,.int rs[j].b,.int (i:Nat)]) g=some (.lst [rs[j].v,xaV rs[j],rs[j].a,.int rs[j].b,.int (i:Nat)]):=upd_same;generalize upd H4 g (.lst [rs[j].v,xaV rs[j],rs[j].a,.int rs[j].b,.int (i:Nat)])=H5 at k5 t5 a8⊢;have R:=t5 _ _ L;refine ⟨_,rfl,.inr (.inl ⟨F,_,2,a,rfl,rfl,R,z04 (j:=2) rfl,?_⟩)⟩;refine ⟨_,rfl,g,_,2,2,rfl,rfl,a8,rfl,?_⟩;rw [show [rs[j].v,xaV rs[j],rs[j].a,V.int rs[j].b,.int (i:Nat)].set 2 a=[rs[j].v,xaV rs[j],a,.int rs[j].b,.int (i:Nat)] from rfl];have k6:KeptL [g] H5 (upd H5 g (.lst [rs[j].v,xaV rs[j],a,.int rs[j].b,.int (i:Nat)])):=KeptL.set (by simp);have t6:Tups (kx w) H5 (upd H5 g (.lst [rs[j].v,xaV rs[j],a,.int rs[j].b,.int (i:Nat)])):=Tups.lst a8;have a3:upd H5 g (.lst [rs[j].v,xaV rs[j],a,.int rs[j].b,.int (i:Nat)]) g=some (.lst [rs[j].v,xaV rs[j],a,.int rs[j].b,.int (i:Nat)]):=upd_same;generalize upd H5 g (.lst [rs[j].v,xaV rs[j],a,.int rs[j].b,.int (i:Nat)])=H6 at k6 t6 a3⊢;have b1:=k5.trans k6;have hd:dstep i rs (.fin h a)=rs.modify j (λ r=>{ r with a:=a,e:=some i }):=by unfold dstep;dsimp only;rw [hj]
    have B:dAll (i + 1) (dstep i rs (.fin h a)) (u.drop (i + 1))=_:=B;have c0:dWf (i + 1) (dstep i rs (.fin h a)) (u.drop (i + 1)):=dw.2;rw [hd] at B c0;have b6 :∀I,KeptL [g] H4 I->I g=some (.lst [rs[j].v,xaV { rs[j] with a:=a,e:=some i },a,.int rs[j].b,.int (i:Nat)])->∃rs' c t,I l=some (.lst c)/\All2 (ActAt I) rs' c/\c.Nodup/\(∀p,V.ref p∈c->p≠l/\H p=none)/\I d=some (.dK t)/\t.length<=i + 1/\rs'.length<=i + 1/\(∀h,valV t (.inl h)=(lastI h (rs'.map Rc.h)).map λ j=>V.int (j:Nat))/\dAll (i + 1) rs' (u.drop (i + 1))=dAll 0 [] u/\dWf (i + 1) rs' (u.drop (i + 1))/\(∀(k:Nat) (r:Rc),rs'[k]? = some r->∃z,r.v=V.str z)/\Same H I:=by
     intro I kx ex;refine ⟨rs.modify j (λ r=>{ r with a:=a,e:=some i }),c,t,kx _ _ (by simp [c2.symm]) X,?_,nd,nzl,kx _ _ (by simp [c7.symm]) G,by lia,by rw [u6];lia,?_,B,c0,?_,?_⟩
     ·refine z72 (by rw [u6];exact z05 M) λ k r y hk a1=>?_;rw [V1] at hk;obtain ⟨r',U,O⟩:=Option.map_eq_some_iff.mp hk;obtain ⟨y2,b7,p2,rfl,C⟩:=z4z M U;rw [a1] at b7;cases b7;by_cases z:j=k
      ·subst z;rw [S] at a1;cases a1;rw [if_pos rfl] at O;rw [a5] at U;cases U;subst O;exact ⟨g,rfl,ex⟩
      ·rw [if_neg z] at O;subst O;refine ⟨p2,rfl,kx _ _ (λ e=>z ?_) C⟩;have e:=List.mem_singleton.mp e;subst e;have h1:j < c.length:=(List.getElem?_eq_some_iff.mp S).1;exact (List.getElem?_inj h1 nd).mp (S.trans a1.symm)
     ·intro k;rw [z7u (f:=λ r=>{ r with a:=a,e:=some i }) (λ r=>rfl)];exact hv k
     ·intro k r D;rw [V1] at D;obtain ⟨r',U,O⟩:=Option.map_eq_some_iff.mp D;obtain ⟨z',b3⟩:=rv k r' U;refine ⟨z',?_⟩;rw [<-O];by_cases z:j=k
      ·rw [if_pos z];exact b3
      ·rw [if_neg z];exact b3
     ·intro b o e;exact kx b o (λ z=>by rw [List.mem_singleton.mp z,d2] at e;cases e) (s4 b o e)
    obtain ⟨z0,c3⟩:=rv j _ a5;refine ⟨_,rfl,.inl ⟨g,_,0,rs[j].v,rfl,rfl,SqL.of a3,z04 (j:=0) rfl,by rw [c3];rfl,_,rfl,?_⟩⟩;by_cases z:rs[j].v=.str "read"
    ·refine iteP (decide_eq_true z) ?_;refine ⟨_,rfl,.inr (.inl ⟨F,_,2,a,rfl,rfl,t6 _ _ R,z04 (j:=2) rfl,?_⟩)⟩;refine ⟨_,rfl,g,_,1,1,rfl,rfl,a3,rfl,?_⟩;rw [show [rs[j].v,xaV rs[j],a,V.int rs[j].b,.int (i:Nat)].set 1 a=[rs[j].v,a,a,.int rs[j].b,.int (i:Nat)] from rfl];have xa:xaV { rs[j] with a:=a,e:=some i }=a:=by unfold xaV;rw [if_pos ⟨z,rfl⟩]
     obtain ⟨r1,r2,r3,f⟩:=b6 (upd H6 g (.lst [rs[j].v,a,a,.int rs[j].b,.int (i:Nat)])) (b1.trans (KeptL.set (by simp))) (by rw [xa];exact upd_same);obtain ⟨g1,g2,g3,g4,g5,g6,g7,g8,g9,a9,a6,a4⟩:=f;exact ⟨r1,r2,r3,g1,g2,g3,g4,g5,g6,g7,g8,g9,a9,a6,a4,_,_,_,rfl⟩
    ·refine iteN (λ e=>z (of_decide_eq_true e)) ?_;have xa:xaV { rs[j] with a:=a,e:=some i }=xaV rs[j]:=by unfold xaV;rw [if_neg (λ y=>z y.1),if_neg (λ y=>z y.1)]
     obtain ⟨r1,r2,r3,f⟩:=b6 _ b1 (by rw [xa];exact a3);obtain ⟨g1,g2,g3,g4,g5,g6,g7,g8,g9,a9,a6,a4⟩:=f;exact ⟨r1,r2,r3,g1,g2,g3,g4,g5,g6,g7,g8,g9,a9,a6,a4,_,_,_,rfl⟩
  ·rintro σ H3 ⟨rs,c,t,el,ar,_,_,_,_,_,_,B,_,_,s3,x3,x4,x5,rfl⟩;have:u.drop ys.length=[]:=by rw [c5];exact List.drop_length
   rw [this] at B;have B:rs=dAll 0 [] u:=B;rw [<-B] at q;exact ⟨_,rfl,q l c H3 s3 el ar⟩
def z4q:Sp:=λ vs H Q _=>∃i,vs=[.int i]/\Q (.bl true) H
theorem zc6 (T:TX (kx w) mg):Fo P w mg base CX0 1 77 y1h ["value"] z4q:=by
 refine (z5t w.params).ok zcr (λ a H Q E h=>?_) (λ d A b s H a Q E c h=>?_)
 ·obtain ⟨i,rfl,_⟩:=h;rfl
 ·obtain ⟨i,rfl,q⟩:=h;refine ⟨_,(z03 (ps_ret (pe_and (z0g z1a rfl (T.no (z0w _)) l5 (z00 (pv 0) (z00 (z73 (v:=.ty "int") rfl (T.no (n_int _)) boot_int rfl) pa_nil))) (pe_one (pe_not (z0g z1a rfl (T.no (z0w _)) l5 (z00 (pv 0) (z00 (z73 (v:=.ty "bool") rfl (T.no (n_bool _)) boot_bool rfl) pa_nil)))))))),?_⟩;refine ⟨_,rfl,_,_,"int",rfl,rfl,by decide,_,rfl,iteP (by decide) ?_⟩;exact ⟨_,rfl,_,_,"int",rfl,rfl,by decide,_,rfl,q⟩
def z3z (K:d0):Sp:=λ vs H Q _=>∃y r wr e,vs=[y]/\RcAt K H r y/\(RdG r\/WrG wr r)/\r.e=some e/\Q (.bl true) H
theorem z75 (T:TX (kx w) mg) (c0:Ca P w mg base "is_whole" ["value"] 1 z4q):Fo P w mg base CX0 2 227 y0m ["deed"] (z3z (kx w)):=by
 refine (z2o w.params).ok z83 (λ f H Q E h=>?_) (λ l A k s H f Q E i h=>?_)
 ·obtain ⟨y,r,d,e,rfl,_⟩:=h;rfl
 ·obtain ⟨y,r,d,e,rfl,⟨p,rfl,b⟩,g,c,q⟩:=h;refine ⟨_,(z01 (ps_if (z08 opEq (pe_ix ix_seq (pv 0) pe_int (λ _ _=>rfl)) pe_str (nomark _))
   (z03 (ps_ret (z22 opEq (pe_ix ix_seq (pv 0) pe_int (λ _ _=>rfl)) pe_str (nomark _))))
   z0d)
   (z03 (ps_ret (pe_cal c0 (i.mono (by decide)) rfl (z00 (pe_ix ix_seq (pv 0) pe_int (λ _ _=>rfl)) pa_nil))))),?_⟩
  rcases g with g|g
  ·refine ⟨_,rfl,.inr (.inl ⟨p,_,2,.str "read",rfl,rfl,b,by rw [g.1];exact z04 (j:=2) rfl,rfl,_,rfl,iteK ?_⟩)⟩;exact ⟨_,rfl,.inr (.inl ⟨p,_,4,.int (intV r.a),rfl,rfl,b,by rw [g.2.2 e c];exact z04 (j:=4) rfl,_,rfl,q⟩)⟩
  ·refine ⟨_,rfl,.inr (.inl ⟨p,_,2,.str "write",rfl,rfl,b,by rw [g.1];exact z04 (j:=2) rfl,rfl,_,rfl,iteP (by decide +kernel) ?_⟩)⟩;exact ⟨_,rfl,.inr (.inl ⟨p,_,4,.str "ok",rfl,rfl,b,by rw [g.2.2.2 e c];exact z04 (j:=4) rfl,rfl,q⟩)⟩
structure ToldAt (K:d0) (H:Hp) (l:Addr) (wr:Int) (rs:List Rc) (zs:List V):Prop where
 l:H l=some (.lst zs)
 a:All2 (RcAt K H) rs zs
 g :∀r∈rs,RdG r\/WrG wr r
 n:rs.length<=63
theorem ToldAt.same {K:d0} {H H':Hp} {l:Addr} {wr:Int} {rs:List Rc} {zs:List V} (s:Same H H') (h:ToldAt K H l wr rs zs):ToldAt K H' l wr rs zs:=⟨s _ _ h.l,z02 (λ _ _ z=>RcAt.tups (.of s) z) h.a,h.g,h.n⟩
noncomputable def r00:Rc:=⟨0,.non,.non,.non,.non,0,none⟩
theorem getD_some {rs:List Rc} {i:Nat} {r:Rc} (h:rs[i]? = some r):rs[i]?.getD r00=r:=by rw [h];rfl
theorem zcv (x:Int) :∀ns:List Int,inV (.int x) (ns.map V.int)=decide (x∈ns)
 | []=>by rw [decide_eq_false B0];rfl
 | n :: r=>by
  show ((n == x) || inV (.int x) (r.map V.int))=_;rw [zcv x r];by_cases e:n=x
  ·rw [beq_iff_eq.mpr e,Bool.true_or,decide_eq_true (List.mem_cons.mpr (.inl e.symm))]
  ·rw [Bool.eq_false_iff.mpr (λ h=>e (beq_iff_eq.mp h)),b8];by_cases m:x∈r
   ·rw [decide_eq_true m,decide_eq_true (List.mem_cons.mpr (.inr m))]
   ·rw [decide_eq_false m,decide_eq_false (λ h=>(List.mem_cons.mp h).elim (λ y=>e y.symm) m)]
theorem zbh :∀ns:List Int,(ns.map V.int).all flatV=true
 | []=>rfl
 | _ :: r=>by show (true && (r.map V.int).all flatV)=true;rw [zbh r];rfl
theorem zbl {f:Rc->V} {rs:List Rc} {zs ys:List V} (lz:zs.length=rs.length) (h:All2 (λ (i:Nat) y=>y=f (rs[i]?.getD r00)) ((X0 zs.length).filter λ i=>isW (rs[i]?.getD r00)) ys):ys=(rs.filter isW).map f:=by rw [lz] at h;rw [z6o h];exact z1d isW f r00 rs
def z64 (K:d0):Sp:=λ vs H Q _=>∃l zs rs wr,vs=[.ref l]/\ToldAt K H l wr rs zs/\((rs.filter isW).map (λ r=>intV r.x)).Nodup/\(0:Int)∉(rs.filter isW).map (λ r=>intV r.x)/\∀H',Same H H'->Q (.bl true) H'
theorem z9y (T:TX (kx w) mg) (c0:Ca P w mg base "is_answered" ["deed"] 2 (z3z (kx w))):Fo P w mg base CX0 3 220 y18 ["told"] (z64 (kx w)):=by
 refine (z4o w.params).ok sc_are_plain (λ vs H Q E h=>?_) (λ a7 A a6 s H vs Q E hr h=>?_)
 ·obtain ⟨l,B,rs,O,rfl,_⟩:=h;rfl
 ·obtain ⟨l,B,rs,O,rfl,b,S,W,q⟩:=h;refine ⟨_,(z01 (zby (i:=1) sc_are_plain.nd rfl (O0 rfl) (xs:=["deed"]) (g:=gName 0) (fr:=[]) rfl (z0t (pv 0)) (λ _ z=>absurd z B0) (zb4 rfl) (λ _ z=>absurd z B0) (by decide +kernel) rfl (by decide +kernel) (λ _ _ _ _ _=>(pg_cn (N:=["deed"]) 0)) (λ _ _ _ _ _=>(pf_one (z08 opEq (pe_ix (z13 (K:=KX w.params) rfl) (pv 0) pe_int (λ _ _=>rfl)) pe_str (nomark _)))) (λ _ _ _ _ _=>(pe_ix (z13 (K:=KX w.params) rfl) (pv 0) pe_int (λ _ _=>rfl))))
   (z01 (ps_if (PW.pt (pw_or (z08 z5e pe_int (pv 1) (by with_unfolding_all rfl)) (pw_or1 (z08 op_lt (zbe rfl rfl (T.no (n_len _)) rfl (T.no (n_set _)) K5 boot_set (pv 1)) (z0g z3s rfl (T.no (n_len _)) K5 (z00 (pv 1) pa_nil)) (nomark _)))))
   (z03 (ps_ret pe_bl))
   z0d)
   (z03 (ps_ret (z0g (z7x rfl) rfl (T.no (n_all _)) boot_all (z00 (pe_cg (xs:=["deed"]) (g:=gName 0) (fr:=[]) (z0t (pv 0)) (λ _ _ _ _ _=>(pg_cn (N:=["deed"]) 0)) (λ _ _ _ _ _=>pf_nil) (λ _ _ _ _ _=>(pe_or (z22 op_isN (pe_ix (z13 (K:=KX w.params) rfl) (pv 0) pe_int (λ _ _=>rfl)) pe_non (nomark _)) (pe_one (pe_cal c0 (hr.mono (by decide)) rfl (z00 (pv 0) pa_nil)))))) pa_nil)))))),?_⟩
  have lz:B.length=rs.length:=z05 b.a;have a5:=b.n;refine z0f ?_;refine z3d (K:=KX w.params) (a:=l) (xs:=B) (H1:=H) (λ i=>isW (rs[i]?.getD r00)) (λ i y _=>y=.int (intV (rs[i]?.getD r00).x)) (λ _ _ _ _ _ z=>z) (λ R h=>⟨_,rfl,h⟩) (SqL.of b.l) (K0 (m:=63) (by lia) (by decide)) ?_ ?_
  ·intro i hi v H1 G D KT KF t L;obtain ⟨r,C,p,rfl,I⟩:=z0c b.a D;have c:=G.seqT I;rw [getD_some C] at t L;refine ⟨[some (.ref p)],rfl,rfl,?_⟩;rcases b.g r (v0 C) with g|g
   ·refine ⟨_,rfl,.inr (.inl ⟨p,_,2,.str "read",rfl,rfl,c,by rw [g.1];exact z04 (j:=2) rfl,rfl,_,rfl,iteK (L g.w _ (Same.refl _))⟩)⟩
   ·refine ⟨_,rfl,.inr (.inl ⟨p,_,2,.str "write",rfl,rfl,c,by rw [g.1];exact z04 (j:=2) rfl,rfl,_,rfl,iteP (by decide +kernel) ?_⟩)⟩;exact ⟨_,rfl,.inr (.inl ⟨p,_,3,.int (intV r.x),rfl,rfl,c,by rw [<-g.2.2.1];exact z04 (j:=3) rfl,t g.w _ _ (Same.refl _) rfl⟩)⟩
  intro d H1 Y G a2 a0;have ey:=zbl (f:=λ r=>V.int (intV r.x)) lz a0;have a4:Y=((rs.filter isW).map (λ r=>intV r.x)).map V.int:=by rw [ey,u3];rfl
  have lu:((rs.filter isW).map (λ r=>intV r.x)).length<=63:=by rw [L0];exact K0 (T1 _ _) a5
  subst a4;generalize (rs.filter isW).map (λ r=>intV r.x)=us at S W lu⊢;have U:=Same.upd (o:=.lst (us.map V.int)) a2;have u:upd H1 d (.lst (us.map V.int)) d=some (.lst (us.map V.int)):=upd_same;have J:=G.trans U;generalize upd H1 d (.lst (us.map V.int))=H2 at U u J⊢;refine g_name ?_;refine sq_if ?_;refine t_or ?_;refine ⟨_,rfl,d,_,rfl,.inl (SqL.of u),rfl,zbh _,_,rfl,iteN (by show ¬ inV _ _=true;rw [zcv,decide_eq_false W];decide) ?_⟩;refine ⟨_,rfl,d,us,rfl,SqL.of u,by lia,_,rfl,.inl ⟨d,_,rfl,.inl (SqL.of u),_,_,rfl,rfl,_,rfl,iteN ?_ ?_⟩⟩
  ·rw [z8z us [] S (λ _ _=>B0),P3,L0];exact λ e=>absurd (of_decide_eq_true e) (by lia)
  refine t_nx (sq_ret (e_cb1 ?_));have X:=b.same J;refine z3d (K:=KX w.params) (a:=l) (xs:=B) (H1:=H2) (λ _=>true) (λ i y _=>y=.bl true) (λ _ _ _ _ _ z=>z) (λ R h=>⟨_,rfl,h⟩) (SqL.of X.l) (K0 (m:=63) (by lia) (by decide)) ?_ ?_
  ·intro i hi v H3 F D KT KF t L;obtain ⟨r,C,p,rfl,I⟩:=z0c X.a D;have c:=F.seqT I;refine ⟨[some (.ref p)],rfl,rfl,iteT ?_⟩;cases he:r.e with
   | none=>exact ⟨_,rfl,.inr (.inl ⟨p,_,6,.non,rfl,rfl,c,by rw [he];exact z04 (j:=6) rfl,rfl,_,rfl,iteP (by decide) (t rfl _ _ (Same.refl _) rfl)⟩)⟩
   | some e=>refine ⟨_,rfl,.inr (.inl ⟨p,_,6,.int e,rfl,rfl,c,by rw [he];exact z04 (j:=6) rfl,rfl,_,rfl,iteN (by simp) ?_⟩)⟩;exact ⟨_,rfl,_,r,O,e,rfl,⟨p,rfl,c⟩,b.g r (v0 C),he,t rfl _ _ (Same.refl _) rfl⟩
  intro Z H3 bs F a1 a3;have M :∀y∈bs,y=.bl true:=λ y k=>by obtain ⟨m,hm⟩:=List.mem_iff_getElem?.mp k;obtain ⟨_,_,z⟩:=z0c a3 hm;exact z
  refine ⟨Z,bs,rfl,SqL.of upd_same,λ y k=>⟨true,M y k⟩,?_⟩;rw [List.all_eq_true.mpr (λ y k=>decide_eq_true (M y k))];exact q _ (J.trans (F.trans (Same.upd a1)))
structure TalR (K:d0) (H:Hp) (t:Addr) (nm:Str) (wr:Int) (es:List Ev) (ys:List V):Prop where
 t :∃pt te th,SqT K H t [.ref pt,.ref te]/\SqT K H pt [.ref th]/\SqT K H th [.str nm,.str "register"]/\SqT K H te ys
 ev:All2 (EvAt K H) es ys
 tw :∃os us,TW nm wr es os us
 ln:es.length<=63
theorem TalR.same {K:d0} {H H':Hp} {t:Addr} {nm:Str} {wr:Int} {es:List Ev} {ys:List V} (s:Same H H') (h:TalR K H t nm wr es ys):TalR K H' t nm wr es ys:=by obtain ⟨pt,f,e,a,b,c,d⟩:=h.t;exact ⟨⟨pt,f,e,s.seqT a,s.seqT b,s.seqT c,s.seqT d⟩,z02 (λ _ _ z=>EvAt.tups (.of s) z) h.ev,h.tw,h.ln⟩
theorem z2t :∀{es:List Ev} {i:Nat} {rs:List Rc},(dAll i rs es).length<=rs.length + es.length
 | [],_,_=>C0 _
 | e :: es,i,rs=>by
  have h:=z2t (es:=es) (i:=i + 1) (rs:=dstep i rs e);have b:(dstep i rs e).length<=rs.length + 1:=by
   cases e with
   | beg k n v x=>exact u8 (D0 ..)
   | fin k a=>
    unfold dstep;dsimp only;cases lastI k (rs.map Rc.h) with
    | none=>exact T5 _
    | some j=>dsimp only;rw [u6];exact T5 _
  show (dAll (i + 1) (dstep i rs e) es).length<=_;rw [D1]
  lia
def z3v (K:d0):Sp:=λ vs H Q _=>∃t nm wr es ys,vs=[.ref t]/\TalR K H t nm wr es ys/\∀l zs H',Same H H'->ToldAt K H' l wr (dAll 0 [] es) zs->Q (.ref l) H'
theorem zbs:plainP (.list [.str "register"])=true:=by decide +kernel
theorem zj9:PyData.eqv (.list [.str "register"]) (.list [.str "register"])=true:=by decide +kernel
theorem z7m (T:TX (kx w) mg) (c0:Ca P w mg base "deeds" ["tale"] 1 (z78 (kx w))) (c1:Ca P w mg base "are_plain" ["told"] 3 (z64 (kx w))):Fo P w mg base CX0 4 215 y0l ["tale"] (z3v (kx w)):=by
 refine (z2f w.params).ok sc_plain_deeds (λ vs H Q E h=>?_) (λ a3 A a2 s H vs Q E C h=>?_)
 ·obtain ⟨t,nm,n,f,I,rfl,_⟩:=h;rfl
 ·obtain ⟨t,nm,n,f,I,rfl,d,q⟩:=h;refine ⟨_,(z01 (ps_set (i:=1) sc_plain_deeds.nd rfl (O0 rfl) (pe_cal c0 (C.mono (by decide)) rfl (z00 (pv 0) pa_nil)))
   (z01 (ps_if (PW.pt (pw_or (z08 (op_neP C) (pe_cg (xs:=["name","kind"]) (g:=gTup (kx w) 2 (gCons (gName 0) (gCons (gName 1) gNil))) (fr:=[]) (pi_tup (pe_ix ix_seq (pv 0) pe_int (λ _ _=>rfl))) (λ _ _ _ _ _=>(pg_tup rfl (z07 (pg_cn (N:=["name","kind"]) 0) (z07 (pg_cn (N:=["name","kind"]) 1) z0j)))) (λ _ _ _ _ _=>pf_nil) (λ _ _ _ _ _=>(pv 1))) (pe_lst (z00 pe_str pa_nil)) (nomark _)) (pw_or1 (pt_not (pt_val (pe_cal c1 (C.mono (by decide)) rfl (z00 (pv 1) pa_nil)) (λ _=>rfl))))))
   (z03 z67)
   z0d)
   (z03 (ps_ret (pv 1))))),?_⟩
  obtain ⟨pt,te,m,S,sp,sh,se⟩:=d.t;obtain ⟨os,us,b⟩:=d.tw;have wf:=(DInv.nil.all b.wf.1).1;have a1:=d.ln;have rn:(dAll 0 [] f).length<=63:=K0 z2t (by simpa using a1);refine z0f ?_;refine ⟨_,rfl,t,te,.ref pt,I,f,rfl,S,se,d.ev,by lia,wf,λ l F H1 e a4 el X=>?_⟩;refine g_name ?_;have O:ToldAt (kx w) H1 l n (dAll 0 [] f) F:=⟨el,X,b.rs.g,rn⟩
  refine sq_if (t_or (t_test ?_));refine z5f (K:=KX w.params) (a:=pt) (xs:=[.ref m]) (H1:=H1) (λ _=>true) (λ i y _=>y=.str "register") (λ _ _ _ _ _ z=>z) (λ R h=>⟨_,rfl,.inr (.inl ⟨t,_,0,.ref pt,rfl,rfl,e.seqT S,z04 (j:=0) rfl,h⟩)⟩) (e.seqT sp) w_1 ?_ ?_
  ·intro i hi v x B hv KT KF h1 h2;have:v=.ref m:=List.mem_singleton.mp (v0 hv);subst this;refine ⟨m,_,rfl,(e.trans B).seqT sh,rfl,_,_,rfl,_,_,rfl,rfl,[some (.str nm),some (.str "register")],rfl,rfl,iteT ⟨_,rfl,h1 rfl _ _ (Same.refl _) rfl⟩⟩
  intro k x L B a0 p;have ek:L=[.str "register"]:=by
   replace p:All2 (λ (_:Nat) (y:V)=>y=.str "register") [0] L:=p;cases p with
   | cons a r=>cases r;rw [a]
  subst ek;have M:=Same.upd (o:=.lst [V.str "register"]) a0;have W:upd x k (.lst [V.str "register"]) k=some (.lst [V.str "register"]):=upd_same;have U:=B.trans M;generalize upd x k (.lst [V.str "register"])=H3 at M W U⊢;refine ⟨w_1,λ J Z=>?_⟩;have D:=Same.upd (o:=.lst [V.str "register"]) Z;refine ⟨.list [.str "register"],.list [.str "register"],⟨k,_,rfl,SqL.of (D _ _ W),⟨_,_,rfl,rfl,rfl⟩⟩,⟨J,_,rfl,SqL.of upd_same,⟨_,_,rfl,rfl,rfl⟩⟩,zbs,zbs,(show (1:Nat)<=60 by decide),_,rfl,iteN (by rw [zj9];decide) ?_⟩;have c:=U.trans D;generalize upd H3 J (.lst [V.str "register"])=H4 at D c⊢;refine ⟨_,rfl,l,F,_,n,rfl,O.same c,by rw [b.rs.u];exact b.us.1,by rw [b.rs.u];exact b.us.2,λ Y G=>⟨true,rfl,iteN (by decide) ?_⟩⟩;exact ⟨_,rfl,q l F Y (e.trans (c.trans G)) (O.same (c.trans G))⟩
end
section
structure EvR (es:List Ev) (rs:List Rc):Prop where
 a :∀r∈rs,es[r.b]? = some (.beg r.h r.n r.v r.x)
 b :∀r∈rs,∀k,r.e=some k->es[k]? = some (.fin r.h r.a)
 c :∀(i:Nat) h n v x,es[i]? = some (.beg h n v x)->∃r∈rs,r.b=i
 d :∀(i:Nat) h a,es[i]? = some (.fin h a)->∃r∈rs,r.e=some i/\r.h=h
theorem TW.open {nm:Str} {wr:Int} {es:List Ev} {os:List (Int×Bool)} {us:List Int} (h:TW nm wr es os us) :∀k b,(k,b)∈os->∃j r,lastI k ((dAll 0 [] es).map Rc.h)=some j/\(dAll 0 [] es)[j]? = some r/\r.h=k/\r.e=none:=by
 have u :∀{rs:List Rc} {os:List (Int×Bool)} (k:Int) (b:Bool) (r:Rc),(∀k b,(k,b)∈os->∃j r,lastI k (rs.map Rc.h)=some j/\rs[j]? = some r/\r.h=k/\r.e=none)->k∉os.map (·.1)->r.h=k->r.e=none->∀g o,(g,o)∈os++[(k,b)]->∃j d,lastI g ((rs++[r]).map Rc.h)=some j/\(rs++[r])[j]? = some d/\d.h=g/\d.e=none:=by
  intro rs os k b r I C w B g o t;rw [A1];show∃j q,lastI g (rs.map Rc.h++[r.h])=some j/\_;rw [z1q,w];rcases List.mem_append.mp t with z|z
  ·have E:¬ k=g:=λ e=>C (e ▸ List.mem_map.mpr ⟨_,z,rfl⟩);obtain ⟨j,q,s,l,m⟩:=I g o z;refine ⟨j,q,by rw [if_neg E];exact s,?_,m⟩;rw [C1 (List.getElem?_eq_some_iff.mp l).1];exact l
  ·have e:=List.mem_singleton.mp z;cases e;refine ⟨rs.length,r,by rw [if_pos rfl,L0],?_,w,B⟩;rw [E1 (C0 _),A5];rfl
 induction h with
 | nil=>exact λ _ _ h=>absurd h B0
 | @wri es os us i _ h0 _ _ ih=>rw [z10];exact u wr true ⟨wr,.str nm,.str "write",.int i,.non,0 + es.length,none⟩ ih h0 rfl rfl
 | @rd es os us h _ h0 ih=>rw [z10];exact u h false ⟨h,.str nm,.str "read",.non,.non,0 + es.length,none⟩ ih h0 rfl rfl
 | @fin es os us h b a _ h0 ht hf ih=>
  intro k c y;rw [z10];obtain ⟨j,r,s,l,m,_⟩:=ih h b h0;have F :∀i,dstep i (dAll 0 [] es) (.fin h a)=(dAll 0 [] es).modify j (λ r=>{ r with a:=a,e:=some i }):=λ i=>by unfold dstep;dsimp only;rw [s]
  rw [F,z7u (f:=λ r=>{ r with a:=a,e:=some (0 + es.length) }) (λ r=>rfl)];obtain ⟨t,p⟩:=List.mem_filter.mp y;have p:=of_decide_eq_true p;obtain ⟨n,d,D,x,v,A⟩:=ih k c t;refine ⟨n,d,D,?_,v,A⟩;rw [V1,x];show some (if j=n then _ else d)=some d;rw [if_neg (show ¬ j=n from λ e=>by rw [e,x] at l;cases l;exact p (v.symm.trans m))]
theorem TW.evr {nm:Str} {wr:Int} {es:List Ev} {os:List (Int×Bool)} {us:List Int} (h:TW nm wr es os us):EvR es (dAll 0 [] es):=by
 have D :∀{es:List Ev} {rs:List Rc} (h:Int) (n v x:V),EvR es rs->EvR (es++[.beg h n v x]) (rs++[⟨h,n,v,x,.non,0 + es.length,none⟩]):=by
  intro es rs h n v x I;have lt :∀{i:Nat} {e:Ev},es[i]? = some e->(es++[Ev.beg h n v x])[i]? = some e:=λ z=>by rw [C1 (List.getElem?_eq_some_iff.mp z).1];exact z
  have w:(es++[Ev.beg h n v x])[0 + es.length]? = some (.beg h n v x):=by rw [n6,E1 (C0 _),A5];rfl
  have s :∀{i:Nat} {e:Ev},(es++[Ev.beg h n v x])[i]? = some e->es[i]? = some e\/(i=0 + es.length/\e=.beg h n v x):=λ {i e} z=>by
   by_cases y:i < es.length
   ·rw [C1 y] at z;exact .inl z
   ·have p:=(List.getElem?_eq_some_iff.mp z).1;rw [D0] at p;have:i=0 + es.length:=by simp at p;lia
    rw [this,w] at z;exact .inr ⟨this,(P1 z).symm⟩
  refine ⟨λ r l=>?_,λ r l k g=>?_,λ i A N G H z=>?_,λ i A a z=>?_⟩
  ·rcases List.mem_append.mp l with y|y
   ·exact lt (I.a r y)
   ·rw [List.mem_singleton.mp y];exact w
  ·rcases List.mem_append.mp l with y|y
   ·exact lt (I.b r y k g)
   ·rw [List.mem_singleton.mp y] at g;cases g
  ·rcases s z with y|⟨y,_⟩
   ·obtain ⟨r,l,e⟩:=I.c i _ _ _ _ y;exact ⟨r,List.mem_append.mpr (.inl l),e⟩
   ·exact ⟨_,List.mem_append.mpr (.inr (List.mem_singleton.mpr rfl)),y.symm⟩
  ·rcases s z with y|⟨_,y⟩
   ·obtain ⟨r,l,e⟩:=I.d i _ _ y;exact ⟨r,List.mem_append.mpr (.inl l),e⟩
   ·cases y
 induction h with
 | nil=>exact ⟨λ _ h=>absurd h B0,λ _ h=>absurd h B0,λ _ _ _ _ _ h=>by simp at h,λ _ _ _ h=>by simp at h⟩
 | wri _ _ _ _ ih=>rw [z10];exact D _ _ _ _ ih
 | rd _ _ ih=>rw [z10];exact D _ _ _ _ ih
 | @fin es os us h b a t h0 ht hf I=>
  rw [z10];obtain ⟨j,r,F,u,E,J⟩:=t.open h b h0;have L :∀i,dstep i (dAll 0 [] es) (.fin h a)=(dAll 0 [] es).modify j (λ r=>{ r with a:=a,e:=some i }):=λ i=>by unfold dstep;dsimp only;rw [F]
  rw [L];generalize dAll 0 [] es=rs at I F u;have lt :∀{i:Nat} {e:Ev},es[i]? = some e->(es++[Ev.fin h a])[i]? = some e:=λ z=>by rw [C1 (List.getElem?_eq_some_iff.mp z).1];exact z
  have w:(es++[Ev.fin h a])[0 + es.length]? = some (.fin h a):=by rw [n6,E1 (C0 _),A5];rfl
  have s :∀{i:Nat} {e:Ev},(es++[Ev.fin h a])[i]? = some e->es[i]? = some e\/(i=0 + es.length/\e=.fin h a):=λ {i e} z=>by
   by_cases y:i < es.length
   ·rw [C1 y] at z;exact .inl z
   ·have p:=(List.getElem?_eq_some_iff.mp z).1;rw [D0] at p;have:i=0 + es.length:=by simp at p;lia
    rw [this,w] at z;exact .inr ⟨this,(P1 z).symm⟩
  have get :∀q∈rs.modify j (λ r=>{ r with a:=a,e:=some (0 + es.length) }),(q={ r with a:=a,e:=some (0 + es.length) })\/q∈rs:=λ q f=>by
   obtain ⟨m,o⟩:=List.mem_iff_getElem?.mp f;rw [V1] at o;obtain ⟨O,C,e⟩:=Option.map_eq_some_iff.mp o;by_cases z:j=m
   ·rw [if_pos z] at e;rw [<-z,u] at C;cases C;exact .inl e.symm
   ·rw [if_neg z] at e;rw [<-e];exact .inr (v0 C)
  have put :∀q∈rs,q∈rs.modify j (λ r=>{ r with a:=a,e:=some (0 + es.length) })\/q=r:=λ q f=>by
   obtain ⟨m,o⟩:=List.mem_iff_getElem?.mp f;by_cases z:j=m
   ·rw [<-z,u] at o;cases o;exact .inr rfl
   ·refine .inl (v0 (i:=m) ?_);rw [V1,o];show some (if j=m then _ else q)=some q;rw [if_neg z]
  have new:{ r with a:=a,e:=some (0 + es.length) }∈rs.modify j (λ r=>{ r with a:=a,e:=some (0 + es.length) }):=v0 (i:=j) (by rw [V1,u];show some (if j=j then _ else r)=_;rw [if_pos rfl]);have M:=v0 u;refine ⟨λ q f=>?_,λ q f k g=>?_,λ i A N G H z=>?_,λ i A P z=>?_⟩
  ·rcases get q f with e|e
   ·rw [e];exact lt (I.a r M)
   ·exact lt (I.a q e)
  ·rcases get q f with e|e
   ·rw [e] at g⊢;cases g;show (es++[Ev.fin h a])[0 + es.length]? = some (.fin r.h a);rw [E];exact w
   ·exact lt (I.b q e k g)
  ·rcases s z with y|⟨_,y⟩
   ·obtain ⟨q,f,e⟩:=I.c i _ _ _ _ y;rcases put q f with x|x
    ·exact ⟨q,x,e⟩
    ·exact ⟨_,new,by rw [<-e,x]⟩
   ·cases y
  ·rcases s z with y|⟨y1,y2⟩
   ·obtain ⟨q,f,B,K⟩:=I.d i _ _ y;rcases put q f with x|x
    ·exact ⟨q,x,B,K⟩
    ·rw [x,J] at B;cases B
   ·cases y2;exact ⟨_,new,by rw [y1],E⟩
structure Sq1 (wr:Int) (es:List Ev) (rs:List Rc):Prop where
 R:EvR es rs
 G :∀r∈rs,RdG r\/WrG wr r
 D :∀(x y:Nat) (r q:Rc),x < y->rs[x]? = some r->rs[y]? = some q->r.b < q.b/\(r.h=q.h->∃e,r.e=some e/\e < q.b)
 E:EndsB rs
theorem TW.sq {nm:Str} {wr:Int} {es:List Ev} {os:List (Int×Bool)} {us:List Int} (h:TW nm wr es os us):Sq1 wr es (dAll 0 [] es):=by obtain ⟨_,b,a⟩:=DInv.nil.all h.wf.1;exact ⟨h.evr,h.rs.g,a.p,(EndsB.all (es:=es) (i:=0) (rs:=[]) (λ _ h=>absurd h B0) (λ _ h=>absurd h B0)).1⟩
variable {wr:Int} {es:List Ev} {rs:List Rc}
theorem Sq1.hand (S:Sq1 wr es rs) {w w':Rc} (h:w∈rs) (h':w'∈rs) (e:w.h=w'.h):w=w'\/(w.b < w'.b/\∃k,w.e=some k/\k < w'.b)\/(w'.b < w.b/\∃k,w'.e=some k/\k < w.b):=by
 obtain ⟨i,d⟩:=List.mem_iff_getElem?.mp h;obtain ⟨j,c⟩:=List.mem_iff_getElem?.mp h';rcases F4 i j with z|z|z
 ·obtain ⟨a,b⟩:=S.D i j w w' z d c;exact .inr (.inl ⟨a,b e⟩)
 ·subst z;rw [d] at c;cases c;exact .inl rfl
 ·obtain ⟨a,b⟩:=S.D j i w' w z c d;exact .inr (.inr ⟨a,b e.symm⟩)
theorem Sq1.same_b (S:Sq1 wr es rs) {w w':Rc} (h:w∈rs) (h':w'∈rs) (e:w.b=w'.b):w=w':=by
 obtain ⟨i,c⟩:=List.mem_iff_getElem?.mp h;obtain ⟨j,a⟩:=List.mem_iff_getElem?.mp h';rcases F4 i j with z|z|z
 ·have:=(S.D i j w w' z c a).1;lia
 ·subst z;rw [c] at a;cases a;rfl
 ·have:=(S.D j i w' w z a c).1;lia
theorem Sq1.wh (S:Sq1 wr es rs) {w:Rc} (h:w∈rs) (hw:isW w=true):w.h=wr/\w.v=.str "write":=by
 rcases S.G w h with g|g
 ·rw [g.w] at hw;cases hw
 ·exact ⟨g.2.1,g.1⟩
theorem Sq1.noE (S:Sq1 wr es rs) {i:Nat} {h:Int} {n v x:V} (e:es[i]? = some (.beg h n v x)) :∀w∈rs,w.e≠some i:=λ w a z=>by have:=S.R.b w a i z;rw [e] at this;cases this
def LastI (rs:List Rc) (i:Nat) (x:Int):Prop:=(x=0/\∀w∈rs,isW w=true->∀e,w.e=some e->¬ e < i)\/∃w∈rs,isW w=true/\intV w.x=x/\(∃e,w.e=some e/\e < i)/\∀w'∈rs,isW w'=true->(∃e,w'.e=some e/\e < i)->w'.b<=w.b
theorem Sq1.last1 (S:Sq1 wr es rs) {i:Nat} {x y:Int} (a:LastI rs i x) (b:LastI rs i y):x=y:=by
 rcases a with ⟨f,g⟩|⟨w,hw,f,g,⟨e,a3,a4⟩,a5⟩
 ·rcases b with ⟨c,d⟩|⟨w,hw,c,d,⟨e,b3,b4⟩,b5⟩
  ·rw [f,c]
  ·exact absurd b4 (g w hw c e b3)
 ·rcases b with ⟨c,d⟩|⟨w',hw',c,d,⟨e',b3,b4⟩,b5⟩
  ·exact absurd a4 (d w hw f e a3)
  ·have h:=a5 w' hw' c ⟨e',b3,b4⟩;have j:=b5 w hw f ⟨e,a3,a4⟩;have:w=w':=S.same_b hw hw' (by lia);rw [<-g,<-d,this]
end
section
structure Ent where
 x:Int
 b:Int
 e:Option Int
noncomputable def ent0:Ent:=⟨0,-2,some (-1)⟩
noncomputable def entW (r:Rc):Ent:=⟨intV r.x,r.b,r.e.map λ n=>(n:Int)⟩
noncomputable def ents (rs:List Rc):List Ent:=ent0 :: (rs.filter isW).map entW
theorem ents_mem {rs:List Rc} {t:Ent}:t∈ents rs↔t=ent0\/∃w∈rs,isW w=true/\t=entW w:=by
 unfold ents;rw [T2,List.mem_map];constructor
 ·rintro (h|⟨w,hw,e⟩)
  ·exact .inl h
  ·exact .inr ⟨w,(List.mem_filter.mp hw).1,(List.mem_filter.mp hw).2,e.symm⟩
 ·rintro (h|⟨w,hw,hi,e⟩)
  ·exact .inl h
  ·exact .inr ⟨w,List.mem_filter.mpr ⟨hw,hi⟩,e.symm⟩
theorem zba (rs:List Rc) (r:Rc):ents (rs++[r])=ents rs++if isW r=true then [entW r] else []:=by
 unfold ents;rw [Z3,A1,List.cons_append];by_cases z:isW r=true
 ·rw [if_pos z,C2 z];rfl
 ·rw [if_neg z,D2 z];rfl
noncomputable def besB (rb re:Int) (t:Ent):Bool:=(match t.e with|none=>true|some e=>decide (rb < e)) && decide (t.b < re)
noncomputable def ahdB (rb:Int) (t:Ent):Bool:=match t.e with|none=>false|some e=>decide (e < rb)
variable {wr:Int} {es:List Ev} {rs:List Rc}
theorem Sq1.ents_b (S:Sq1 wr es rs) {t t':Ent} (h:t∈ents rs) (h':t'∈ents rs) (e:t.b=t'.b):t=t':=by
 rcases ents_mem.mp h with rfl|⟨w,hw,_,rfl⟩
 ·rcases ents_mem.mp h' with rfl|⟨w',hw',_,rfl⟩
  ·rfl
  ·have:(-2:Int)=(w'.b:Int):=e;lia
 ·rcases ents_mem.mp h' with rfl|⟨w',hw',_,rfl⟩
  ·have:(w.b:Int)=-2:=e;lia
  ·have:(w.b:Int)=(w'.b:Int):=e;rw [S.same_b hw hw' (by lia)]
theorem z2e {α:Type} {f:α->Int} :∀{l:List α},(l.map f).Nodup->∀a∈l,∀b∈l,f a=f b->a=b
 | [],_,_,h,_,_,_=>absurd h B0
 | x :: l,nd,a,ha,b,hb,e=>by
  rw [j1,A7] at nd;rcases List.mem_cons.mp ha with rfl|ha'
  ·rcases List.mem_cons.mp hb with rfl|hb'
   ·rfl
   ·exact absurd (List.mem_map.mpr ⟨b,hb',e.symm⟩) nd.1
  ·rcases List.mem_cons.mp hb with rfl|hb'
   ·exact absurd (List.mem_map.mpr ⟨a,ha',e⟩) nd.1
   ·exact z2e nd.2 a ha' b hb' e
theorem ents_x (nd:((rs.filter isW).map (λ r=>intV r.x)).Nodup) (n0:(0:Int)∉(rs.filter isW).map (λ r=>intV r.x)) {t t':Ent} (h:t∈ents rs) (h':t'∈ents rs) (e:t.x=t'.x):t=t':=by
 have c :∀w∈rs,isW w=true->intV w.x≠0:=λ w a b z=>n0 (List.mem_map.mpr ⟨w,List.mem_filter.mpr ⟨a,b⟩,z⟩);rcases ents_mem.mp h with rfl|⟨w,a,b,rfl⟩
 ·rcases ents_mem.mp h' with rfl|⟨w',hw',hi',rfl⟩
  ·rfl
  ·exact absurd e.symm (c w' hw' hi')
 ·rcases ents_mem.mp h' with rfl|⟨w',hw',hi',rfl⟩
  ·exact absurd e (c w a b)
  ·rw [z2e nd w (List.mem_filter.mpr ⟨a,b⟩) w' (List.mem_filter.mpr ⟨hw',hi'⟩) e]
theorem besW {rb re:Nat} {w:Rc}:besB rb re (entW w)=true↔w.b < re/\∀k,w.e=some k->rb < k:=by
 unfold besB entW;cases h:w.e with
 | none=>simp
 | some k=>
  rw [Bool.and_eq_true_iff];constructor
  ·rintro ⟨a,b⟩;have a:(rb:Int) < (k:Int):=of_decide_eq_true a;have b:(w.b:Int) < (re:Int):=of_decide_eq_true b;exact ⟨by lia,λ c z=>by cases z;lia⟩
  ·rintro ⟨a,b⟩;have b:=b k rfl;exact ⟨decide_eq_true (show (rb:Int) < (k:Int) by lia),decide_eq_true (show (w.b:Int) < (re:Int) by lia)⟩
theorem bes0 {rb re:Nat}:besB rb re ent0=false:=by have:decide ((rb:Int) < -1)=false:=decide_eq_false (by lia);show (decide ((rb:Int) < -1) && _)=false;rw [this];rfl
theorem ahdW {rb:Nat} {w:Rc}:ahdB rb (entW w)=true↔∃e,w.e=some e/\e < rb:=by
 unfold ahdB entW;cases h:w.e with
 | none=>simp
 | some k=>
  constructor
  ·intro a;have a:(k:Int) < (rb:Int):=of_decide_eq_true a;exact ⟨k,rfl,by lia⟩
  ·rintro ⟨e,z,lt⟩;cases z;exact decide_eq_true (show (k:Int) < (rb:Int) by lia)
theorem ahd0 {rb:Nat}:ahdB rb ent0=true:=decide_eq_true (show (-1:Int) < (rb:Int) by lia)
theorem zgh (nd:((rs.filter isW).map (λ r=>intV r.x)).Nodup) (n0:(0:Int)∉(rs.filter isW).map (λ r=>intV r.x)) {rb re:Nat} {t:Ent} (h:t∈ents rs):besB rb re t=true↔∃w∈rs,isW w=true/\intV w.x=t.x/\w.b < re/\∀k,w.e=some k->rb < k:=by
 constructor
 ·intro b;rcases ents_mem.mp h with rfl|⟨w,hw,hi,rfl⟩
  ·rw [bes0] at b;cases b
  ·exact ⟨w,hw,hi,rfl,besW.mp b⟩
 ·rintro ⟨w,hw,hi,hx,r⟩;have:t=entW w:=ents_x nd n0 h (ents_mem.mpr (.inr ⟨w,hw,hi,rfl⟩)) hx.symm;rw [this];exact besW.mpr r
theorem Sq1.last_iff (S:Sq1 wr es rs) (nd:((rs.filter isW).map (λ r=>intV r.x)).Nodup) (n0:(0:Int)∉(rs.filter isW).map (λ r=>intV r.x)) {rb:Nat} {t l:Ent} (h:t∈ents rs) (hl:l∈ents rs) (la:ahdB rb l=true) (lm :∀t'∈ents rs,ahdB rb t'=true->t'.b<=l.b):t=l↔LastI rs rb t.x:=by
 have g:LastI rs rb l.x:=by
  rcases ents_mem.mp hl with rfl|⟨w,d,c,rfl⟩
  ·refine .inl ⟨rfl,λ w d c e z lt=>?_⟩;have:=lm (entW w) (ents_mem.mpr (.inr ⟨w,d,c,rfl⟩)) (ahdW.mpr ⟨e,z,lt⟩);have:(w.b:Int)<=-2:=this
   lia
  ·refine .inr ⟨w,d,c,rfl,ahdW.mp la,λ f j i z=>?_⟩;have:(f.b:Int)<=(w.b:Int):=lm (entW f) (ents_mem.mpr (.inr ⟨f,j,i,rfl⟩)) (ahdW.mpr z)
   lia
 constructor
 ·rintro rfl;exact g
 ·intro a;exact ents_x nd n0 h hl (S.last1 a g)
theorem zgs {rb:Nat} {x:Int} (h:LastI rs rb x) :∃t∈ents rs,t.x=x:=by
 rcases h with ⟨h,_⟩|⟨w,hw,hi,hx,_⟩
 ·exact ⟨ent0,.head _,h.symm⟩
 ·exact ⟨entW w,ents_mem.mpr (.inr ⟨w,hw,hi,rfl⟩),hx⟩
def RegR (rs:List Rc) (r:Rc) (e:Nat):Prop:=(∃w∈rs,isW w=true/\intV w.x=intV r.a/\w.b < e/\∀k,w.e=some k->r.b < k)\/LastI rs r.b (intV r.a)
def SafR (rs:List Rc) (r:Rc) (e:Nat):Prop:=(∃w∈rs,isW w=true/\w.b < e/\∀k,w.e=some k->r.b < k)\/LastI rs r.b (intV r.a)
theorem RegR.safe {r:Rc} {e:Nat} (h:RegR rs r e):SafR rs r e:=h.imp (λ ⟨w,hw,hi,_,z⟩=>⟨w,hw,hi,z⟩) id
def AllR (P:List Rc->Rc->Nat->Prop) (rs:List Rc):Prop:=∀r∈rs,∀e,r.v=.str "read"->r.e=some e->P rs r e
end
section
variable {P:Program} {w:Q0} {mg:Str->Option Value} {base:Heap}
noncomputable def endO:Option Int->V
 | none=>.non
 | some i=>.int i
theorem endV_O (o:Option Nat):endV o=endO (o.map λ n=>(n:Int)):=by cases o<;>rfl
def EntV (K:d0) (H:Hp) (t:Ent) (v:V):Prop:=∃p,v=.ref p/\SqT K H p [.int t.b,endO t.e]
def EntAt (K:d0) (H:Hp) (t:Ent) (kv:Key×V):Prop:=kv.1=.inl t.x/\EntV K H t kv.2
theorem EntV.tups {K:d0} {H H':Hp} {t:Ent} {v:V} (f :∀c xs,SqT K H c xs->SqT K H' c xs) (h:EntV K H t v):EntV K H' t v:=h.elim λ p z=>⟨p,z.1,f _ _ z.2⟩
theorem EntAt.tups {K:d0} {H H':Hp} {t:Ent} {kv:Key×V} (f :∀c xs,SqT K H c xs->SqT K H' c xs) (h:EntAt K H t kv):EntAt K H' t kv:=⟨h.1,h.2.tups f⟩
theorem ze3 {K:d0} {H:Hp} :∀{ts:List Ent} {kvs:List (Key×V)},All2 (EntAt K H) ts kvs->kvs.map (·.1)=ts.map λ t=>Sum.inl t.x
 | _,_,.nil=>rfl
 | _,_,.cons a r=>by rw [j1,j1,ze3 r,a.1]
theorem za3 (rs:List Rc):(ents rs).length<=rs.length + 1:=by unfold ents;rw [D1,L0];exact Nat.succ_le_succ (T1 _ _)
theorem ziz {rs:List Rc} {i:Nat} {r:Rc} (nd:((rs.filter isW).map (λ r=>intV r.x)).Nodup) (n0:(0:Int)∉(rs.filter isW).map (λ r=>intV r.x)) (h:rs[i]? = some r) (hw:isW r=true):(Sum.inl (intV r.x):Key)∉(ents (rs.take i)).map λ t=>(Sum.inl t.x:Key):=λ z=>by
 obtain ⟨t,c,e⟩:=List.mem_map.mp z;have e:=O2 e;rcases ents_mem.mp c with rfl|⟨w,hm,hi,rfl⟩
 ·exact n0 (List.mem_map.mpr ⟨r,List.mem_filter.mpr ⟨v0 h,hw⟩,e.symm⟩)
 ·have d:rs=rs.take i++r :: rs.drop (i + 1):=by obtain ⟨b,a⟩:=List.getElem?_eq_some_iff.mp h;rw [<-a,<-T4 b,List.take_append_drop]
  rw [d,Z3,A1,n5] at nd;exact nd.2.2 _ (List.mem_map.mpr ⟨w,List.mem_filter.mpr ⟨hm,hi⟩,rfl⟩) _ (List.mem_map.mpr ⟨r,List.mem_filter.mpr ⟨.head _,hw⟩,rfl⟩) e
theorem zef {H:Hp}:SqT (kx w) H 210 [.int (-2),.int (-1)]:=
 .inr ⟨⟨(.type "tuple"),none,(.seq #[(.int (-2) 517),(.int (-1) 519)] 0),#[]⟩,#[(.int (-2) 517),(.int (-1) 519)],0,by kernel_rfl,rfl,rfl,w_2,.cons ⟨_,rfl⟩ (.cons ⟨_,rfl⟩ .nil)⟩
def z5s (K:d0):Sp:=λ vs H Q _=>∃l zs rs wr,vs=[.ref l]/\ToldAt K H l wr rs zs/\((rs.filter isW).map (λ r=>intV r.x)).Nodup/\(0:Int)∉(rs.filter isW).map (λ r=>intV r.x)/\∀d kvs H',Same H H'->H' d=some (.dK kvs)->All2 (EntAt K H') (ents rs) kvs->Q (.ref d) H'
theorem zd2 (T:TX (kx w) mg):Fo P w mg base CX0 1 234 y16 ["told"] (z5s (kx w)):=by
 refine (z3q w.params).ok sc_writers (λ S H Q E h=>?_) (λ a1 A a0 s H S Q E X h=>?_)
 ·obtain ⟨l,I,rs,R,rfl,_⟩:=h;rfl
 ·obtain ⟨l,I,rs,R,rfl,f,U,n0,q⟩:=h;refine ⟨_,(z01 (ps_set (i:=1) sc_writers.nd rfl (O0 rfl) (zay (z7f pe_int (z49 (v:=.ref 210) rfl (T.of (z4y _)) rfl) zbp) rfl rfl (by simp) (by decide)))
   (z01 (ps_for L1 rfl (z0t (pv 0)) (z0b (i:=2) sc_writers.nd rfl (O0 rfl))
   (z03 (ps_if (z08 opEq (pe_ix ix_seq (pv 2) pe_int (λ _ _=>rfl)) pe_str (nomark _))
   (z03 (z3t (hu_of X) (pv 1) (pe_ix ix_seq (pv 2) pe_int (λ _ _=>rfl)) (z37 slSeq (pv 2) (z54 pe_int) z70) rfl))
   z0d)))
   (z03 (ps_ret (pv 1))))),?_⟩
  have Z:I.length=rs.length:=z05 f.a;have a2:=f.n;intro d F;refine ⟨upd_same,[(.inl 0,.ref 210)],rfl,(show (1:Nat)<=15 by decide),?_⟩;have D:Same H (upd (upd H d (.dK [])) d (.dK (mergeK [] [(.inl 0,.ref 210)]))):=Same.keep (Same.upd F) F;have N:upd (upd H d (.dK [])) d (.dK (mergeK [] [(.inl 0,.ref 210)])) d=some (.dK [(.inl 0,.ref 210)]):=upd_same;generalize upd (upd H d (.dK [])) d (.dK (mergeK [] [(.inl 0,.ref 210)]))=H1 at D N⊢;refine ⟨_,rfl,l,rfl,⟨_,SqL.of (D _ _ f.l)⟩,?_⟩;refine z1g (K:=KX w.params) (a:=l) (xs:=I) (λ i σ B=>Same H B/\(∃kvs,B d=some (.dK kvs)/\All2 (EntAt (kx w) B) (ents (rs.take i)) kvs)/\∃x2,σ=[some (.ref l),some (.ref d),x2])
   ⟨D,⟨_,N,.cons ⟨rfl,210,rfl,zef⟩ .nil⟩,_,rfl⟩ (λ _ σ B _ h=>SqL.of (h.1 _ _ f.l)) ?_ ?_
  ·rintro i y σ M W ⟨s2,⟨kvs,ed,wk⟩,x2,rfl⟩;obtain ⟨r,o,p,rfl,V⟩:=z0c f.a W;have hi:i < 63:=by have:=(List.getElem?_eq_some_iff.mp o).1;lia
   have lk:kvs.length<=64:=by
    rw [z05 wk];refine K0 (za3 _) ?_;rw [P4]
    lia
   have u:=s2.seqT V;refine g_name ?_;rcases f.g r (v0 o) with g|g
   ·refine ⟨_,rfl,.inr (.inl ⟨p,_,2,.str "read",rfl,rfl,u,by rw [g.1];exact z04 (j:=2) rfl,rfl,_,rfl,iteK ?_⟩)⟩;refine ⟨s2,⟨kvs,ed,?_⟩,_,rfl⟩;rw [z2w o,zba,if_neg (by rw [g.w];decide),Z2];exact wk
   ·refine ⟨_,rfl,.inr (.inl ⟨p,_,2,.str "write",rfl,rfl,u,by rw [g.1];exact z04 (j:=2) rfl,rfl,_,rfl,iteP (by decide +kernel) ?_⟩)⟩;refine ⟨_,rfl,5,rfl,.inr (.inl ⟨p,_,rfl,u,λ z=>absurd z.1 (show ¬ HT.sIx 7 0 (some 5)=0 by decide),λ O Y=>?_⟩)⟩;have c1:cutV [.int r.h,r.n,r.v,r.x,r.a,.int r.b,endV r.e] (some 5) none=[.int r.b,endV r.e]:=rfl;rw [c1];obtain ⟨L,v_,t,e3⟩:=newA (.tup [.int r.b,endV r.e]) Y;rw [<-v_];have J:=t _ _ ed;refine ⟨_,rfl,_,rfl,.inr (.inl ⟨p,_,3,.int (intV r.x),rfl,rfl,t.seqT u,by rw [<-g.2.2.1];exact z04 (j:=3) rfl,d,_,rfl,DPut.k (k:=.inl (intV r.x)) J (U0 (m:=100) (by lia) (by decide)),?_⟩)⟩;have C:Tups (kx w) L (upd L d (.dK (putK kvs (.inl (intV r.x)) (.ref O)))):=Tups.dict J;have G:=ziz U n0 o g.w;rw [<-ze3 wk] at G;refine ⟨Same.keep (s2.trans t) F,⟨_,upd_same,?_⟩,_,rfl⟩;rw [z2w o,zba,if_pos g.w,z44 G];rw [z44 G] at C;refine z0q (z02 (λ _ _ z=>EntAt.tups (λ c xs y=>C _ _ (t.seqT y)) z) wk) ⟨rfl,O,rfl,?_⟩;have:=C _ _ (SqT.of e3);rw [endV_O] at this;exact this
  ·rintro σ M ⟨s2,⟨kvs,ed,wk⟩,x2,rfl⟩;rw [Z,S6] at wk;exact ⟨_,rfl,q d kvs M s2 ed wk⟩
def NumAt (H:Hp) (zs:List V) (i:Nat) (y:V):Prop:=∃p z,y=.ref p/\H p=some (.tup [.int (i:Nat),z])/\zs[i]? = some z
theorem NumAt.same {H H':Hp} {zs:List V} {i:Nat} {y:V} (s:Same H H') (h:NumAt H zs i y):NumAt H' zs i y:=by obtain ⟨p,z,a,c,b⟩:=h;exact ⟨p,z,a,s _ _ c,b⟩
noncomputable def isRE (r:Rc):Bool:=decide (r.v=.str "read") && r.e.isSome
def z18 (K:d0):Sp:=λ vs H Q _=>∃l zs rs wr,vs=[.ref l]/\ToldAt K H l wr rs zs/\∀a ws H',Same H H'->H' a=some (.lst ws)->All2 (NumAt H' zs) ((X0 rs.length).filter λ i=>isRE (rs[i]?.getD r00)) ws->Q (.ref a) H'
theorem z7k (T:TX (kx w) mg):Fo P w mg base CX0 1 239 y0n ["told"] (z18 (kx w)):=by
 refine (z2b w.params).ok z81 (λ I H Q E h=>?_) (λ a0 A Z s H I Q E hr h=>?_)
 ·obtain ⟨l,d,rs,G,rfl,_⟩:=h;rfl
 ·obtain ⟨l,d,rs,G,rfl,b,q⟩:=h;refine ⟨_,(z03 (ps_ret (pe_cg (xs:=["number","deed"]) (g:=gTup (kx w) 2 (gCons (gName 0) (gCons (gName 1) gNil))) (fr:=[]) (z35 rfl (T.no (z0m _)) (z00 (pv 0) pa_nil)) (λ _ _ _ _ _=>(pg_tup rfl (z07 (pg_cn (N:=["number","deed"]) 0) (z07 (pg_cn (N:=["number","deed"]) 1) z0j)))) (λ _ _ _ _ _=>(pf_one (PW.pt (pw_and (z08 opEq (pe_ix (z13 (K:=KX w.params) rfl) (pv 1) pe_int (λ _ _=>rfl)) pe_str (nomark _)) (z2i (z08 z45 (pe_ix (z13 (K:=KX w.params) rfl) (pv 1) pe_int (λ _ _=>rfl)) pe_non (nomark _))))))) (λ _ _ _ _ _=>(pe_tup (z00 (pv 0) (z00 (pv 1) pa_nil))))))),?_⟩;have O:d.length=rs.length:=z05 b.a;have a1:=b.n;refine sq_ret ?_;refine zaz (K:=KX w.params) (a:=l) (xs:=d) (H1:=H) (λ i=>isRE (rs[i]?.getD r00)) (λ i y X=>NumAt X d i y) (λ _ _ _ _ s z=>z.same s) (λ R h=>⟨_,rfl,h⟩) (SqL.of b.l) (K0 (m:=63) (by lia) (by decide)) ?_ ?_
  ·intro i hi v H1 f Y KT KF C k;obtain ⟨x,J,F,rfl,S⟩:=Y;obtain ⟨r,D,p,rfl,L⟩:=z0c b.a F;have c:=f.seqT L;rw [getD_some D] at C k;refine ⟨J,_,rfl,SqT.of S,rfl,_,_,rfl,_,_,rfl,rfl,[some (.int (i:Nat)),some (.ref p)],rfl,rfl,?_⟩;rcases b.g r (v0 D) with g|g
   ·refine ⟨_,rfl,.inr (.inl ⟨p,_,2,.str "read",rfl,rfl,c,by rw [g.1];exact z04 (j:=2) rfl,rfl,_,rfl,iteP (by decide +kernel) ?_⟩)⟩;cases he:r.e with
    | none=>exact ⟨_,rfl,.inr (.inl ⟨p,_,6,.non,rfl,rfl,c,by rw [he];exact z04 (j:=6) rfl,rfl,_,rfl,iteN (by decide) (k (by unfold isRE;rw [he];exact a9 _) _ (Same.refl _))⟩)⟩
    | some e=>refine ⟨_,rfl,.inr (.inl ⟨p,_,6,.int e,rfl,rfl,c,by rw [he];exact z04 (j:=6) rfl,rfl,_,rfl,iteP (by simp) ?_⟩)⟩;refine ⟨_,rfl,_,rfl,w_2,λ V U=>C (by unfold isRE;rw [he,decide_eq_true g.1];rfl) _ _ (Same.upd U) ⟨V,_,rfl,upd_same,F⟩⟩
   ·refine ⟨_,rfl,.inr (.inl ⟨p,_,2,.str "write",rfl,rfl,c,by rw [g.1];exact z04 (j:=2) rfl,rfl,_,rfl,iteK ?_⟩)⟩;refine iteN (by decide) (k ?_ _ (Same.refl _));unfold isRE;rw [decide_eq_false (λ e=>z0z (e.symm.trans g.1))];rfl
  intro W H1 u f M t;rw [O] at t;have B:=Same.upd (o:=.lst u) M;exact q W u _ (f.trans B) upd_same (z02 (λ _ _ z=>z.same B) t)
def z0h (K:d0):Sp:=λ vs H Q _=>∃t nm wr es ys,vs=[.ref t]/\TalR K H t nm wr es ys/\∀l zs H',Same H H'->ToldAt K H' l wr (dAll 0 [] es) zs->Q (.ref l) H'
theorem z3h (T:TX (kx w) mg) (c0:Ca P w mg base "plain_deeds" ["tale"] 4 (z3v (kx w))):Fo P w mg base CX0 5 244 y04 ["tale"] (z0h (kx w)):=by
 refine (z0s w.params).ok sc_lone_writer_deeds (λ S H Q E h=>?_) (λ a4 A a3 s H S Q E hr h=>?_)
 ·obtain ⟨t,nm,d,k,C,rfl,_⟩:=h;rfl
 ·obtain ⟨t,nm,d,k,C,rfl,M,q⟩:=h;refine ⟨_,(z01 (ps_set (i:=1) sc_lone_writer_deeds.nd rfl (O0 rfl) (pe_cal c0 (hr.mono (by decide)) rfl (z00 (pv 0) pa_nil)))
   (z01 (ps_if (z08 op_gt (zbe rfl rfl (T.no (n_len _)) rfl (T.no (n_set _)) K5 boot_set (pe_cg (xs:=["deed"]) (g:=gName 0) (fr:=[]) (z0t (pv 1)) (λ _ _ _ _ _=>(pg_cn (N:=["deed"]) 0)) (λ _ _ _ _ _=>(pf_one (z08 opEq (pe_ix (z13 (K:=KX w.params) rfl) (pv 0) pe_int (λ _ _=>rfl)) pe_str (nomark _)))) (λ _ _ _ _ _=>(pe_ix (z13 (K:=KX w.params) rfl) (pv 0) pe_int (λ _ _=>rfl))))) pe_int (nomark _))
   (z03 z67)
   z0d)
   (z03 (ps_ret (pv 1))))),?_⟩
  refine z0f ?_;refine ⟨_,rfl,t,nm,d,k,C,rfl,M,λ l B H1 X b=>?_⟩;refine g_name ?_;generalize dAll 0 [] k=rs at b q;have lz:B.length=rs.length:=z05 b.a;have a1:=b.n;refine sq_if (t_test (t_lset ?_));refine z3d (K:=KX w.params) (a:=l) (xs:=B) (H1:=H1) (λ i=>isW (rs[i]?.getD r00)) (λ i y _=>y=.int ((rs[i]?.getD r00).h)) (λ _ _ _ _ _ z=>z) (λ R h=>⟨_,rfl,h⟩) (SqL.of b.l) (K0 (m:=63) (by lia) (by decide)) ?_ ?_
  ·intro i hi v H2 c hv KT KF F I;obtain ⟨r,J,p,rfl,sp⟩:=z0c b.a hv;have x:=c.seqT sp;rw [getD_some J] at F I;refine ⟨[some (.ref p)],rfl,rfl,?_⟩;rcases b.g r (v0 J) with g|g
   ·refine ⟨_,rfl,.inr (.inl ⟨p,_,2,.str "read",rfl,rfl,x,by rw [g.1];exact z04 (j:=2) rfl,rfl,_,rfl,iteK (I g.w _ (Same.refl _))⟩)⟩
   ·refine ⟨_,rfl,.inr (.inl ⟨p,_,2,.str "write",rfl,rfl,x,by rw [g.1];exact z04 (j:=2) rfl,rfl,_,rfl,iteP (by decide +kernel) ?_⟩)⟩;exact ⟨_,rfl,.inr (.inl ⟨p,_,0,.int r.h,rfl,rfl,x,z04 (j:=0) rfl,F g.w _ _ (Same.refl _) rfl⟩)⟩
  intro l2 H2 W c a0 Y;have O:=zbl (f:=λ r=>V.int r.h) lz Y;have a2:W=((rs.filter isW).map (λ r=>r.h)).map V.int:=by rw [O,u3];rfl
  subst a2;have L :∀u∈(rs.filter isW).map (λ r=>r.h),u=d:=λ u U=>by
   obtain ⟨r,Z,rfl⟩:=List.mem_map.mp U;obtain ⟨hm,G⟩:=List.mem_filter.mp Z;rcases b.g r hm with g|g
   ·rw [g.w] at G;cases G
   ·exact g.2.1
  have lh:((rs.filter isW).map (λ r=>r.h)).length<=63:=by rw [L0];exact K0 (T1 _ _) a1
  have a5:=z9j _ [] L (.inl rfl);have D:=Same.upd (o:=.lst (((rs.filter isW).map (λ r=>r.h)).map V.int)) a0;refine ⟨l2,_,rfl,SqL.of upd_same,by lia,_,_,rfl,rfl,_,rfl,iteN (λ e=>absurd (of_decide_eq_true e) (by lia)) ?_⟩;exact ⟨_,rfl,q l B _ (X.trans (c.trans D)) (b.same (c.trans D))⟩
noncomputable def t00:Ent:=⟨0,0,none⟩
theorem za5 {ts:List Ent} {i:Nat} {t:Ent} (h:ts[i]? = some t):ts[i]?.getD t00=t:=by rw [h];rfl
theorem ent_at {K:d0} {H:Hp} {ts:List Ent} {kvs:List (Key×V)} {i:Nat} {k:Key} {v:V} (al:All2 (EntAt K H) ts kvs) (h:kvs[i]? = some (k,v)) :∃t,ts[i]? = some t/\EntV K H t v:=by obtain ⟨t,a,z⟩:=z0c al h;exact ⟨t,a,z.2⟩
theorem zap {P:Ent->V->Prop} {ts:List Ent} {q:Ent->Bool} {n:Nat} {us:List V} (hn:n=ts.length) (h:All2 (λ (i:Nat) y=>P (ts[i]?.getD t00) y) ((X0 n).filter λ i=>q (ts[i]?.getD t00)) us):All2 P (ts.filter q) us:=by
 subst hn;have c :∀(b:List Nat) (us:List V),All2 (λ (k:Nat) y=>P (ts[k]?.getD t00) y) b us->All2 P (b.map λ k=>ts[k]?.getD t00) us:=by
  intro b;induction b with
  | nil=>intro us h;cases h;exact .nil
  | cons k b ih=>intro us h;cases h with|cons a r=>exact .cons a (ih _ r)
 have z:=c _ _ h;have e:=z1d q (λ i=>i) t00 ts;rw [e,List.map_id'] at z;exact z
structure WrAt (K:d0) (H:Hp) (d:Addr) (kvs:List (Key×V)) (ts:List Ent):Prop where
 d:H d=some (.dK kvs)
 a:All2 (EntAt K H) ts kvs
 n:ts.length<=64
theorem WrAt.same {K:d0} {H H':Hp} {d:Addr} {kvs:List (Key×V)} {ts:List Ent} (s:Same H H') (h:WrAt K H d kvs ts):WrAt K H' d kvs ts:=⟨s _ _ h.d,z02 (λ _ _ z=>EntAt.tups (λ _ _ y=>s.seqT y) z) h.a,h.n⟩
def z1h (K:d0):Sp:=λ vs H Q _=>∃d kvs ts y r re,vs=[.ref d,y]/\WrAt K H d kvs ts/\RcAt K H r y/\r.e=some re/\∀l ps H',Same H H'->H' l=some (.lst ps)->All2 (EntV K H') (ts.filter (besB r.b re)) ps->Q (.ref l) H'
theorem z6a (T:TX (kx w) mg):Fo P w mg base CX0 1 263 y0a ["written","read"] (z1h (kx w)):=by
 refine (z1p w.params).ok sc_writes_beside (λ Z H Q E h=>?_) (λ a5 A a4 s H Z Q E hr h=>?_)
 ·obtain ⟨d,kvs,l,y,r,f,rfl,_⟩:=h;rfl
 ·obtain ⟨d,kvs,l,y,r,f,rfl,B,⟨X,rfl,W⟩,he,q⟩:=h;refine ⟨_,(z01 (zik (zby (i:=2) sc_writes_beside.nd rfl (O0 rfl) (xs:=["write"]) (g:=gName 0) (fr:=[(1,"read")]) rfl (zgy (pv 0)) (by intro p J;obtain rfl:=List.mem_singleton.mp J;first|exact ⟨rfl,.inl rfl⟩|exact ⟨rfl,.inr rfl⟩) (zda (n:="read") (by decide +kernel) (λ _=>by first|exact .inl rfl|exact .inr rfl)) (by intro p J;obtain rfl:=List.mem_singleton.mp J;exact ⟨by decide +kernel,by first|exact .inl rfl|exact .inr rfl⟩) (by decide +kernel) rfl (by decide +kernel) (λ _ _ _ _ _=>(pg_cn (N:=["write","read"]) 0)) (λ _ _ _ _ _=>(pf_one (z08 op_lt (pe_ix (z13 (K:=KX w.params) rfl) (pv 0) pe_int (λ _ _=>rfl)) (pe_ix (z13 (K:=KX w.params) rfl) (pv 1) pe_int (λ _ _=>rfl)) (nomark _)))) (λ _ _ _ _ _=>(pv 0))))
   (z03 (ps_ret (pe_cg (xs:=["write"]) (g:=gName 0) (fr:=[(1,"read")]) (z0t (pv 2)) (λ _ _ _ _ _=>(pg_cn (N:=["write","read"]) 0)) (λ _ _ _ _ _=>(pf_one (PW.pt (pw_or (z08 op_isN (pe_ix (z13 (K:=KX w.params) rfl) (pv 0) pe_int (λ _ _=>rfl)) pe_non (nomark _)) (pw_or1 (z08 op_lt (pe_ix (z13 (K:=KX w.params) rfl) (pv 1) pe_int (λ _ _=>rfl)) (pe_ix (z13 (K:=KX w.params) rfl) (pv 0) pe_int (λ _ _=>rfl)) (nomark _))))))) (λ _ _ _ _ _=>(pv 0)))))),?_⟩
  have lk:kvs.length=l.length:=z05 B.a;have a3:=B.n;refine zh7 ?_;refine tcompV (K:=KX w.params) (a:=d) (kvs:=kvs) (λ i=>decide ((l[i]?.getD t00).b < (f:Int))) (λ i y=>EntV (kx w) H (l[i]?.getD t00) y) (λ R h=>⟨_,rfl,h⟩) B.d (K0 (m:=64) (by lia) (by decide)) ?_ ?_
  ·intro i k v hk H1 V KT Y c u;obtain ⟨t,L,p,rfl,C⟩:=ent_at B.a hk;rw [za5 L] at c u;refine ⟨[some (.ref p)],rfl,rfl,?_⟩;refine ⟨_,rfl,.inr (.inl ⟨p,_,0,.int t.b,rfl,rfl,V _ _ C,z04 (j:=0) rfl,?_⟩)⟩;refine ⟨_,rfl,.inr (.inl ⟨X,_,6,.int (f:Nat),rfl,rfl,V _ _ W,by rw [he];exact z04 (j:=6) rfl,_,_,rfl,rfl,_,rfl,?_⟩)⟩;by_cases z:t.b < (f:Int)
   ·exact iteP (decide_eq_true z) ⟨_,rfl,c (decide_eq_true z) _ _ (Same.refl _) ⟨p,rfl,C⟩⟩
   ·exact iteN (λ e=>z (of_decide_eq_true e)) (u (decide_eq_false z) _ (Same.refl _))
  intro l1 H1 M I a6 a0 F;have F:=zap (P:=λ t y=>EntV (kx w) H t y) (q:=λ t=>decide (t.b < (f:Int))) lk F;have G:=z02 (λ _ _ z=>EntV.tups (λ _ _ y=>I.seqT y) z) F;have e2:l.filter (besB r.b f)=(l.filter λ t=>decide (t.b < (f:Int))).filter λ t=>(match t.e with|none=>true|some e=>decide ((r.b:Int) < e)):=by rw [List.filter_filter];rfl
  rw [e2] at q;generalize hts:(l.filter λ t=>decide (t.b < (f:Int)))=ts1 at G q;have ly:M.length=ts1.length:=z05 G;have a7:ts1.length<=64:=by rw [<-hts];exact K0 (T1 _ _) a3
  refine sq_ret ?_;refine z3d (K:=KX w.params) (a:=l1) (xs:=M) (H1:=H1) (λ i=>(match (ts1[i]?.getD t00).e with|none=>true|some e=>decide ((r.b:Int) < e))) (λ i y H'=>EntV (kx w) H' (ts1[i]?.getD t00) y) (λ _ _ _ _ s z=>z.tups λ _ _ y=>s.seqT y) (λ R h=>⟨_,rfl,h⟩) (SqL.of a0) (K0 (m:=64) (by lia) (by decide)) ?_ ?_
  ·intro i hi v U D hv KT Y c u;obtain ⟨t,L,p,rfl,C⟩:=z0c G hv;rw [za5 L] at c u;have x:=D.seqT C;refine ⟨[some (.ref p)],rfl,rfl,?_⟩;cases te:t.e with
   | none=>rw [te] at c;exact ⟨_,rfl,.inr (.inl ⟨p,_,1,.non,rfl,rfl,x,by rw [te];exact z04 (j:=1) rfl,rfl,_,rfl,iteP (by decide) (iteP rfl ⟨_,rfl,c rfl _ _ (Same.refl _) ⟨p,rfl,x⟩⟩)⟩)⟩
   | some e=>
    rw [te] at c u;refine ⟨_,rfl,.inr (.inl ⟨p,_,1,.int e,rfl,rfl,x,by rw [te];exact z04 (j:=1) rfl,rfl,_,rfl,iteN (by simp) ?_⟩)⟩;refine ⟨_,rfl,.inr (.inl ⟨X,_,5,.int (r.b:Nat),rfl,rfl,(I.trans D).seqT W,z04 (j:=5) rfl,?_⟩)⟩;refine ⟨_,rfl,.inr (.inl ⟨p,_,1,.int e,rfl,rfl,x,by rw [te];exact z04 (j:=1) rfl,_,_,rfl,rfl,_,rfl,?_⟩)⟩;by_cases z:(r.b:Int) < e
    ·exact iteP (decide_eq_true z) ⟨_,rfl,c (decide_eq_true z) _ _ (Same.refl _) ⟨p,rfl,x⟩⟩
    ·exact iteN (λ e=>z (of_decide_eq_true e)) (u (decide_eq_false z) _ (Same.refl _))
  intro l2 U O D a1 a2;have S:=Same.upd (o:=.lst O) a1;refine q l2 O _ (I.trans (D.trans S)) upd_same ?_;exact z02 (λ _ _ z=>EntV.tups (λ _ _ y=>S.seqT y) z) (zap (P:=λ t y=>EntV (kx w) U t y) (q:=λ t=>(match t.e with|none=>true|some e=>decide ((r.b:Int) < e))) ly a2)
theorem zbu {K:d0} {H:Hp} :∀{us:List Ent} {ys:List V},All2 (EntV K H) us ys->(∀t∈us,t.e≠none)->∃L:List (Addr×(Int×Int)),ys=L.map (λ x=>V.ref x.1)/\(∀x∈L,SqT K H x.1 [.int x.2.1,.int x.2.2]/\∃t∈us,t.b=x.2.1/\t.e=some x.2.2)/\∀t∈us,∃x∈L,x.2.1=t.b
 | _,_,.nil,_=>⟨[],rfl,λ _ h=>absurd h B0,λ _ h=>absurd h B0⟩
 | t :: us,_,.cons a r,h=>by
  obtain ⟨L,i,k,j⟩:=zbu r λ t l=>h t (.tail _ l);obtain ⟨p,rfl,g⟩:=a;cases te:t.e with
  | none=>exact absurd te (h t (.head _))
  | some e=>
   rw [te] at g;refine ⟨(p,(t.b,e)) :: L,by rw [i];rfl,λ x c=>?_,λ f d=>?_⟩
   ·rcases List.mem_cons.mp c with rfl|c
    ·exact ⟨g,t,.head _,rfl,te⟩
    ·obtain ⟨a,f,d,b⟩:=k x c;exact ⟨a,f,.tail _ d,b⟩
   ·rcases List.mem_cons.mp d with rfl|d
    ·exact ⟨_,.head _,rfl⟩
    ·obtain ⟨x,c,e⟩:=j f d;exact ⟨x,.tail _ c,e⟩
def z2l (K:d0):Sp:=λ vs H Q _=>∃d kvs ts y r,vs=[.ref d,y]/\WrAt K H d kvs ts/\RcAt K H r y/\(∃t∈ts,ahdB r.b t=true)/\∀p t H',Same H H'->SqT K H' p [.int t.b,endO t.e]->t∈ts->ahdB r.b t=true->(∀t'∈ts,ahdB r.b t'=true->t'.b<=t.b)->Q (.ref p) H'
theorem z8k (T:TX (kx w) mg):Fo P w mg base CX0 1 268 y0v ["written","read"] (z2l (kx w)):=by
 refine (z3g w.params).ok z9f (λ V H Q E h=>?_) (λ a5 A a4 s H V Q E hr h=>?_)
 ·obtain ⟨d,kvs,D,y,r,rfl,_⟩:=h;rfl
 ·obtain ⟨d,kvs,D,y,r,rfl,o,⟨pr,rfl,sr⟩,⟨S,Y,a2⟩,q⟩:=h;refine ⟨_,(z03 (ps_ret (z0g (zfr rfl hr) rfl (T.no (n_max _)) boot_max (z00 (zid (pe_cg (xs:=["write"]) (g:=gName 0) (fr:=[(1,"read")]) (zgy (pv 0)) (λ _ _ _ _ _=>(pg_cn (N:=["write","read"]) 0)) (λ _ _ _ _ _=>(pf_one (PW.pt (pw_and (z08 z45 (pe_ix (z13 (K:=KX w.params) rfl) (pv 0) pe_int (λ _ _=>rfl)) pe_non (nomark _)) (z2i (z08 op_lt (pe_ix (z13 (K:=KX w.params) rfl) (pv 0) pe_int (λ _ _=>rfl)) (pe_ix (z13 (K:=KX w.params) rfl) (pv 1) pe_int (λ _ _=>rfl)) (nomark _))))))) (λ _ _ _ _ _=>(pv 0)))) pa_nil)))),?_⟩;have lk:kvs.length=D.length:=z05 o.a;have a7:=o.n;refine sq_ret (e_cb1 ?_);refine tcompV (K:=KX w.params) (a:=d) (kvs:=kvs) (λ i=>ahdB r.b (D[i]?.getD t00)) (λ i y=>EntV (kx w) H (D[i]?.getD t00) y) (λ R h=>⟨_,rfl,h⟩) o.d (K0 (m:=64) (by lia) (by decide)) ?_ ?_
  ·intro i k v X M B KT KF l c;obtain ⟨t,f,p,rfl,u⟩:=ent_at o.a X;rw [za5 f] at l c;unfold ahdB at l c;refine ⟨[some (.ref p)],rfl,rfl,?_⟩;cases te:t.e with
   | none=>rw [te] at c;exact ⟨_,rfl,.inr (.inl ⟨p,_,1,.non,rfl,rfl,B _ _ u,by rw [te];exact z04 (j:=1) rfl,rfl,_,rfl,iteN (by decide) (iteN (by decide) (c rfl _ (Same.refl _)))⟩)⟩
   | some e=>
    rw [te] at l c;refine ⟨_,rfl,.inr (.inl ⟨p,_,1,.int e,rfl,rfl,B _ _ u,by rw [te];exact z04 (j:=1) rfl,rfl,_,rfl,iteP (by simp) ?_⟩)⟩;refine ⟨_,rfl,.inr (.inl ⟨p,_,1,.int e,rfl,rfl,B _ _ u,by rw [te];exact z04 (j:=1) rfl,?_⟩)⟩;refine ⟨_,rfl,.inr (.inl ⟨pr,_,5,.int (r.b:Nat),rfl,rfl,B _ _ sr,z04 (j:=5) rfl,_,_,rfl,rfl,_,rfl,?_⟩)⟩;by_cases z:e < (r.b:Int)
    ·exact iteP (decide_eq_true z) ⟨_,rfl,l (decide_eq_true z) _ _ (Same.refl _) ⟨p,rfl,u⟩⟩
    ·exact iteN (λ e=>z (of_decide_eq_true e)) (c (decide_eq_false z) _ (Same.refl _))
  intro l1 M ys I a6 W F;have F:=zap (P:=λ t y=>EntV (kx w) H t y) (q:=ahdB r.b) lk F;have Z:=z02 (λ _ _ z=>EntV.tups (λ _ _ y=>I.seqT y) z) F;obtain ⟨L,l,c,G⟩:=zbu Z λ t f z=>by have:=(List.mem_filter.mp f).2;unfold ahdB at this;rw [z] at this;cases this
  obtain ⟨x0,a1,_⟩:=G S (List.mem_filter.mpr ⟨Y,a2⟩);cases L with
  | nil=>exact absurd a1 B0
  | cons m L=>
   subst l;refine ⟨l1,m,L,rfl,SqL.of W,λ x C=>(c x C).1,λ b U O=>?_⟩;obtain ⟨sb,t,f,J,e2⟩:=c b U;obtain ⟨f,ha⟩:=List.mem_filter.mp f;refine q b.1 t M I (by rw [J,e2];exact sb) f ha λ t' a0 a3=>?_;obtain ⟨x,C,e⟩:=G t' (List.mem_filter.mpr ⟨a0,a3⟩);have:=O x C;rw [J,<-e];rcases Int.lt_or_le b.2.1 x.2.1 with z|z
   ·have:=gtI_iff.mpr (.inl z:b.2.1 < x.2.1\/(x.2.1=b.2.1/\b.2.2 < x.2.2));rw [O x C] at this;cases this
   ·exact z
theorem zdz {K:d0} {H:Hp} :∀{ts:List Ent} {kvs:List (Key×V)},All2 (EntAt K H) ts kvs->∀x:Int,(∃t∈ts,t.x=x/\∃p,valV kvs (.inl x)=some (.ref p)/\SqT K H p [.int t.b,endO t.e])\/((∀t∈ts,t.x≠x)/\valV kvs (.inl x)=none)
 | _,_,.nil,x=>.inr ⟨λ _ h=>absurd h B0,rfl⟩
 | t :: ts,(k,v) :: kvs,.cons a r,x=>by
  obtain ⟨e,p,f,i⟩:=a;have e:k=.inl t.x:=e;have f:v=.ref p:=f;subst e f;by_cases z:t.x=x
  ·subst z;exact .inl ⟨t,.head _,rfl,p,z0n rfl,i⟩
  ·rw [z0o (λ e=>z (O2 e))];rcases zdz r x with ⟨c,d,g⟩|⟨d,g⟩
   ·exact .inl ⟨c,.tail _ d,g⟩
   ·refine .inr ⟨λ c j=>?_,g⟩;rcases List.mem_cons.mp j with rfl|y
    ·exact z
    ·exact d c y
noncomputable def endD:Option Int->PyData
 | none=>.none
 | some i=>.int i
noncomputable def entD (t:Ent):PyData:=.tuple [.int t.b,endD t.e]
theorem end_pd {K:d0} {H:Hp} :∀o:Option Int,IsPd K H (endD o) (endO o)
 | none=>rfl
 | some _=>rfl
theorem ent_pd {K:d0} {H:Hp} {t:Ent} {v:V} (h:EntV K H t v):IsPd K H (entD t) v:=h.elim λ p z=>⟨p,_,z.1,z.2,⟨_,_,rfl,rfl,_,_,rfl,end_pd _,rfl⟩⟩
theorem zgf {K:d0} {H:Hp} :∀{us:List Ent} {ps:List V},All2 (EntV K H) us ps->IsPds K H (us.map entD) ps
 | _,_,.nil=>rfl
 | _,_,.cons a r=>⟨_,_,rfl,ent_pd a,zgf r⟩
theorem z0r (t:Ent):plainP (entD t)=true:=by unfold entD;cases t.e<;>rfl
theorem z63 :∀us:List Ent,z1n (us.map entD)=true
 | []=>rfl
 | t :: us=>by show (plainP (entD t) && z1n (us.map entD))=true;rw [z0r,z63 us];rfl
theorem zb8 (t:Ent):(entD t).depth<=60:=by unfold entD;cases t.e<;>exact (show (1:Nat)<=60 by decide)
theorem entD_b {t t':Ent} (h:entD t=entD t'):t.b=t'.b:=by unfold entD at h;injection h with h;injection h with h _;injection h with h
theorem zgk (us:List Ent) (d:PyData) (hd:plainP d=true):((us.map entD).any λ e=>e.eqv d)=true↔∃t∈us,entD t=d:=by
 rw [A8];constructor
 ·rintro ⟨e,he,z⟩;obtain ⟨t,a,rfl⟩:=List.mem_map.mp he;exact ⟨t,a,(z6t _ _ (z0r t) hd).mp z⟩
 ·rintro ⟨t,a,rfl⟩;exact ⟨_,List.mem_map.mpr ⟨t,a,rfl⟩,(z6t _ _ (z0r t) (z0r t)).mpr rfl⟩
structure Seen (K:d0) (H:Hp) (l d:Addr) (wr:Int) (es:List Ev) (rs:List Rc) (zs:List V) (kvs:List (Key×V)):Prop where
 S:Sq1 wr es rs
 nd:((rs.filter isW).map (λ r=>intV r.x)).Nodup
 n0:(0:Int)∉(rs.filter isW).map (λ r=>intV r.x)
 t:ToldAt K H l wr rs zs
 w:WrAt K H d kvs (ents rs)
theorem Seen.same {K:d0} {H H':Hp} {l d:Addr} {wr:Int} {es:List Ev} {rs:List Rc} {zs:List V} {kvs:List (Key×V)} (s:Same H H') (h:Seen K H l d wr es rs zs kvs):Seen K H' l d wr es rs zs kvs:=⟨h.S,h.nd,h.n0,h.t.same s,h.w.same s⟩
theorem z6r {rs:List Rc} {rb:Nat} :∃t∈ents rs,ahdB rb t=true:=⟨ent0,.head _,ahd0⟩
theorem zgu {K:d0} {H:Hp} {l:Addr} {wr:Int} {rs:List Rc} {zs:List V} (ta:ToldAt K H l wr rs zs) {k:Nat} {ws:List V} {y:V} (al:All2 (NumAt H zs) ((X0 rs.length).filter λ i=>isRE (rs[i]?.getD r00)) ws) (hy:ws[k]? = some y) :
  ∃i p pz r e,((X0 rs.length).filter λ i=>isRE (rs[i]?.getD r00))[k]? = some i/\y=.ref p/\H p=some (.tup [.int (i:Nat),.ref pz])/\rs[i]? = some r/\SqT K H pz [.int r.h,r.n,r.v,r.x,r.a,.int r.b,endV r.e]/\r.v=.str "read"/\r.e=some e/\r.a=.int (intV r.a):=by
 obtain ⟨i,j,p,z,rfl,o,q⟩:=z0c al hy;obtain ⟨r,d,pz,rfl,sz⟩:=z0c ta.a q;have f:=(List.mem_filter.mp (v0 j)).2;rw [getD_some d] at f;obtain ⟨c,s⟩:=Bool.and_eq_true_iff.mp f;have c:=of_decide_eq_true c;obtain ⟨e,m⟩:=Option.isSome_iff_exists.mp s;have g:RdG r:=(ta.g r (v0 d)).resolve_right λ g=>z0z (c.symm.trans g.1);exact ⟨i,p,pz,r,e,j,rfl,o,d,sz,c,m,g.2.2 e m⟩
theorem re_all {rs:List Rc} {r:Rc} {e:Nat} (hr:r∈rs) (rv:r.v=.str "read") (re:r.e=some e) :∃m i:Nat,((X0 rs.length).filter λ i=>isRE (rs[i]?.getD r00))[m]? = some i/\rs[i]? = some r:=by
 obtain ⟨i,a⟩:=List.mem_iff_getElem?.mp hr;have:i∈(X0 rs.length).filter λ i=>isRE (rs[i]?.getD r00):=by refine List.mem_filter.mpr ⟨List.mem_range.mpr (List.getElem?_eq_some_iff.mp a).1,?_⟩;rw [getD_some a];unfold isRE;rw [re,decide_eq_true rv];rfl
 obtain ⟨m,b⟩:=List.mem_iff_getElem?.mp this;exact ⟨m,i,b,a⟩
def z50 (K:d0):Sp:=λ vs H Q _=>∃t nm wr es ys,vs=[.ref t]/\TalR K H t nm wr es ys/\∀b H',Same H H'->(b=true↔AllR RegR (dAll 0 [] es))->Q (.bl b) H'
theorem z8w (T:TX (kx w) mg) (c0:Ca P w mg base "lone_writer_deeds" ["tale"] 5 (z0h (kx w))) (c1:Ca P w mg base "writers" ["told"] 1 (z5s (kx w))) (c2:Ca P w mg base "ended_reads" ["told"] 1 (z18 (kx w))) (c3:Ca P w mg base "writes_beside" ["written","read"] 1 (z1h (kx w))) (c4:Ca P w mg base "last_ahead" ["written","read"] 1 (z2l (kx w))):Fo P w mg base CX0 6 251 y0u ["tale"] (z50 (kx w)):=by
 refine (z3e w.params).ok sc_is_regular (λ vs H Q E h=>?_) (λ c8 A c7 s H vs Q E o h=>?_)
 ·obtain ⟨t,nm,C,U,ys,rfl,_⟩:=h;rfl
 ·obtain ⟨t,nm,C,U,ys,rfl,ta,q⟩:=h;refine ⟨_,(z01 (ps_set (i:=1) sc_is_regular.nd rfl (O0 rfl) (pe_cal c0 (o.mono (by decide)) rfl (z00 (pv 0) pa_nil)))
   (z01 (ps_set (i:=2) sc_is_regular.nd rfl (O0 rfl) (pe_cal c1 (o.mono (by decide)) rfl (z00 (pv 1) pa_nil)))
   (z01 (ps_for L1 rfl (z0t (pe_cal c2 (o.mono (by decide)) rfl (z00 (pv 1) pa_nil))) (pg_tup rfl (z07 (z0b (i:=3) sc_is_regular.nd rfl (O0 rfl)) (z07 (z0b (i:=4) sc_is_regular.nd rfl (O0 rfl)) z0j)))
   (z03 (ps_if (z08 (zfy o) (zew (hu_of o) (pv 2) (pe_ix ix_seq (pv 4) pe_int (λ _ _=>rfl)) ⟨rfl,rfl,rfl,rfl⟩) (pe_op opAdd (pe_cal c3 (o.mono (by decide)) rfl (z00 (pv 2) (z00 (pv 4) pa_nil))) (pe_lst (z00 (pe_cal c4 (o.mono (by decide)) rfl (z00 (pv 2) (z00 (pv 4) pa_nil))) pa_nil))) (by with_unfolding_all rfl))
   (z03 (ps_ret pe_bl))
   z0d)))
   (z03 (ps_ret pe_bl))))),?_⟩
  obtain ⟨os,us,I⟩:=ta.tw;have S:=I.sq;have B:=I.rs.u ▸ I.us.1;have G:=I.rs.u ▸ I.us.2;refine z0f ?_;refine ⟨_,rfl,t,nm,C,U,ys,rfl,ta,λ l zs H1 s1 M=>?_⟩;refine g_name ?_;generalize dAll 0 [] U=rs at M q S B G;have c9:=M.n;refine z0f ?_;refine ⟨_,rfl,l,zs,rs,C,rfl,M,B,G,λ d a1 H2 s2 ed al=>?_⟩;refine g_name ?_;have se:Seen (kx w) H2 l d C U rs zs a1:=⟨S,B,G,M.same s2,ed,al,K0 (za3 rs) (by lia)⟩
  refine ⟨_,rfl,l,zs,rs,C,rfl,se.t,λ a ws H3 s3 ea aw=>⟨a,rfl,⟨_,SqL.of ea⟩,?_⟩⟩;have a4:=(s1.trans s2).trans s3;have a8:=se.same s3;have lw:ws.length=((X0 rs.length).filter λ i=>isRE (rs[i]?.getD r00)).length:=z05 aw;refine z1g (K:=KX w.params) (a:=a) (xs:=ws) (λ k σ g=>Same H3 g/\(∀(m i:Nat) r e,m < k->((X0 rs.length).filter λ i=>isRE (rs[i]?.getD r00))[m]? = some i->rs[i]? = some r->r.e=some e->RegR rs r e)/\∃x3 x4,σ=[some (.ref t),some (.ref l),some (.ref d),x3,x4]) ⟨Same.refl _,λ m i r e h=>absurd h (U2 _),_,_,rfl⟩ (λ _ σ g _ h=>SqL.of (h.1 _ _ ea)) ?_ ?_
  ·rintro k y σ H4 hy ⟨s4,al4,x3,x4,rfl⟩;obtain ⟨i,p,Y,r,e,hi,rfl,ep,a2,sz,rv,re,ra⟩:=zgu a8.t aw hy;have W:=v0 a2;have a0:=s4.seqT sz;have x:=a8.same s4;refine ⟨p,_,rfl,SqT.of (s4 _ _ ep),rfl,_,_,rfl,_,_,rfl,rfl,?_⟩;have b9:RegR rs r e->∀(m i:Nat) r e,m < k + 1->((X0 rs.length).filter λ i=>isRE (rs[i]?.getD r00))[m]? = some i->rs[i]? = some r->r.e=some e->RegR rs r e:=λ ok m i' r' e' hm f v h3=>by
    rcases r6 m k with z|z
    ·exact al4 m i' r' e' z f v h3
    ·have:m=k:=by lia
     subst this;rw [hi] at f;cases f;rw [a2] at v;cases v;rw [re] at h3;cases h3;exact ok
   have b1:¬ RegR rs r e->∀g,Same H4 g->Q (.bl false) g:=λ n g s'=>q false g (a4.trans (s4.trans s')) ⟨(λ z=>by cases z),λ z=>absurd (z r W e rv re) n⟩;have dg:=DGet.k (k:=.inl (intV r.a)) x.w.d;refine ⟨_,rfl,d,rfl,.inl ⟨_,.inl x.w.d⟩,_,rfl,.inr (.inl ⟨Y,_,4,.int (intV r.a),rfl,rfl,a0,by rw [ra];exact z04 (j:=4) rfl,_,dg,?_⟩)⟩;refine ⟨_,rfl,_,rfl,d,a1,ents rs,_,r,e,rfl,x.w,⟨Y,rfl,a0⟩,re,λ lb D H5 X b2 a5=>?_⟩;refine ⟨_,rfl,_,rfl,d,a1,ents rs,_,r,rfl,x.w.same X,⟨Y,rfl,X.seqT a0⟩,z6r,λ L O H6 s6 b3 a6 c6 b5=>⟨w_1,λ l7 b8=>?_⟩⟩;obtain ⟨H7,v_,s7,e7⟩:=newA (.lst [V.ref L]) b8;rw [<-v_];have a9:=s6.trans s7;have lp:D.length<=64:=by rw [z05 a5];exact K0 (T1 _ _) x.w.n
   refine .inr (.inr (.inl ⟨lb,l7,D,[V.ref L],rfl,rfl,a9 _ _ b2,e7,K0 (m:=65) (by show D.length + 1<=65;lia) (by decide),λ l8 b7=>?_⟩));obtain ⟨H8,v_,s8,e8⟩:=newA (.lst (D++[V.ref L])) b7;rw [<-v_];have a7:=a9.trans s8;have R:=X.trans a7;have b6:All2 (EntV (kx w) H8) ((ents rs).filter (besB r.b e)++[O]) (D++[V.ref L]):=z0q (z02 (λ _ _ z=>EntV.tups (λ _ _ y=>a7.seqT y) z) a5) ⟨L,rfl,(s7.trans s8).seqT b3⟩;have a3:IsPd (kx w) H8 (.list (((ents rs).filter (besB r.b e)++[O]).map entD)) (.ref l8):=⟨l8,_,rfl,SqL.of e8,zgf b6⟩
   rcases zdz x.w.a (intV r.a) with ⟨c,F,c5,p1,Z,b4⟩|⟨hno,Z⟩
   ·rw [Z];have b0:(((((ents rs).filter (besB r.b e)++[O]).map entD).any λ z=>z.eqv (entD c))=true)↔RegR rs r e:=by
     rw [zgk _ _ (z0r c)];have e1:=zgh B G (rb:=r.b) (re:=e) F;have e2:=S.last_iff B G (rb:=r.b) F a6 c6 b5;rw [c5] at e1 e2;unfold RegR;rw [<-e1,<-e2];constructor
     ·rintro ⟨N,ht',J⟩;rcases List.mem_append.mp ht' with z|z
      ·obtain ⟨z1,z2⟩:=List.mem_filter.mp z;have:N=c:=S.ents_b z1 F (entD_b J);exact .inl (this ▸ z2)
      ·rw [List.mem_singleton.mp z] at J;exact .inr (S.ents_b a6 F (entD_b J)).symm
     ·rintro (z|z)
      ·exact ⟨c,List.mem_append.mpr (.inl (List.mem_filter.mpr ⟨F,z⟩)),rfl⟩
      ·exact ⟨c,List.mem_append.mpr (.inr (by rw [z];exact List.mem_singleton.mpr rfl)),rfl⟩
    refine ⟨entD c,_,ent_pd ⟨p1,rfl,R.seqT b4⟩,.inl a3,z0r c,z63 _,zb8 c,_,rfl,?_⟩;by_cases z:RegR rs r e
    ·refine iteN (by rw [if_pos rfl,b0.mpr z];decide) ⟨s4.trans R,b9 z,_,_,rfl⟩
    ·refine iteP (by rw [if_pos rfl,Bool.eq_false_iff.mpr (λ y=>z (b0.mp y))];decide) (b1 z _ R)
   ·rw [Z];have nr:¬ RegR rs r e:=by
     rintro (⟨w0,hw0,hi0,hx0,_⟩|z)
     ·exact hno _ (ents_mem.mpr (.inr ⟨w0,hw0,hi0,rfl⟩)) hx0
     ·obtain ⟨N,f,v⟩:=zgs z;exact hno N f v
    have an:((((ents rs).filter (besB r.b e)++[O]).map entD).any λ z=>z.eqv .none)=false:=Bool.eq_false_iff.mpr λ y=>by obtain ⟨N,_,J⟩:=(zgk _ _ rfl).mp y;cases J
    refine ⟨.none,_,rfl,.inl a3,rfl,z63 _,j2 _,_,rfl,iteP (by rw [if_pos rfl,an];decide) (b1 nr _ R)⟩
  ·rintro σ H4 ⟨s4,al4,x3,x4,rfl⟩;refine q true H4 (a4.trans s4) ⟨λ _=>λ r W e rv re=>?_,λ _=>rfl⟩;obtain ⟨m,i,f,v⟩:=re_all W rv re;exact al4 m i r e (by rw [lw];exact (List.getElem?_eq_some_iff.mp f).1) f v re
def z93 (K:d0):Sp:=λ vs H Q _=>∃t nm wr es ys,vs=[.ref t]/\TalR K H t nm wr es ys/\∀b H',Same H H'->(b=true↔AllR SafR (dAll 0 [] es))->Q (.bl b) H'
theorem ze8 (T:TX (kx w) mg) (c0:Ca P w mg base "lone_writer_deeds" ["tale"] 5 (z0h (kx w))) (c1:Ca P w mg base "writers" ["told"] 1 (z5s (kx w))) (c2:Ca P w mg base "ended_reads" ["told"] 1 (z18 (kx w))) (c3:Ca P w mg base "writes_beside" ["written","read"] 1 (z1h (kx w))) (c4:Ca P w mg base "last_ahead" ["written","read"] 1 (z2l (kx w))):Fo P w mg base CX0 6 258 y1v ["tale"] (z93 (kx w)):=by
 refine (z89 w.params).ok sc_is_safe (λ vs H Q E h=>?_) (λ c8 A c7 s H vs Q E B h=>?_)
 ·obtain ⟨t,nm,J,W,ys,rfl,_⟩:=h;rfl
 ·obtain ⟨t,nm,J,W,ys,rfl,ta,q⟩:=h;refine ⟨_,(z01 (ps_set (i:=1) sc_is_safe.nd rfl (O0 rfl) (pe_cal c0 (B.mono (by decide)) rfl (z00 (pv 0) pa_nil)))
   (z01 (ps_set (i:=2) sc_is_safe.nd rfl (O0 rfl) (pe_cal c1 (B.mono (by decide)) rfl (z00 (pv 1) pa_nil)))
   (z01 (ps_for L1 rfl (z0t (pe_cal c2 (B.mono (by decide)) rfl (z00 (pv 1) pa_nil))) (pg_tup rfl (z07 (z0b (i:=3) sc_is_safe.nd rfl (O0 rfl)) (z07 (z0b (i:=4) sc_is_safe.nd rfl (O0 rfl)) z0j)))
   (z03 (ps_if (PW.pt (pw_and (z08 opEq (z0g z3s rfl (T.no (n_len _)) K5 (z00 (pe_cal c3 (B.mono (by decide)) rfl (z00 (pv 2) (z00 (pv 4) pa_nil))) pa_nil)) pe_int (nomark _)) (z2i (z08 (op_neP B) (zew (hu_of B) (pv 2) (pe_ix ix_seq (pv 4) pe_int (λ _ _=>rfl)) ⟨rfl,rfl,rfl,rfl⟩) (pe_cal c4 (B.mono (by decide)) rfl (z00 (pv 2) (z00 (pv 4) pa_nil))) (nomark _)))))
   (z03 (ps_ret pe_bl))
   z0d)))
   (z03 (ps_ret pe_bl))))),?_⟩
  obtain ⟨os,us,O⟩:=ta.tw;have S:=O.sq;have D:=O.rs.u ▸ O.us.1;have M:=O.rs.u ▸ O.us.2;refine z0f ?_;refine ⟨_,rfl,t,nm,J,W,ys,rfl,ta,λ l zs H1 s1 U=>?_⟩;refine g_name ?_;generalize dAll 0 [] W=rs at U q S D M;have c9:=U.n;refine z0f ?_;refine ⟨_,rfl,l,zs,rs,J,rfl,U,D,M,λ d X H2 s2 ed al=>?_⟩;refine g_name ?_;have se:Seen (kx w) H2 l d J W rs zs X:=⟨S,D,M,U.same s2,ed,al,K0 (za3 rs) (by lia)⟩
  refine ⟨_,rfl,l,zs,rs,J,rfl,se.t,λ a ws H3 s3 ea aw=>⟨a,rfl,⟨_,SqL.of ea⟩,?_⟩⟩;have a7:=(s1.trans s2).trans s3;have b0:=se.same s3;have lw:ws.length=((X0 rs.length).filter λ i=>isRE (rs[i]?.getD r00)).length:=z05 aw;refine z1g (K:=KX w.params) (a:=a) (xs:=ws) (λ k σ o=>Same H3 o/\(∀(m i:Nat) r e,m < k->((X0 rs.length).filter λ i=>isRE (rs[i]?.getD r00))[m]? = some i->rs[i]? = some r->r.e=some e->SafR rs r e)/\∃x3 x4,σ=[some (.ref t),some (.ref l),some (.ref d),x3,x4]) ⟨Same.refl _,λ m i r e h=>absurd h (U2 _),_,_,rfl⟩ (λ _ σ o _ h=>SqL.of (h.1 _ _ ea)) ?_ ?_
  ·rintro k y σ Y hy ⟨s4,al4,x3,x4,rfl⟩;obtain ⟨i,p,pz,r,e,hi,rfl,ep,a6,sz,rv,C,ra⟩:=zgu b0.t aw hy;have Z:=v0 a6;have a4:=s4.seqT sz;have R:=b0.same s4;refine ⟨p,_,rfl,SqT.of (s4 _ _ ep),rfl,_,_,rfl,_,_,rfl,rfl,?_⟩;have b4:SafR rs r e->∀(m i:Nat) r e,m < k + 1->((X0 rs.length).filter λ i=>isRE (rs[i]?.getD r00))[m]? = some i->rs[i]? = some r->r.e=some e->SafR rs r e:=λ ok m i' r' e' hm f g N=>by
    rcases r6 m k with z|z
    ·exact al4 m i' r' e' z f g N
    ·have:m=k:=by lia
     subst this;rw [hi] at f;cases f;rw [a6] at g;cases g;rw [C] at N;cases N;exact ok
   have b2:¬ SafR rs r e->∀o,Same Y o->Q (.bl false) o:=λ n o s'=>q false o (a7.trans (s4.trans s')) ⟨(λ z=>by cases z),λ z=>absurd (z r Z e rv C) n⟩;have dg :∀{o:Hp},Same Y o->DGet o d (.int (intV r.a)) (valV X (.inl (intV r.a))):=λ s'=>DGet.k (k:=.inl (intV r.a)) (s' _ _ R.w.d);refine ⟨_,rfl,_,rfl,d,X,ents rs,_,r,e,rfl,R.w,⟨pz,rfl,a4⟩,C,λ lb ps H5 x b5 b8=>.inl ⟨lb,ps,rfl,.inl (SqL.of b5),rfl,_,rfl,?_⟩⟩;have lp:ps.length=((ents rs).filter (besB r.b e)).length:=z05 b8;by_cases hz:ps.length=0;rotate_left
   ·refine iteN (λ y=>hz (by have:=of_decide_eq_true y;injection this with this;lia)) (iteN (by decide) ⟨s4.trans x,b4 (.inl ?_),_,_,rfl⟩);rw [lp] at hz;obtain ⟨t',b9⟩:=List.exists_mem_of_length_pos (Nat.pos_of_ne_zero hz);obtain ⟨f,g⟩:=List.mem_filter.mp b9;obtain ⟨c,F,G,_,L⟩:=(zgh D M f).mp g;exact ⟨c,F,G,L⟩
   refine iteP (decide_eq_true (by rw [hz];rfl)) ?_;have b3 :∀c∈rs,isW c=true->¬ (c.b < e/\∀k,c.e=some k->r.b < k):=λ c f g N=>by
    have hm:entW c∈(ents rs).filter (besB r.b e):=List.mem_filter.mpr ⟨ents_mem.mpr (.inr ⟨c,f,g,rfl⟩),besW.mpr N⟩;have:=i7 hm
    lia
   refine ⟨_,rfl,d,rfl,.inl ⟨_,.inl (x _ _ R.w.d)⟩,_,rfl,.inr (.inl ⟨pz,_,4,.int (intV r.a),rfl,rfl,x.seqT a4,by rw [ra];exact z04 (j:=4) rfl,_,dg x,?_⟩)⟩;refine ⟨_,rfl,_,rfl,d,X,ents rs,_,r,rfl,R.w.same x,⟨pz,rfl,x.seqT a4⟩,z6r,λ pl v H6 s6 a5 a9 c6 b7=>?_⟩;have V:=x.trans s6;rcases zdz R.w.a (intV r.a) with ⟨I,a8,c5,p1,a0,b6⟩|⟨hno,a0⟩
   ·rw [a0];have b1:(entD I).eqv (entD v)=true↔SafR rs r e:=by
     rw [z6t _ _ (z0r I) (z0r v)];have e2:=S.last_iff D M (rb:=r.b) a8 a9 c6 b7;rw [c5] at e2;constructor
     ·intro z;exact .inr (e2.mp (S.ents_b a8 a9 (entD_b z)))
     ·rintro (⟨c,F,G,L⟩|z)
      ·exact absurd L (b3 c F G)
      ·rw [e2.mpr z]
    refine ⟨entD I,entD v,ent_pd ⟨p1,rfl,V.seqT b6⟩,ent_pd ⟨pl,rfl,a5⟩,z0r I,z0r v,zb8 I,_,rfl,?_⟩;by_cases z:SafR rs r e
    ·refine iteN (by rw [b1.mpr z];decide) ⟨s4.trans V,b4 z,_,_,rfl⟩
    ·refine iteP (by rw [Bool.eq_false_iff.mpr (λ y=>z (b1.mp y))];decide) (b2 z _ V)
   ·rw [a0];have nr:¬ SafR rs r e:=by
     rintro (⟨c,F,G,L⟩|z)
     ·exact b3 c F G L
     ·obtain ⟨t',f,g⟩:=zgs z;exact hno t' f g
    have an:PyData.eqv .none (entD v)=false:=Bool.eq_false_iff.mpr λ y=>by have:=(z6t _ _ rfl (z0r v)).mp y;cases this
    refine ⟨.none,entD v,rfl,ent_pd ⟨pl,rfl,a5⟩,rfl,z0r v,j2 _,_,rfl,iteP (by rw [an];decide) (b2 nr _ V)⟩
  ·rintro σ Y ⟨s4,al4,x3,x4,rfl⟩;refine q true Y (a7.trans s4) ⟨λ _=>λ r Z e rv C=>?_,λ _=>rfl⟩;obtain ⟨m,i,f,g⟩:=re_all Z rv C;exact al4 m i r e (by rw [lw];exact (List.getElem?_eq_some_iff.mp f).1) f g C
def WK (K:d0) (H:Hp) (kvs:List (Key×V)) (f:Int->Option Int):Prop:=∀x,(f x=none->valV kvs (.inl x)=none)/\∀s,f x=some s->∃(p:Addr) (b:Int) (e:V),valV kvs (.inl x)=some (.ref p)/\SqT K H p [.int b,e]/\((s=-1/\b=-2)\/(0<=s/\b=s))
theorem WK.tups {K:d0} {H H':Hp} {kvs:List (Key×V)} {f:Int->Option Int} (t:Tups K H H') (h:WK K H kvs f):WK K H' kvs f:=λ x=>⟨(h x).1,λ s e=>by obtain ⟨p,b,e,a,d,c⟩:=(h x).2 s e;exact ⟨p,b,e,a,t _ _ d,c⟩⟩
def z6z (K:d0):Sp:=λ vs H Q _=>∃l zs rs wr,vs=[.ref l]/\ToldAt K H l wr rs zs/\∀d kvs H',Same H H'->H' d=some (.dK kvs)->WK K H' kvs (sinceF rs)->Q (.ref d) H'
theorem zcn (T:TX (kx w) mg):Fo P w mg base CX0 1 234 y16 ["told"] (z6z (kx w)):=by
 refine (z3q w.params).ok sc_writers (λ O H Q E h=>?_) (λ a1 A a0 s H O Q E U h=>?_)
 ·obtain ⟨l,D,rs,N,rfl,_⟩:=h;rfl
 ·obtain ⟨l,D,rs,N,rfl,c,q⟩:=h;refine ⟨_,(z01 (ps_set (i:=1) sc_writers.nd rfl (O0 rfl) (zay (z7f pe_int (z49 (v:=.ref 210) rfl (T.of (z4y _)) rfl) zbp) rfl rfl (by simp) (by decide)))
   (z01 (ps_for L1 rfl (z0t (pv 0)) (z0b (i:=2) sc_writers.nd rfl (O0 rfl))
   (z03 (ps_if (z08 opEq (pe_ix ix_seq (pv 2) pe_int (λ _ _=>rfl)) pe_str (nomark _))
   (z03 (z3t (hu_of U) (pv 1) (pe_ix ix_seq (pv 2) pe_int (λ _ _=>rfl)) (z37 slSeq (pv 2) (z54 pe_int) z70) rfl))
   z0d)))
   (z03 (ps_ret (pv 1))))),?_⟩
  have W:D.length=rs.length:=z05 c.a;have a2:=c.n;intro d C;refine ⟨upd_same,[(.inl 0,.ref 210)],rfl,(show (1:Nat)<=15 by decide),?_⟩;have B:Same H (upd (upd H d (.dK [])) d (.dK (mergeK [] [(.inl 0,.ref 210)]))):=Same.keep (Same.upd C) C;have L:upd (upd H d (.dK [])) d (.dK (mergeK [] [(.inl 0,.ref 210)])) d=some (.dK [(.inl 0,.ref 210)]):=upd_same;generalize upd (upd H d (.dK [])) d (.dK (mergeK [] [(.inl 0,.ref 210)]))=H1 at B L⊢;refine ⟨_,rfl,l,rfl,⟨_,SqL.of (B _ _ c.l)⟩,?_⟩;refine z1g (K:=KX w.params) (a:=l) (xs:=D) (λ i σ t=>Same H t/\(∃kvs,t d=some (.dK kvs)/\kvs.length<=i + 1/\WK (kx w) t kvs (sinceF (rs.take i)))/\∃x2,σ=[some (.ref l),some (.ref d),x2])
   ⟨B,⟨_,L,C0 _,λ x=>?_⟩,_,rfl⟩ (λ _ σ t _ h=>SqL.of (h.1 _ _ c.l)) ?_ ?_
  ·rw [X8,z94];by_cases z:x=0
   ·rw [if_pos z,z];refine ⟨λ e=>(by cases e),λ s e=>?_⟩;cases e;exact ⟨210,-2,.int (-1),z0n rfl,zef,.inl ⟨rfl,rfl⟩⟩
   ·rw [if_neg z];refine ⟨λ _=>?_,λ s e=>(by cases e)⟩;rw [z0o (λ e=>z (O2 e).symm)];rfl
  ·rintro i y σ J S ⟨s2,⟨kvs,ed,lk,wk⟩,x2,rfl⟩;obtain ⟨r,u,p,rfl,R⟩:=z0c c.a S;have hi:i < 63:=by have:=(List.getElem?_eq_some_iff.mp u).1;lia
   have o:=s2.seqT R;refine g_name ?_;rcases c.g r (v0 u) with g|g
   ·refine ⟨_,rfl,.inr (.inl ⟨p,_,2,.str "read",rfl,rfl,o,by rw [g.1];exact z04 (j:=2) rfl,rfl,_,rfl,iteK ?_⟩)⟩;refine ⟨s2,⟨kvs,ed,by lia,λ x=>?_⟩,_,rfl⟩;rw [z2w u,z2u,if_neg (λ z=>by rw [g.w] at z;cases z.1)];exact wk x
   ·refine ⟨_,rfl,.inr (.inl ⟨p,_,2,.str "write",rfl,rfl,o,by rw [g.1];exact z04 (j:=2) rfl,rfl,_,rfl,iteP (by decide +kernel) ?_⟩)⟩;refine ⟨_,rfl,5,rfl,.inr (.inl ⟨p,_,rfl,o,λ z=>absurd z.1 (show ¬ HT.sIx 7 0 (some 5)=0 by decide),λ M V=>?_⟩)⟩;have X:cutV [.int r.h,r.n,r.v,r.x,r.a,.int r.b,endV r.e] (some 5) none=[.int r.b,endV r.e]:=rfl;rw [X];obtain ⟨I,Y,f,Z⟩:=newA (.tup [.int r.b,endV r.e]) V;rw [<-Y];have F:=f _ _ ed;refine ⟨_,rfl,_,rfl,.inr (.inl ⟨p,_,3,.int (intV r.x),rfl,rfl,f.seqT o,by rw [<-g.2.2.1];exact z04 (j:=3) rfl,d,_,rfl,DPut.k (k:=.inl (intV r.x)) F (U0 (m:=100) (by lia) (by decide)),?_⟩)⟩;have G:Tups (kx w) I (upd I d (.dK (putK kvs (.inl (intV r.x)) (.ref M)))):=Tups.dict F;refine ⟨Same.keep (s2.trans f) C,⟨_,upd_same,K0 z5m (by lia),λ x=>?_⟩,_,rfl⟩;rw [z2w u,z2u,z4j];by_cases z:x=intV r.x
    ·rw [if_pos ⟨g.w,z⟩,if_pos (by rw [z])];refine ⟨λ e=>(by cases e),λ s e=>?_⟩;cases e;exact ⟨M,r.b,endV r.e,rfl,G _ _ (SqT.of Z),.inr ⟨Int.natCast_nonneg _,rfl⟩⟩
    ·rw [if_neg (λ e=>z e.2),if_neg (λ e=>z (O2 e))];exact WK.tups ((Tups.of f).trans G) wk x
  ·rintro σ J ⟨s2,⟨kvs,ed,lk,wk⟩,x2,rfl⟩;rw [W,S6] at wk;exact ⟨_,rfl,q d kvs J s2 ed wk⟩
noncomputable def selI (rs:List Rc) (i:Nat):Bool:=(sinceF rs (intV (rs[i]?.getD r00).a)).isSome
noncomputable def readsI (rs:List Rc):List Nat:=(((X0 rs.length).filter λ i=>isRE (rs[i]?.getD r00)).filter (selI rs))
theorem readsI_mem {rs:List Rc} {i:Nat}:i∈readsI rs↔∃r e s,rs[i]? = some r/\r.v=.str "read"/\r.e=some e/\sinceF rs (intV r.a)=some s:=by
 unfold readsI;rw [B7,B7,Z8];constructor
 ·rintro ⟨⟨h1,h2⟩,h3⟩;have c:rs[i]? = some rs[i]:=v1 h1;unfold selI at h3;rw [getD_some c] at h2 h3;obtain ⟨a,b⟩:=Bool.and_eq_true_iff.mp h2;obtain ⟨e,d⟩:=Option.isSome_iff_exists.mp b;obtain ⟨s,f⟩:=Option.isSome_iff_exists.mp h3;exact ⟨_,e,s,c,of_decide_eq_true a,d,f⟩
 ·rintro ⟨r,e,s,h1,h2,h3,h4⟩;refine ⟨⟨(List.getElem?_eq_some_iff.mp h1).1,?_⟩,?_⟩
  ·rw [getD_some h1];unfold isRE;rw [h3,decide_eq_true h2];rfl
  ·unfold selI;rw [getD_some h1,h4];rfl
theorem z57 (rs:List Rc):(readsI rs).Pairwise (· < ·):=d5 _ (z48 _ _)
theorem zbt {is:List Nat} (h:is.Pairwise (· < ·)) {a b x y:Nat} (hab:a < b) (hx:is[a]? = some x) (hy:is[b]? = some y):x < y:=by obtain ⟨c,rfl⟩:=List.getElem?_eq_some_iff.mp hx;obtain ⟨d,rfl⟩:=List.getElem?_eq_some_iff.mp hy;exact List.pairwise_iff_getElem.mp h a b c d hab
theorem Bad.reads {rs:List Rc} {i j:Nat} (h:Bad rs i j):i∈readsI rs/\j∈readsI rs:=by obtain ⟨r,q,e,f,s,t,a,d,c,b,m,l,n,k,g,_⟩:=h;exact ⟨readsI_mem.mpr ⟨r,e,s,a,c,m,k⟩,readsI_mem.mpr ⟨q,f,t,d,b,l,g⟩⟩
theorem zhx {R:Nat->V->Prop} {is:List Nat} {q:Nat->Bool} {us:List V} (h:All2 (λ (k:Nat) y=>R (is[k]?.getD 0) y) ((X0 is.length).filter λ k=>q (is[k]?.getD 0)) us):All2 R (is.filter q) us:=by
 have c :∀(b:List Nat) (us:List V),All2 (λ (k:Nat) y=>R (is[k]?.getD 0) y) b us->All2 R (b.map λ k=>is[k]?.getD 0) us:=by
  intro b;induction b with
  | nil=>intro us h;cases h;exact .nil
  | cons k b ih=>intro us h;cases h with|cons a r=>exact .cons a (ih _ r)
 have z:=c _ _ h;have e:=z1d q (λ i=>i) 0 is;rw [e,List.map_id'] at z;exact z
def z56 (K:d0):Sp:=λ vs H Q _=>∃t nm wr es ys,vs=[.ref t]/\TalR K H t nm wr es ys/\(∀H',Same H H'->(∀i j,¬ Bad (dAll 0 [] es) i j)->Q .non H')/\∀p i j H',Same H H'->H' p=some (.tup [.int (i:Nat),.int (j:Nat)])->FstB (dAll 0 [] es) i j->Q (.ref p) H'
theorem z8r (T:TX (kx w) mg) (c0:Ca P w mg base "lone_writer_deeds" ["tale"] 5 (z0h (kx w))) (c1:Ca P w mg base "writers" ["told"] 1 (z6z (kx w))) (c2:Ca P w mg base "ended_reads" ["told"] 1 (z18 (kx w))):Fo P w mg base CX0 6 273 y0w ["tale"] (z56 (kx w)):=by
 refine (z3f w.params).ok sc_turn_about (λ vs H Q E h=>?_) (λ e0 A d9 s H vs Q E Y h=>?_)
 ·obtain ⟨t,nm,wr,es,ys,rfl,_⟩:=h;rfl
 ·obtain ⟨t,nm,wr,es,ys,rfl,ta,q0,q1⟩:=h;refine ⟨_,(z01 (ps_set (i:=1) sc_turn_about.nd rfl (O0 rfl) (pe_cal c0 (Y.mono (by decide)) rfl (z00 (pv 0) pa_nil)))
   (z01 (ps_set (i:=2) sc_turn_about.nd rfl (N0 rfl) (pe_cal c1 (Y.mono (by decide)) rfl (z00 (pv 1) pa_nil)))
   (z01 (zby (i:=3) sc_turn_about.nd rfl (O0 rfl) (xs:=["number","read"]) (g:=gTup (kx w) 2 (gCons (gName 0) (gCons (gName 1) gNil))) (fr:=[(2,"written")]) rfl (z0t (pe_cal c2 (Y.mono (by decide)) rfl (z00 (pv 1) pa_nil))) (by intro p hp;obtain rfl:=List.mem_singleton.mp hp;first|exact ⟨rfl,.inl rfl⟩|exact ⟨rfl,.inr rfl⟩) (zda (n:="written") (by decide +kernel) (λ _=>by first|exact .inl rfl|exact .inr rfl)) (by intro p hp;obtain rfl:=List.mem_singleton.mp hp;exact ⟨by decide +kernel,by first|exact .inl rfl|exact .inr rfl⟩) (by decide +kernel) rfl (by decide +kernel) (λ _ _ _ _ _=>(pg_tup rfl (z07 (pg_cn (N:=["number","read","written"]) 0) (z07 (pg_cn (N:=["number","read","written"]) 1) z0j)))) (λ _ _ _ _ _=>(pf_one (pt_cmp (pc_din (hu_of Y) (pe_ix (z13 (K:=KX w.params) rfl) (pv 1) pe_int (λ _ _=>rfl)) (pv 2)) (by with_unfolding_all rfl)))) (λ _ _ _ _ _=>(pe_tup (z00 (pv 0) (z00 (pv 1) pa_nil)))))
   (z01 (ps_for L1 rfl (z0t (pv 3)) (pg_tup rfl (z07 (z0b (i:=4) sc_turn_about.nd rfl (O0 rfl)) (z07 (z0b (i:=5) sc_turn_about.nd rfl (O0 rfl)) z0j)))
   (z03 (ps_for L1 rfl (z0t (pv 3)) (pg_tup rfl (z07 (z0b (i:=6) sc_turn_about.nd rfl (O0 rfl)) (z07 (z0b (i:=7) sc_turn_about.nd rfl (O0 rfl)) z0j)))
   (z03 (ps_if (PW.pt (pw_and (z08 op_lt (pe_ix ix_seq (pv 5) pe_int (λ _ _=>rfl)) (pe_ix ix_seq (pv 7) pe_int (λ _ _=>rfl)) (nomark _)) (z2i (z08 op_lt (pe_ix ix_seq (z58 (hu_of Y) (pv 2) (pe_ix ix_seq (pv 7) pe_int (λ _ _=>rfl)) (λ _ _=>rfl)) pe_int (λ _ _=>rfl)) (pe_ix ix_seq (z58 (hu_of Y) (pv 2) (pe_ix ix_seq (pv 5) pe_int (λ _ _=>rfl)) (λ _ _=>rfl)) pe_int (λ _ _=>rfl)) (nomark _)))))
   (z03 (ps_ret (pe_tup (z00 (pv 4) (z00 (pv 6) pa_nil)))))
   z0d)))))
   (z03 (ps_ret pe_non)))))),?_⟩
  refine z0f ?_;refine ⟨_,rfl,t,nm,wr,es,ys,rfl,ta,λ l X H1 s1 J=>?_⟩;refine g_name ?_;generalize dAll 0 [] es=rs at J q0 q1;have lz:X.length=rs.length:=z05 J.a;have c8:=J.n;refine z0f ?_;refine ⟨_,rfl,l,X,rs,wr,rfl,J,λ d d1 H2 s2 ed wk=>?_⟩;refine g_name ?_;have c3:=J.same s2;refine z0f ?_;refine zhd (K:=KX w.params) (λ a S c=>Same H2 c/\c a=some (.lst S)/\All2 (NumAt c X) ((X0 rs.length).filter λ i=>isRE (rs[i]?.getD r00)) S) (λ R h=>⟨_,rfl,l,X,rs,wr,rfl,c3,λ a S c sx ea U=>h a S c ⟨sx,ea,U⟩⟩) ?_ (λ k=>selI rs (((X0 rs.length).filter λ i=>isRE (rs[i]?.getD r00))[k]?.getD 0)) (λ k y c=>NumAt c X (((X0 rs.length).filter λ i=>isRE (rs[i]?.getD r00))[k]?.getD 0) y) (λ _ _ _ _ s z=>z.same s) ?_ ?_
  ·rintro a S c ⟨_,ea,U⟩;refine ⟨SqL.of ea,?_⟩;rw [z05 U];refine K0 (T1 _ _) ?_;rw [v3];exact K0 c8 (by decide)
  ·rintro a S H3 ⟨s3,ea,U⟩ k hk v H4 s4 hv KT KF F G;obtain ⟨i,I,p,z,rfl,ep,hz⟩:=z0c U hv;have gi:((X0 rs.length).filter λ i=>isRE (rs[i]?.getD r00))[k]?.getD 0=i:=by rw [I];rfl
   rw [gi] at F G;obtain ⟨r,C,D,rfl,sz⟩:=z0c c3.a hz;have b9:=(List.mem_filter.mp (v0 I)).2;rw [getD_some C] at b9;obtain ⟨rv,re⟩:=Bool.and_eq_true_iff.mp b9;have rv:=of_decide_eq_true rv;obtain ⟨e,he⟩:=Option.isSome_iff_exists.mp re;have g:RdG r:=(J.g r (v0 C)).resolve_right λ g=>z0z (rv.symm.trans g.1);have b4:=s3.trans s4;have ez:=b4.seqT sz;have b6:selI rs i=(sinceF rs (intV r.a)).isSome:=by unfold selI;rw [getD_some C]
   refine ⟨p,_,rfl,SqT.of (s4 _ _ ep),rfl,_,_,rfl,_,_,rfl,rfl,[some (.int (i:Nat)),some (.ref D)],rfl,rfl,?_⟩;have ra:=g.2.2 e he;refine ⟨_,rfl,.inr (.inl ⟨D,_,4,.int (intV r.a),rfl,rfl,ez,by rw [ra];exact z04 (j:=4) rfl,_,rfl,d,_,rfl,DGet.k (k:=.inl (intV r.a)) (b4 _ _ ed),_,rfl,?_⟩)⟩;have b2:=wk (intV r.a);cases hs:sinceF rs (intV r.a) with
   | none=>refine iteN (by rw [b2.1 hs];decide) (G ?_ _ (Same.refl _));rw [b6,hs];rfl
   | some B=>obtain ⟨_,_,_,c7,_⟩:=b2.2 B hs;refine iteP (by rw [c7];rfl) ?_;exact ⟨_,rfl,_,rfl,w_2,λ p2 c5=>F (by rw [b6,hs];rfl) _ _ (Same.upd c5) ⟨p2,_,rfl,upd_same,hz⟩⟩
  rintro a S H3 ⟨s3,ea,U⟩ l4 H4 us s4 hl4 al4;rw [z05 U] at al4;have d6:All2 (NumAt H4 X) (readsI rs) us:=zhx (R:=λ i y=>NumAt H4 X i y) al4;have s5:=Same.upd (o:=.lst us) hl4;have e5:upd H4 l4 (.lst us) l4=some (.lst us):=upd_same;have a7:=z02 (λ _ _ z=>NumAt.same s5 z) d6;have a0:=(s3.trans s4).trans s5;generalize upd H4 l4 (.lst us)=H5 at s5 e5 a7 a0⊢;refine g_name ?_;have b7:=s2.trans a0;have b0:=s1.trans b7;have d8:=J.same b7;have c9:=wk.tups (.of a0);have c4:=a0 _ _ ed;have lu:us.length=(readsI rs).length:=z05 a7;have b5 :∀{k:Nat} {y:V},us[k]? = some y->∃i p D r e B W b ew,(readsI rs)[k]? = some i/\y=.ref p/\H5 p=some (.tup [.int (i:Nat),.ref D])/\rs[i]? = some r/\SqT (kx w) H5 D [.int r.h,r.n,r.v,r.x,r.a,.int r.b,endV r.e]/\r.v=.str "read"/\r.e=some e/\r.a=.int (intV r.a)/\sinceF rs (intV r.a)=some B/\valV d1 (.inl (intV r.a))=some (.ref W)/\SqT (kx w) H5 W [.int b,ew]/\((B=-1/\b=-2)\/(0<=B/\b=B)):=by intro k y hy;obtain ⟨i,I,p,z,rfl,ep,hz⟩:=z0c a7 hy;obtain ⟨r,C,D,rfl,sz⟩:=z0c d8.a hz;obtain ⟨r',e,B,M,L,g3,g4⟩:=readsI_mem.mp (v0 I);rw [C] at M;cases M;have g:RdG r:=(J.g r (v0 C)).resolve_right λ g=>z0z (L.symm.trans g.1);obtain ⟨W,b,ew,w1,w2,w3⟩:=(c9 (intV r.a)).2 B g4;exact ⟨i,p,D,r,e,B,W,b,ew,I,rfl,ep,C,sz,L,g3,g.2.2 e g3,g4,w1,w2,w3⟩
  refine ⟨_,rfl,l4,rfl,⟨_,SqL.of e5⟩,?_⟩;refine z1g (K:=KX w.params) (a:=l4) (xs:=us) (λ k σ c=>c=H5/\(∀m i,m < k->(readsI rs)[m]? = some i->∀j,¬ Bad rs i j)/\∃x4 x5 x6 x7,σ=[some (.ref t),some (.ref l),some (.ref d),some (.ref l4),x4,x5,x6,x7]) ⟨rfl,λ m i h=>absurd h (U2 _),_,_,_,_,rfl⟩ (λ _ σ c _ h=>by rw [h.1];exact SqL.of e5) ?_ ?_
  ·rintro k y σ H6 hy ⟨rfl,no,x4,x5,x6,x7,rfl⟩;obtain ⟨i,p,D,r,e,B,W,b,ew,I,rfl,ep,C,sz,rv,re,ra,b1,vw,sw,bw⟩:=b5 hy;refine ⟨p,_,rfl,SqT.of ep,rfl,_,_,rfl,_,_,rfl,rfl,?_⟩;refine ⟨_,rfl,l4,rfl,⟨_,SqL.of e5⟩,?_⟩;refine z1g (K:=KX w.params) (a:=l4) (xs:=us) (λ Z σ c=>c=H6/\(∀m j,m < Z->(readsI rs)[m]? = some j->¬ Bad rs i j)/\∃x6 x7,σ=[some (.ref t),some (.ref l),some (.ref d),some (.ref l4),some (.int (i:Nat)),some (.ref D),x6,x7]) ⟨rfl,λ m i h=>absurd h (U2 _),_,_,rfl⟩ (λ _ σ c _ h=>by rw [h.1];exact SqL.of e5) ?_ ?_
   ·rintro Z y2 σ H7 d4 ⟨rfl,no2,x6,x7,rfl⟩;obtain ⟨j,p',b3,q,f,t0,a9,b',e1,hj,rfl,d0,a5,a8,qv,qe,qa,b8,d5,c6,e2⟩:=b5 d4;have next:¬ Bad rs i j->∀m O,m < Z + 1->(readsI rs)[m]? = some O->¬ Bad rs i O:=λ nb m O hm a3=>by
     rcases r6 m Z with z|z
     ·exact no2 m O z a3
     ·have:m=Z:=by lia
      subst this;rw [hj] at a3;cases a3;exact nb
    have dg:DGet H7 d (.int (intV q.a)) (some (.ref a9)):=d5 ▸ DGet.k (k:=.inl (intV q.a)) c4;have d7:DGet H7 d (.int (intV r.a)) (some (.ref W)):=vw ▸ DGet.k (k:=.inl (intV r.a)) c4;refine ⟨p',_,rfl,SqT.of d0,rfl,_,_,rfl,_,_,rfl,rfl,?_⟩;refine ⟨_,rfl,.inr (.inl ⟨D,_,6,.int (e:Nat),rfl,rfl,sz,by rw [re];exact z04 (j:=6) rfl,?_⟩)⟩;refine ⟨_,rfl,.inr (.inl ⟨b3,_,5,.int (q.b:Nat),rfl,rfl,a8,z04 (j:=5) rfl,_,_,rfl,rfl,_,rfl,?_⟩)⟩;by_cases z1:e < q.b
    ·refine iteP (decide_eq_true (by lia)) ?_;refine ⟨_,rfl,_,rfl,.inr (.inl ⟨b3,_,4,.int (intV q.a),rfl,rfl,a8,by rw [qa];exact z04 (j:=4) rfl,d,_,rfl,dg,.inr (.inl ⟨a9,_,0,.int b',rfl,rfl,c6,z04 (j:=0) rfl,?_⟩)⟩)⟩;refine ⟨_,rfl,_,rfl,.inr (.inl ⟨D,_,4,.int (intV r.a),rfl,rfl,sz,by rw [ra];exact z04 (j:=4) rfl,d,_,rfl,d7,.inr (.inl ⟨W,_,0,.int b,rfl,rfl,sw,z04 (j:=0) rfl,_,_,rfl,rfl,_,rfl,?_⟩)⟩)⟩;by_cases z2:t0 < B
     ·refine iteP (decide_eq_true (by lia)) ?_;have u:Bad rs i j:=⟨r,q,e,f,B,t0,C,a5,rv,qv,re,qe,z1,b1,b8,z2⟩
      refine ⟨_,rfl,_,rfl,w_2,λ p9 d3=>q1 p9 i j _ (b0.trans (Same.upd d3)) upd_same ⟨u,λ i' O a4=>?_⟩⟩;obtain ⟨m1,m2⟩:=a4.reads;obtain ⟨a1,F⟩:=List.mem_iff_getElem?.mp m1;obtain ⟨a2,G⟩:=List.mem_iff_getElem?.mp m2;rcases F4 a1 k with y|y|y
      ·exact absurd a4 (no a1 i' y F O)
      ·subst y;rw [I] at F;cases F;refine .inr ⟨rfl,?_⟩;rcases F4 a2 Z with x|x|x
       ·exact absurd a4 (no2 a2 O x G)
       ·subst x;rw [hj] at G;cases G;exact C0 _
       ·exact A3 (zbt (z57 rs) x hj G)
      ·exact .inl (zbt (z57 rs) y I F)
     ·refine iteN (λ x=>z2 (by have:=of_decide_eq_true x;lia)) ?_;refine ⟨rfl,next λ u=>?_,_,_,rfl⟩;obtain ⟨r',q',e',f',s',t',M,L,_,_,_,_,_,g8,g9,d2⟩:=u;rw [C] at M;cases M;rw [a5] at L;cases L;rw [b1] at g8;cases g8;rw [b8] at g9;cases g9;exact z2 d2
    ·refine iteN (λ x=>z1 (by have:=of_decide_eq_true x;lia)) ?_;refine iteN (by decide) ?_;refine ⟨rfl,next λ u=>?_,_,_,rfl⟩;obtain ⟨r',q',e',f',s',t',M,L,_,_,g5,_,g7,_⟩:=u;rw [C] at M;cases M;rw [a5] at L;cases L;rw [re] at g5;cases g5;exact z1 g7
   ·rintro σ H7 ⟨rfl,no2,x6,x7,rfl⟩;refine ⟨rfl,λ m i' hm a6 j u=>?_,_,_,_,_,rfl⟩;rcases r6 m k with z|z
    ·exact no m i' z a6 j u
    ·have:m=k:=by lia
     subst this;rw [I] at a6;cases a6;obtain ⟨a2,G⟩:=List.mem_iff_getElem?.mp u.reads.2;exact no2 a2 j (by rw [lu];exact (List.getElem?_eq_some_iff.mp G).1) G u
  ·rintro σ H6 ⟨rfl,no,x4,x5,x6,x7,rfl⟩;refine q0 _ b0 λ i j u=>?_;obtain ⟨a1,F⟩:=List.mem_iff_getElem?.mp u.reads.1;exact no a1 i (by rw [lu];exact (List.getElem?_eq_some_iff.mp F).1) F j u
noncomputable def ltO:Option Nat->Nat->Bool
 | some a,b=>decide (a < b)
 | none,_=>false
noncomputable def aheadB (r q:Rc):Bool:=ltO r.e q.b
theorem dec_lt (a b:Nat):decide ((a:Int) < (b:Int))=decide (a < b):=decide_eq_decide.mpr (by lia)
def z55 (K:d0):Sp:=λ vs H Q _=>∃(x y:V) (r q:Rc),vs=[x,y,.str "strict"]/\RcAt K H r x/\RcAt K H q y/\Q (.bl (aheadB r q)) H
theorem z9g (T:TX (kx w) mg):Fo P w mg base CX0 1 295 y0x ["one","other","strictness"] (z55 (kx w)):=by
 refine (z34 w.params).ok z8u (λ g H Q E h=>?_) (λ l A i s H g Q E k h=>?_)
 ·obtain ⟨x,y,r,q,rfl,_⟩:=h;rfl
 ·obtain ⟨x,y,r,q,rfl,⟨c,rfl,a⟩,⟨d,rfl,f⟩,h⟩:=h;refine ⟨_,(z01 (ps_if (z08 opEq (pv 2) pe_str (nomark _))
   (z03 (ps_ret (pe_and (z22 z45 (pe_ix ix_seq (pv 0) pe_int (λ _ _=>rfl)) pe_non (nomark _)) (pe_one (z22 op_lt (pe_ix ix_seq (pv 0) pe_int (λ _ _=>rfl)) (pe_ix ix_seq (pv 1) pe_int (λ _ _=>rfl)) (nomark _))))))
   z0d)
   (z01 (ps_if (z08 opEq (pv 2) pe_str (nomark _))
   (z03 (ps_ret (pe_and (z22 opEq (pe_ix ix_seq (pv 0) pe_int (λ _ _=>rfl)) (pe_ix ix_seq (pv 1) pe_int (λ _ _=>rfl)) (nomark _)) (pe_one (z22 op_lt (pe_ix ix_seq (pv 0) pe_int (λ _ _=>rfl)) (pe_ix ix_seq (pv 1) pe_int (λ _ _=>rfl)) (nomark _))))))
   z0d)
   (z03 (ps_ret pe_bl)))),?_⟩
  refine ⟨_,rfl,rfl,_,rfl,iteP (decide_eq_true rfl) ?_⟩;refine ⟨_,rfl,.inr (.inl ⟨c,_,6,endV r.e,rfl,rfl,a,z04 (j:=6) rfl,rfl,_,rfl,?_⟩)⟩;cases re:r.e with
  | none=>
   refine iteN (by show ¬ (!decide (V.non=V.non))=true;decide) ?_;have:aheadB r q=false:=by unfold aheadB;rw [re];rfl
   rw [this] at h;exact h
  | some b=>
   refine iteP rfl ?_;refine ⟨_,rfl,.inr (.inl ⟨c,_,6,.int (b:Nat),rfl,rfl,a,z04 (j:=6) (by rw [re];rfl),?_⟩)⟩;refine ⟨_,rfl,.inr (.inl ⟨d,_,5,.int (q.b:Nat),rfl,rfl,f,z04 (j:=5) rfl,b,q.b,rfl,rfl,?_⟩)⟩;have:aheadB r q=decide (b < q.b):=by unfold aheadB;rw [re];rfl
   rw [this,<-dec_lt] at h;exact h
def z1l:Sp:=λ vs H Q _=>vs=[.str "strict"]/\Q .non H
theorem zf0 {H:Hp}:SqT (kx w) H 274 [.str "strict",.str "hands",.str "bare"]:=
 .inr ⟨⟨(.type "tuple"),none,(.seq #[(.str "strict" 605),(.str "hands" 606),(.str "bare" 607)] 0),#[]⟩,#[(.str "strict" 605),(.str "hands" 606),(.str "bare" 607)],0,by kernel_rfl,rfl,rfl,w_3,.cons ⟨_,rfl⟩ (.cons ⟨_,rfl⟩ (.cons ⟨_,rfl⟩ .nil))⟩
theorem z47 (T:TX (kx w) mg):Fo P w mg base CX0 1 288 y06 ["strictness"] z1l:=by
 refine (z0y w.params).ok z4c (λ a H Q E h=>?_) (λ d A b s H a Q E c h=>?_)
 ·obtain ⟨rfl,_⟩:=h;rfl
 ·obtain ⟨rfl,h⟩:=h;refine ⟨_,(z03 (ps_if (PW.pt (pw_or (pt_not (pt_val (z0g z1a rfl (T.no (z0w _)) l5 (z00 (pv 0) (z00 (z73 (v:=.ty "str") rfl (T.no (n_str _)) boot_str rfl) pa_nil))) (λ _=>rfl))) (pw_or1 (z08 z36 (pv 0) (z49 (v:=.ref 274) rfl (T.of (z7w _)) rfl) (by with_unfolding_all rfl)))))
   (z03 z67)
   z0d)),?_⟩
  refine ⟨_,rfl,_,_,"str",rfl,rfl,by decide +kernel,_,rfl,iteN (by decide) ?_⟩;refine ⟨_,rfl,274,_,rfl,.inr zf0,rfl,rfl,_,rfl,iteN ?_ h⟩;decide +kernel
noncomputable def z0k (rs:List Rc) (a b:Nat):Bool:=match rs[a]?,rs[b]? with|some r,some q=>aheadB r q|_,_=>false
noncomputable def rowTo (rs:List Rc) (a j:Nat):List (Nat×Nat):=((X0 j).filter λ b=>z0k rs a b).map λ b=>(a,b)
noncomputable def z20 (rs:List Rc) (i:Nat):List (Nat×Nat):=(X0 i).flatMap λ a=>rowTo rs a rs.length
theorem z90 {rs:List Rc} {a j:Nat}:rowTo rs a (j + 1)=rowTo rs a j++if z0k rs a j then [(a,j)] else []:=by
 unfold rowTo;rw [W4,Z3,A1];by_cases z:z0k rs a j=true
 ·rw [if_pos z];simp [z]
 ·rw [if_neg z];simp [z]
theorem z5l {rs:List Rc} {i:Nat}:z20 rs (i + 1)=z20 rs i++rowTo rs i rs.length:=by unfold z20;rw [W4,List.flatMap_append];simp
theorem zbn {rs:List Rc} {a j:Nat}:(rowTo rs a j).length<=j:=by unfold rowTo;rw [L0];exact K0 (T1 _ _) (by rw [v3];exact C0 _)
theorem z4w {rs:List Rc} :∀i:Nat,(z20 rs i).length<=i * rs.length
 | 0=>by simp [z20]
 | i + 1=>by rw [z5l,D0,Nat.add_mul,Nat.one_mul];exact Nat.add_le_add (z4w i) zbn
def PairAt (H:Hp) (p:Nat×Nat) (y:V):Prop:=∃a,y=.ref a/\H a=some (.tup [.int p.1,.int p.2])
theorem PairAt.same {H H':Hp} {p:Nat×Nat} {y:V} (s:Same H H') (h:PairAt H p y):PairAt H' p y:=h.elim λ a z=>⟨a,z.1,s _ _ z.2⟩
theorem PairAt.wrote {H:Hp} {l:Addr} {zs ws:List V} {p:Nat×Nat} {y:V} (e:H l=some (.lst zs)) (h:PairAt H p y):PairAt (upd H l (.lst ws)) p y:=h.elim λ a z=>⟨a,z.1,by rw [upd_ne (ne_of z.2 e (by intro z;cases z))];exact z.2⟩
def zbm (K:d0):Sp:=λ vs H Q _=>∃(t te:Addr) (th:V) (ys:List V) (es:List Ev),vs=[.ref t,.str "strict"]/\SqT K H t [th,.ref te]/\SqT K H te ys/\All2 (EvAt K H) es ys/\es.length<=100/\dWf 0 [] es/\
 ∀l zs H',Same H H'->H l=none->H' l=some (.lst zs)->All2 (PairAt H') (z20 (dAll 0 [] es) (dAll 0 [] es).length) zs->Q (.ref l) H'
theorem zfi (T:TX (kx w) mg) (c0:Ca P w mg base "deeds" ["tale"] 1 (z78 (kx w))) (c1:Ca P w mg base "check_strictness" ["strictness"] 1 z1l) (c2:Ca P w mg base "goes_ahead" ["one","other","strictness"] 1 (z55 (kx w))):Fo P w mg base CX0 2 281 y27 ["tale","strictness"] (zbm (kx w)):=by
 refine (za4 w.params).ok sc_has_to (λ vs H Q E h=>?_) (λ b7 A b2 s H vs Q E L h=>?_)
 ·obtain ⟨t,te,R,ys,es,rfl,_⟩:=h;rfl
 ·obtain ⟨t,te,R,ys,es,rfl,st,se,al,hl,wf,q⟩:=h;refine ⟨_,(z01 (z2q (pe_cal c1 (L.mono (by decide)) rfl (z00 (pv 1) pa_nil)))
   (z01 (ps_set (i:=2) sc_has_to.nd rfl (O0 rfl) (pe_cal c0 (L.mono (by decide)) rfl (z00 (pv 0) pa_nil)))
   (z01 (ps_set (i:=3) sc_has_to.nd rfl (O0 rfl) (pe_lst pa_nil))
   (z01 (ps_for L1 rfl (z35 rfl (T.no (z0m _)) (z00 (pv 2) pa_nil)) (pg_tup rfl (z07 (z0b (i:=4) sc_has_to.nd rfl (O0 rfl)) (z07 (z0b (i:=5) sc_has_to.nd rfl (O0 rfl)) z0j)))
   (z03 (ps_for L1 rfl (z35 rfl (T.no (z0m _)) (z00 (pv 2) pa_nil)) (pg_tup rfl (z07 (z0b (i:=6) sc_has_to.nd rfl (O0 rfl)) (z07 (z0b (i:=7) sc_has_to.nd rfl (O0 rfl)) z0j)))
   (z03 (ps_if (pt_val (pe_cal c2 (L.mono (by decide)) rfl (z00 (pv 5) (z00 (pv 7) (z00 (pv 1) pa_nil)))) (λ _=>rfl))
   (z03 (z2q (z11 (pv 3) (z00 (pe_tup (z00 (pv 4) (z00 (pv 6) pa_nil))) pa_nil))))
   z0d)))))
   (z03 (ps_ret (pv 3))))))),?_⟩
  refine ⟨_,rfl,rfl,?_⟩;refine ⟨_,rfl,t,te,R,ys,es,rfl,st,se,al,hl,wf,λ l g F s1 b9 el O=>?_⟩;generalize hrs:dAll 0 [] es=rs at O q;have hn:rs.length<=100:=by rw [<-hrs];have:=z2t (es:=es) (i:=0) (rs:=[]);simpa using K0 this (by simpa using hl)
  have r:g.length=rs.length:=z05 O;refine ⟨w_0,λ c n=>?_⟩;have Z:H c=none:=s1.free n;have nl:l≠c:=z0e el n;have Y:Same H (upd F c (.lst [])):=s1.trans (Same.upd n);have J:upd F c (.lst []) l=some (.lst g):=(Same.upd n) _ _ el;have a0:=z02 (λ a b z=>RcAt.tups (.of (Same.upd (o:=.lst []) n)) z) O;have W:upd F c (.lst []) c=some (.lst []):=upd_same;generalize upd F c (.lst [])=H2 at Y J a0 W⊢;refine ⟨_,rfl,l,g,rfl,SqL.of J,?_⟩;refine z3k (K:=KX w.params) (a:=l) (xs:=g) (λ i σ d=>∃f,d l=some (.lst g)/\All2 (RcAt (kx w) d) rs g/\d c=some (.lst f)/\All2 (PairAt d) (z20 rs i) f/\Same H d/\∃x4 x5 x6 x7,σ=[some (.ref t),some (.str "strict"),some (.ref l),some (.ref c),x4,x5,x6,x7])
   ⟨[],J,a0,W,.nil,Y,_,_,_,_,rfl⟩ (λ i σ d h=>?_) ?_ ?_
  ·obtain ⟨f,e,_⟩:=h;exact SqL.of e
  ·rintro i x σ H3 p hx ⟨f,e3,a3,f3,b3,s3,x4,x5,x6,x7,rfl⟩ hp;obtain ⟨H4,N,v,ep⟩:=newA (.tup [.int i,x]) hp;rw [<-N];have X:=v _ _ e3;have f4:=v _ _ f3;have a4:=z02 (λ a b z=>RcAt.tups (.of v) z) a3;have b4:=z02 (λ a b z=>PairAt.same v z) b3;have s4:=s3.trans v;refine ⟨p,_,rfl,SqT.of ep,rfl,.int i,_,rfl,x,_,rfl,rfl,?_⟩;have b1:i < rs.length:=by rw [<-r];exact (List.getElem?_eq_some_iff.mp hx).1
   have pl:=z4w (rs:=rs) i;have pm:i * rs.length<=10000:=Nat.mul_le_mul (K0 (A3 b1) hn) hn;refine ⟨_,rfl,l,g,rfl,SqL.of X,?_⟩;refine z3k (K:=KX w.params) (a:=l) (xs:=g) (λ j σ d=>∃f,d l=some (.lst g)/\All2 (RcAt (kx w) d) rs g/\d c=some (.lst f)/\All2 (PairAt d) (z20 rs i++rowTo rs i j) f/\Same H d/\∃x6 x7,σ=[some (.ref t),some (.str "strict"),some (.ref l),some (.ref c),some (.int (i:Nat)),some x,x6,x7])
    ⟨f,X,a4,f4,by rw [show rowTo rs i 0=[] from rfl,Z2];exact b4,s4,_,_,rfl⟩ (λ j σ d h=>?_) ?_ ?_
   ·obtain ⟨f,e,_⟩:=h;exact SqL.of e
   ·rintro j y σ I D hy ⟨zs3,e5,a5,f5,b5,s5,x6,x7,rfl⟩ hp';have k:=Same.upd (o:=.tup [.int j,y]) hp';have a1:upd I D (.tup [.int j,y]) D=some (.tup [.int j,y]):=upd_same;generalize upd I D (.tup [.int j,y])=H6 at k a1⊢;have V:=k _ _ e5;have M:=k _ _ f5;have B:=z02 (λ a b z=>RcAt.tups (.of k) z) a5;have G:=z02 (λ a b z=>PairAt.same k z) b5;have U:=s5.trans k;refine ⟨D,_,rfl,SqT.of a1,rfl,.int j,_,rfl,y,_,rfl,rfl,?_⟩;obtain ⟨r1,a7,b0⟩:=z0c B hx;obtain ⟨S,a2,a9⟩:=z0c B hy;have b8:j < rs.length:=(List.getElem?_eq_some_iff.mp a2).1;have ah:z0k rs i j=aheadB r1 S:=by unfold z0k;rw [a7,a2]
    refine ⟨_,rfl,_,rfl,_,rfl,x,y,r1,S,rfl,b0,a9,_,rfl,?_⟩;rw [<-ah];have rl:=zbn (rs:=rs) (a:=i) (j:=j);have zl:zs3.length=(z20 rs i++rowTo rs i j).length:=z05 G;rw [D0] at zl;by_cases z:z0k rs i j=true
    ·refine iteP z ?_;refine ⟨_,rfl,.inl ⟨rfl,zs3,SqL.of M⟩,_,rfl,_,rfl,w_2,λ p2 a8=>?_⟩;obtain ⟨H7,N,u,e7⟩:=newA (.tup [.int (i:Nat),.int (j:Nat)]) a8;rw [<-N];have C:=u _ _ M;refine ⟨c,zs3,_,rfl,rfl,C,U0 (m:=20000) (by lia) (by decide),?_⟩;refine ⟨zs3++[.ref p2],?_,?_,upd_same,?_,Same.keep (U.trans u) Z,_,_,rfl⟩
     ·rw [upd_ne nl];exact u _ _ V
     ·exact z02 (λ a b z=>RcAt.tups ((Tups.of u).trans (Tups.lst C)) z) B
     ·rw [z90,if_pos z,<-n8];exact z0q (z02 (λ a b z=>PairAt.wrote C (PairAt.same u z)) G) (PairAt.wrote C ⟨p2,rfl,e7⟩)
    ·refine iteN z ?_;exact ⟨zs3,V,B,M,by rw [z90,if_neg z,Z2];exact G,U,_,_,rfl⟩
   ·rintro σ I ⟨zs3,e5,a5,f5,b5,s5,x6,x7,rfl⟩;exact ⟨zs3,e5,a5,f5,by rw [z5l,<-r];rw [r] at b5;rw [r];exact b5,s5,_,_,_,_,rfl⟩
  ·rintro σ H3 ⟨f,e3,a3,f3,b3,s3,x4,x5,x6,x7,rfl⟩;rw [r] at b3;exact ⟨_,rfl,q c f H3 s3 Z f3 b3⟩
theorem z5j {rs:List Rc} {a b:Nat} {r q:Rc} (ha:rs[a]? = some r) (hb:rs[b]? = some q):z0k rs a b=aheadB r q:=by unfold z0k;rw [ha,hb]
theorem z1x {rs:List Rc} {a b:Nat} (h:z0k rs a b=true):a < rs.length/\b < rs.length:=by
 unfold z0k at h;cases ea:rs[a]? with
 | none=>rw [ea] at h;cases h
 | some r=>
  cases eb:rs[b]? with
  | none=>rw [ea,eb] at h;cases h
  | some q=>exact ⟨(List.getElem?_eq_some_iff.mp ea).1,(List.getElem?_eq_some_iff.mp eb).1⟩
theorem mem_pairsTo {rs:List Rc} {p:Nat×Nat} {n:Nat}:p∈z20 rs n↔p.1 < n/\p.2 < rs.length/\z0k rs p.1 p.2=true:=by
 unfold z20 rowTo;rw [List.mem_flatMap];constructor
 ·rintro ⟨a,ha,h⟩;obtain ⟨b,e,rfl⟩:=List.mem_map.mp h;obtain ⟨d,c⟩:=List.mem_filter.mp e;exact ⟨List.mem_range.mp ha,List.mem_range.mp d,c⟩
 ·rintro ⟨d,c,h3⟩;exact ⟨p.1,List.mem_range.mpr d,List.mem_map.mpr ⟨p.2,List.mem_filter.mpr ⟨List.mem_range.mpr c,h3⟩,rfl⟩⟩
def z5n:Sp:=λ vs H Q _=>∃i g:Int,vs=[.int i,.int g]/\-g<=i/\i<=g/\Q (.bl true) H
theorem zaw (T:TX (kx w) mg) (c0:Ca P w mg base "is_whole" ["value"] 1 z4q):Fo P w mg base CX0 2 84 y17 ["value","greatest"] z5n:=by
 refine (z4t w.params).ok zak (λ d H Q E h=>?_) (λ f A e s H d Q E b h=>?_)
 ·obtain ⟨i,g,rfl,_⟩:=h;rfl
 ·obtain ⟨i,g,rfl,a,c,q⟩:=h;refine ⟨_,(z03 (ps_ret (pe_and (pe_cal c0 (b.mono (by decide)) rfl (z00 (pv 0) pa_nil)) (pe_one (zi2 op_le op_le (pe_un un_neg (pv 1)) (pv 0) (pv 1)))))),?_⟩;refine ⟨_,rfl,i,rfl,_,rfl,iteT ?_⟩;refine ⟨_,rfl,_,rfl,_,rfl,_,_,rfl,rfl,_,rfl,?_⟩;rw [decide_eq_true a];refine iteT ⟨_,rfl,_,_,rfl,rfl,?_⟩;rw [decide_eq_true c];exact q
def Sml (i:Int):Prop:=-1000000000<=i/\i<=1000000000
def z6s:Sp:=λ vs H Q _=>∃i:Int,vs=[.int i]/\Sml i/\Q (.bl true) H
theorem zcc (T:TX (kx w) mg) (c0:Ca P w mg base "is_within" ["value","greatest"] 2 z5n):Fo P w mg base CX0 3 91 y1i ["value"] z6s:=by
 refine (z5g w.params).ok zcu (λ c H Q E h=>?_) (λ e A d s H c Q E b h=>?_)
 ·obtain ⟨i,rfl,_⟩:=h;rfl
 ·obtain ⟨i,rfl,a,q⟩:=h;refine ⟨_,(z03 (ps_ret (pe_cal c0 (b.mono (by decide)) rfl (z00 (pv 0) (z00 (z49 (v:=.int (1000000000)) rfl (T.of (z65 _)) ⟨_,rfl⟩) pa_nil))))),?_⟩;exact ⟨_,rfl,i,1000000000,rfl,a.1,a.2,q⟩
def z4a:Sp:=λ _ _ _ _=>False
theorem z7o (T:TX (kx w) mg):Fo P w mg base CX0 1 98 y0i ["value","many"] z4a:=(z2h w.params).ok z80 (λ a H Q E h=>h.elim) (λ d A b s H a Q E c h=>h.elim)
def z5y:Sp:=λ vs H Q _=>vs=[.str "register"]/\Q (.bl true) H
theorem zdn (T:TX (kx w) mg):Fo P w mg base CX0 1 183 y1t ["kind"] z5y:=by
 refine (z7p w.params).ok zcw (λ a H Q E h=>?_) (λ d A b s H a Q E c h=>?_)
 ·obtain ⟨rfl,_⟩:=h;rfl
 ·obtain ⟨rfl,q⟩:=h;refine ⟨_,(z03 (ps_ret (pe_and (z0g z1a rfl (T.no (z0w _)) l5 (z00 (pv 0) (z00 (z73 (v:=.ty "str") rfl (T.no (n_str _)) boot_str rfl) pa_nil))) (pe_one (z22 (zhe (z2z _)) (pv 0) (z49 (v:=.ref 99) rfl (T.of (z3x _)) rfl) (by with_unfolding_all rfl)))))),?_⟩;refine ⟨_,rfl,_,_,"str",rfl,rfl,by decide,_,rfl,?_⟩;exact iteP (by decide +kernel) ⟨_,rfl,"register",rfl,rfl,q⟩
def RegD (v x:V):Prop:=(v=.str "read"/\x=.non)\/(v=.str "write"/\∃i,x=.int i/\Sml i)
def z9d:Sp:=λ vs H Q _=>∃v x,vs=[.str "register",v,x]/\RegD v x/\∀H',Same H H'->Q (.bl true) H'
theorem zed (T:TX (kx w) mg) (c0:Ca P w mg base "is_kind" ["kind"] 1 z5y) (c1:Ca P w mg base "is_worth" ["value"] 3 z6s) (c2:Ca P w mg base "is_tuple_of" ["value","many"] 1 z4a):Fo P w mg base CX0 4 195 y1u ["kind","verb","worth"] z9d:=by
 refine (z7e w.params).ok sc_is_deed (λ d H Q E h=>?_) (λ f A e s H d Q E a h=>?_)
 ·obtain ⟨v,x,rfl,_⟩:=h;rfl
 ·obtain ⟨v,x,rfl,c,q⟩:=h;refine ⟨_,(z01 (ps_if (PW.pt (pw_or (pt_not (pt_val (pe_cal c0 (a.mono (by decide)) rfl (z00 (pv 0) pa_nil)) (λ _=>rfl))) (pw_or (pt_not (pt_val (z0g z1a rfl (T.no (z0w _)) l5 (z00 (pv 1) (z00 (z73 (v:=.ty "str") rfl (T.no (n_str _)) boot_str rfl) pa_nil))) (λ _=>rfl))) (pw_or1 (z08 (zae (hu_of a) (zeb _)) (pe_tup (z00 (pv 0) (z00 (pv 1) pa_nil))) (z49 (v:=.ref 164) rfl (T.of (zgo _)) rfl) (by with_unfolding_all rfl))))))
   (z03 (ps_ret pe_bl))
   z0d)
   (z01 (ps_set (i:=3) sc_is_deed.nd rfl (O0 rfl) (pe_ix (ix_kd (z4k _)) (z49 (v:=.ref 102) rfl (T.of (z5b _)) rfl) (pv 1) (λ _ _=>rfl)))
   (z01 (ps_if (z08 opEq (pv 3) pe_int (nomark _))
   (z03 (ps_ret (z22 op_isN (pv 2) pe_non (nomark _))))
   z0d)
   (z01 (ps_if (z08 opEq (pv 3) pe_int (nomark _))
   (z03 (ps_ret (pe_cal c1 (a.mono (by decide)) rfl (z00 (pv 2) pa_nil))))
   z0d)
   (z03 (ps_ret (pe_and (pe_cal c2 (a.mono (by decide)) rfl (z00 (pv 2) (z00 (pv 3) pa_nil))) (pe_one (z0g (z7x rfl) rfl (T.no (n_all _)) boot_all (z00 (pe_cg (xs:=["part"]) (g:=gName 0) (fr:=[]) (pi_tup (pv 2)) (λ _ _ _ _ _=>(pg_cn (N:=["part"]) 0)) (λ _ _ _ _ _=>pf_nil) (λ _ _ _ _ _=>(pe_cal c1 (a.mono (by decide)) rfl (z00 (pv 0) pa_nil)))) pa_nil)))))))))),?_⟩
  refine ⟨_,rfl,rfl,_,rfl,iteF ?_⟩;rcases c with ⟨rfl,rfl⟩|⟨rfl,i,rfl,hi⟩
  ·refine ⟨_,rfl,_,_,"str",rfl,rfl,by decide,_,rfl,iteK ?_⟩;refine ⟨_,rfl,_,rfl,w_2,λ p b=>⟨p,"register","read",rfl,upd_same,rfl,_,rfl,iteK ?_⟩⟩;refine ⟨_,rfl,"read",.int 0,rfl,rfl,by decide +kernel,_,rfl,rfl,_,rfl,iteP (by decide) ?_⟩;exact ⟨_,rfl,rfl,q _ (Same.upd b)⟩
  ·refine ⟨_,rfl,_,_,"str",rfl,rfl,by decide,_,rfl,iteK ?_⟩;refine ⟨_,rfl,_,rfl,w_2,λ p b=>⟨p,"register","write",rfl,upd_same,rfl,_,rfl,iteK ?_⟩⟩;refine ⟨_,rfl,"write",.int 1,rfl,rfl,by decide +kernel,_,rfl,rfl,_,rfl,iteN (by decide) ?_⟩;refine ⟨_,rfl,rfl,_,rfl,iteP (by decide) ?_⟩;exact ⟨_,rfl,i,rfl,hi,q _ (Same.upd b)⟩
def z1k:Sp:=λ vs H Q _=>∃st x,vs=[st,x]/\∀p,H p=none->Q (.ref p) (upd H p (.tup [st,st]))
theorem z8e (T:TX (kx w) mg):Fo P w mg base CX0 1 109 y0t ["state","worth"] z1k:=by
 refine (z3b w.params).ok z8v (λ b H Q E h=>?_) (λ e A c s H b Q E d h=>?_)
 ·obtain ⟨a,x,rfl,_⟩:=h;rfl
 ·obtain ⟨a,x,rfl,q⟩:=h;refine ⟨_,(z03 (ps_ret (pe_tup (z00 (pv 0) (z00 (pv 0) pa_nil))))),?_⟩;exact ⟨_,rfl,_,rfl,w_2,q⟩
def z19:Sp:=λ vs H Q _=>∃st x,vs=[st,x]/\∀p,H p=none->Q (.ref p) (upd H p (.tup [x,.str "ok"]))
theorem z7c (T:TX (kx w) mg):Fo P w mg base CX0 1 116 y0j ["state","worth"] z19:=by
 refine (z2g w.params).ok z85 (λ b H Q E h=>?_) (λ e A c s H b Q E d h=>?_)
 ·obtain ⟨a,x,rfl,_⟩:=h;rfl
 ·obtain ⟨a,x,rfl,q⟩:=h;refine ⟨_,(z03 (ps_ret (pe_tup (z00 (pv 1) (z00 pe_str pa_nil))))),?_⟩;exact ⟨_,rfl,w_2,q⟩
def doTb (K:d0) (f:Addr) (sp:Sp):Prop:=(f=109/\sp=z1k)\/(f=116/\sp=z19)
theorem cal_fn {x:Str} {ps:List Str} {k f:Nat} {sp:Sp} {K:d0} (c:Cal P w K mg base x ps k sp) (e:mg x=some (.ref f)) :∃fd ps,FnOk P w K mg base CX0 k f fd ps sp/\j3 K (.ref f)=true/\Binds K fd ps []:=by obtain ⟨h,fd,b,a,g,d⟩:=c.ex;rw [e] at a;cases a;exact ⟨fd,ps,b,g,d⟩
noncomputable def ansR (v:V) (s:Int):V:=if v=.str "write" then .str "ok" else .int s
noncomputable def nxtR (v x:V) (s:Int):Int:=if v=.str "write" then intV x else s
def sp_do (K:d0):Sp:=λ vs H Q _=>∃(v x:V) (st:Int),vs=[.str "register",.int st,v,x]/\RegD v x/\∀p H',Same H H'->H' p=some (.tup [.int (nxtR v x st),ansR v st])->Q (.ref p) H'
theorem ok_do (T:TX (kx w) mg) (c0:Ca P w mg base "is_deed" ["kind","verb","worth"] 4 z9d) (c1:Ca P w mg base "read_state" ["state","worth"] 1 z1k) (c2:Ca P w mg base "write_state" ["state","worth"] 1 z19):Fo P w mg base CX0 5 202 y2p ["kind","state","verb","worth"] (sp_do (kx w)):=by
 refine (F_do w.params).ok sc_do (λ u H Q E h=>?_) (λ t A B s H u Q E c h=>?_)
 ·obtain ⟨v,x,y,rfl,_⟩:=h;rfl
 ·obtain ⟨v,x,y,rfl,r,q⟩:=h;have G :∀f e,doTb (kx w) f e->∃k b a,Fo P w mg base CX0 k f b a e/\Room k (A.deeper (R7 "do" (z06 y2o) s.heap.objs.size 202 t))/\j3 (kx w) (.ref f)=true/\Binds (kx w) b a []:=λ f e z=>by
   rcases z with ⟨rfl,rfl⟩|⟨rfl,rfl⟩
   ·obtain ⟨b,a,g,n,d⟩:=cal_fn c1 (T.of (z6c _));exact ⟨1,b,a,g,c.mono (by decide),n,d⟩
   ·obtain ⟨b,a,g,n,d⟩:=cal_fn c2 (T.of (z59 _));exact ⟨1,b,a,g,c.mono (by decide),n,d⟩
  refine ⟨_,(z01 (ps_if (pt_not (pt_val (pe_cal c0 (c.mono (by decide)) rfl (z00 (pv 0) (z00 (pv 2) (z00 (pv 3) pa_nil)))) (λ _=>rfl)))
   (z03 z67)
   z0d)
   (z01 (ps_set (i:=4) sc_do.nd rfl (O0 rfl) (pe_ix (ix_kdt (hu_of c) (zeb _)) (z49 (v:=.ref 164) rfl (T.of (zgo _)) rfl) (pe_tup (z00 (pv 0) (z00 (pv 2) pa_nil))) (λ _ _=>rfl)))
   (z03 (ps_ret (zj8 (doTb (kx w)) (i:=4) rfl (by first|exact O0 rfl|exact N0 (O0 rfl)) G (z00 (pv 1) (z00 (pv 3) pa_nil))))))),?_⟩
  refine ⟨_,rfl,_,rfl,_,rfl,v,x,rfl,r,λ C o=>⟨_,rfl,iteF ?_⟩⟩;rcases r with ⟨rfl,rfl⟩|⟨rfl,i,rfl,hi⟩
  ·refine ⟨_,rfl,_,rfl,w_2,λ p l=>⟨p,"register","read",.ref 109,rfl,rfl,upd_same,by decide +kernel,?_⟩⟩;refine ⟨109,z1k,rfl,.inl ⟨rfl,rfl⟩,_,rfl,_,rfl,_,_,rfl,λ m j=>q m _ ((o.trans (Same.upd l)).trans (Same.upd j)) ?_⟩;exact upd_same.trans (by unfold nxtR ansR;rw [if_neg z0z,if_neg z0z])
  ·refine ⟨_,rfl,_,rfl,w_2,λ p l=>⟨p,"register","write",.ref 116,rfl,rfl,upd_same,by decide +kernel,?_⟩⟩;refine ⟨116,z19,rfl,.inr ⟨rfl,rfl⟩,_,rfl,_,rfl,_,_,rfl,λ m j=>q m _ ((o.trans (Same.upd l)).trans (Same.upd j)) ?_⟩;exact upd_same.trans (by unfold nxtR ansR;rw [if_pos rfl,if_pos rfl];rfl)
def z3w:Sp:=λ vs H Q _=>vs=[.str "register"]/\Q (.int 0) H
theorem z7n (T:TX (kx w) mg) (c0:Ca P w mg base "is_kind" ["kind"] 1 z5y):Fo P w mg base CX0 2 190 y0k ["kind"] z3w:=by
 refine (z2r w.params).ok z7r (λ b H Q E h=>?_) (λ d A c s H b Q E a h=>?_)
 ·obtain ⟨rfl,_⟩:=h;rfl
 ·obtain ⟨rfl,q⟩:=h;refine ⟨_,(z01 (ps_if (pt_not (pt_val (pe_cal c0 (a.mono (by decide)) rfl (z00 (pv 0) pa_nil)) (λ _=>rfl)))
   (z03 z67)
   z0d)
   (z03 (ps_ret (pe_ix (ix_kd (z2z _)) (z49 (v:=.ref 99) rfl (T.of (z3x _)) rfl) (pv 0) (λ _ _=>rfl))))),?_⟩
  exact ⟨_,rfl,rfl,_,rfl,iteF ⟨_,rfl,"register",.int 0,rfl,rfl,by decide +kernel,q⟩⟩
end
section
structure Tt (K:d0) (H H':Hp):Prop where
 t:Tups K H H'
 l :∀a xs,H a=some (.tup xs)->H' a=some (.tup xs)
theorem Tt.of {K:d0} {H H':Hp} (s:Same H H'):Tt K H H':=⟨.of s,λ _ _ h=>s _ _ h⟩
theorem Tt.trans {K:d0} {H H1 H2:Hp} (a:Tt K H H1) (b:Tt K H1 H2):Tt K H H2:=⟨a.t.trans b.t,λ _ _ h=>b.l _ _ (a.l _ _ h)⟩
def MutAt (H:Hp) (l:Addr):Prop:=(∃zs,H l=some (.lst zs))\/∃kvs:List (Key×V),H l=some (.dK kvs)
theorem KeptL.tt {K:d0} {L:List Addr} {H H':Hp} (k:KeptL L H H') (m :∀l∈L,MutAt H l):Tt K H H':=by
 refine ⟨λ a b h=>?_,λ a b h=>k _ _ (λ z=>?_) h⟩
 ·rcases h with (h|⟨ob,h⟩)|h
  ·exact .inl (.inl (k _ _ (λ z=>by rcases m a z with ⟨_,e⟩|⟨_,e⟩<;>(rw [h] at e;cases e)) h))
  ·exact .inl (.inr ⟨ob,k _ _ (λ z=>by rcases m a z with ⟨_,e⟩|⟨_,e⟩<;>(rw [h] at e;cases e)) h⟩)
  ·exact .inr h
 ·rcases m a z with ⟨_,e⟩|⟨_,e⟩<;>(rw [h] at e;cases e)
noncomputable def nsV (ns:List Nat):List V:=ns.map λ (n:Nat)=>V.int (n:Int)
theorem z8g (ns:List Nat):(nsV ns).length=ns.length:=L0 ..
theorem inV_ns (i:Nat) (ns:List Nat):inV (.int (i:Nat)) (nsV ns)=decide (i∈ns):=by
 unfold inV nsV;rw [List.any_map,Bool.eq_iff_iff,A8,decide_eq_true_iff];constructor
 ·rintro ⟨n,hn,e⟩;have e:((n:Int))=i:=of_decide_eq_true e;rw [show i=n by lia];exact hn
 ·exact λ h=>⟨i,h,decide_eq_true rfl⟩
theorem zbi (ns:List Nat):(nsV ns).all flatV=true:=by unfold nsV;rw [List.all_map];exact List.all_eq_true.mpr λ _ _=>rfl
theorem zi8 {ns:List Nat} {us:List V} (h:All2 (λ (a:Nat) y=>y=V.int (a:Nat)) ns us):us=nsV ns:=by
 induction h with
 | nil=>rfl
 | cons a r ih=>subst a;rw [ih];rfl
noncomputable def srtN (ns:List Nat):List Nat:=ns.mergeSort λ a b=>decide (a<=b)
theorem z74 (ns:List Nat):(srtN ns).Perm ns:=List.mergeSort_perm ns _
theorem z6p (ns:List Nat):(srtN ns).Pairwise (·<=·):=by have:=List.pairwise_mergeSort (le:=λ a b:Nat=>decide (a<=b)) (λ a b c d e=>decide_eq_true (K0 (of_decide_eq_true d) (of_decide_eq_true e))) (λ a b=>by rcases Nat.le_total a b with h|h<;>simp [h]) ns;exact this.imp λ h=>of_decide_eq_true h
theorem zih {ns':List Int} {xs:List Nat} (p:ns'.Perm (xs.map λ (n:Nat)=>(n:Int))) (s:ns'.Pairwise (·<=·)):ns'.map V.int=nsV (srtN xs):=by
 have e:ns'=(srtN xs).map λ (n:Nat)=>(n:Int):=by refine (p.trans ((z74 xs).symm.map _)).eq_of_pairwise (le:=(·<=·)) (λ _ _ _ _ c d=>Int.le_antisymm c d) s ?_;exact List.Pairwise.map _ (λ a b h=>Int.ofNat_le.mpr h) (z6p xs)
 rw [e];unfold nsV;rw [u3];rfl
noncomputable abbrev Pl:=List Nat×Int
noncomputable abbrev Stp:=Nat×V×Pl
noncomputable def stq (r:Rc) (n:Nat) (pl:Pl):Stp:=(n,ansR r.v pl.2,(srtN (pl.1++[n]),nxtR r.v r.x pl.2))
noncomputable def stp (r:Rc) (n:Nat) (pl:Pl):Option Stp:=if r.e.isNone || decide (ansR r.v pl.2=r.a) then some (stq r n pl) else none
noncomputable def nexAt (c:Nat->Bool) (rs:List Rc) (pl:Pl) (n:Nat):Option Stp:=if c n=true then (match rs[n]? with|some r=>stp r n pl|none=>none) else none
noncomputable def nexT (c:Nat->Bool) (rs:List Rc) (pl:Pl) (i:Nat):List Stp:=(X0 i).filterMap (nexAt c rs pl)
theorem zbd {c:Nat->Bool} {rs:List Rc} {pl:Pl} {i:Nat}:nexT c rs pl (i + 1)=nexT c rs pl i++(nexAt c rs pl i).toList:=by unfold nexT;rw [W4,List.filterMap_append];congr 1
theorem zhy {c:Nat->Bool} {rs:List Rc} {pl:Pl} {i:Nat}:(nexT c rs pl i).length<=i:=by unfold nexT;exact K0 (B9 _ _) (by rw [v3];exact C0 _)
noncomputable def cO (rs:List Rc) (ns:List Nat) (n:Nat):Bool:=decide (n∉ns) && decide (∀a∈X0 rs.length,z0k rs a n=true->a∈ns)
noncomputable def cP (rs:List Rc) (ns:List Nat) (n:Nat):Bool:=cO rs ns n && decide (∀b∈X0 rs.length,z0k rs n b=true->b∉ns)
theorem cP_iff {rs:List Rc} {ns:List Nat} {n:Nat}:cP rs ns n=true↔n∉ns/\(∀a,z0k rs a n=true->a∈ns)/\∀b,z0k rs n b=true->b∉ns:=by unfold cP cO;rw [V2,V2,decide_eq_true_iff,decide_eq_true_iff,decide_eq_true_iff];exact ⟨λ h=>⟨h.1.1,λ a z=>h.1.2 a (List.mem_range.mpr (z1x z).1) z,λ b z=>h.2 b (List.mem_range.mpr (z1x z).2) z⟩,λ h=>⟨⟨h.1,λ a _ z=>h.2.1 a z⟩,λ b _ z=>h.2.2 b z⟩⟩
noncomputable abbrev nxT (rs:List Rc) (pl:Pl):List Stp:=nexT (cP rs pl.1) rs pl rs.length
theorem mem_nxT {rs:List Rc} {pl:Pl} {s:Stp}:s∈nxT rs pl↔∃n r,rs[n]? = some r/\cP rs pl.1 n=true/\(r.e=none\/ansR r.v pl.2=r.a)/\s=stq r n pl:=by
 unfold nxT nexT;rw [List.mem_filterMap];constructor
 ·rintro ⟨n,_,h⟩;unfold nexAt at h;cases hc:cP rs pl.1 n with
  | false=>rw [hc] at h;cases h
  | true=>
   rw [if_pos hc] at h;cases hr:rs[n]? with
   | none=>rw [hr] at h;cases h
   | some r=>
    rw [hr] at h;have h:stp r n pl=some s:=h;unfold stp at h;split at h
    ·rename_i z;cases h;rw [Bool.or_eq_true,decide_eq_true_iff] at z;exact ⟨n,r,hr,hc,z.imp Option.isNone_iff_eq_none.mp id,rfl⟩
    ·cases h
 ·rintro ⟨n,r,hr,hc,h,rfl⟩;refine ⟨n,List.mem_range.mpr (List.getElem?_eq_some_iff.mp hr).1,?_⟩;unfold nexAt;rw [if_pos hc,hr];show stp r n pl=_;unfold stp;rw [if_pos];rw [Bool.or_eq_true,decide_eq_true_iff];exact h.imp Option.isNone_iff_eq_none.mpr id
structure PlOk (N:Nat) (pl:Pl):Prop where
 nd:pl.1.Nodup
 lt :∀x∈pl.1,x < N
 so:pl.1.Pairwise (·<=·)
theorem z3j :∀(n:Nat) (ns:List Nat),ns.Nodup->(∀x∈ns,x < n)->ns.length<=n
 | 0,ns,_,h=>by
  cases ns with
  | nil=>exact C0 _
  | cons x r=>exact absurd (h x N1) (U2 _)
 | n + 1,ns,nd,h=>by
  have:=z3j n (ns.erase n) (nd.erase n) λ x a=>by
   have a:=(List.Nodup.mem_erase_iff nd).mp a;have:=h x a.2
   lia
  by_cases m:n∈ns
  ·rw [L6 m] at this
   lia
  ·rw [List.erase_of_not_mem m] at this
   lia
theorem PlOk.next {rs:List Rc} {pl:Pl} (h:PlOk rs.length pl) :∀s∈nxT rs pl,PlOk rs.length s.2.2/\s.2.2.1.length=pl.1.length + 1:=by
 intro s j;obtain ⟨n,r,i,d,_,rfl⟩:=mem_nxT.mp j;have c:=z74 (pl.1++[n]);show PlOk rs.length (srtN (pl.1++[n]),_)/\(srtN (pl.1++[n])).length=_;refine ⟨⟨?_,λ x k=>?_,z6p _⟩,by rw [c.length_eq,D0];rfl⟩
 ·refine c.nodup_iff.mpr ?_;rw [n5];exact ⟨h.nd,by simp,λ a f b g e=>(cP_iff.mp d).1 (by rw [<-List.mem_singleton.mp g,<-e];exact f)⟩
 ·rcases List.mem_append.mp (c.mem_iff.mp k) with z|z
  ·exact h.lt x z
  ·rw [List.mem_singleton.mp z];exact (List.getElem?_eq_some_iff.mp i).1
end
section
variable {P:Program} {w:Q0} {mg:Str->Option Value} {base:Heap}
theorem lk_eq {f:Str} {v:V} {fs:List (Str×V)}:(putF f v fs).lookup f=some v:=by rw [z2v,if_pos rfl]
theorem lk_ne {f g:Str} {v:V} {fs:List (Str×V)} (h:g≠f):(putF f v fs).lookup g=fs.lookup g:=by rw [z2v,if_neg h]
theorem lk_n {f g:Str} {v:V} {fs:List (Str×V)} {o:Option V} (e:fs.lookup g=o) (h:g≠f:=by decide +kernel):(putF f v fs).lookup g=o:=(lk_ne h).trans e
theorem zb6 {x dx:Addr} {o1 o2:HO} {H H':Hp} (hx:H x=none) (hd:H dx=none) (k:Kept x (upd (upd H dx o1) x o2) H'):Same H H':=λ p o e=>by
 have a:p≠x:=λ z=>by rw [z,hx] at e;cases e
 have b:p≠dx:=λ z=>by rw [z,hd] at e;cases e
 exact k p o a (by rw [upd_ne a,upd_ne b];exact e)
theorem z2p {K:d0} {ta tv:TE} {f:Str} {rest:TS} {D:Ends} {σ:L2.St} {H:Hp} (h:tv σ H λ y H1=>ta σ H1 λ x H2=>∃a C dx fs,x=.ref a/\H2 a=some (.ins C dx fs)/\Cls K C/\NoAttr K C f/\fs.length < 1000/\rest D σ (upd H2 a (.ins C dx (putF f y fs)))):tSeq (sFld K ta tv f) rest D σ H:=h
theorem zja {K:d0} {ta tv:TE} {f:Str} {D:Ends} {σ:L2.St} {H:Hp} (h:tv σ H λ y H1=>ta σ H1 λ x H2=>∃a C dx fs,x=.ref a/\H2 a=some (.ins C dx fs)/\Cls K C/\NoAttr K C f/\fs.length < 1000/\D.nx σ (upd H2 a (.ins C dx (putF f y fs)))):sFld K ta tv f D σ H:=h
theorem zdy (f:Str) (v:V) :∀fs:List (Str×V),(putF f v fs).length<=fs.length + 1
 | []=>C0 _
 | (g,x) :: r=>by
  unfold putF;split
  ·simp
  ·have:=zdy f v r;simp only [D1]
   lia
theorem z15 {K:d0} {x dx C:Addr} {H H1:Hp} {fs:List (Str×V)} {R:L2.St->Hp->Prop} {σ:L2.St} {f:Str} {y:V} {i n:Nat} (k:Kept x H H1) (e:H1 x=some (.ins C dx fs)) (hv:σ[i]? = some (some (.ref x))) (c:Cls K C) (na:NoAttr K C f) (l:fs.length<=n) (hn:n < 100)
  (q :∀H2,Kept x H H2->(∀b o,b≠x->H1 b=some o->H2 b=some o)->H2 x=some (.ins C dx (putF f y fs))->(putF f y fs).length<=n + 1->R σ H2) :
  tVar i σ H1 λ z H2=>∃a C dx fs,z=.ref a/\H2 a=some (.ins C dx fs)/\Cls K C/\NoAttr K C f/\fs.length < 1000/\R σ (upd H2 a (.ins C dx (putF f y fs))):=
 ⟨_,hv,x,C,dx,fs,rfl,e,c,na,by lia,q _ (k.trans .set) (λ b o g d=>by rw [upd_ne g];exact d) upd_same (K0 (zdy f y fs) (by lia))⟩
theorem ins_tt {K:d0} {x C dx:Addr} {fs:List (Str×V)} {H H':Hp} (e:H x=some (.ins C dx fs)) (k:Kept x H H'):Tt K H H':=by
 refine ⟨λ a b h=>?_,λ a b h=>k _ _ (λ z=>by rw [z,e] at h;cases h) h⟩;rcases h with (h|⟨ob,h⟩)|h
 ·exact .inl (.inl (k _ _ (λ z=>by rw [z,e] at h;cases h) h))
 ·exact .inl (.inr ⟨ob,k _ _ (λ z=>by rw [z,e] at h;cases h) h⟩)
 ·exact .inr h
theorem zgp {ps:List (Nat×Nat)} {q:Nat×Nat->Bool} {f:Nat×Nat->Nat} {us:List V} (h:All2 (λ (i:Nat) y=>∃p,ps[i]? = some p/\y=V.int (f p:Nat)) ((X0 ps.length).filter λ i=>(ps[i]?.map q).getD false) us) :∃as,us=nsV as/\as.length<=ps.length/\∀a,a∈as↔∃p∈ps,q p=true/\f p=a:=by
 refine ⟨((X0 ps.length).filter λ i=>(ps[i]?.map q).getD false).map λ i=>f (ps[i]?.getD (0,0)),?_,?_,λ a=>?_⟩
 ·generalize (X0 ps.length).filter (λ i=>(ps[i]?.map q).getD false)=is at h;induction h with
  | nil=>rfl
  | cons a r ih=>obtain ⟨p,c,b⟩:=a;rw [ih,b,j1,c];rfl
 ·rw [L0];exact K0 (T1 _ _) (by rw [v3];exact C0 _)
 ·rw [List.mem_map];constructor
  ·rintro ⟨i,d,e⟩;obtain ⟨c,b⟩:=List.mem_filter.mp d;have j:=List.mem_range.mp c;have g:ps[i]? = some ps[i]:=v1 j;rw [g] at b e;exact ⟨_,v0 g,b,e⟩
  ·rintro ⟨p,g,c,b⟩;obtain ⟨i,d⟩:=List.mem_iff_getElem?.mp g;refine ⟨i,List.mem_filter.mpr ⟨List.mem_range.mpr (List.getElem?_eq_some_iff.mp d).1,?_⟩,?_⟩
   ·rw [d];exact c
   ·rw [d];exact b
theorem dec_iN (i j:Nat):decide (V.int (i:Int)=V.int (j:Int))=decide (i=j):=decide_eq_decide.mpr ⟨λ e=>by have:=V.int.inj e;lia,λ e=>by rw [e]⟩
def z17 (K:d0):Sp:=λ vs H Q _=>∃(x dx lp:Addr) (n:Nat) (iv kv y:V) (zs:List V) (ps:List (Nat×Nat)) (r:Rc),vs=[.ref x,.int n,y,iv,kv,.ref lp]/\H x=some (.ins 317 dx [])/\RcAt K H r y/\H lp=some (.lst zs)/\All2 (PairAt H) ps zs/\ps.length<=10000/\
 ∀fs la lb as bs H',Kept x H H'->H' x=some (.ins 317 dx fs)->fs.lookup ("number" : Str)=some (.int n)->fs.lookup ("thing" : Str)=some iv->fs.lookup ("kind" : Str)=some kv->fs.lookup ("verb" : Str)=some r.v->fs.lookup ("worth" : Str)=some r.x->fs.lookup ("answer" : Str)=some r.a->fs.lookup ("aheads" : Str)=some (.ref la)->fs.lookup ("behinds" : Str)=some (.ref lb)->fs.lookup ("may_stand" : Str)=none->H' la=some (.lst (nsV as))->H' lb=some (.lst (nsV bs))->(∀a,a∈as↔(a,n)∈ps)->(∀b,b∈bs↔(n,b)∈ps)->as.length<=10000->bs.length<=10000->H la=none->H lb=none->Q .non H'
theorem zan (T:TX (kx w) mg):Fo P w mg base (CXE P w base) 1 307 y01 ["self","number","deed","thing","kind","pairs"] (z17 (kx w)):=by
 refine (z1c w.params).okE z2y (λ vs H Q E h=>?_) (λ b9 A b8 s H vs Q E hr h=>?_)
 ·obtain ⟨x,dx,J,n,iv,kv,y,I,e,r,rfl,_⟩:=h;rfl
 ·obtain ⟨x,dx,J,n,iv,kv,y,I,e,r,rfl,C,⟨p,rfl,sq⟩,W,al,pl,q⟩:=h;refine ⟨_,(z01 (ps_fld (pv 0) (pv 1) rfl)
   (z01 (ps_fld (pv 0) (pv 3) rfl)
   (z01 (ps_fld (pv 0) (pv 4) rfl)
   (z01 (ps_fld (pv 0) (pe_ix ix_seq (pv 2) pe_int (λ _ _=>rfl)) rfl)
   (z01 (ps_fld (pv 0) (pe_ix ix_seq (pv 2) pe_int (λ _ _=>rfl)) rfl)
   (z01 (ps_fld (pv 0) (pe_ix ix_seq (pv 2) pe_int (λ _ _=>rfl)) rfl)
   (z01 (ps_fld (pv 0) (pe_cg (xs:=["ahead","behind"]) (g:=gTup (kx w) 2 (gCons (gName 0) (gCons (gName 1) gNil))) (fr:=[(1,"number")]) (z0t (pv 5)) (λ _ _ _ _ _=>(pg_tup rfl (z07 (pg_cn (N:=["ahead","behind","number"]) 0) (z07 (pg_cn (N:=["ahead","behind","number"]) 1) z0j)))) (λ _ _ _ _ _=>(pf_one (z08 opEq (pv 1) (pv 2) (nomark _)))) (λ _ _ _ _ _=>(pv 0))) rfl)
   (z03 (ps_fld (pv 0) (pe_cg (xs:=["ahead","behind"]) (g:=gTup (kx w) 2 (gCons (gName 0) (gCons (gName 1) gNil))) (fr:=[(1,"number")]) (z0t (pv 5)) (λ _ _ _ _ _=>(pg_tup rfl (z07 (pg_cn (N:=["ahead","behind","number"]) 0) (z07 (pg_cn (N:=["ahead","behind","number"]) 1) z0j)))) (λ _ _ _ _ _=>(pf_one (z08 opEq (pv 0) (pv 2) (nomark _)))) (λ _ _ _ _ _=>(pv 1))) rfl))))))))),?_⟩
  have a7 :∀{H1 L:Hp} {l:Addr},Kept x H H1->Kept x H1 L->l≠x->L l=none->H l=none:=λ {H1 L l} k k' nl hl=>by
   cases z:H l with
   | none=>rfl
   | some o=>rw [k' l o nl (k l o nl z)] at hl;cases hl
  refine z2p ⟨_,rfl,z15 Kept.refl C rfl (z09 _) (z0i _) (n:=0) (C0 _) (by decide) λ H1 B _ e1 c=>?_⟩;refine z2p ⟨_,rfl,z15 B e1 rfl (z09 _) (z1r _) c (by decide) λ L u _ e2 c=>?_⟩;refine z2p ⟨_,rfl,z15 u e2 rfl (z09 _) (z21 _) c (by decide) λ H3 k3 _ e3 c=>?_⟩;have t3:Tt (kx w) H H3:=ins_tt C k3;refine z2p ⟨_,rfl,.inr (.inl ⟨p,_,2,r.v,rfl,rfl,t3.t _ _ sq,z04 (j:=2) rfl,z15 k3 e3 rfl (z09 _) (z1z _) c (by decide) λ H4 k4 _ e4 c=>?_⟩)⟩;refine z2p ⟨_,rfl,.inr (.inl ⟨p,_,3,r.x,rfl,rfl,(ins_tt C k4).t _ _ sq,z04 (j:=3) rfl,z15 k4 e4 rfl (z09 _) (z1u _) c (by decide) λ H5 k5 _ e5 c=>?_⟩)⟩;refine z2p ⟨_,rfl,.inr (.inl ⟨p,_,4,r.a,rfl,rfl,(ins_tt C k5).t _ _ sq,z04 (j:=4) rfl,z15 k5 e5 rfl (z09 _) (z0u _) c (by decide) λ H6 U _ e6 c=>?_⟩)⟩;have b0:J≠x:=λ z=>by rw [z,C] at W;cases W
  have zl:I.length=e.length:=z05 al;have b1 :∀{M:Hp},Kept x H M->All2 (PairAt M) e I:=λ k=>z02 (λ _ _ z=>z.elim λ b y=>⟨b,y.1,(ins_tt (K:=KX w.params) C k).l _ _ y.2⟩) al;refine z2p ?_;refine z3d (K:=KX w.params) (a:=J) (xs:=I) (H1:=H6) (λ i=>(e[i]?.map λ p=>decide (p.2=n)).getD false) (λ i y _=>∃p,e[i]? = some p/\y=.int (((λ p:Nat×Nat=>p.1) p:Nat):Int)) (λ _ _ _ _ _ z=>z) (λ R h=>⟨_,rfl,h⟩) (SqL.of (U _ _ b0 W)) (K0 (m:=10000) (by lia) (by decide)) (λ i hi v M Z hv KT KF B u=>?_) λ G H7 us Y X a5=>?_
  ·obtain ⟨d,hp,b,rfl,eb⟩:=z0c (b1 U) hv;rw [hp] at B u;refine ⟨b,_,rfl,SqT.of (Z _ _ eb),rfl,_,_,rfl,_,_,rfl,rfl,[some (.int d.1),some (.int d.2)],rfl,rfl,?_⟩;refine ⟨_,rfl,_,rfl,rfl,_,rfl,?_⟩;rw [dec_iN];exact ite2 (λ z=>⟨_,rfl,B z _ _ (Same.refl _) ⟨d,rfl,rfl⟩⟩) λ z=>u (Bool.eq_false_iff.mpr z) _ (Same.refl _)
  rw [zl] at a5;obtain ⟨D,rfl,c1,b7⟩:=zgp (q:=λ p=>decide (p.2=n)) (f:=λ p=>p.1) a5;have s8:=Y.trans (Same.upd (o:=.lst (nsV D)) X);have a2:upd H7 G (.lst (nsV D)) G=some (.lst (nsV D)):=upd_same;have a1:G≠x:=λ z=>by rw [z,Y _ _ e6] at X;cases X
  generalize upd H7 G (.lst (nsV D))=H8 at s8 a2⊢;refine z15 (U.trans s8.kept) (s8 _ _ e6) rfl (z09 _) (z1j _) c (by decide) λ H9 O b2 e9 c=>?_;have b4:=b2 _ _ a1 a2;refine zja ?_;refine z3d (K:=KX w.params) (a:=J) (xs:=I) (H1:=H9) (λ i=>(e[i]?.map λ p=>decide (p.1=n)).getD false) (λ i y _=>∃p,e[i]? = some p/\y=.int (((λ p:Nat×Nat=>p.2) p:Nat):Int)) (λ _ _ _ _ _ z=>z) (λ R h=>⟨_,rfl,h⟩) (SqL.of (O _ _ b0 W)) (K0 (m:=10000) (by lia) (by decide)) (λ i hi v M Z hv KT KF B u=>?_) λ F a4 us a0 V a8=>?_
  ·obtain ⟨d,hp,b,rfl,eb⟩:=z0c (b1 O) hv;rw [hp] at B u;refine ⟨b,_,rfl,SqT.of (Z _ _ eb),rfl,_,_,rfl,_,_,rfl,rfl,[some (.int d.1),some (.int d.2)],rfl,rfl,?_⟩;refine ⟨_,rfl,_,rfl,rfl,_,rfl,?_⟩;rw [dec_iN];exact ite2 (λ z=>⟨_,rfl,B z _ _ (Same.refl _) ⟨d,rfl,rfl⟩⟩) λ z=>u (Bool.eq_false_iff.mpr z) _ (Same.refl _)
  rw [zl] at a8;obtain ⟨bs,rfl,c0,b6⟩:=zgp (q:=λ p=>decide (p.1=n)) (f:=λ p=>p.2) a8;have S:=a0.trans (Same.upd (o:=.lst (nsV bs)) V);have a6:upd a4 F (.lst (nsV bs)) F=some (.lst (nsV bs)):=upd_same;have a3:F≠x:=λ z=>by rw [z,a0 _ _ e9] at V;cases V
  generalize upd a4 F (.lst (nsV bs))=H11 at S a6⊢;refine z15 (O.trans S.kept) (S _ _ e9) rfl (z09 _) (z1e _) c (by decide) λ b3 b5 a9 e12 c=>?_;refine q _ G F D bs b3 b5 e12 (lk_n (lk_n (lk_n (lk_n (lk_n (lk_n (lk_n lk_eq))))))) (lk_n (lk_n (lk_n (lk_n (lk_n (lk_n lk_eq)))))) (lk_n (lk_n (lk_n (lk_n (lk_n lk_eq))))) (lk_n (lk_n (lk_n (lk_n lk_eq)))) (lk_n (lk_n (lk_n lk_eq))) (lk_n (lk_n lk_eq)) (lk_n lk_eq) lk_eq (lk_n (lk_n (lk_n (lk_n (lk_n (lk_n (lk_n (lk_n rfl)))))))) (a9 _ _ a1 (S _ _ b4)) (a9 _ _ a3 a6) (λ a=>(b7 a).trans ⟨λ ⟨p,h1,h2,h3⟩=>?_,λ h=>⟨_,h,decide_eq_true rfl,rfl⟩⟩) (λ b=>(b6 b).trans ⟨λ ⟨p,h1,h2,h3⟩=>?_,λ h=>⟨_,h,decide_eq_true rfl,rfl⟩⟩) (by lia) (by lia) (a7 U (Y.kept (r:=x)) a1 X) (a7 O (a0.kept (r:=x)) a3 V)
  ·rw [<-h3,<-of_decide_eq_true h2];exact h1
  ·rw [<-h3,<-of_decide_eq_true h2];exact h1
def CaAt (H:Hp) (rs:List Rc) (n:Nat) (r:Rc) (y:V):Prop:=∃x dx fs la lb as bs,y=.ref x/\H x=some (.ins 317 dx fs)/\fs.lookup ("number" : Str)=some (.int (n:Nat))/\fs.lookup ("thing" : Str)=some (.int 0)/\fs.lookup ("kind" : Str)=some (.str "register")/\fs.lookup ("verb" : Str)=some r.v/\fs.lookup ("worth" : Str)=some r.x/\fs.lookup ("answer" : Str)=some r.a/\fs.lookup ("aheads" : Str)=some (.ref la)/\fs.lookup ("behinds" : Str)=some (.ref lb)/\fs.lookup ("may_stand" : Str)=none/\H la=some (.lst (nsV as))/\H lb=some (.lst (nsV bs))/\(∀a,a∈as↔z0k rs a n=true)/\(∀b,b∈bs↔z0k rs n b=true)/\as.length<=10000/\bs.length<=10000
theorem CaAt.same {H H':Hp} {rs:List Rc} {n:Nat} {r:Rc} {y:V} (s:Same H H') (h:CaAt H rs n r y):CaAt H' rs n r y:=by obtain ⟨x,a,fs,m,v,u,bs,o,t,b,g,k,f,l,e,d,q,p,i,j,c⟩:=h;exact ⟨x,a,fs,m,v,u,bs,o,s _ _ t,b,g,k,f,l,e,d,q,p,s _ _ i,s _ _ j,c⟩
def z12 (K:d0):Sp:=λ vs H Q _=>∃(y:V) (pa:Addr) (n:Nat) (rs:List Rc) (r:Rc) (ns:List Nat),vs=[y,.ref pa]/\CaAt H rs n r y/\SqT K H pa (nsV ns)/\Q (.bl (cP rs ns n)) H
theorem z26 (T:TX (kx w) mg):Fo P w mg base CX0 1 314 y00 ["self","done"] (z12 (kx w)):=by
 refine (z16 w.params).ok sc_Candidate_may_stand (λ R H Q E h=>?_) (λ a0 A Y s H R Q E hr h=>?_)
 ·obtain ⟨y,f,n,rs,r,d,rfl,_⟩:=h;rfl
 ·obtain ⟨y,f,n,rs,r,d,rfl,⟨x,t,fs,I,M,l,bs,rfl,u,O,f2,f3,f4,f5,f6,X,S,f9,F,J,D,L,Z,bl⟩,sq,q⟩:=h;refine ⟨_,(z01 (ps_if (z08 z5e (pe_fld (pv 0) rfl) (pv 1) (by with_unfolding_all rfl))
   (z03 (ps_ret pe_bl))
   z0d)
   (z01 (ps_for L1 rfl (z0t (pe_fld (pv 0) rfl)) (z0b (i:=2) sc_Candidate_may_stand.nd rfl (O0 rfl))
   (z03 (ps_if (z08 z36 (pv 2) (pv 1) (by with_unfolding_all rfl))
   (z03 (ps_ret pe_bl))
   z0d)))
   (z01 (ps_for L1 rfl (z0t (pe_fld (pv 0) rfl)) (z0b (i:=3) sc_Candidate_may_stand.nd rfl (O0 rfl))
   (z03 (ps_if (z08 z5e (pv 3) (pv 1) (by with_unfolding_all rfl))
   (z03 (ps_ret pe_bl))
   z0d)))
   (z03 (ps_ret pe_bl))))),?_⟩
  refine sq_if ?_;refine ⟨_,rfl,x,_,t,fs,_,rfl,u,z09 _,z0i _,O,_,rfl,f,_,rfl,.inr sq,rfl,zbi _,_,rfl,?_⟩;have q:=λ b (h:b=cP rs d n)=>(show Q (.bl b) H from h ▸ q)
  by_cases z1:n∈d
  ·refine iteP ?_ (q _ ?_)
   ·rw [inV_ns];exact decide_eq_true z1
   ·unfold cP cO;rw [decide_eq_false (λ h=>h z1)];rfl
  refine iteN (λ h=>z1 (of_decide_eq_true (by rw [inV_ns] at h;exact h))) ?_;refine t_nx ?_;have G :∀{l:List Nat} {j:Nat} {y:V},(nsV l)[j]? = some y->∃a,l[j]? = some a/\y=.int (a:Nat):=λ h=>by unfold nsV at h;rw [E2] at h;obtain ⟨a,U,W⟩:=Option.map_eq_some_iff.mp h;exact ⟨a,U,W.symm⟩
  refine ⟨_,rfl,x,_,t,fs,_,rfl,u,z09 _,z1j _,X,I,rfl,⟨_,SqL.of F⟩,?_⟩;refine z1g (K:=KX w.params) (a:=I) (xs:=nsV l) (λ i σ m=>m=H/\(∀k a,k < i->l[k]? = some a->a∈d)/\∃x2 x3,σ=[some (.ref x),some (.ref f),x2,x3]) ⟨rfl,λ k a c=>absurd c (U2 _),_,_,rfl⟩ (λ _ σ m _ h=>by rw [h.1];exact SqL.of F) ?_ ?_
  ·rintro j y σ m C ⟨rfl,fj,x2,x3,rfl⟩;obtain ⟨a,g,rfl⟩:=G C;refine g_name ⟨_,rfl,_,rfl,f,_,rfl,.inr sq,rfl,zbi _,_,rfl,?_⟩;by_cases z2:a∈d
   ·refine iteN (λ h=>?_) ⟨rfl,λ k B c e=>?_,_,_,rfl⟩
    ·rw [inV_ns,decide_eq_true z2] at h;cases h
    ·by_cases z:k=j
     ·subst z;rw [g] at e;cases e;exact z2
     ·exact fj k B (by lia) e
   ·refine iteP ?_ (q _ ?_)
    ·rw [inV_ns,decide_eq_false z2];rfl
    ·have h:=(D a).mp (v0 g);unfold cP cO;rw [decide_eq_false (p:=∀a∈X0 rs.length,z0k rs a n=true->a∈d) (λ v=>z2 (v a (List.mem_range.mpr (z1x h).1) h)),a9,Bool.false_and]
  rintro σ m ⟨rfl,fj,x2,x3,rfl⟩;refine t_nx ?_;have N:cO rs d n=true:=by unfold cO;rw [V2,decide_eq_true_iff,decide_eq_true_iff];refine ⟨z1,λ a _ h=>?_⟩;obtain ⟨k,c⟩:=List.mem_iff_getElem?.mp ((D a).mpr h);exact fj k a (by rw [z8g];exact (List.getElem?_eq_some_iff.mp c).1) c
  refine ⟨_,rfl,x,_,t,fs,_,rfl,u,z09 _,z1e _,S,M,rfl,⟨_,SqL.of J⟩,?_⟩;refine z1g (K:=KX w.params) (a:=M) (xs:=nsV bs) (λ i σ o=>o=m/\(∀k a,k < i->bs[k]? = some a->a∉d)/\∃x2 x3,σ=[some (.ref x),some (.ref f),x2,x3]) ⟨rfl,λ k a c=>absurd c (U2 _),_,_,rfl⟩ (λ _ σ o _ h=>by rw [h.1];exact SqL.of J) ?_ ?_
  ·rintro j y σ o C ⟨rfl,gj,x2,x3,rfl⟩;obtain ⟨a,g,rfl⟩:=G C;refine g_name ⟨_,rfl,_,rfl,f,_,rfl,.inr sq,rfl,zbi _,_,rfl,?_⟩;by_cases z2:a∈d
   ·refine iteP ?_ (q _ ?_)
    ·rw [inV_ns];exact decide_eq_true z2
    ·have h:=(L a).mp (v0 g);unfold cP;rw [decide_eq_false (λ v=>v a (List.mem_range.mpr (z1x h).2) h z2),a9]
   ·refine iteN (λ h=>?_) ⟨rfl,λ k B c e=>?_,_,_,rfl⟩
    ·rw [inV_ns] at h;exact z2 (of_decide_eq_true h)
    ·by_cases z:k=j
     ·subst z;rw [g] at e;cases e;exact z2
     ·exact gj k B (by lia) e
  rintro σ o ⟨rfl,gj,x2,x3,rfl⟩;refine t_nx (q _ ?_);unfold cP;rw [N,Bool.true_and];refine (decide_eq_true λ b _ h=>?_).symm;obtain ⟨k,c⟩:=List.mem_iff_getElem?.mp ((L b).mpr h);exact gj k b (by rw [z8g];exact (List.getElem?_eq_some_iff.mp c).1) c
theorem zdu {X:Cx} {K:d0} (hK:X.K=K):OpR X (A2 .In) (rIn K false):=hK ▸ z5e
def PlZ (K:d0) (H:Hp) (p:Addr) (pl:Pl):Prop:=∃pa pb,SqT K H p [.ref pa,.ref pb]/\SqT K H pa (nsV pl.1)/\SqT K H pb [.int pl.2]
theorem PlZ.tups {K:d0} {H H':Hp} {p:Addr} {pl:Pl} (t:Tups K H H') (h:PlZ K H p pl):PlZ K H' p pl:=by obtain ⟨e,c,a,d,b⟩:=h;exact ⟨e,c,t _ _ a,t _ _ d,t _ _ b⟩
def StpZ (K:d0) (H:Hp) (s:Stp) (y:V):Prop:=∃b p,y=.ref b/\SqT K H b [.int (s.1:Nat),s.2.1,.ref p]/\PlZ K H p s.2.2
theorem StpZ.tups {K:d0} {H H':Hp} {s:Stp} {y:V} (t:Tups K H H') (h:StpZ K H s y):StpZ K H' s y:=by obtain ⟨b,p,a,d,c⟩:=h;exact ⟨b,p,a,t _ _ d,c.tups t⟩
structure GD (nm:Str) (r:Rc):Prop where
 n:r.n=.str nm
 d:RegD r.v r.x
 a:(r.e=none/\r.a=.non)\/(r.e.isSome=true/\(r.a=.str "ok"\/∃i,r.a=.int i))
def TlE (K:d0) (H:Hp) (t:Addr) (nm:Str) (es:List Ev):Prop:=∃pt te th ys,SqT K H t [.ref pt,.ref te]/\SqT K H pt [.ref th]/\SqT K H th [.str nm,.str "register"]/\SqT K H te ys/\All2 (EvAt K H) es ys
theorem TlE.tups {K:d0} {H H':Hp} {t:Addr} {nm:Str} {es:List Ev} (x:Tups K H H') (h:TlE K H t nm es):TlE K H' t nm es:=by obtain ⟨pt,f,a,c,d,i,e,b,g⟩:=h;exact ⟨pt,f,a,c,x _ _ d,x _ _ i,x _ _ e,x _ _ b,z02 (λ _ _ z=>EvAt.tups x z) g⟩
theorem set_sl {K:d0} {σ:L2.St} {H:Hp} {Q:VK} {t1 t2 ti tv tj:TE} {pb:Addr} {vs:List V} {i:Nat} {v:V} (h1 :∀(H':Hp) (R:VK),Same H H'->R (.ref pb) H'->t1 σ H' R) (h2 :∀(H':Hp) (R:VK),Same H H'->R (.ref pb) H'->t2 σ H' R) (hi :∀(H':Hp) (R:VK),Same H H'->R (.int (i:Nat)) H'->ti σ H' R) (hv :∀(H':Hp) (R:VK),Same H H'->R v H'->tv σ H' R) (hj :∀(H':Hp) (R:VK),Same H H'->R (.int ((i:Int) + 1)) H'->tj σ H' R)
  (sq:SqT K H pb vs) (il:i < vs.length) (l9:vs.length<=90) (q :∀p5 H',Same H H'->SqT K H' p5 (vs.set i v)->Q (.ref p5) H') :
  tOp (λ x y H Q=>rCatS K x y H Q\/rCatT K x y H Q) (tOp (λ x y H Q=>rCatS K x y H Q\/rCatT K x y H Q) (tSl (λ x lo hi H Q=>rSlL K x lo hi H Q\/rSlT K x lo hi H Q\/rSlS x lo hi H Q) t1 zdi (tPart ti)) (tTup (tCons tv tNil))) (tSl (λ x lo hi H Q=>rSlL K x lo hi H Q\/rSlT K x lo hi H Q\/rSlS x lo hi H Q) t2 (tPart tj) zdi) σ H Q:=by
 refine h1 _ _ (Same.refl _) (hi _ _ (Same.refl _) ⟨i,rfl,.inr (.inl ⟨pb,vs,rfl,sq,λ z=>?_,λ e F=>?_⟩)⟩)
 ·have:=z.2;rw [HT.sIx_nat] at this
  lia
 have B:cutV vs none (some (i:Int))=vs.take i:=by unfold cutV;rw [HT.sIx_none,HT.sIx_nat,M4,Nat.sub_zero,Nat.min_eq_left (by lia)]
 have j:=Same.upd (o:=.tup (cutV vs none (some (i:Int)))) F;have r:upd H e (.tup (cutV vs none (some (i:Int)))) e=some (.tup (vs.take i)):=by rw [upd_same,B]
 generalize upd H e (.tup (cutV vs none (some (i:Int))))=H1 at j r⊢;refine hv _ _ j ⟨w_1,λ A t=>?_⟩;obtain ⟨J,C,l,u⟩:=newA (.tup [v]) t;rw [<-C];refine .inl ⟨e,A,vs.take i,[v],rfl,rfl,SqT.of (l _ _ r),SqT.of u,by simp,K0 (m:=100) (by rw [P4];show _ + 1<=100;lia) (by decide),λ n h E s=>?_⟩;have a:Same H h:=(j.trans l).trans E;refine h2 _ _ a (hj _ _ a ⟨_,rfl,.inr (.inl ⟨pb,vs,rfl,a.seqT sq,λ z=>?_,λ b w=>?_⟩)⟩)
 ·have:=z.1;rw [show (i:Int) + 1=((i + 1:Nat):Int) from rfl,HT.sIx_nat] at this
  lia
 have G:cutV vs (some ((i:Int) + 1)) none=vs.drop (i + 1):=by unfold cutV;rw [show (i:Int) + 1=((i + 1:Nat):Int) from rfl,HT.sIx_none,HT.sIx_nat,Nat.min_eq_left (by lia)];exact d7 (by rw [T6];exact C0 _)
 have f:=Same.upd (o:=.tup (cutV vs (some ((i:Int) + 1)) none)) w;have g:upd h b (.tup (cutV vs (some ((i:Int) + 1)) none)) b=some (.tup (vs.drop (i + 1))):=by rw [upd_same,G]
 generalize upd h b (.tup (cutV vs (some ((i:Int) + 1)) none))=H4 at f g⊢;have d:vs.take i++[v]++vs.drop (i + 1)=vs.set i v:=by rw [List.set_eq_take_append_cons_drop,if_pos il,n8];rfl
 have c:=f.seqT s;have k:(vs.take i++[v]).length + (vs.drop (i + 1)).length<=sizeLine:=K0 (m:=100) (by rw [<-D0,d,List.length_set];lia) (by decide);by_cases hd:vs.drop (i + 1)=[]
 ·refine .inr ⟨n,b,_,_,rfl,rfl,c,SqT.of g,by simp,k,λ _=>?_,λ z=>absurd hd z⟩;rw [hd,Z2] at d;rw [d] at c;exact q _ _ (a.trans f) c
 ·refine .inl ⟨n,b,_,_,rfl,rfl,c,SqT.of g,hd,k,λ p5 I D p=>?_⟩;rw [d] at p;exact q _ _ ((a.trans f).trans D) p
def z91 (K:d0):Sp:=λ vs H Q _=>∃(y:V) (pp:Addr) (n:Nat) (rs:List Rc) (r:Rc) (pl:Pl),vs=[y,.ref pp]/\CaAt H rs n r y/\RegD r.v r.x/\PlZ K H pp pl/\pl.1.length < 63/\
 ∀b q H',Same H H'->H' b=some (.tup [.int (n:Nat),ansR r.v pl.2,.ref q])->StpZ K H' (stq r n pl) (.ref b)->Q (.ref b) H'
theorem zea (T:TX (kx w) mg) (c0:Ca P w mg base "do" ["kind","state","verb","worth"] 5 (sp_do (kx w))):Fo P w mg base CX0 6 368 y1w ["candidate","place"] (z91 (kx w)):=by
 refine (z7i w.params).ok sc_step_of (λ vs H Q E h=>?_) (λ a9 A a8 s H vs Q E hr h=>?_)
 ·obtain ⟨y,C,n,rs,r,a,rfl,_⟩:=h;rfl
 ·obtain ⟨y,C,n,rs,r,a,rfl,⟨x,b,fs,la,lb,as,bs,rfl,c,f1,f2,f3,f4,f5,f6,f7,f8,f9,ea,eb,ma,mb,al,bl⟩,gd,⟨M,Y,sp,sa,K⟩,b0,q⟩:=h;refine ⟨_,(z01 (ps_set (i:=2) sc_step_of.nd rfl (O0 rfl) (pe_fld (pv 0) rfl))
   (z01 (ps_set (i:=3) sc_step_of.nd rfl (O0 rfl) (pe_ix ix_seq (pv 1) pe_int (λ _ _=>rfl)))
   (z01 (ps_set (i:=4) sc_step_of.nd rfl (O0 rfl) (pe_cal c0 (hr.mono (by decide)) rfl (z00 (pe_fld (pv 0) rfl) (z00 (pe_ix ix_seq (pv 3) (pv 2) (λ _ _=>rfl)) (z00 (pe_fld (pv 0) rfl) (z00 (pe_fld (pv 0) rfl) pa_nil))))))
   (z01 (ps_set (i:=5) sc_step_of.nd rfl (O0 rfl) (z7q z2d rfl (T.no (ze7 _)) boot_tuple (z00 (z0g za7 rfl (T.no (zi5 _)) boot_sorted (z00 (pe_op op_catS (pe_ix ix_seq (pv 1) pe_int (λ _ _=>rfl)) (pe_tup (z00 (pe_fld (pv 0) rfl) pa_nil))) pa_nil)) pa_nil)))
   (z03 (ps_ret (pe_tup (z00 (pe_fld (pv 0) rfl) (z00 (pe_ix ix_seq (pv 4) pe_int (λ _ _=>rfl)) (z00 (pe_tup (z00 (pv 5) (z00 (pe_op (op_catS.or zbq) (pe_op (op_catS.or zbq) (z37 slSeq (pv 3) z70 (z54 (pv 2))) (pe_tup (z00 (pe_ix ix_seq (pv 4) pe_int (λ _ _=>rfl)) pa_nil))) (z37 slSeq (pv 3) (z54 (pe_op opAdd (pv 2) pe_int)) z70)) pa_nil))) pa_nil)))))))))),?_⟩
  refine ⟨_,rfl,x,_,b,fs,_,rfl,c,z09 _,z1r _,f2,?_⟩;refine g_name (t_nx ?_);refine ⟨_,rfl,.inr (.inl ⟨C,_,1,.ref Y,rfl,rfl,sp,z04 (j:=1) rfl,?_⟩)⟩;refine g_name (t_nx ?_);refine ⟨_,rfl,x,_,b,fs,_,rfl,c,z09 _,z21 _,f3,?_⟩;refine ⟨_,rfl,_,rfl,.inr (.inl ⟨Y,_,0,.int a.2,rfl,rfl,K,z04 (j:=0) rfl,?_⟩)⟩;refine ⟨_,rfl,x,_,b,fs,_,rfl,c,z09 _,z1z _,f4,?_⟩;refine ⟨_,rfl,x,_,b,fs,_,rfl,c,z09 _,z1u _,f5,?_⟩;refine ⟨r.v,r.x,a.2,rfl,gd,λ L u l N=>?_⟩;refine g_name (t_nx ?_);refine z0f ?_;refine ⟨_,rfl,.inr (.inl ⟨C,_,0,.ref M,rfl,rfl,l.seqT sp,z04 (j:=0) rfl,?_⟩)⟩;refine ⟨_,rfl,x,_,b,fs,_,rfl,l _ _ c,z09 _,z0i _,f1,w_1,λ t J=>?_⟩;have r7:=l.trans (Same.upd (o:=.tup [.int (n:Nat)]) J);have u7:=Same.upd (o:=.tup [.int (n:Nat)]) J;have Z:upd u t (.tup [.int (n:Nat)]) t=some (.tup [.int (n:Nat)]):=upd_same;generalize upd u t (.tup [.int (n:Nat)])=H7 at r7 u7 Z⊢;refine ⟨M,t,nsV a.1,[.int (n:Nat)],rfl,rfl,r7.seqT sa,SqT.of Z,by simp,K0 (m:=100) (by rw [z8g];show _ + 1<=100;lia) (by decide),λ b2 H8 r8 U=>?_⟩;rw [show nsV a.1++[.int (n:Nat)]=((a.1++[n]).map λ (n:Nat)=>(n:Int)).map V.int by unfold nsV;rw [u3,A1];rfl] at U;refine ⟨b2,_,rfl,.inr U,by rw [L0,D0];show _ + 1 < 64;lia,λ l3 b3 a2 pm pw=>?_⟩;rw [zih pm pw];obtain ⟨H9,g,r9,e9⟩:=newA (.lst (nsV (srtN (a.1++[n])))) a2;rw [<-g];refine ⟨l3,_,rfl,.inl ⟨SqL.of e9,λ k a3=>?_⟩⟩;obtain ⟨O,g,a6,a4⟩:=newA (.tup (nsV (srtN (a.1++[n])))) a3;rw [<-g];refine g_name ?_;have F:Same u O:=((u7.trans r8).trans r9).trans a6;have D:=l.trans F;refine sq_ret ?_;refine ⟨_,rfl,x,_,b,fs,_,rfl,D _ _ c,z09 _,z0i _,f1,?_⟩;refine ⟨_,rfl,.inr (.inl ⟨L,_,1,_,rfl,rfl,SqT.of (F _ _ N),z04 (j:=1) rfl,?_⟩)⟩;refine ⟨_,rfl,zeq (set_sl (i:=0) (v:=.int (nxtR r.v r.x a.2)) (λ p R e h=>⟨_,rfl,h⟩) (λ p R e h=>⟨_,rfl,h⟩) (λ p R e h=>⟨_,rfl,h⟩) (λ p R e h=>⟨_,rfl,.inr (.inl ⟨L,_,0,_,rfl,rfl,SqT.of (e _ _ (F _ _ N)),z04 (j:=0) rfl,h⟩)⟩) (λ p R e h=>⟨_,rfl,.inl ⟨_,1,rfl,rfl,h⟩⟩) (D.seqT K) (U1 0) (show (1:Nat)<=90 by decide) λ f W a5 a1=>?_)⟩;refine ⟨w_2,λ d a7=>⟨w_3,λ I a0=>?_⟩⟩;have B:=Same.upd (o:=.tup [.ref k,.ref f]) a7;have e12:upd W d (.tup [.ref k,.ref f]) d=some (.tup [.ref k,.ref f]):=upd_same;generalize upd W d (.tup [.ref k,.ref f])=H12 at B e12 a0⊢;obtain ⟨S,g,z,G⟩:=newA (.tup [.int (n:Nat),ansR r.v a.2,.ref d]) a0;rw [<-g];have X:Same O S:=(a5.trans B).trans z;exact q I d S (D.trans X) G ⟨I,d,rfl,SqT.of G,k,f,SqT.of (z _ _ e12),SqT.of (X _ _ a4),(B.trans z).seqT a1⟩
def EndL (rs:List Rc) (es:List Nat):Prop:=es.length<=rs.length/\∀n,n∈es↔∃r,rs[n]? = some r/\r.e.isSome=true
def z28 (K:d0):Sp:=λ vs H Q _=>∃(l:Addr) (zs:List V) (rs:List Rc),vs=[.ref l]/\H l=some (.lst zs)/\All2 (RcAt K H) rs zs/\rs.length<=100/\
 ∀le es H',Same H H'->H' le=some (.lst (nsV es))->EndL rs es->Q (.ref le) H'
theorem z5i (T:TX (kx w) mg):Fo P w mg base CX0 1 373 y0b ["told"] (z28 (kx w)):=by
 refine (z1o w.params).ok z5q (λ B H Q E h=>?_) (λ U A S s H B Q E Y h=>?_)
 ·obtain ⟨l,f,rs,rfl,_⟩:=h;rfl
 ·obtain ⟨l,f,rs,rfl,u,k,O,q⟩:=h;refine ⟨_,(z03 (ps_ret (pe_cg (xs:=["number","deed"]) (g:=gTup (kx w) 2 (gCons (gName 0) (gCons (gName 1) gNil))) (fr:=[]) (z35 rfl (T.no (z0m _)) (z00 (pv 0) pa_nil)) (λ _ _ _ _ _=>(pg_tup rfl (z07 (pg_cn (N:=["number","deed"]) 0) (z07 (pg_cn (N:=["number","deed"]) 1) z0j)))) (λ _ _ _ _ _=>(pf_one (z08 z45 (pe_ix (z13 (K:=KX w.params) rfl) (pv 1) pe_int (λ _ _=>rfl)) pe_non (nomark _)))) (λ _ _ _ _ _=>(pv 0))))),?_⟩;have o:f.length=rs.length:=z05 k;refine sq_ret ?_;refine zaz (K:=KX w.params) (a:=l) (xs:=f) (H1:=H) (λ i=>(rs[i]?.map λ r=>r.e.isSome).getD false) (λ i y _=>y=.int (i:Nat)) (λ _ _ _ _ _ z=>z) (λ R h=>⟨_,rfl,h⟩) (SqL.of u) (K0 (m:=100) (by lia) (by decide)) ?_ ?_
  ·intro i X v t d J KT W b c;obtain ⟨x,C,M,rfl,I⟩:=J;obtain ⟨r,L,p,rfl,F⟩:=z0c k M;rw [L] at b c;refine ⟨C,_,rfl,SqT.of I,rfl,_,_,rfl,_,_,rfl,rfl,[some (.int (i:Nat)),some (.ref p)],rfl,rfl,?_⟩;refine ⟨_,rfl,.inr (.inl ⟨p,_,6,endV r.e,rfl,rfl,d.seqT F,z04 (j:=6) rfl,rfl,_,rfl,?_⟩)⟩;have b:=λ z=>b (show r.e.isSome=true from z);have c:=λ z=>c (show r.e.isSome=false from z);cases re:r.e with
   | none=>exact iteN (by show ¬ (!decide (V.non=V.non))=true;decide) (c (by rw [re];rfl) _ (Same.refl _))
   | some e=>exact iteP rfl ⟨_,rfl,b (by rw [re];rfl) _ _ (Same.refl _) rfl⟩
  intro le t us d G D;rw [zi8 D];refine q le _ _ (d.trans (Same.upd G)) upd_same ⟨?_,λ n=>?_⟩
  ·exact K0 (T1 _ _) (by rw [v3,o];exact C0 _)
  ·rw [B7,Z8,o];constructor
   ·rintro ⟨h1,h2⟩;rw [v1 h1] at h2;exact ⟨_,v1 h1,h2⟩
   ·rintro ⟨r,h1,h2⟩;exact ⟨(List.getElem?_eq_some_iff.mp h1).1,by rw [h1];exact h2⟩
def z5z (K:d0):Sp:=λ vs H Q _=>∃(pa le:Addr) (ns es:List Nat),vs=[.ref pa,.ref le]/\SqT K H pa (nsV ns)/\H le=some (.lst (nsV es))/\es.length<=100/\∀b H',Same H H'->(b=true↔∀n∈es,n∈ns)->Q (.bl b) H'
theorem zaa (T:TX (kx w) mg):Fo P w mg base CX0 1 378 y1b ["done","numbers"] (z5z (kx w)):=by
 refine (z4h w.params).ok zat (λ L H Q E h=>?_) (λ S A O s H L Q E X h=>?_)
 ·obtain ⟨u,le,r,f,rfl,_⟩:=h;rfl
 ·obtain ⟨u,le,r,f,rfl,B,J,W,q⟩:=h;refine ⟨_,(z03 (ps_ret (z0g (z7x rfl) rfl (T.no (n_all _)) boot_all (z00 (pe_cg (xs:=["number"]) (g:=gName 0) (fr:=[(0,"done")]) (z0t (pv 1)) (λ _ _ _ _ _=>(pg_cn (N:=["number","done"]) 0)) (λ _ _ _ _ _=>pf_nil) (λ _ _ _ _ _=>(z22 (zdu (K:=KX w.params) rfl) (pv 0) (pv 1) (by with_unfolding_all rfl)))) pa_nil)))),?_⟩;refine sq_ret (e_cb1 ?_);refine z3d (K:=KX w.params) (a:=le) (xs:=nsV f) (H1:=H) (λ _=>true) (λ i y _=>∃n,f[i]? = some n/\y=.bl (decide (n∈r))) (λ _ _ _ _ _ z=>z) (λ R h=>⟨_,rfl,h⟩) (SqL.of J) (K0 (m:=100) (by rw [z8g];lia) (by decide)) ?_ ?_
  ·intro i b v D k o KT U I Y;unfold nsV at o;rw [E2] at o;obtain ⟨n,c,rfl⟩:=Option.map_eq_some_iff.mp o;refine ⟨[some (.int (n:Nat))],rfl,rfl,iteT ?_⟩;refine ⟨_,rfl,_,rfl,u,_,rfl,.inr (k.seqT B),rfl,zbi _,?_⟩;exact I rfl _ _ (Same.refl _) ⟨n,c,by rw [<-inV_ns];rfl⟩
  intro C D us k F d;rw [List.filter_eq_self.mpr (λ _ _=>rfl),z8g] at d;have G:=z05 d;rw [v3] at G;refine ⟨C,us,rfl,SqL.of upd_same,λ y l=>?_,q _ _ (k.trans (Same.upd F)) ?_⟩
  ·obtain ⟨i,b⟩:=List.mem_iff_getElem?.mp l;obtain ⟨j,_,n,_,e⟩:=z0c d b;exact ⟨_,e⟩
  ·rw [B8];constructor
   ·intro h n c;obtain ⟨i,b⟩:=List.mem_iff_getElem?.mp c;have M:=(List.getElem?_eq_some_iff.mp b).1;have p:us[i]? = some us[i]:=v1 (by lia);obtain ⟨j,x,Z,t,e⟩:=z0c d p;rw [List.getElem?_range M] at x;cases x;rw [b] at t;cases t;have:=of_decide_eq_true (h _ (v0 p));rw [e] at this;exact of_decide_eq_true (V.bl.inj this)
   ·intro h y l;obtain ⟨i,b⟩:=List.mem_iff_getElem?.mp l;obtain ⟨j,_,n,c,e⟩:=z0c d b;rw [e,decide_eq_true (h n (v0 c))];exact decide_eq_true rfl
def z3y (K:d0):Sp:=λ vs H Q _=>∃(t:Addr) (nm:Str) (es:List Ev),vs=[.ref t]/\TlE K H t nm es/\∀p H',Same H H'->PlZ K H' p ([],0)->Q (.ref p) H'
theorem zee {y:V} {us:List V} (h:All2 (λ (_:Nat) z=>z=y) (X0 1) us):us=[y]:=by
 cases h with
 | cons a r=>cases r;rw [a]
theorem z7h (T:TX (kx w) mg) (c0:Ca P w mg base "first_state" ["kind"] 2 z3w):Fo P w mg base CX0 3 383 y0o ["tale"] (z3y (kx w)):=by
 refine (z25 w.params).ok z76 (λ m H Q E h=>?_) (λ a2 A a1 s H m Q E O h=>?_)
 ·obtain ⟨t,nm,J,rfl,_⟩:=h;rfl
 ·obtain ⟨t,nm,J,rfl,⟨pt,te,f,ys,U,M,Z,_⟩,q⟩:=h;refine ⟨_,(z03 (ps_ret (pe_tup (z00 (pe_tup pa_nil) (z00 (z7q z2d rfl (T.no (ze7 _)) boot_tuple (z00 (pe_cg (xs:=["name","kind"]) (g:=gTup (kx w) 2 (gCons (gName 0) (gCons (gName 1) gNil))) (fr:=[]) (pi_tup (pe_ix ix_seq (pv 0) pe_int (λ _ _=>rfl))) (λ _ _ _ _ _=>(pg_tup rfl (z07 (pg_cn (N:=["name","kind"]) 0) (z07 (pg_cn (N:=["name","kind"]) 1) z0j)))) (λ _ _ _ _ _=>pf_nil) (λ _ _ _ _ _=>(pe_cal c0 (O.mono (by decide)) rfl (z00 (pv 1) pa_nil)))) pa_nil)) pa_nil))))),?_⟩;refine sq_ret ?_;refine ⟨w_0,λ p S=>?_⟩;obtain ⟨L,b,c,W⟩:=newA (.tup []) S;rw [<-b];refine zeq (e_cb1 ?_);refine z5f (K:=KX w.params) (a:=pt) (xs:=[.ref f]) (H1:=L) (λ _=>true) (λ _ y _=>y=.int 0) (λ _ _ _ _ s h=>h) (λ R h=>⟨_,rfl,.inr (.inl ⟨t,_,0,.ref pt,rfl,rfl,c.seqT U,z04 (j:=0) rfl,h⟩)⟩) (c.seqT M) w_1 ?_ ?_
  ·intro i hi v z d e KT KF D k2;have e:=List.mem_singleton.mp (v0 e);subst e;refine ⟨f,_,rfl,(c.trans d).seqT Z,rfl,_,_,rfl,_,_,rfl,rfl,[some (.str nm),some (.str "register")],rfl,rfl,iteT ?_⟩;exact ⟨_,rfl,rfl,D rfl _ _ (Same.refl _) rfl⟩
  intro x z m d B I;have ev:=zee I;subst ev;obtain ⟨H5,b,C,F⟩:=newA (.lst [V.int 0]) B;rw [<-b];refine ⟨x,[V.int 0],rfl,.inl ⟨SqL.of F,λ n r=>?_⟩⟩;obtain ⟨H6,b,X,Y⟩:=newA (.tup [V.int 0]) r;rw [<-b];refine ⟨w_2,λ G u=>?_⟩;have l:=Same.upd (o:=.tup [.ref p,.ref n]) u;have k:=(C.trans X).trans l;exact q G _ ((c.trans d).trans k) ⟨p,n,SqT.of upd_same,SqT.of ((d.trans k) _ _ W),SqT.of (l _ _ Y)⟩
noncomputable def hide (r:Addr) (H:Hp):Hp:=λ p=>if p=r then none else H p
theorem z69 {r p:Addr} {H:Hp} {o:HO} (n:p≠r) (e:H p=some o):hide r H p=some o:=by unfold hide;rw [if_neg n];exact e
theorem hide_same {r:Addr} {H:Hp}:Same (hide r H) H:=λ p o e=>by
 unfold hide at e;by_cases z:p=r
 ·rw [if_pos z] at e;cases e
 ·rw [if_neg z] at e;exact e
theorem zje {r p:Addr} {H:Hp} {o:HO} (e:hide r H p=some o):p≠r:=λ z=>by unfold hide at e;rw [if_pos z] at e;cases e
theorem z7g {r:Addr} {H H':Hp} (s:Same H H'):Same (hide r H) (hide r H'):=λ p o e=>z69 (zje e) (s _ _ (hide_same _ _ e))
theorem zep {l:Addr} {H:Hp} {o:HO}:hide l (upd H l o)=hide l H:=by
 funext q;unfold hide;by_cases z:q=l
 ·rw [if_pos z,if_pos z]
 ·rw [if_neg z,if_neg z,upd_ne z]
def CaL (H:Hp) (rs:List Rc) (cs:List V):Prop:=∀n r y,rs[n]? = some r->cs[n]? = some y->CaAt H rs n r y
structure BoF (K:d0) (H:Hp) (rs:List Rc) (fs:List (Str×V)):Prop where
 cand :∃lc cs,fs.lookup ("candidates" : Str)=some (.ref lc)/\H lc=some (.lst cs)/\cs.length=rs.length/\CaL H rs cs
 first :∃p0,fs.lookup ("first" : Str)=some (.ref p0)/\PlZ K H p0 ([],0)
 ended :∃le en,fs.lookup ("ended" : Str)=some (.ref le)/\H le=some (.lst (nsV en))/\EndL rs en
 nm :∀z:Str,z∈(["steps_from","ends_at"]:List Str)->fs.lookup z=none
theorem BoF.same {K:d0} {H H':Hp} {rs:List Rc} {fs:List (Str×V)} (s:Same H H') (h:BoF K H rs fs):BoF K H' rs fs:=
 ⟨h.cand.elim λ b z=>z.elim λ d y=>⟨b,d,y.1,s _ _ y.2.1,y.2.2.1,λ n r v a c=>(y.2.2.2 n r v a c).same s⟩,h.first.elim λ p z=>⟨p,z.1,z.2.tups (.of s)⟩,h.ended.elim λ le z=>z.elim λ e y=>⟨le,e,y.1,s _ _ y.2.1,y.2.2⟩,h.nm⟩
def z23 (K:d0):Sp:=λ vs H Q _=>∃(x dx t:Addr) (nm:Str) (es:List Ev),vs=[.ref x,.ref t,.str "strict"]/\H x=some (.ins 357 dx [])/\TlE K H t nm es/\es.length<=63/\EWf [] es/\(∀r∈dAll 0 [] es,GD nm r)/\
 ∀fs H',Kept x H H'->H' x=some (.ins 357 dx fs)->BoF K H' (dAll 0 [] es) fs->Q .non H'
theorem zhb (T:TX (kx w) mg) (c0:Ca P w mg base "has_to" ["tale","strictness"] 2 (zbm (kx w))) (c1:Ca P w mg base "deeds" ["tale"] 1 (z78 (kx w))) (c2:Ca P w mg base "first_place" ["tale"] 3 (z3y (kx w))) (c3:Ca P w mg base "ended_numbers" ["told"] 1 (z28 (kx w))) (c4:Fo P w mg base (CXE P w base) 1 307 y01 ["self","number","deed","thing","kind","pairs"] (z17 (kx w))):Fo P w mg base (CXE P w base) 5 333 y03 ["self","tale","strictness"] (z23 (kx w)):=by
 refine (z2n w.params).okE sc_Board___init__ (λ vs H Q E h=>?_) (λ j9 A j8 s H vs Q E hr h=>?_)
 ·obtain ⟨x,dx,t,nm,es,rfl,_⟩:=h;rfl
 ·obtain ⟨x,dx,t,nm,es,rfl,ex,ta,k4,wf,gd,q⟩:=h;refine ⟨_,(z01 (ps_set (i:=3) sc_Board___init__.nd rfl (O0 rfl) (pe_cal c0 (hr.mono (by decide)) rfl (z00 (pv 1) (z00 (pv 2) pa_nil))))
   (z01 (ps_set (i:=4) sc_Board___init__.nd rfl (O0 rfl) (pe_cal c1 (hr.mono (by decide)) rfl (z00 (pv 1) pa_nil)))
   (z01 (ps_fld (pv 0) (pe_cg (xs:=["name","kind"]) (g:=gTup (kx w) 2 (gCons (gName 0) (gCons (gName 1) gNil))) (fr:=[]) (pi_tup (pe_ix ix_seq (pv 1) pe_int (λ _ _=>rfl))) (λ _ _ _ _ _=>(pg_tup rfl (z07 (pg_cn (N:=["name","kind"]) 0) (z07 (pg_cn (N:=["name","kind"]) 1) z0j)))) (λ _ _ _ _ _=>pf_nil) (λ _ _ _ _ _=>(pv 1))) rfl)
   (z01 (ps_fld (pv 0) (pe_cal c2 (hr.mono (by decide)) rfl (z00 (pv 1) pa_nil)) rfl)
   (z01 (ps_fld (pv 0) (pe_cal c3 (hr.mono (by decide)) rfl (z00 (pv 4) pa_nil)) rfl)
   (z01 (ps_fld (pv 0) (pe_lst pa_nil) rfl)
   (z01 (zby (i:=5) sc_Board___init__.nd rfl (O0 rfl) (xs:=["name","kind"]) (g:=gTup (kx w) 2 (gCons (gName 0) (gCons (gName 1) gNil))) (fr:=[]) rfl (pi_tup (pe_ix ix_seq (pv 1) pe_int (λ _ _=>rfl))) (λ _ z=>absurd z B0) (zb4 rfl) (λ _ z=>absurd z B0) (by decide +kernel) rfl (by decide +kernel) (λ _ _ _ _ _=>(pg_tup rfl (z07 (pg_cn (N:=["name","kind"]) 0) (z07 (pg_cn (N:=["name","kind"]) 1) z0j)))) (λ _ _ _ _ _=>pf_nil) (λ _ _ _ _ _=>(pv 0)))
   (z03 (PS.nox (ps_for L1 rfl (z35 rfl (T.no (z0m _)) (z00 (pv 4) pa_nil)) (pg_tup rfl (z07 (z0b (i:=6) sc_Board___init__.nd rfl (O0 rfl)) (z07 (z0b (i:=7) sc_Board___init__.nd rfl (O0 rfl)) z0j)))
   (z01 (ps_set (i:=8) sc_Board___init__.nd rfl (O0 rfl) (zh2 (pv 5) (z00 (pe_ix ix_seq (pv 7) pe_int (λ _ _=>rfl)) pa_nil)))
   (z03 (z2q (z11 (pe_fld (pv 0) rfl) (z00 (zgi (zau _) c4 (hr.mono (by decide)) rfl (T.of (zcm _)) (z33 _) .nil passN (z00 (pv 6) (z00 (pv 7) (z00 (pv 8) (z00 (pe_ix ix_seq (pe_fld (pv 0) rfl) (pv 8) (λ _ _=>rfl)) (z00 (pv 3) pa_nil)))))) pa_nil))))))))))))))),?_⟩
  obtain ⟨pt,te,th,ys,et,d8,e0,g0,al⟩:=id ta;obtain ⟨dw,os,DI⟩:=DInv.all DInv.nil wf;have rl:(dAll 0 [] es).length<=63:=by have:=z2t (es:=es) (i:=0) (rs:=[]);simp only [P3,n6] at this;lia
  refine ⟨_,rfl,_,rfl,t,te,.ref pt,ys,es,rfl,et,g0,al,by lia,dw,λ lp zp H1 s1 k3 b3 ap=>?_⟩;refine g_name (t_nx ?_);refine ⟨_,rfl,t,te,.ref pt,ys,es,rfl,s1.seqT et,s1.seqT g0,z02 (λ _ _ z=>EvAt.tups (.of s1) z) al,by lia,dw,λ lt zt p s2 k6 S ar=>?_⟩;refine g_name (t_nx ?_);have O:=s1.trans s2;generalize dAll 0 [] es=rs at *;have zl:zt.length=rs.length:=z05 ar;have pl:=z4w (rs:=rs) rs.length;have pm:rs.length * rs.length<=63 * 63:=Nat.mul_le_mul rl rl;have d7 :∀{a:Addr} {o:HO} {F:Hp},F x=some (.ins 357 dx [])->F a=some o->(∀d f,o≠.ins 357 d f)->a≠x:=λ e1 e2 n z=>by rw [z,e1] at e2;cases e2;exact n _ _ rfl
  have a3:=O _ _ ex;have h2:lp≠x:=d7 a3 (s2 _ _ b3) λ _ _ z=>by cases z
  have d0:lt≠x:=d7 a3 S λ _ _ z=>by cases z
  refine z2p ?_;refine z5f (K:=KX w.params) (a:=pt) (xs:=[.ref th]) (H1:=p) (λ _=>true) (λ _ y _=>y=.str "register") (λ _ _ _ _ s z=>z) (λ R h=>⟨_,rfl,.inr (.inl ⟨t,_,0,.ref pt,rfl,rfl,O.seqT et,z04 (j:=0) rfl,h⟩)⟩) (O.seqT d8) w_1 ?_ ?_
  ·intro i hi v H3 s3 L KT KF k1 k2;have L:=List.mem_singleton.mp (v0 L);subst L;refine ⟨th,_,rfl,(O.trans s3).seqT e0,rfl,_,_,rfl,_,_,rfl,rfl,[some (.str nm),some (.str "register")],rfl,rfl,iteT ?_⟩;exact ⟨_,rfl,k1 rfl _ _ (Same.refl _) rfl⟩
  intro D H3 us s3 c8 h9;have ev:=zee h9;subst ev;have c9:=s3.trans (Same.upd (o:=.lst [V.str "register"]) c8);have d1:upd H3 D (.lst [V.str "register"]) D=some (.lst [V.str "register"]):=upd_same;have e8:D≠x:=λ z=>by rw [z,s3 _ _ a3] at c8;cases c8
  generalize upd H3 D (.lst [V.str "register"])=H4 at c9 d1⊢;have s4:=O.trans c9;refine z15 s4.kept (s4 _ _ ex) rfl (z1b _) (z4b _) (n:=0) (C0 _) (by decide) λ H5 k5 g3 e5 U=>?_;refine z2p ?_;refine ⟨_,rfl,t,nm,es,rfl,ta.tups (ins_tt ex k5).t,λ p0 H6 Z pz=>?_⟩;refine z15 (k5.trans Z.kept) (Z _ _ e5) rfl (z1b _) (z3o _) U (by decide) λ H7 k7 c5 e7 U=>?_;refine z2p ?_;have a7:Kept x p H7:=(c9.kept.trans g3).trans (Z.kept.trans c5);have g7:Tt (kx w) p H7:=ins_tt a3 a7;refine ⟨_,rfl,lt,zt,rs,rfl,a7 _ _ d0 S,z02 (λ _ _ z=>RcAt.tups g7.t z) ar,by lia,λ le en H8 C b0 EL=>?_⟩;refine z15 (k7.trans C.kept) (C _ _ e7) rfl (z1b _) (z43 _) U (by decide) λ H9 k9 W e9 U=>?_;refine z2p ⟨w_0,λ c M=>?_⟩;have B:=Same.upd (o:=.lst []) M;have e3:upd H9 c (.lst []) c=some (.lst []):=upd_same;have a8:c≠x:=λ z=>by rw [z,e9] at M;cases M
  generalize upd H9 c (.lst [])=H10 at B e3⊢;refine z15 (k9.trans B.kept) (B _ _ e9) rfl (z1b _) (z0v _) U (by decide) λ b7 d5 a5 d9 U=>?_;have g2:=a5 _ _ a8 e3;have h6:Kept x p b7:=(a7.trans (C.kept.trans W)).trans (B.kept.trans a5);have b6:Tt (kx w) H b7:=ins_tt ex d5;refine z0f ?_;refine z5f (K:=KX w.params) (a:=pt) (xs:=[.ref th]) (H1:=b7) (λ _=>true) (λ _ y _=>y=.str nm) (λ _ _ _ _ s z=>z) (λ R h=>⟨_,rfl,.inr (.inl ⟨t,_,0,.ref pt,rfl,rfl,b6.t _ _ et,z04 (j:=0) rfl,h⟩)⟩) (b6.t _ _ d8) w_1 ?_ ?_
  ·intro i hi v b8 a4 L KT KF k1 k2;have L:=List.mem_singleton.mp (v0 L);subst L;refine ⟨th,_,rfl,a4.seqT (b6.t _ _ e0),rfl,_,_,rfl,_,_,rfl,rfl,[some (.str nm),some (.str "register")],rfl,rfl,iteT ?_⟩;exact ⟨_,rfl,k1 rfl _ _ (Same.refl _) rfl⟩
  intro G b8 us a4 a2 g8;have ev:=zee g8;subst ev;have u:=a4.trans (Same.upd (o:=.lst [V.str nm]) a2);have e4:upd b8 G (.lst [V.str nm]) G=some (.lst [V.str nm]):=upd_same;have k8:G≠x:=λ z=>by rw [z,a4 _ _ d9] at a2;cases a2
  have j4:G≠c:=λ z=>by rw [z,a4 _ _ g2] at a2;cases a2
  generalize upd b8 G (.lst [V.str nm])=HB at u e4⊢;refine g_name ?_;have eB:=u _ _ d9;have b9:=u _ _ g2;have kB:Kept x H HB:=d5.trans u.kept;have b1:Kept x p HB:=h6.trans u.kept;have c6:p c=none:=by
   cases z:p c with
   | none=>rfl
   | some o=>have:=((a7.trans (C.kept.trans W))) _ _ a8 z;rw [M] at this;cases this
  have j7:H c=none:=O.free c6;have h4:lt≠c:=λ z=>by rw [z,c6] at S;cases S
  have i8:lp≠c:=λ z=>by have:=s2 _ _ b3;rw [z,c6] at this;cases this
  have w5:Kept x H4 H5:=g3;have e6:Kept x H4 H9:=(w5.trans (Z.kept.trans c5)).trans (C.kept.trans W);have i6:D≠c:=λ z=>by have h:=e6 _ _ e8 d1;rw [z,M] at h;cases h
  have g9:HB D=some (.lst [V.str "register"]):=((e6.trans (B.kept.trans a5)).trans u.kept) _ _ e8 d1;refine ⟨_,rfl,lt,zt,rfl,SqL.of (b1 _ _ d0 S),?_⟩;refine z3k (K:=KX w.params) (a:=lt) (xs:=zt) (λ i σ F=>∃k,KeptL [c] HB F/\F c=some (.lst k)/\k.length=i/\CaL (hide c F) rs k/\∃x6 x7 x8,σ=[some (.ref x),some (.ref t),some (.str "strict"),some (.ref lp),some (.ref lt),some (.ref G),x6,x7,x8])
   ⟨[],KeptL.refl,b9,rfl,λ n r y _ h=>(by cases h),_,_,_,rfl⟩ (λ i σ F h=>?_) ?_ ?_
  ·obtain ⟨k,kk,_⟩:=h;exact SqL.of (kk _ _ (by simp [h4]) (b1 _ _ d0 S))
  ·intro i y σ a9 pq hy z0 j0;refine hid λ _ k0=>?_;obtain ⟨k,J,b4,cl,ca,x6,x7,x8,rfl⟩:=z0;refine k0 ?_;clear k0;obtain ⟨a0,v_,sp,i5⟩:=newA (.tup [.int i,y]) j0;rw [<-v_];refine ⟨pq,_,rfl,SqT.of i5,rfl,.int i,_,rfl,y,_,rfl,rfl,?_⟩;have l0:i < rs.length:=by rw [<-zl];exact (List.getElem?_eq_some_iff.mp hy).1
   obtain ⟨r,d6,py,rfl,d4⟩:=z0c ar hy;have g1:=(gd r (v0 d6)).n;have mB :∀l∈[c],MutAt HB l:=λ l hl=>by rw [List.mem_singleton.mp hl];exact .inl ⟨_,b9⟩
   have h0:Tt (kx w) p HB:=ins_tt a3 b1;have b5:Tt (kx w) p a0:=(h0.trans (KeptL.tt J mB)).trans (.of sp);have a6:KeptL [c] HB a0:=J.trans sp.keptL;have f0:=b5.t _ _ d4;rw [g1] at f0;have g5:=a6 _ _ (by simp [j4]) e4;refine ⟨_,rfl,.inl ⟨rfl,_,SqL.of g5⟩,_,rfl,.inr (.inl ⟨py,_,1,.str nm,rfl,rfl,f0,z04 (j:=1) rfl,G,[nm],nm,0,rfl,rfl,g5,by show (1:Nat)<=_;decide,rfl,λ m' i9 e=>absurd i9 (U2 _),?_⟩)⟩;refine g_name (t_nx ?_);have g4:=a6 _ _ (by simp [a8.symm]) eB;have a1:=sp _ _ b4;have g6:=a6 _ _ (by simp [i6]) g9;have h5:=a6 _ _ (by simp [i8]) (b1 _ _ h2 (s2 _ _ b3));refine ⟨_,rfl,x,_,dx,_,_,rfl,g4,z1b _,z0v _,lk_eq,.inl ⟨rfl,_,SqL.of a1⟩,?_⟩;refine ⟨_,rfl,_,rfl,_,rfl,_,rfl,x,_,dx,_,_,rfl,g4,z1b _,z4b _,lk_n (lk_n (lk_n lk_eq)),?_⟩;refine ⟨_,rfl,.inl ⟨D,_,_,.str "register",rfl,rfl,SqL.of g6,z04 (j:=0) rfl,?_⟩⟩;refine ⟨_,rfl,λ Y dc b2 d2 nc=>?_⟩;have sC:Same a0 (upd (upd a0 dc (.own Y)) Y (.ins 317 dc [])):=(Same.upd d2).trans (Same.upd (by rw [upd_ne nc.symm];exact b2));refine ⟨Y,dc,lp,i,_,_,.ref py,zp,z20 rs rs.length,r,rfl,upd_same,⟨py,rfl,sC.seqT (b5.t _ _ d4)⟩,sC _ _ h5,z02 (λ _ _ z=>z.elim λ b y=>⟨b,y.1,sC _ _ (b5.l _ _ (s2 _ _ y.2))⟩) ap,by lia,λ fs la lb as bs j5 i2 i3 f1 f2 f3 f4 f5 f6 f7 f8 f9 ea eb ma mb h8 j2 fa fb=>⟨rfl,?_⟩⟩;have c7:Same a0 j5:=zb6 b2 d2 i2;have j6:=c7 _ _ a1;refine ⟨c,k,_,rfl,rfl,j6,U0 (m:=100) (by lia) (by decide),?_⟩;have j3:Y≠c:=λ z=>by rw [z,a1] at b2;cases b2
   have i1:la≠c:=λ z=>by rw [z,sC _ _ a1] at fa;cases fa
   have i7:lb≠c:=λ z=>by rw [z,sC _ _ a1] at fb;cases fb
   refine ⟨k++[.ref Y],(a6.trans c7.keptL).trans (KeptL.set (by simp)),upd_same,by rw [D0];show k.length + 1=_;lia,λ n r' y' X I=>?_,_,_,_,rfl⟩;rw [zep];by_cases z:n < k.length
   ·rw [C1 z] at I;exact (ca n r' y' X I).same (z7g (sp.trans c7))
   ·have hn:n=k.length:=by
     have:=(List.getElem?_eq_some_iff.mp I).1;rw [D0] at this;have:n < k.length + 1:=this
     lia
    rw [hn,E1 (C0 _),A5] at I;cases I;rw [hn,cl] at X;rw [d6] at X;cases X;rw [hn,cl];exact ⟨Y,dc,fs,la,lb,as,bs,rfl,z69 j3 i3,f1,f2,f3,f4,f5,f6,f7,f8,f9,z69 i1 ea,z69 i7 eb,λ a=>(ma a).trans ⟨λ h=>(mem_pairsTo.mp h).2.2,λ h=>mem_pairsTo.mpr ⟨(z1x h).1,(z1x h).2,h⟩⟩,λ b=>(mb b).trans ⟨λ h=>(mem_pairsTo.mp h).2.2,λ h=>mem_pairsTo.mpr ⟨(z1x h).1,(z1x h).2,h⟩⟩,h8,j2⟩
  ·intro σ a9 z0;refine hid λ _ k0=>?_;obtain ⟨k,J,b4,cl,ca,x6,x7,x8,rfl⟩:=z0;refine k0 ?_;clear k0;have h7 :∀b o,b≠x->b≠c->H8 b=some o->a9 b=some o:=λ b o n1 n2 e=>J _ _ (by simp [n2]) (u _ _ (a5 _ _ n1 (B _ _ (W _ _ n1 e))));have d3:le≠x:=λ z=>by rw [z,C _ _ e7] at b0;cases b0
   have j1:le≠c:=λ z=>by have h:=W _ _ d3 b0;rw [z,M] at h;cases h
   have i4 :∀l∈[c],MutAt HB l:=λ l hl=>by rw [List.mem_singleton.mp hl];exact .inl ⟨_,b9⟩
   have i0:Tt (kx w) H6 a9:=((ins_tt (Z _ _ e5) c5).trans ((Tt.of C).trans ((ins_tt (C _ _ e7) W).trans ((Tt.of B).trans ((ins_tt (B _ _ e9) a5).trans (.of u)))))).trans (KeptL.tt J i4);refine q _ a9 (λ b o nb e=>J _ _ (λ z=>by rw [List.mem_singleton.mp z,j7] at e;cases e) (kB b o nb e)) (J _ _ (by simp [a8.symm]) eB) ⟨⟨c,k,lk_eq,b4,by lia,λ n r y X I=>(ca n r y X I).same hide_same⟩,⟨p0,lk_n (lk_n lk_eq),pz.tups i0.t⟩,⟨le,en,lk_n lk_eq,h7 _ _ d3 j1 b0,EL⟩,λ z hz=>?_⟩;simp only [T2,B0,or_false] at hz;rcases hz with rfl|rfl<;>exact (lk_n (lk_n (lk_n (lk_n rfl))))
theorem zi7 {α β:Type} {R:α->β->Prop} {xs xs':List α} {ys ys':List β} (h:All2 R xs ys) (h':All2 R xs' ys'):All2 R (xs++xs') (ys++ys'):=by
 induction h with
 | nil=>exact h'
 | cons a r ih=>exact .cons a ih
theorem if_any {tc:TT} {ta tb:TS} {D:Ends} {σ:L2.St} {H:Hp} (R:Hp->Prop) (k :∀H',R H'->ta D σ H') (h:(∀H',R H'->ta D σ H')->tIfS tc ta tb D σ H):tIfS tc ta tb D σ H:=h k
theorem zhq {a v:V} {s:Int} (ha:a=.str "ok"\/∃i,a=.int i):L2.scal a (ansR v s)=true:=by unfold ansR;split<;>rcases ha with rfl|⟨i,rfl⟩<;>rfl
def BoAt (K:d0) (H:Hp) (rs:List Rc) (b:Addr):Prop:=∃dx fs,H b=some (.ins 357 dx fs)/\BoF K H rs fs
theorem BoAt.same {K:d0} {H H':Hp} {rs:List Rc} {b:Addr} (s:Same H H') (h:BoAt K H rs b):BoAt K H' rs b:=h.elim λ a z=>z.elim λ fs y=>⟨a,fs,s _ _ y.1,y.2.same s⟩
def z1m (K:d0):Sp:=λ vs H Q _=>∃(b pp:Addr) (nm:Str) (rs:List Rc) (pl:Pl),vs=[.ref b,.ref pp]/\BoAt K H rs b/\(∀r∈rs,GD nm r)/\PlZ K H pp pl/\PlOk rs.length pl/\rs.length<=63/\
 ∀l ys H',Same H H'->H l=none->H' l=some (.lst ys)->All2 (StpZ K H') (nxT rs pl) ys->Q (.ref l) H'
theorem z42 (T:TX (kx w) mg) (c0:Fo P w mg base CX0 1 314 y00 ["self","done"] (z12 (kx w))) (c1:Ca P w mg base "step_of" ["candidate","place"] 6 (z91 (kx w))):Fo P w mg base CX0 7 340 y02 ["self","place"] (z1m (kx w)):=by
 refine (z1t w.params).ok sc_Board_steps_from (λ vs H Q E h=>?_) (λ a6 A a5 s H vs Q E hr h=>?_)
 ·obtain ⟨b,p,nm,rs,c,rfl,_⟩:=h;rfl
 ·obtain ⟨b,p,nm,rs,c,rfl,⟨dx,fs,eb,⟨⟨lc,cs,fc,ec,cl,ca⟩,_,_,fn⟩⟩,gd,pz,po,rl,q⟩:=h;refine ⟨_,(z01 (ps_set (i:=2) sc_Board_steps_from.nd rfl (O0 rfl) (pe_lst pa_nil))
   (z01 (ps_for L1 rfl (z0t (pe_fld (pv 0) rfl)) (z0b (i:=3) sc_Board_steps_from.nd rfl (O0 rfl))
   (z03 (ps_if (pt_val (zdx (pv 3) (z09 _) (z2k _) c0 (hr.mono (by decide)) (z2x _) .nil pass0 (z00 (pe_ix ix_seq (pv 1) pe_int (λ _ _=>rfl)) pa_nil)) (λ _=>rfl))
   (z01 (ps_set (i:=4) sc_Board_steps_from.nd rfl (O0 rfl) (pe_cal c1 (hr.mono (by decide)) rfl (z00 (pv 3) (z00 (pv 1) pa_nil))))
   (z03 (ps_if (PW.pt (pw_or (z08 op_isN (pe_fld (pv 3) rfl) pe_non (nomark _)) (pw_or1 (z08 opEq (pe_fld (pv 3) rfl) (pe_ix ix_seq (pv 4) pe_int (λ _ _=>rfl)) (nomark _)))))
   (z03 (z2q (z11 (pv 2) (z00 (pv 4) pa_nil))))
   z0d)))
   z0d)))
   (z03 (ps_ret (pv 2))))),?_⟩
  refine ⟨w_0,λ l a0=>?_⟩;obtain ⟨H1,v_,Y,I⟩:=newA (.lst []) a0;rw [<-v_];refine g_name (t_nx ?_);refine ⟨_,rfl,b,_,dx,fs,_,rfl,Y _ _ eb,z1b _,z0v _,fc,lc,rfl,⟨_,SqL.of (Y _ _ ec)⟩,?_⟩;refine z1g (K:=KX w.params) (a:=lc) (xs:=cs) (λ i σ f=>∃k,Same H f/\f l=some (.lst k)/\All2 (StpZ (kx w) f) (nexT (cP rs c.1) rs c i) k/\∃u o,σ=[some (.ref b),some (.ref p),some (.ref l),u,o])
   ⟨[],Y,I,.nil,_,_,rfl⟩ (λ i σ f _ h=>SqL.of (h.choose_spec.1 _ _ ec)) ?_ ?_
  ·intro i y σ U hy L;refine hid λ _ G=>?_;obtain ⟨k,n,J,B,u,o,rfl⟩:=L;refine G ?_;clear G;have a2:i < rs.length:=by rw [<-cl];exact (List.getElem?_eq_some_iff.mp hy).1
   have D:rs[i]? = some rs[i]:=v1 a2;have g:=gd _ (v0 D);generalize rs[i]=r at D g;have cy:=(ca i r y D hy).same n;obtain ⟨N,pb,sp,sa,sb⟩:=id pz;refine g_name ?_;have a3 :∀{f:Hp} {R:VK},Same H f->R (.ref N) f->tOp (rIx (kx w)) (tVar 1) (tC (.int 0)) [some (.ref b),some (.ref p),some (.ref l),some y,o] f R:=λ F h=>⟨_,rfl,.inr (.inl ⟨p,_,0,.ref N,rfl,rfl,F.seqT sp,z04 (j:=0) rfl,h⟩)⟩
   have skip:cP rs c.1 i=false\/stp r i c=none->∀{u o:Option V} {f:Hp},Same U f->∃k,Same H f/\f l=some (.lst k)/\All2 (StpZ (kx w) f) (nexT (cP rs c.1) rs c (i + 1)) k/\∃x3' x4',[some (.ref b),some (.ref p),some (.ref l),u,o]=[some (.ref b),some (.ref p),some (.ref l),x3',x4']:=λ h {u o f} F=>by
    refine ⟨k,n.trans F,F _ _ J,?_,_,_,rfl⟩;rw [zbd,show nexAt (cP rs c.1) rs c i=none by
     unfold nexAt;rcases h with h|h
     ·rw [h];rfl
     ·rw [D];split<;>first|exact h|rfl]
    rw [Option.toList_none,Z2];exact z02 (λ _ _ z=>StpZ.tups (.of F) z) B
   obtain ⟨x,a1,X,la,lb,as,bs,rfl,O,f1,f2,f3,f4,f5,f6,f7,f8,f9,_⟩:=id cy;refine ⟨_,rfl,x,a1,X,rfl,O,f9,a3 n ⟨.ref x,N,i,rs,r,c.1,rfl,cy,n.seqT sa,_,rfl,?_⟩⟩;cases hc:cP rs c.1 i with
   | false=>exact iteF (skip (.inl hc) (Same.refl _))
   | true=>
   refine iteT ?_;have ni:i∉c.1:=(cP_iff.mp hc).1;refine ⟨_,rfl,_,rfl,.ref x,p,i,rs,r,c,rfl,cy,g.d,pz.tups (.of n),?_,λ M q6 Z C e3 a4=>?_⟩
   ·have:=z3j rs.length (i :: c.1) (List.nodup_cons.mpr ⟨ni,po.nd⟩) λ x hx=>(List.mem_cons.mp hx).elim (λ z=>z ▸ a2) (po.lt x);rw [D1] at this
    lia
   refine g_name (t_nx ?_);have S:stp r i c=if r.e.isNone || decide (ansR r.v c.2=r.a) then some (stq r i c) else none:=rfl
   refine if_any (λ f=>Z=f/\stp r i c=some (stq r i c)) ?_ λ put=>?_;rotate_left
   ·refine t_or ?_;refine ⟨_,rfl,x,_,a1,X,_,rfl,C _ _ O,z09 _,z0u _,f6,rfl,_,rfl,?_⟩;rcases g.a with ⟨h1,t⟩|⟨h1,t⟩
    ·refine iteP (by rw [t];rfl) (iteT (put _ ⟨rfl,?_⟩));rw [S,h1];rfl
    have na:¬ decide (r.a=V.non)=true:=λ h=>by have:=of_decide_eq_true h;rcases t with t|⟨j,t⟩<;>(rw [t] at this;cases this)
    have I:r.e.isNone=false:=Option.isNone_eq_false_iff.mpr h1;refine iteN na ?_;refine ⟨_,rfl,x,_,a1,X,_,rfl,C _ _ O,z09 _,z0u _,f6,?_⟩;refine ⟨_,rfl,.inr (.inl ⟨M,_,1,_,rfl,rfl,SqT.of e3,z04 (j:=1) rfl,zhq t,_,rfl,?_⟩)⟩;by_cases za:r.a=ansR r.v c.2
    ·refine iteP (decide_eq_true za) (put _ ⟨rfl,?_⟩);rw [S,I,b8,decide_eq_true za.symm];rfl
    ·refine iteN (λ h=>za (of_decide_eq_true h)) (skip (.inr ?_) C);rw [S,I,b8,decide_eq_false (λ h=>za h.symm)];rfl
   rintro f ⟨rfl,hst⟩;have W:=C _ _ J;have yl:k.length<=i:=by rw [z05 B];exact zhy
   refine ⟨_,rfl,.inl ⟨rfl,_,SqL.of W⟩,_,rfl,l,k,_,rfl,rfl,W,U0 (m:=100) (by lia) (by decide),?_⟩;have tu:Tups (kx w) Z (upd Z l (.lst (k++[.ref M]))):=Tups.lst W;refine ⟨k++[.ref M],Same.keep (n.trans C) a0,upd_same,?_,_,_,rfl⟩;rw [zbd,show nexAt (cP rs c.1) rs c i=some (stq r i c) by unfold nexAt;rw [if_pos hc,D];exact hst];exact zi7 (z02 (λ _ _ z=>(StpZ.tups (.of C) z).tups tu) B) (.cons (a4.tups tu) .nil)
  ·intro σ U L;refine hid λ _ G=>?_;obtain ⟨k,n,J,B,u,o,rfl⟩:=L;refine G ?_;clear G;rw [cl] at B;exact ⟨_,rfl,q l k U n a0 J B⟩
def FullP (rs:List Rc) (pl:Pl):Prop:=∀n r,rs[n]? = some r->r.e.isSome=true->n∈pl.1
def z27 (K:d0):Sp:=λ vs H Q _=>∃(b pp:Addr) (rs:List Rc) (pl:Pl),vs=[.ref b,.ref pp]/\BoAt K H rs b/\rs.length<=63/\PlZ K H pp pl/\∀b H',Same H H'->(b=true↔FullP rs pl)->Q (.bl b) H'
theorem z61 (T:TX (kx w) mg) (c0:Ca P w mg base "holds_all" ["done","numbers"] 1 (z5z (kx w))):Fo P w mg base CX0 2 347 y05 ["self","place"] (z27 (kx w)):=by
 refine (z31 w.params).ok z5u (λ p H Q E h=>?_) (λ I A G s H p Q E D h=>?_)
 ·obtain ⟨b,e,rs,g,rfl,_⟩:=h;rfl
 ·obtain ⟨b,e,rs,g,rfl,⟨i,fs,B,C⟩,F,⟨f,J,y,l,K⟩,q⟩:=h;refine ⟨_,(z03 (ps_ret (pe_cal c0 (D.mono (by decide)) rfl (z00 (pe_ix ix_seq (pv 1) pe_int (λ _ _=>rfl)) (z00 (pe_fld (pv 0) rfl) pa_nil))))),?_⟩;obtain ⟨le,z,o,m,a⟩:=C.ended;refine ⟨_,rfl,.inr (.inl ⟨e,_,0,.ref f,rfl,rfl,y,z04 (j:=0) rfl,?_⟩)⟩;refine ⟨_,rfl,b,_,i,fs,_,rfl,B,z1b _,z43 _,o,?_⟩;refine ⟨f,le,g.1,z,rfl,l,m,by have:=a.1;lia,λ t x u k=>q t x u (k.trans ⟨λ h n r c d=>h n ((a.2 n).mpr ⟨r,c,d⟩),λ h n v=>?_⟩)⟩;obtain ⟨r,c,d⟩:=(a.2 n).mp v;exact h n r c d
noncomputable def plD (pl:Pl):PyData:=.tuple [.tuple (pl.1.map λ (n:Nat)=>.int (n:Int)),.tuple [.int pl.2]]
theorem zgg {K:d0} {H:Hp} :∀ns:List Nat,IsPds K H (ns.map λ (n:Nat)=>.int (n:Int)) (nsV ns)
 | []=>rfl
 | n :: ns=>⟨_,_,rfl,rfl,zgg ns⟩
theorem plz_pd {K:d0} {H:Hp} {p:Addr} {pl:Pl} (h:PlZ K H p pl):IsPd K H (plD pl) (.ref p):=by obtain ⟨e,c,a,d,b⟩:=h;exact ⟨p,_,rfl,a,_,_,rfl,⟨e,_,rfl,d,zgg _⟩,_,_,rfl,⟨c,_,rfl,b,⟨_,_,rfl,rfl,rfl⟩⟩,rfl⟩
theorem z9i {α:Type} {f:α->PyData} {n:Nat} :∀{xs:List α},(∀x∈xs,(f x).depth<=n)->y3 (xs.map f)<=n
 | [],_=>j2 _
 | x :: xs,h=>by
  have c:=h x N1;have b:=z9i (f:=f) (n:=n) (xs:=xs) λ y a=>h y (F1 _ a);show max (f x).depth (y3 (xs.map f))<=n
  lia
theorem zbr {α:Type} {f:α->PyData} :∀{xs:List α},(∀x∈xs,keyD (f x)=true)->keyDs (xs.map f)=true
 | [],_=>rfl
 | x :: xs,h=>by show (keyD (f x) && keyDs (xs.map f))=true;rw [h x N1,zbr λ y a=>h y (F1 _ a)];rfl
theorem pl_key (pl:Pl):keyD (plD pl)=true:=by have a:keyDs (pl.1.map λ (n:Nat)=>PyData.int (n:Int))=true:=zbr λ _ _=>rfl;show (keyDs _ && (keyDs _ && true))=true;rw [a];rfl
theorem pl_dep (pl:Pl):(plD pl).depth<=7:=by
 have a:=z9i (f:=λ (n:Nat)=>PyData.int (n:Int)) (n:=0) (xs:=pl.1) (λ _ _=>C0 _);unfold plD;simp only [PyData.depth,y3]
 lia
theorem zgw {α β:Type} {f:α->β} (hf :∀a b,f a=f b->a=b) :∀{xs ys:List α},xs.map f=ys.map f->xs=ys
 | [],[],_=>rfl
 | [],_ :: _,h=>by cases h
 | _ :: _,[],h=>by cases h
 | x :: xs,y :: ys,h=>by rw [j1,j1] at h;injection h with h1 h2;rw [hf _ _ h1,zgw hf h2]
theorem zin {a b:Pl} (h:plD a=plD b):a=b:=by unfold plD at h;injection h with h;injection h with h1 h2;injection h2 with h2 _;injection h1 with h1;injection h2 with h2;injection h2 with h2 _;injection h2 with h2;exact j01 (zgw (λ x y z=>by injection z with z;lia) h1) h2
noncomputable abbrev Oa:=Nat×V
inductive Wk (rs:List Rc):List Oa->Pl->Prop
 | nil:Wk rs [] ([],0)
 | snoc {o:List Oa} {pl:Pl} {s:Stp}:Wk rs o pl->s∈nxT rs pl->Wk rs (o++[(s.1,s.2.1)]) s.2.2
theorem z66 {rs:List Rc} {G:Pl->Prop} (h0:G ([],0)) (hs :∀pl,G pl->∀s∈nxT rs pl,G s.2.2) {o:List Oa} {pl:Pl} (w:Wk rs o pl):G pl:=by
 induction w with
 | nil=>exact h0
 | snoc _ h ih=>exact hs _ ih _ h
def BdW (rs:List Rc) (B:Nat):Prop:=∀ds:List PyData,ds.Nodup->(∀d∈ds,∃pl o,d=plD pl/\Wk rs o pl)->ds.length<=B
theorem new1 {H:Hp} {p:Addr} (o:HO) (h:H p=none) :∃H',H'=upd H p o/\Same H H'/\H' p=some o:=⟨_,rfl,Same.upd h,upd_same⟩
theorem tn_x {D:Ends} {σ:L2.St} {H:Hp} (h:D.nx σ H):tNext D σ H:=h
theorem zg9 {c:TT} {tb:TS} {D:Ends} {σ:L2.St} {H:Hp} (W B:Nat->L2.St->Hp->Prop) (m0:Nat) (w0:W m0 σ H)
  (body :∀m σ H1,B m σ H1->tb { D with nx:=λ σ' H'=>∃m',m' < m/\W m' σ' H',ct:=λ σ' H'=>∃m',m' < m/\W m' σ' H',bk:=D.nx } σ H1)
  (cond :∀m σ H,W m σ H->(∀H1,B m σ H1->∃N:L2.St->Hp->Prop,(∀σ' H',N σ' H'->∃m',m' < m/\W m' σ' H')/\tb { D with nx:=N,ct:=N,bk:=D.nx } σ H1)->c σ H λ b H1=>if b=true then∃N:L2.St->Hp->Prop,(∀σ' H',N σ' H'->∃m',m' < m/\W m' σ' H')/\tb { D with nx:=N,ct:=N,bk:=D.nx } σ H1 else D.nx σ H1):tWhile c tb D σ H:=
 ⟨W,⟨m0,w0⟩,λ m σ H h=>cond m σ H h λ H1 b=>⟨_,λ _ _ z=>z,body m σ H1 b⟩⟩
def KeyI (K:d0) (H:Hp) (G:Pl->Prop) (ks:List (PyData×Addr)):Prop:=∀k∈ks,∃pl,k.1=plD pl/\PlZ K H k.2 pl/\G pl
theorem KeyI.same {K:d0} {H H':Hp} {G:Pl->Prop} {ks:List (PyData×Addr)} (s:Same H H') (h:KeyI K H G ks):KeyI K H' G ks:=λ k b=>(h k b).elim λ a z=>⟨a,z.1,z.2.1.tups (.of s),z.2.2⟩
theorem KeyI.put {K:d0} {H:Hp} {G:Pl->Prop} {ks:List (PyData×Addr)} {pl:Pl} {b:Addr} (h:KeyI K H G ks) (z:PlZ K H b pl) (g:G pl):KeyI K H G (putN ks (plD pl) b):=λ k a=>by
 unfold L2.putN at a;split at a
 ·exact h k a
 ·rcases List.mem_append.mp a with y|y
  ·exact h k y
  ·rw [List.mem_singleton.mp y];exact ⟨pl,rfl,z,g⟩
theorem KeyI.at_ {K:d0} {H:Hp} {G:Pl->Prop} {ks:List (PyData×Addr)} {a:Addr} (r:Rd H a (NsO a ks)) (h:KeyI K H G ks):NsAt K H a ks:=⟨r,λ k c=>by obtain ⟨b,e,z,_⟩:=h k c;rw [e];exact ⟨pl_key b,pl_dep b,plz_pd z⟩⟩
theorem zhh {c:TT} {tb rest:TS} {D:Ends} {σ:L2.St} {H:Hp} (h:tWhile c tb { D with nx:=rest D } σ H):tSeq (tWhile c tb) rest D σ H:=h
noncomputable def hid2 (a b:Addr) (H:Hp):Hp:=hide a (hide b H)
theorem zbz {a b:Addr} {H H':Hp} (s:Same H H'):Same (hid2 a b H) (hid2 a b H'):=z7g (z7g s)
theorem hid2_same {a b:Addr} {H:Hp}:Same (hid2 a b H) H:=hide_same.trans hide_same
theorem hid2_b {a b:Addr} {H:Hp} {o:HO}:hid2 a b (upd H b o)=hid2 a b H:=by unfold hid2;rw [zep]
theorem hid2_a {a b:Addr} {H:Hp} {o:HO}:hid2 a b (upd H a o)=hid2 a b H:=by
 funext p;unfold hid2 hide;by_cases z:p=a
 ·rw [if_pos z,if_pos z]
 ·rw [if_neg z,if_neg z,upd_ne z]
theorem z3n {a b p:Addr} {H:Hp} {o:HO} (n1:p≠a) (n2:p≠b) (e:H p=some o):hid2 a b H p=some o:=z69 n1 (z69 n2 e)
theorem zi1 {a b:Addr} {H H':Hp} (n1:H a=none) (n2:H b=none) (s:Same H H'):Same H (hid2 a b H'):=λ p o e=>z3n (λ z=>by rw [z,n1] at e;cases e) (λ z=>by rw [z,n2] at e;cases e) (s _ _ e)
theorem zfl {K:d0} {a b:Addr} {H:Hp} {f:Heap->Prop} {xs:List V} (ea:H a=some (.ext f)) (eb:H b=some (.lst xs)):Tups K H (hid2 a b H):=λ p xs h=>by
 rcases h with (h|⟨ob,h⟩)|h
 ·exact .inl (.inl (z3n (λ z=>by rw [z,ea] at h;cases h) (λ z=>by rw [z,eb] at h;cases h) h))
 ·exact .inl (.inr ⟨ob,z3n (λ z=>by rw [z,ea] at h;cases h) (λ z=>by rw [z,eb] at h;cases h) h⟩)
 ·exact .inr h
theorem zhm {α β:Type} {R:α->β->Prop} {xs:List α} {ys:List β} (h:All2 R xs ys):All2 R xs.reverse ys.reverse:=by
 induction h with
 | nil=>exact .nil
 | cons a r ih=>rw [List.reverse_cons,List.reverse_cons];exact z0q ih a
theorem KeyI.mono {K:d0} {H:Hp} {G G':Pl->Prop} {ks:List (PyData×Addr)} (g :∀pl,G pl->G' pl) (h:KeyI K H G ks):KeyI K H G' ks:=λ k a=>(h k a).elim λ pl z=>⟨pl,z.1,z.2.1,g pl z.2.2⟩
theorem zg7 {ks:List (PyData×Addr)} {d:PyData} {b:Addr}:d∈(putN ks d b).map (·.1):=by
 unfold L2.putN;split
 ·assumption
 ·rw [A1];exact List.mem_append.mpr (.inr (List.mem_singleton.mpr rfl))
theorem zdq {ks:List (PyData×Addr)} {d e:PyData} {b:Addr} (h:e∈ks.map (·.1)):e∈(putN ks d b).map (·.1):=by
 unfold L2.putN;split
 ·exact h
 ·rw [A1];exact List.mem_append.mpr (.inl h)
def OaAt (H:Hp) (o:Oa) (y:V):Prop:=∃p,y=.ref p/\H p=some (.tup [.int (o.1:Nat),o.2])
theorem OaAt.same {H H':Hp} {o:Oa} {y:V} (s:Same H H') (h:OaAt H o y):OaAt H' o y:=h.elim λ p z=>⟨p,z.1,s _ _ z.2⟩
def WtAt (K:d0) (H0 H:Hp) (q:List Oa×Pl) (y:V):Prop:=∃p l p2 xs,y=.ref p/\H0 l=none/\H p=some (.tup [.ref l,.ref p2])/\H l=some (.lst xs)/\All2 (OaAt H) q.1 xs/\PlZ K H p2 q.2
theorem WtAt.same {K:d0} {H0 H H':Hp} {q:List Oa×Pl} {y:V} (s:Same H H') (h:WtAt K H0 H q y):WtAt K H0 H' q y:=by obtain ⟨p,l,e,i,a,d,f,c,b,g⟩:=h;exact ⟨p,l,e,i,a,d,s _ _ f,s _ _ c,z02 (λ _ _ z=>z.same s) b,g.tups (.of s)⟩
theorem zg6 {α β:Type} {R:α->β->Prop} {xs:List α} {ys:List β} {y:β} (h:All2 R xs (ys++[y])) :∃xr x,xs=xr++[x]/\All2 R xr ys/\R x y:=by
 induction ys generalizing xs with
 | nil=>
  cases h with
  | cons a r=>cases r;exact ⟨[],_,rfl,.nil,a⟩
 | cons z ys ih=>
  cases h with
  | cons a r=>obtain ⟨xr,x,rfl,c,b⟩:=ih r;exact ⟨_ :: xr,x,rfl,.cons a c,b⟩
theorem zii {ks:List (PyData×Addr)} {d:PyData} {b:Addr} (h:(ks.map (·.1)).Nodup):((putN ks d b).map (·.1)).Nodup:=by
 unfold L2.putN;split
 ·exact h
 ·rename_i z;rw [A1,n5];exact ⟨h,by simp,λ a f b g e=>z (by have c:b=d:=List.mem_singleton.mp g;rw [<-c,<-e];exact f)⟩
theorem zhz {ks:List (PyData×Addr)} {d:PyData} {b:Addr} (h:d∉ks.map (·.1)):(putN ks d b).length=ks.length + 1:=by unfold L2.putN;rw [if_neg h,D0];rfl
theorem KeyI.bd {K:d0} {H:Hp} {B:Nat} {rs:List Rc} {ks:List (PyData×Addr)} (h:KeyI K H (λ pl=>∃o,Wk rs o pl) ks) (b:BdW rs B) (nd:(ks.map (·.1)).Nodup):ks.length<=B:=by
 have:=b _ nd λ d a=>by obtain ⟨k,c,rfl⟩:=List.mem_map.mp a;obtain ⟨pl,e,_,o,w⟩:=h k c;exact ⟨pl,o,e,w⟩
 rwa [L0] at this
def WqOk (rs:List Rc) (q:List Oa×Pl):Prop:=PlOk rs.length q.2/\Wk rs q.1 q.2/\q.1.length=q.2.1.length
structure Lk (rs:List Rc) (vis:List Pl) (ds:List PyData):Prop where
 c :∀pl∈vis,¬ FullP rs pl/\∀s∈nxT rs pl,plD s.2.2∈ds
def zb5 (K:d0):Sp:=λ vs H Q _=>∃(t:Addr) (nm:Str) (es:List Ev) (B:Nat),vs=[.ref t,.str "strict"]/\TlE K H t nm es/\es.length<=63/\EWf [] es/\(∀r∈dAll 0 [] es,GD nm r)/\B<=1000000/\BdW (dAll 0 [] es) B/\
 (∀H',Same H H'->(∀o pl,Wk (dAll 0 [] es) o pl->¬ FullP (dAll 0 [] es) pl)->Q .non H')/\∀l xs o pl H',Same H H'->H l=none->H' l=some (.lst xs)->All2 (OaAt H') o xs->Wk (dAll 0 [] es) o pl->FullP (dAll 0 [] es) pl->Q (.ref l) H'
theorem zft (T:TX (kx w) mg) (c0:Fo P w mg base (CXE P w base) 5 333 y03 ["self","tale","strictness"] (z23 (kx w))) (c1:Fo P w mg base CX0 2 347 y05 ["self","place"] (z27 (kx w))) (c2:Fo P w mg base CX0 7 340 y02 ["self","place"] (z1m (kx w))):Fo P w mg base CX0 8 390 y29 ["tale","strictness"] (zb5 (kx w)):=by
 refine (z9x w.params).ok sc_judged (λ vs H Q E h=>?_) (λ j2 A j1 s H vs Q E hr h=>?_)
 ·obtain ⟨t,nm,es,B,rfl,_⟩:=h;rfl
 ·obtain ⟨t,nm,es,B,rfl,ta,f8,wf,gd,B4,bd,qn,q⟩:=h;refine ⟨_,(z01 (ps_set (i:=2) sc_judged.nd rfl (O0 rfl) (zgi (zhf _) c0 (hr.mono (by decide)) rfl (T.of (zj1 _)) (z60 _) .nil passN (z00 (pv 0) (z00 (pv 1) pa_nil))))
   (z01 (ps_set (i:=3) sc_judged.nd rfl (O0 rfl) zhu)
   (z01 (ps_set (i:=4) sc_judged.nd rfl (O0 rfl) (pe_lst (z00 (pe_tup (z00 (pe_lst pa_nil) (z00 (pe_fld (pv 2) rfl) pa_nil))) pa_nil)))
   (z01 (zde L1 (z08 op_gt (z0g z3s rfl (T.no (n_len _)) K5 (z00 (pv 4) pa_nil)) pe_int (nomark _))
   (z01 (ps_set (i:=5) sc_judged.nd rfl (O0 rfl) (zj3 (pv 4)))
   (z01 (ps_if (pt_val (zdx (pv 2) (z1b _) (z5r _) c1 (hr.mono (by decide)) (z6f _) .nil pass0 (z00 (pe_ix ix_seq (pv 5) pe_int (λ _ _=>rfl)) pa_nil)) (λ _=>rfl))
   (z03 (ps_ret (pe_ix ix_seq (pv 5) pe_int (λ _ _=>rfl))))
   z0d)
   (z03 (ps_for L1 rfl (zij rfl (T.no (zei _)) (zdx (pv 2) (z1b _) (z3l _) c2 (hr.mono (by decide)) (z4g _) .nil pass0 (z00 (pe_ix ix_seq (pv 5) pe_int (λ _ _=>rfl)) pa_nil))) (pg_tup rfl (z07 (z0b (i:=6) sc_judged.nd rfl (O0 rfl)) (z07 (z0b (i:=7) sc_judged.nd rfl (O0 rfl)) (z07 (z0b (i:=8) sc_judged.nd rfl (O0 rfl)) z0j))))
   (z03 (ps_if (z08 (zfm hr) (pv 8) (pv 3) (by with_unfolding_all rfl))
   (z01 (zix hr (pv 3) (pv 8) pe_bl rfl)
   (z03 (z2q (z11 (pv 4) (z00 (pe_tup (z00 (pe_op opAdd (pe_ix ix_seq (pv 5) pe_int (λ _ _=>rfl)) (pe_lst (z00 (pe_tup (z00 (pv 6) (z00 (pv 7) pa_nil))) pa_nil))) (z00 (pv 8) pa_nil))) pa_nil)))))
   z0d)))))))
   (z03 (ps_ret pe_non)))))),?_⟩
  have rl:(dAll 0 [] es).length<=63:=by have:=z2t (es:=es) (i:=0) (rs:=[]);simp only [P3,n6] at this;lia
  refine z0f ⟨_,rfl,_,rfl,λ x X hx e3 g4=>?_⟩;have sC:Same H (upd (upd H X (.own x)) x (.ins 357 X [])):=(Same.upd e3).trans (Same.upd (by rw [upd_ne g4.symm];exact hx));refine ⟨x,X,t,nm,es,rfl,upd_same,ta.tups (.of sC),f8,wf,gd,λ fs I k1 e1 bf=>⟨rfl,g_name ?_⟩⟩;have s1:Same H I:=zb6 hx e3 k1;have bo:BoAt (kx w) I (dAll 0 [] es) x:=⟨X,fs,e1,bf⟩
  obtain ⟨p0,i0,g5⟩:=bf.first;generalize dAll 0 [] es=rs at rl gd bo bf qn q bd;refine z0f ?_;intro f d2;refine g_name ?_;have s2:=Same.upd (o:=NsO f []) d2;have e2:upd I f (NsO f []) f=some (NsO f []):=upd_same;have h4:Same I (hide f (upd I f (NsO f []))):=λ p o e=>z69 (λ z=>by rw [z,d2] at e;cases e) (s2 _ _ e);generalize upd I f (NsO f [])=H2 at s2 e2 h4⊢;refine z0f ?_;refine ⟨w_0,λ N a4=>⟨_,rfl,x,_,X,fs,_,rfl,(s2.trans (Same.upd a4)) _ _ e1,z1b _,z3o _,i0,w_2,λ J b4=>⟨w_1,λ n U=>?_⟩⟩⟩;refine g_name ?_;have f1:I n=none:=((s2.trans (Same.upd a4)).trans (Same.upd b4)).free U;have L:=Same.upd (o:=.lst []) a4;have q1:=Same.upd (o:=.tup [.ref N,.ref p0]) b4;have q2:=Same.upd (o:=.lst [.ref J]) U;have h0:N≠f:=λ z=>by rw [z,e2] at a4;cases a4
  have h6:J≠f:=λ z=>by rw [z,L _ _ e2] at b4;cases b4
  have c3:f≠n:=λ z=>by rw [<-z,q1 _ _ (L _ _ e2)] at U;cases U
  have i2:N≠n:=λ z=>by rw [<-z,q1 _ _ upd_same] at U;cases U
  have i5:J≠n:=λ z=>by rw [<-z,upd_same] at U;cases U
  have g0:=q2 _ _ (q1 _ _ (upd_same (H:=H2) (a:=N) (o:=.lst [])));have g1:=q2 _ _ (upd_same (H:=upd H2 N (.lst [])) (a:=J) (o:=.tup [.ref N,.ref p0]));have g2:=upd_same (H:=upd (upd H2 N (.lst [])) J (.tup [.ref N,.ref p0])) (a:=n) (o:=.lst [.ref J]);have g3:=q2 _ _ (q1 _ _ (L _ _ e2));have s3:=zi1 d2 f1 (s2.trans ((L.trans q1).trans q2));generalize upd (upd (upd H2 N (.lst [])) J (.tup [.ref N,.ref p0])) n (.lst [.ref J])=H3 at g0 g1 g2 g3 s3⊢;refine zhh (zg9 (λ k σ C=>∃ks zs ws vis x5 x6 x7 x8,k=2 * (B - ks.length) + ws.length/\KeyI (kx w) (hid2 f n C) (λ u=>∃o,Wk rs o u) ks/\(ks.map (·.1)).Nodup/\Same I (hid2 f n C)/\C f=some (NsO f ks)/\C n=some (.lst zs)/\KeyI (kx w) (hid2 f n C) (λ u=>u∈vis\/u∈ws.map (·.2)) ks/\All2 (WtAt (kx w) I (hid2 f n C)) ws zs/\(∀q∈ws,WqOk rs q)/\Lk rs vis (ks.map (·.1))/\(([],0)∈vis\/([],0)∈ws.map (·.2))/\ws.length<=ks.length + 1/\σ=[some (.ref t),some (.str "strict"),some (.ref x),some (.ref f),some (.ref n),x5,x6,x7,x8])
   (λ k σ C=>∃ks zs y ws L vis x5 x6 x7 x8,k=2 * (B - ks.length) + (ws.length + 1)/\KeyI (kx w) (hid2 f n C) (λ u=>∃o,Wk rs o u) ks/\(ks.map (·.1)).Nodup/\Same I (hid2 f n C)/\C f=some (NsO f ks)/\C n=some (.lst (zs++[y]))/\KeyI (kx w) (hid2 f n C) (λ u=>u∈vis\/u∈(ws++[L]).map (·.2)) ks/\All2 (WtAt (kx w) I (hid2 f n C)) ws zs/\WtAt (kx w) I (hid2 f n C) L y/\(∀q∈ws++[L],WqOk rs q)/\Lk rs vis (ks.map (·.1))/\(([],0)∈vis\/([],0)∈(ws++[L]).map (·.2))/\ws.length<=ks.length/\σ=[some (.ref t),some (.str "strict"),some (.ref x),some (.ref f),some (.ref n),x5,x6,x7,x8])
   (2 * (B - 0) + 1) ⟨[],[.ref J],[([],([],0))],[],_,_,_,_,rfl,λ k hk=>absurd hk B0,.nil,s3,g3,g2,λ k hk=>absurd hk B0,.cons ⟨J,N,p0,[],rfl,s2.free a4,z3n h6 i5 g1,z3n h0 i2 g0,.nil,g5.tups (.of s3)⟩ .nil,λ u hp=>by rw [List.mem_singleton.mp hp];exact ⟨⟨.nil,λ _ h=>absurd h B0,.nil⟩,.nil,rfl⟩,⟨λ _ h=>absurd h B0⟩,.inr (List.mem_singleton.mpr rfl),(by decide:1<=0 + 1),rfl⟩ ?_ ?_)
  ·rintro k σ H4 ⟨ks,zs,y,ws,⟨o,u⟩,vis,x5,x6,x7,x8,rfl,kr,kn,s4,es4,ew4,ki,aw,⟨p,l,p2,xs,rfl,fl,ep,el,ax,pz⟩,po,lk,fv,kw,rfl⟩;obtain ⟨pp,wk,ol⟩:=po _ (List.mem_append.mpr (.inr (List.mem_singleton.mpr rfl)));change PlOk rs.length u at pp;change o.length=u.1.length at ol;have po :∀q∈ws,WqOk rs q:=λ q hq=>po q (List.mem_append.mpr (.inl hq));have mm :∀{a:Pl},a∈vis\/a∈(ws++[(o,u)]).map (·.2)->a∈u :: vis\/a∈ws.map (·.2):=λ {a} h=>by
    rcases h with h|h
    ·exact .inl (F1 _ h)
    ·rw [A1] at h;rcases List.mem_append.mp h with h|h
     ·exact .inr h
     ·rw [List.mem_singleton.mp h];exact .inl N1
   refine z0f ?_;refine ⟨_,rfl,.inl ⟨rfl,_,SqL.of ew4⟩,n,zs++[.ref p],.ref p,rfl,rfl,ew4,by simp,?_⟩;refine g_name ?_;rw [List.dropLast_concat];have h5:hid2 f n (upd H4 n (.lst zs))=hid2 f n H4:=hid2_b;have c5:upd H4 n (.lst zs) f=some (NsO f ks):=by rw [upd_ne c3];exact es4
   have d1:upd H4 n (.lst zs) n=some (.lst zs):=upd_same;generalize upd H4 n (.lst zs)=H5 at h5 c5 d1⊢;rw [<-h5] at s4 ki aw ep el pz ax kr;have s5:Same I H5:=s4.trans hid2_same;have b7 :∀{C:Hp} {R:VK} {x6 x7 x8:Option V} {j:Nat} {v:V},Same (hid2 f n H5) C->([.ref l,.ref p2]:List V)[j]? = some v->R v C->tOp (rIx (kx w)) (tVar 5) (tC (.int j)) [some (.ref t),some (.str "strict"),some (.ref x),some (.ref f),some (.ref n),some (.ref p),x6,x7,x8] C R:=λ s' hj h=>⟨_,rfl,.inr (.inl ⟨p,_,_,_,rfl,rfl,SqT.of (s' _ _ ep),z04 hj,h⟩)⟩
   refine sq_if ?_;refine ⟨_,rfl,x,X,fs,rfl,s5 _ _ e1,bf.nm _ (by simp),b7 (j:=1) hid2_same rfl ⟨x,p2,rs,u,rfl,bo.same s5,by lia,pz.tups (.of hid2_same),λ b6 H6 W f0=>⟨_,rfl,?_⟩⟩⟩;have b0:Same (hid2 f n H5) H6:=hid2_same.trans W;refine ite2 (λ hb=>?_) λ hb=>?_
   ·exact b7 (j:=0) b0 rfl (q l xs o u _ (s1.trans (s5.trans W)) (s1.free fl) (b0 _ _ el) (z02 (λ _ _ z=>z.same b0) ax) wk (f0.mp hb))
   have nf:¬ FullP rs u:=λ z=>hb (f0.mpr z);refine tn_x (t_nx ?_);have i4:=bo.same (s5.trans W);refine ⟨_,rfl,x,X,fs,rfl,(s5.trans W) _ _ e1,bf.nm _ (by simp),b7 (j:=1) b0 rfl ⟨x,p2,nm,rs,u,rfl,i4,gd,pz.tups (.of b0),pp,by lia,λ l7 y7 H7 s7 b5 f2 e5=>⟨l7,y7,rfl,f2,?_⟩⟩⟩;have b8:=W.trans s7;have e9:=b8 _ _ c5;have f3:=b8 _ _ d1;have a7:Same (hid2 f n H5) (hid2 f n H7):=zbz b8;have j0:l7≠f:=λ z=>by rw [z,W _ _ c5] at b5;cases b5
   have f6:l7≠n:=λ z=>by rw [z,W _ _ d1] at b5;cases b5
   have h7:=zhm (z02 (λ _ _ z=>StpZ.tups (zfl e9 f3) z) e5);have nx:=pp.next;refine zit (a:=l7) (xs:=y7) (λ j σ C=>∃ks' zs' ws',KeyI (kx w) (hid2 f n C) (λ u=>∃o,Wk rs o u) ks'/\(ks'.map (·.1)).Nodup/\Same (hid2 f n H7) (hid2 f n C)/\C f=some (NsO f ks')/\C n=some (.lst zs')/\KeyI (kx w) (hid2 f n C) (λ a=>a∈u :: vis\/a∈ws'.map (·.2)) ks'/\All2 (WtAt (kx w) I (hid2 f n C)) ws' zs'/\(∀q∈ws',WqOk rs q)/\(∀d∈ks.map (·.1),d∈ks'.map (·.1))/\(∀s∈(nxT rs u).reverse.take j,plD s.2.2∈ks'.map (·.1))/\(([],0)∈u :: vis\/([],0)∈ws'.map (·.2))/\ws'.length<=ks'.length/\2 * (B - ks'.length) + ws'.length<=2 * (B - ks.length) + ws.length/\∃x6 x7 x8,σ=[some (.ref t),some (.str "strict"),some (.ref x),some (.ref f),some (.ref n),some (.ref p),x6,x7,x8])
    ⟨ks,zs,ws,kr.same a7,kn,Same.refl _,e9,f3,(ki.same a7).mono λ a h=>mm h,z02 (λ _ _ z=>z.same a7) aw,po,λ _ h=>h,λ _ h=>absurd h (by rw [X8];exact B0),mm fv,kw,C0 _,_,_,_,rfl⟩ (λ j σ C h=>?_) ?_ ?_
   ·obtain ⟨_,_,_,_,_,h,_⟩:=h;exact hid2_same _ _ (h _ _ (z3n j0 f6 f2))
   ·rintro j y σ Z hy ⟨ks',zs',ws',kr8,kn8,s8,es8,ew8,ki8,aw8,po8,ko8,pr8,fv8,kl8,wk8,x6,x7,x8,rfl⟩;have jl:j < y7.length:=by have:=(List.getElem?_eq_some_iff.mp hy).1;rwa [List.length_reverse] at this
    obtain ⟨D,e6,b9,F,rfl,i7,i6⟩:=z0c h7 hy;have d0:D∈nxT rs u:=List.mem_reverse.mp (v0 e6);have e4:=nx D d0;have tk :∀s∈(nxT rs u).reverse.take (j + 1),s∈(nxT rs u).reverse.take j\/s=D:=λ s K=>by
     rw [List.take_add_one,e6] at K;rcases List.mem_append.mp K with z|z
     ·exact .inl z
     ·exact .inr (List.mem_singleton.mp z)
    have h2:Same (hid2 f n H7) Z:=s8.trans hid2_same;have a6:=i6.tups (.of s8);have f7:=kr8.bd bd kn8;have zl:zs'.length<=1000001:=by
     rw [z05 aw8]
     lia
    refine ⟨b9,_,rfl,h2.seqT i7,rfl,_,_,rfl,_,_,rfl,_,_,rfl,rfl,?_⟩;have d5:=(ki8.same hid2_same).at_ (.inl es8);have d7:=plz_pd (a6.tups (.of hid2_same));refine ⟨_,rfl,_,rfl,f,F,ks',plD D.2.2,rfl,rfl,d5,pl_key _,pl_dep _,d7,_,rfl,?_⟩;have i9:¬ ((true ^^ decide (plD D.2.2∈ks'.map (·.1)))=true)->plD D.2.2∈ks'.map (·.1):=λ c6=>by
     by_cases M:plD D.2.2∈ks'.map (·.1)
     ·exact M
     ·exact absurd (by rw [decide_eq_false M];rfl) c6
    refine ite2 (λ e8=>?_) λ c6=>⟨ks',zs',ws',kr8,kn8,s8,es8,ew8,ki8,aw8,po8,ko8,λ s K=>?_,fv8,kl8,wk8,_,_,_,rfl⟩
    rotate_left
    ·rcases tk s K with z|z
     ·exact pr8 s z
     ·rw [z];exact i9 c6
    refine ⟨_,rfl,_,rfl,f,F,ks',plD D.2.2,rfl,rfl,rfl,es8,d5,U0 (K0 f7 B4) (by decide),pl_key _,pl_dep _,d7,t_nx ?_⟩;have h9:hid2 f n (upd Z f (NsO f (putN ks' (plD D.2.2) F)))=hid2 f n Z:=hid2_a;have a9:upd Z f (NsO f (putN ks' (plD D.2.2) F)) f=some (NsO f (putN ks' (plD D.2.2) F)):=upd_same;have a3:upd Z f (NsO f (putN ks' (plD D.2.2) F)) n=some (.lst zs'):=by rw [upd_ne c3.symm];exact ew8
    generalize upd Z f (NsO f (putN ks' (plD D.2.2) F))=H9 at h9 a9 a3⊢;rw [<-h9] at s8 ki8 aw8 a6 kr8;have e0:Same (hid2 f n H5) (hid2 f n H9):=a7.trans s8;have c7:Same (hid2 f n H5) H9:=e0.trans hid2_same;have h3:=c7 _ _ el;refine ⟨_,rfl,.inl ⟨rfl,_,SqL.of a3⟩,b7 (j:=0) c7 rfl ?_⟩;refine ⟨_,rfl,_,rfl,w_2,λ S b1=>?_⟩;obtain ⟨Ha,va,h8,ea⟩:=new1 (.tup [.int (D.1:Nat),D.2.1]) b1;rw [<-va];refine ⟨w_1,λ f4 g6=>?_⟩;obtain ⟨c8,vb,d6,g8⟩:=new1 (.lst [.ref S]) g6;rw [<-vb];have Y:=h8.trans d6;have xl:xs.length<=63:=by rw [z05 ax,ol];have:=z3j _ _ pp.nd pp.lt;lia
    refine .inr (.inr (.inl ⟨l,f4,xs,[.ref S],rfl,rfl,Y _ _ h3,g8,K0 (m:=100) (by show xs.length + 1<=100;lia) (by decide),λ O a5=>⟨_,rfl,w_2,λ a0 a8=>?_⟩⟩));have b3:=Same.upd (o:=.lst (xs++[.ref S])) a5;have c9:=Same.upd (o:=.tup [.ref O,.ref F]) a8;have d3:=c9 _ _ (upd_same (H:=c8) (a:=O) (o:=.lst (xs++[.ref S])));have e7:=upd_same (H:=upd c8 O (.lst (xs++[.ref S]))) (a:=a0) (o:=.tup [.ref O,.ref F]);have i1:S≠f:=λ z=>by rw [z,a9] at b1;cases b1
    have h1:S≠n:=λ z=>by rw [z,a3] at b1;cases b1
    have g9:O≠f:=λ z=>by rw [z,Y _ _ a9] at a5;cases a5
    have i8:O≠n:=λ z=>by rw [z,Y _ _ a3] at a5;cases a5
    have i3:a0≠f:=λ z=>by rw [z,b3 _ _ (Y _ _ a9)] at a8;cases a8
    have f5:a0≠n:=λ z=>by rw [z,b3 _ _ (Y _ _ a3)] at a8;cases a8
    have d9:=c9 _ _ (b3 _ _ (d6 _ _ ea));have b2:=(Y.trans b3).trans c9;generalize upd (upd c8 O (.lst (xs++[.ref S]))) a0 (.tup [.ref O,.ref F])=H13 at d9 d3 e7 b2⊢;have M:=zbz (a:=f) (b:=n) b2;refine ⟨n,zs',_,rfl,rfl,b2 _ _ a3,U0 zl (by decide),?_⟩;have g7:plD D.2.2∉ks'.map (·.1):=λ z=>by rw [decide_eq_true z] at e8;cases e8
    have d4:=(kr8.same M).put (a6.tups (.of M)) ⟨_,.snoc wk d0⟩;have d8:=zii (d:=plD D.2.2) (b:=F) kn8;have f9:=d4.bd bd d8;have c4:=zhz (b:=F) g7;refine ⟨putN ks' (plD D.2.2) F,zs'++[.ref a0],ws'++[(o++[(D.1,D.2.1)],D.2.2)],by rw [hid2_b];exact d4,d8,?_,by rw [upd_ne c3];exact b2 _ _ a9,upd_same,?_,?_,λ q' hp=>?_,λ d hd=>zdq (ko8 d hd),λ s K=>?_,?_,by rw [D0,c4];show ws'.length + 1<=_;lia,by rw [D0,c4];show _ + (ws'.length + 1)<=_;rw [c4] at f9;lia,_,_,_,rfl⟩
    ·rw [hid2_b];exact s8.trans M
    ·rw [hid2_b];refine ((ki8.same M).mono λ a h=>h.imp id λ z=>?_).put (a6.tups (.of M)) (.inr ?_)
     ·rw [A1];exact List.mem_append.mpr (.inr (List.mem_singleton.mpr rfl))
     ·rw [A1];exact List.mem_append.mpr (.inl z)
    ·rw [hid2_b];exact z0q (z02 (λ _ _ z=>z.same M) aw8) ⟨a0,O,F,_,rfl,((s4.trans c7).trans Y).free a5,z3n i3 f5 e7,z3n g9 i8 d3,z0q (z02 (λ _ _ z=>z.same (e0.trans M)) ax) ⟨S,rfl,z3n i1 h1 d9⟩,a6.tups (.of M)⟩
    ·rcases List.mem_append.mp hp with z|z
     ·exact po8 q' z
     ·rw [List.mem_singleton.mp z];exact ⟨e4.1,.snoc wk d0,by show (o++[(D.1,D.2.1)]).length=D.2.2.1.length;rw [D0,e4.2];show o.length + 1=_;rw [ol]⟩
    ·rcases tk s K with z|z
     ·exact zdq (pr8 s z)
     ·rw [z];exact zg7
    ·exact fv8.imp id λ z=>by rw [A1];exact List.mem_append.mpr (.inl z)
   ·rintro σ Z ⟨ks',zs',ws',kr8,kn8,s8,es8,ew8,ki8,aw8,po8,ko8,pr8,fv8,kl8,wk8,x6,x7,x8,rfl⟩;rw [show y7.length=(nxT rs u).reverse.length by rw [List.length_reverse,z05 e5],S6] at pr8;refine ⟨2 * (B - ks'.length) + ws'.length,by lia,ks',zs',ws',u :: vis,_,_,_,_,rfl,kr8,kn8,(s4.trans a7).trans s8,es8,ew8,ki8,aw8,po8,⟨λ a ha=>?_⟩,fv8,Nat.le_succ_of_le kl8,rfl⟩;rcases List.mem_cons.mp ha with z|z
    ·rw [z];exact ⟨nf,λ s K=>pr8 s (List.mem_reverse.mpr K)⟩
    ·exact ⟨(lk.c a z).1,λ s K=>ko8 _ ((lk.c a z).2 s K)⟩
  ·rintro k σ H4 ⟨ks,zs,ws,vis,x5,x6,x7,x8,rfl,kr,kn,s4,es4,ew4,ki,aw,po,lk,fv,kw,rfl⟩ body;refine ⟨_,rfl,.inl ⟨n,zs,rfl,.inl (SqL.of ew4),_,_,rfl,rfl,_,rfl,?_⟩⟩;refine ite2 (λ h=>?_) λ h=>?_
   ·have h:(0:Int) < (zs.length:Int):=of_decide_eq_true h;have hz:zs≠[]:=λ z=>by rw [z] at h;exact absurd h (by decide)
    have ez:=(V5 hz).symm;rw [ez] at aw ew4;obtain ⟨wr,L,rfl,J,a2⟩:=zg6 aw;rw [D0] at kw;exact body _ ⟨ks,_,_,wr,L,vis,x5,x6,x7,x8,by rw [D0];rfl,kr,kn,s4,es4,ew4,ki,J,a2,po,lk,fv,by have kw:wr.length + 1<=ks.length + 1:=kw;lia,rfl⟩
   ·have zn:zs=[]:=by
     cases zs with
     | nil=>rfl
     | cons z r=>exact absurd (decide_eq_true (show (0:Int) < ((z :: r).length:Int) by rw [D1];lia)) h
    subst zn;cases aw;refine qn _ (s1.trans (s4.trans hid2_same)) λ o u wk=>(lk.c u ?_).1;refine z66 (G:=λ u=>u∈vis) (fv.resolve_right B0) (λ u hp s K=>?_) wk;obtain ⟨k,hk,e⟩:=List.mem_map.mp ((lk.c u hp).2 s K);obtain ⟨j3,e',_,g⟩:=ki k hk;rw [zin (e.symm.trans e')];exact g.resolve_right B0
end
section
variable {wr:Int} {es:List Ev} {rs:List Rc}
theorem z7b {x:Int} :∀(rs:List Rc) (o:Option Int),(∀r∈rs,¬ (isW r=true/\x=intV r.x))->rs.foldl (λ (o:Option Int) r=>if isW r=true/\x=intV r.x then some (r.b:Int) else o) o=o
 | [],_,_=>rfl
 | r :: rs,o,h=>by rw [Y4,if_neg (h r N1)];exact z7b rs o λ q a=>h q (F1 _ a)
theorem zax {x:Int} {w:Rc} :∀(rs:List Rc) (o:Option Int),w∈rs->isW w=true->x=intV w.x->(∀r∈rs,isW r=true->x=intV r.x->r=w)->rs.foldl (λ (o:Option Int) r=>if isW r=true/\x=intV r.x then some (r.b:Int) else o) o=some (w.b:Int)
 | r :: rs,o,hm,hw,hx,h=>by
  rw [Y4];by_cases z:w∈rs
  ·exact zax rs _ z hw hx λ q a=>h q (F1 _ a)
  ·have e:r=w:=((List.mem_cons.mp hm).resolve_right z).symm;rw [if_pos ⟨by rw [e];exact hw,by rw [e];exact hx⟩,z7b rs _ λ q a y=>z (by rw [<-h q (F1 _ a) y.1 y.2];exact a),e]
structure Unl (rs:List Rc):Prop where
 nd:((rs.filter isW).map (λ r=>intV r.x)).Nodup
 n0:(0:Int)∉(rs.filter isW).map (λ r=>intV r.x)
theorem Unl.one (U:Unl rs) {w q:Rc} (hw:w∈rs) (iw:isW w=true) (hq:q∈rs) (iq:isW q=true) (e:intV w.x=intV q.x):w=q:=z2e U.nd w (List.mem_filter.mpr ⟨hw,iw⟩) q (List.mem_filter.mpr ⟨hq,iq⟩) e
theorem Unl.since (U:Unl rs) {w:Rc} (hw:w∈rs) (iw:isW w=true):sinceF rs (intV w.x)=some (w.b:Int):=zax rs _ hw iw rfl λ _ a c e=>U.one a c hw iw e.symm
theorem Unl.since0 (U:Unl rs):sinceF rs 0=some (-1):=z7b rs _ λ r a y=>U.n0 (List.mem_map.mpr ⟨r,List.mem_filter.mpr ⟨a,y.1⟩,y.2.symm⟩)
def Cur (rs:List Rc) (ns:List Nat) (s t:Int):Prop:=(s=0/\t=-1/\∀n r,n∈ns->rs[n]? = some r->isW r=false)\/∃n w,n∈ns/\rs[n]? = some w/\isW w=true/\s=intV w.x/\t=w.b/\∀n' r,n'∈ns->rs[n']? = some r->isW r=true->r.b<=w.b
theorem Cur.uniq (S:Sq1 wr es rs) {ns:List Nat} {s t s' t':Int} (h:Cur rs ns s t) (h':Cur rs ns s' t'):s=s':=by
 rcases h with ⟨e,_,f⟩|⟨n,w,e,h2,f,h4,_,h6⟩
 ·rcases h' with ⟨c,_⟩|⟨n',w',c,g2,d,_⟩
  ·rw [e,c]
  ·have:=f n' w' c g2;rw [d] at this;cases this
 ·rcases h' with ⟨_,_,d⟩|⟨n',w',c,g2,d,g4,_,g6⟩
  ·have:=d n w e h2;rw [f] at this;cases this
  ·have a:=h6 n' w' c g2 d;have b:=g6 n w e h2 f;rw [h4,g4,S.same_b (v0 h2) (v0 g2) (S8 b a)]
theorem Cur.since (U:Unl rs) {ns:List Nat} {s t:Int} (h:Cur rs ns s t):sinceF rs s=some t:=by
 rcases h with ⟨rfl,rfl,_⟩|⟨n,w,_,h2,h3,rfl,rfl,_⟩
 ·exact U.since0
 ·exact U.since (v0 h2) h3
theorem mem_stq {r:Rc} {n x:Nat} {pl:Pl}:x∈(stq r n pl).2.2.1↔x∈pl.1\/x=n:=by show x∈srtN (pl.1++[n])↔_;rw [(z74 _).mem_iff,List.mem_append,List.mem_singleton]
theorem st_w {r:Rc} {n:Nat} {pl:Pl} (h:isW r=true):(stq r n pl).2.2.2=intV r.x:=if_pos (of_decide_eq_true h)
theorem st_r {r:Rc} {n:Nat} {pl:Pl} (h:isW r=false):(stq r n pl).2.2.2=pl.2:=if_neg λ z=>by rw [isW,decide_eq_true z] at h;cases h
theorem an_w {r:Rc} {s:Int} (h:isW r=true):ansR r.v s=.str "ok":=if_pos (of_decide_eq_true h)
theorem an_r {r:Rc} {s:Int} (h:isW r=false):ansR r.v s=.int s:=if_neg λ z=>by rw [isW,decide_eq_true z] at h;cases h
theorem ah_mk {a b:Nat} {r q:Rc} {e:Nat} (ha:rs[a]? = some r) (hb:rs[b]? = some q) (he:r.e=some e) (lt:e < q.b):z0k rs a b=true:=by rw [z5j ha hb];unfold aheadB;rw [he];exact decide_eq_true lt
theorem ah_of {a b:Nat} (h:z0k rs a b=true) :∃r q e,rs[a]? = some r/\rs[b]? = some q/\r.e=some e/\e < q.b:=by
 obtain ⟨g,f⟩:=z1x h;have c:rs[a]? = some rs[a]:=v1 g;have d:rs[b]? = some rs[b]:=v1 f;rw [z5j c d] at h;unfold aheadB at h;cases he:rs[a].e with
 | none=>rw [he] at h;cases h
 | some e=>rw [he] at h;exact ⟨_,_,e,c,d,he,of_decide_eq_true h⟩
theorem rd_of {r:Rc} (g:RdG r\/WrG wr r) (h:isW r=false):RdG r:=g.resolve_right λ z=>by rw [z.w] at h;cases h
theorem wr_of {r:Rc} (g:RdG r\/WrG wr r) (h:isW r=true):WrG wr r:=g.resolve_left λ z=>by rw [z.w] at h;cases h
theorem rd_no {r:Rc} (h:r.v=.str "read"):isW r=false:=decide_eq_false λ e=>z0z (h.symm.trans e)
structure SI (rs:List Rc) (pl:Pl):Prop where
 clo :∀b∈pl.1,∀a,z0k rs a b=true->a∈pl.1
 cur :∃t,Cur rs pl.1 pl.2 t/\∀n r e,n∈pl.1->rs[n]? = some r->isW r=false->r.e=some e->RegR rs r e/\∃tr,sinceF rs (intV r.a)=some tr/\tr<=t
 nb :∀i j,i∈pl.1->j∈pl.1->¬ Bad rs i j
theorem SI.nil:SI rs ([],0):=⟨λ _ h=>absurd h B0,⟨-1,.inl ⟨rfl,rfl,λ _ _ h=>absurd h B0⟩,λ _ _ _ h=>absurd h B0⟩,λ _ _ h=>absurd h B0⟩
theorem SI.step (S:Sq1 wr es rs) (U:Unl rs) {pl:Pl} (h:SI rs pl) :∀s∈nxT rs pl,SI rs s.2.2:=by
 intro s hs;obtain ⟨n,r,l,hc,ac,rfl⟩:=mem_nxT.mp hs;obtain ⟨nn,N,O⟩:=cP_iff.mp hc;have J:=v0 l;obtain ⟨t,L,M⟩:=h.cur;have W :∀{w q:Rc},w∈rs->q∈rs->w.e≠some q.b:=λ D d=>S.noE (S.R.a _ d) _ D;have a2 :∀b∈(stq r n pl).2.2.1,∀a,z0k rs a b=true->a∈(stq r n pl).2.2.1:=λ b hb a X=>by
  rcases mem_stq.mp hb with z|z
  ·exact mem_stq.mpr (.inl (h.clo b z a X))
  ·exact mem_stq.mpr (.inl (N a (by rw [<-z];exact X)))
 -- the read's P
 have P:isW r=false->∀e,r.e=some e->RegR rs r e/\sinceF rs (intV r.a)=some t:=λ A e B=>by
  have ea:r.a=.int pl.2:=by
   rcases ac with z|z
   ·rw [z] at B;cases B
   ·rw [<-z,an_r A]
  have K:intV r.a=pl.2:=by rw [ea];rfl
  refine ⟨?_,by rw [K];exact L.since U⟩;rcases L with ⟨p,_,v⟩|⟨m,w,p,g,v,H,_,I⟩
  ·refine .inr (.inl ⟨by rw [K,p],λ w D iw k C lt=>?_⟩);obtain ⟨i,G⟩:=List.mem_iff_getElem?.mp D;have:=v i w (N i (ah_mk G l C lt)) G;rw [iw] at this;cases this
  ·have D:=v0 g;have wb:w.b < e:=by
    rcases F4 w.b e with z|z|z
    ·exact z
    ·exact absurd (by rw [B,z]) (W J D)
    ·exact absurd p (O m (ah_mk l g B z))
   by_cases z :∃k,w.e=some k/\k < r.b
   ·refine .inr (.inr ⟨w,D,v,by rw [K,H],z,λ w' a1 a0 ⟨k,C,lt⟩=>?_⟩);obtain ⟨i,G⟩:=List.mem_iff_getElem?.mp a1;exact I i w' (N i (ah_mk G l C lt)) G a0
   ·refine .inl ⟨w,D,v,by rw [K,H],wb,λ k C=>?_⟩;rcases F4 r.b k with y|y|y
    ·exact y
    ·exact absurd (by rw [C,y]) (W D J)
    ·exact absurd ⟨k,C,y⟩ z
 refine ⟨a2,?_,λ i j G Y Q=>?_⟩
 ·cases A:isW r with
  | true=>
   have Z :∀o q,o∈pl.1->rs[o]? = some q->isW q=true->q.b<=r.b:=λ o q x d u=>by
    have e:=(S.wh (v0 d) u).1.trans (S.wh J A).1.symm;rcases S.hand (v0 d) J e with z|z|⟨_,k,C,lt⟩
    ·rw [z];exact C0 _
    ·exact A3 z.1
    ·exact absurd x (O o (ah_mk l d C lt))
   have a4:t<=r.b:=by
    rcases L with ⟨_,g,_⟩|⟨m,w,p,g,v,_,F,_⟩
    ·rw [g];lia
    ·rw [F];have:=Z m w p g v;lia
   refine ⟨r.b,.inr ⟨n,r,mem_stq.mpr (.inr rfl),l,A,st_w A,rfl,λ o q x d u=>?_⟩,λ o q e x d u B=>?_⟩
   ·rcases mem_stq.mp x with z|z
    ·exact Z o q z d u
    ·rw [z,l] at d;cases d;exact C0 _
   ·rcases mem_stq.mp x with z|z
    ·obtain ⟨a,tr,b,c⟩:=M o q e z d u B;exact ⟨a,tr,b,by lia⟩
    ·rw [z,l] at d;cases d;rw [A] at u;cases u
  | false=>
   refine ⟨t,?_,λ o q e x d u B=>?_⟩
   ·rw [st_r A];rcases L with ⟨p,g,v⟩|⟨m,w,p,g,v,H,F,I⟩
    ·refine .inl ⟨p,g,λ o q x d=>?_⟩;rcases mem_stq.mp x with z|z
     ·exact v o q z d
     ·rw [z,l] at d;cases d;exact A
    ·refine .inr ⟨m,w,mem_stq.mpr (.inl p),g,v,H,F,λ o q x d u=>?_⟩;rcases mem_stq.mp x with z|z
     ·exact I o q z d u
     ·rw [z,l] at d;cases d;rw [A] at u;cases u
   ·rcases mem_stq.mp x with z|z
    ·exact M o q e z d u B
    ·rw [z,l] at d;cases d;obtain ⟨a,b⟩:=P A e B;exact ⟨a,t,b,Int.le_refl _⟩
 ·obtain ⟨r1,q1,e,f,s1,t1,p,g,v,H,F,I,h7,V,T,a3⟩:=id Q;rcases mem_stq.mp G with zi|zi
  ·rcases mem_stq.mp Y with zj|zj
   ·exact h.nb i j zi zj Q
   ·rw [zj,l] at g;cases g;have o2:=(P (rd_no H) f I).2;obtain ⟨_,tr,a,b⟩:=M i r1 e zi p (rd_no v) F;rw [o2] at T;rw [a] at V;cases V;cases T
    lia
  ·rw [zi,l] at p;cases p;rcases mem_stq.mp Y with zj|zj
   ·exact O j (ah_mk l g F h7) zj
   ·rw [zj,l] at g;cases g;have:=S.E _ J e F
    lia
theorem SI.of (S:Sq1 wr es rs) (U:Unl rs) {o:List Oa} {pl:Pl} (w:Wk rs o pl):SI rs pl:=z66 SI.nil (λ _ h=>h.step S U) w
theorem SI.full {pl:Pl} (h:SI rs pl) (f:FullP rs pl):AllR RegR rs/\∀i j,¬ Bad rs i j:=by
 refine ⟨λ r l e s a=>?_,λ i j b=>?_⟩
 ·obtain ⟨n,c⟩:=List.mem_iff_getElem?.mp l;obtain ⟨t,_,g⟩:=h.cur;exact (g n r e (f n r c (by rw [a];rfl)) c (rd_no s) a).1
 ·obtain ⟨k,m,e,g,_,_,d,o,_,_,q,p,_⟩:=id b;exact h.nb i j (f i k d (by rw [q];rfl)) (f j m o (by rw [p];rfl)) b
noncomputable def allS:Nat->List (List Nat)
 | 0=>[[]]
 | n + 1=>allS n++(allS n).map (·++[n])
theorem zdo :∀n,(allS n).length=2 ^ n
 | 0=>rfl
 | n + 1=>by
  show (allS n++(allS n).map (·++[n])).length=_;rw [D0,L0,zdo n,Nat.pow_succ]
  lia
theorem za2 (p:Nat->Bool) :∀n,(X0 n).filter p∈allS n
 | 0=>List.mem_singleton.mpr rfl
 | n + 1=>by
  rw [W4,Z3];show _∈allS n++(allS n).map (·++[n]);cases h:p n with
  | true=>exact List.mem_append.mpr (.inr (List.mem_map.mpr ⟨_,za2 p n,by simp [h]⟩))
  | false=>exact List.mem_append.mpr (.inl (by simpa [h] using za2 p n))
theorem PlOk.mem {N:Nat} {pl:Pl} (h:PlOk N pl):pl.1∈allS N:=by
 have e:pl.1=(X0 N).filter λ n=>decide (n∈pl.1):=by refine List.Perm.eq_of_pairwise (le:=(·<=·)) (λ _ _ _ _ a b=>S8 a b) h.so (d5 _ ((m5 (n:=N)).imp A3)) ?_;refine (List.perm_ext_iff_of_nodup h.nd (d5 _ List.nodup_range)).mpr λ a=>?_;rw [B7,Z8,decide_eq_true_iff];exact ⟨λ z=>⟨h.lt a z,z⟩,λ z=>z.2⟩
 rw [e];exact za2 _ _
theorem nd_sub {α:Type} :∀(ds l:List α),ds.Nodup->(∀d∈ds,d∈l)->ds.length<=l.length
 | [],_,_,_=>j2 _
 | d :: ds,l,a,h=>by
  classical
  have c:=h d N1;have a:=List.nodup_cons.mp a;have:=nd_sub ds (l.erase d) a.2 λ x b=>(j02 (λ e:x=d=>a.1 (by rw [<-e];exact b))).mpr (h x (F1 _ b));rw [L6 c] at this;have:=i7 c;rw [D1]
  lia
theorem PlOk.of {o:List Oa} {pl:Pl} (w:Wk rs o pl):PlOk rs.length pl:=z66 ⟨.nil,λ _ h=>absurd h B0,.nil⟩ (λ _ h s a=>(h.next s a).1) w
open Classical in
theorem zdw (S:Sq1 wr es rs) (U:Unl rs) (l16:rs.length<=16):BdW rs 65536:=λ k j h=>by
 let f:List Nat->Int:=λ b=>if h :∃s t,Cur rs b s t then h.choose else 0
 have:=nd_sub k ((allS rs.length).map λ b=>plD (b,f b)) j λ d i=>by
  obtain ⟨a,o,rfl,w⟩:=h d i;obtain ⟨t,g,_⟩:=(SI.of S U w).cur;refine List.mem_map.mpr ⟨a.1,(PlOk.of w).mem,?_⟩;have c :∃s t,Cur rs a.1 s t:=⟨_,_,g⟩
  have e:f a.1=a.2:=by show (if h :∃s t,Cur rs a.1 s t then h.choose else 0)=a.2;rw [dif_pos c];obtain ⟨m,l⟩:=c.choose_spec;exact Cur.uniq S l g
  show plD (a.1,f a.1)=plD a;rw [e]
 rw [L0,zdo] at this;exact K0 this (Nat.pow_le_pow_right (by decide) l16)
end
section
variable {wr:Int} {es:List Ev} {rs:List Rc}
def Ipt (rs:List Rc) (n:Nat):Prop:=∃r,rs[n]? = some r/\(isW r=true\/r.e.isSome=true)
noncomputable def scR (rs:List Rc) (r:Rc):Nat:=if isW r=true then r.b + 1 else (((sinceF rs (intV r.a)).getD 0) + 1).toNat
noncomputable def rkR (rs:List Rc) (r:Rc):Nat:=scR rs r * 100 + if isW r=true then 0 else 1 + r.b
theorem rk_w {r:Rc} (h:isW r=true):rkR rs r=(r.b + 1) * 100:=by unfold rkR scR;rw [if_pos h,if_pos h];rfl
theorem rk_r {r:Rc} {t:Int} (h:isW r=false) (e:sinceF rs (intV r.a)=some t):rkR rs r=(t + 1).toNat * 100 + (1 + r.b):=by unfold rkR scR;rw [if_neg (by rw [h];decide),if_neg (by rw [h];decide),e];rfl
theorem RegR.at_ (S:Sq1 wr es rs) (U:Unl rs) {q:Rc} {f:Nat} (hq:q∈rs) (hf:q.e=some f) (h:RegR rs q f):(sinceF rs (intV q.a)=some (-1)/\intV q.a=0/\∀w∈rs,isW w=true->∀e,w.e=some e->¬ e < q.b)\/
  ∃w∈rs,isW w=true/\intV w.x=intV q.a/\sinceF rs (intV q.a)=some (w.b:Int)/\w.b < f/\∀w'∈rs,isW w'=true->(∃e,w'.e=some e/\e < q.b)->w'.b<=w.b:=by
 rcases h with ⟨w,c,d,g,lt,h⟩|⟨h0,h⟩|⟨w,c,d,g,⟨e,he,lt⟩,h⟩
 ·refine .inr ⟨w,c,d,g,by rw [<-g];exact U.since c d,lt,λ w' i j ⟨e,he,l⟩=>?_⟩;have m:=(S.wh c d).1.trans (S.wh i j).1.symm;rcases S.hand c i m with z|⟨_,k,hk,z⟩|z
  ·rw [z];exact C0 _
  ·have:=h k hk;have:=S.E _ i e he
   lia
  ·exact A3 z.1
 ·exact .inl ⟨by rw [h0];exact U.since0,h0,h⟩
 ·refine .inr ⟨w,c,d,g,by rw [<-g];exact U.since c d,?_,h⟩;have:=S.E _ c e he;have:=S.E _ hq f hf
  lia
theorem rk_lt (S:Sq1 wr es rs) (U:Unl rs) (l63 :∀r∈rs,r.b < 63) (A:AllR RegR rs) (B :∀i j,¬ Bad rs i j) {a b:Nat} (h:z0k rs a b=true) {r q:Rc} (ha:rs[a]? = some r) (hb:rs[b]? = some q) (ib:isW q=true\/q.e.isSome=true):rkR rs r < rkR rs q:=by
 obtain ⟨H,F,e,o,u,k,lt⟩:=ah_of h;rw [ha] at o;rw [hb] at u;cases o;cases u;have d:=v0 ha;have g:=v0 hb;have M:=S.E _ d e k;have N:=l63 _ d;have L:=l63 _ g;have m :∀{x:Rc},x∈rs->isW x=false->x.v=.str "read":=λ D C=>(rd_of (S.G _ D) C).1;cases ir:isW r with
 | true=>
  rw [rk_w ir];cases iq:isW q with
  | true=>rw [rk_w iq];lia
  | false=>
   obtain ⟨f,l⟩:=Option.isSome_iff_exists.mp (ib.resolve_left (by rw [iq];decide));rcases (A q g f (m g iq) l).at_ S U g l with ⟨_,_,z⟩|⟨w,_,_,_,c,_,z⟩
   ·exact absurd lt (z r d ir e k)
   ·rw [rk_r iq c];have:=z r d ir ⟨e,k,lt⟩
    lia
 | false=>
  have p:=A r d e (m d ir) k;cases iq:isW q with
  | true=>
   rw [rk_w iq];rcases p.at_ S U d k with ⟨c,_⟩|⟨w,_,_,_,c,z,_⟩
   ·rw [rk_r ir c];lia
   ·rw [rk_r ir c];lia
  | false=>
   obtain ⟨f,l⟩:=Option.isSome_iff_exists.mp (ib.resolve_left (by rw [iq];decide));obtain ⟨s,n,I⟩ :∃s,sinceF rs (intV r.a)=some s/\-1<=s:=by
    rcases p.at_ S U d k with ⟨c,_⟩|⟨w,_,_,_,c,_⟩
    ·exact ⟨_,c,Int.le_refl _⟩
    ·exact ⟨_,c,by lia⟩
   obtain ⟨t,y,J⟩ :∃t,sinceF rs (intV q.a)=some t/\-1<=t:=by
    rcases (A q g f (m g iq) l).at_ S U g l with ⟨c,_⟩|⟨w,_,_,_,c,_⟩
    ·exact ⟨_,c,Int.le_refl _⟩
    ·exact ⟨_,c,by lia⟩
   have K:¬ t < s:=λ z=>B a b ⟨r,q,e,f,s,t,ha,hb,m d ir,m g iq,k,l,lt,n,y,z⟩;rw [rk_r ir n,rk_r iq y];have:(s + 1).toNat<=(t + 1).toNat:=by lia
   lia
theorem least (P:Nat->Prop) (f:Nat->Nat) :∀(k n:Nat),P n->f n<=k->∃m,P m/\∀i,P i->f m<=f i
 | 0,n,h,l=>⟨n,h,λ i _=>by lia⟩
 | k + 1,n,h,l=>by
  by_cases z :∃i,P i/\f i<=k
  ·obtain ⟨i,a,z⟩:=z;exact least P f k i a z
  ·exact ⟨n,h,λ i a=>Z6 λ y=>z ⟨i,a,by lia⟩⟩
structure OnW (rs:List Rc) (pl:Pl):Prop where
 i :∀x∈pl.1,Ipt rs x
 d :∀x q y r,x∈pl.1->rs[x]? = some q->Ipt rs y->rs[y]? = some r->rkR rs r < rkR rs q->y∈pl.1
 c :∃t,Cur rs pl.1 pl.2 t
theorem OnW.step (S:Sq1 wr es rs) (U:Unl rs) (l63 :∀r∈rs,r.b < 63) (A:AllR RegR rs) (B :∀i j,¬ Bad rs i j) {pl:Pl} (h:OnW rs pl) (m :∃y,Ipt rs y/\y∉pl.1) :∃s∈nxT rs pl,OnW rs s.2.2:=by
 obtain ⟨y0,h0⟩:=m;obtain ⟨y,⟨K,Y⟩,mn⟩:=least (λ y=>Ipt rs y/\y∉pl.1) (λ y=>match rs[y]? with|some r=>rkR rs r|none=>0) _ y0 h0 (C0 _);obtain ⟨r,n,X⟩:=K;have K:Ipt rs y:=⟨r,n,X⟩
 have F:=v0 n;have N :∀x q,rs[x]? = some q->Ipt rs x->rkR rs q < rkR rs r->x∈pl.1:=λ x q f ix lt=>by
  by_cases z:x∈pl.1
  ·exact z
  ·have:=mn x ⟨ix,z⟩;rw [n,f] at this;exact absurd (show rkR rs r<=rkR rs q from this) (Nat.not_le_of_lt lt)
 have J :∀x q,x∈pl.1->rs[x]? = some q->¬ rkR rs r < rkR rs q:=λ x q D f lt=>Y (h.d x q y r D f K n lt);have Z:cP rs pl.1 y=true:=cP_iff.mpr ⟨Y,λ a P=>by
  obtain ⟨Q,_,e,l,_,E,_⟩:=ah_of P;exact N a Q l ⟨Q,l,.inr (by rw [E];rfl)⟩ (rk_lt S U l63 A B P l n X),λ b hb T=>by
  obtain ⟨q,f,C⟩:=h.i b T;exact J b q T f (rk_lt S U l63 A B hb n f C)⟩
 obtain ⟨t,M⟩:=h.c;have ac:r.e=none\/ansR r.v pl.2=r.a:=by
  cases E:r.e with
  | none=>exact .inl rfl
  | some e=>
   refine .inr ?_;cases iw:isW r with
   | true=>rw [an_w iw];exact ((wr_of (S.G _ F) iw).2.2.2 e E).symm
   | false=>
    have g:=rd_of (S.G _ F) iw;rw [an_r iw,g.2.2 e E];congr 1;rcases (A r F e g.1 E).at_ S U F E with ⟨H,z0,_⟩|⟨w,hw,iw',ex,H,_⟩
    ·rcases M with ⟨l,_⟩|⟨m,w,l,u,o,_⟩
     ·rw [l,z0]
     ·refine absurd ?_ (J m w l u);rw [rk_r iw H,rk_w o];have:=l63 _ F
      lia
    ·obtain ⟨k,I⟩:=List.mem_iff_getElem?.mp hw;have V:=N k w I ⟨w,I,.inl iw'⟩ (by rw [rk_r iw H,rk_w iw'];lia);rcases M with ⟨_,_,o⟩|⟨m,w',l,u,o,h4,_,h6⟩
     ·have:=o k w V I;rw [iw'] at this;cases this
     ·have a:=h6 k w V I iw';have b:w'.b<=w.b:=by
       have:=J m w' l u;rw [rk_r iw H,rk_w o] at this;have:=l63 _ F
       lia
      rw [h4,S.same_b (v0 u) hw (S8 b a),ex]
 refine ⟨_,mem_nxT.mpr ⟨y,r,n,Z,ac,rfl⟩,λ x D=>?_,λ x q z p D f R W lt=>?_,?_⟩
 ·rcases mem_stq.mp D with z|z
  ·exact h.i x z
  ·rw [z];exact K
 ·rcases mem_stq.mp D with e|e
  ·exact mem_stq.mpr (.inl (h.d x q z p e f R W lt))
  ·rw [e,n] at f;cases f;exact mem_stq.mpr (.inl (N z p W R lt))
 ·cases iw:isW r with
  | true=>
   refine ⟨r.b,.inr ⟨y,r,mem_stq.mpr (.inr rfl),n,iw,st_w iw,rfl,λ x q D f C=>?_⟩⟩;rcases mem_stq.mp D with e|e
   ·have:=J x q e f;rw [rk_w iw,rk_w C] at this
    lia
   ·rw [e,n] at f;cases f;exact C0 _
  | false=>
   rw [st_r iw];refine ⟨t,?_⟩;rcases M with ⟨l,u,o⟩|⟨m,w,l,u,o,h4,h5,h6⟩
   ·refine .inl ⟨l,u,λ O q L f=>?_⟩;rcases mem_stq.mp L with z|z
    ·exact o O q z f
    ·rw [z,n] at f;cases f;exact iw
   ·refine .inr ⟨m,w,mem_stq.mpr (.inl l),u,o,h4,h5,λ O q L f C=>?_⟩;rcases mem_stq.mp L with z|z
    ·exact h6 O q z f C
    ·rw [z,n] at f;cases f;rw [iw] at C;cases C
theorem way_on (S:Sq1 wr es rs) (U:Unl rs) (l63 :∀r∈rs,r.b < 63) (A:AllR RegR rs) (B :∀i j,¬ Bad rs i j) :∀(k:Nat) (o:List Oa) (pl:Pl),Wk rs o pl->OnW rs pl->rs.length<=pl.1.length + k->∃o pl,Wk rs o pl/\FullP rs pl
 | k,o,pl,w,h,l=>by
  by_cases m :∃y,Ipt rs y/\y∉pl.1
  ·obtain ⟨s,a,f⟩:=h.step S U l63 A B m;have d:=PlOk.of w;have g:=(d.next s a).2
   match k,l with
   | 0,l=>
    have:=z3j _ _ (PlOk.of (w.snoc a)).nd (PlOk.of (w.snoc a)).lt
    lia
   | k + 1,l=>exact way_on S U l63 A B k _ _ (w.snoc a) f (by lia)
  ·refine ⟨o,pl,w,λ n r e c=>?_⟩;by_cases z:n∈pl.1
   ·exact z
   ·exact absurd ⟨n,⟨r,e,.inr c⟩,z⟩ m
theorem way_of (S:Sq1 wr es rs) (U:Unl rs) (l63 :∀r∈rs,r.b < 63) (A:AllR RegR rs) (B :∀i j,¬ Bad rs i j) :∃o pl,Wk rs o pl/\FullP rs pl:=
 way_on S U l63 A B rs.length [] ([],0) .nil ⟨λ _ h=>absurd h B0,λ _ _ _ _ h=>absurd h B0,-1,.inl ⟨rfl,rfl,λ _ _ h=>absurd h B0⟩⟩ (Nat.le_add_left _ _)
theorem wk_len {o:List Oa} {pl:Pl} (w:Wk rs o pl):o.length=pl.1.length:=by
 induction w with
 | nil=>rfl
 | snoc w hs ih=>rw [D0,((PlOk.of w).next _ hs).2,ih];rfl
theorem wk_g {o:List Oa} {pl:Pl} (w:Wk rs o pl) :∃g:Nat->Pl,g 0=([],0)/\g o.length=pl/\∀i x,o[i]? = some x->∃s∈nxT rs (g i),x=(s.1,s.2.1)/\g (i + 1)=s.2.2:=by
 induction w with
 | nil=>exact ⟨λ _=>([],0),rfl,rfl,λ i x h=>by cases h⟩
 | @snoc o pl s w hs ih=>
  obtain ⟨g,l,m,j⟩:=ih;obtain ⟨a,b,c⟩ :∃a:Nat->Pl,(∀i,i<=o.length->a i=g i)/\a (o.length + 1)=s.2.2:=⟨λ i=>if i<=o.length then g i else s.2.2,λ i h=>if_pos h,if_neg (by lia)⟩
  have p:(o++[(s.1,s.2.1)]).length=o.length + 1:=D0;refine ⟨a,by rw [b 0 (j2 _),l],by rw [p,c],λ i x h=>?_⟩;rcases r6 i o.length with z|z
  ·rw [C1 z] at h;obtain ⟨n,d,k,f⟩:=j i x h;exact ⟨n,by rw [b i (by lia)];exact d,k,by rw [b _ z];exact f⟩
  ·rw [E1 z] at h;have e:i=o.length:=by
    have:=(List.getElem?_eq_some_iff.mp h).1;simp only [D1,P3] at this
    lia
   subst e;rw [A5] at h;cases h;exact ⟨s,by rw [b _ (C0 _),m];exact hs,rfl,c⟩
theorem TW.nm {nm:Str} {os:List (Int×Bool)} {us:List Int} (h:TW nm wr es os us) :∀e∈es,∀k n v x,e=.beg k n v x->n=.str nm:=by
 induction h with
 | nil=>exact λ _ h=>absurd h B0
 | wri _ _ _ _ ih=>exact λ e a k n v x z=>(List.mem_append.mp a).elim (λ y=>ih e y k n v x z) λ y=>by rw [List.mem_singleton.mp y] at z;cases z;rfl
 | rd _ _ ih=>exact λ e a k n v x z=>(List.mem_append.mp a).elim (λ y=>ih e y k n v x z) λ y=>by rw [List.mem_singleton.mp y] at z;cases z;rfl
 | fin _ _ _ _ ih=>exact λ e a k n v x z=>(List.mem_append.mp a).elim (λ y=>ih e y k n v x z) λ y=>by rw [List.mem_singleton.mp y] at z;cases z
theorem ze0 :∀(es:List Ev) {i:Nat} {rs:List Rc},(∀r∈rs,r.e=none->r.a=.non)->∀r∈dAll i rs es,r.e=none->r.a=.non
 | [],_,_,h=>h
 | e :: es,i,rs,h=>ze0 es (i:=i + 1) (rs:=dstep i rs e) λ r c b=>by
  cases e with
  | beg k n v x=>
   rcases List.mem_append.mp (show r∈rs++[_] from c) with z|z
   ·exact h r z b
   ·rw [List.mem_singleton.mp z]
  | fin k a=>
   unfold dstep at c;dsimp only at c;split at c
   ·obtain ⟨m,d⟩:=List.mem_iff_getElem?.mp c;rw [V1] at d;obtain ⟨q,f,z⟩:=Option.map_eq_some_iff.mp d;split at z
    ·rw [<-z] at b;cases b
    ·rw [<-z] at b⊢;exact h q (v0 f) b
   ·exact h r c b
theorem TW.gd {nm:Str} {os:List (Int×Bool)} {us:List Int} (h:TW nm wr es os us) (ub:UB us):(∀r∈dAll 0 [] es,GD nm r)/\Unl (dAll 0 [] es):=by
 have T:=h.rs;have u:Unl (dAll 0 [] es):=⟨by rw [T.u];exact h.us.1,by rw [T.u];exact h.us.2⟩
 have R:=h.evr;refine ⟨λ r b=>⟨h.nm _ (v0 (R.a r b)) _ _ _ _ rfl,?_,?_⟩,u⟩
 ·rcases T.g r b with g|g
  ·exact .inl ⟨g.1,g.2.1⟩
  ·refine .inr ⟨g.1,_,g.2.2.1,ub _ ?_⟩;rw [<-T.u];exact List.mem_map.mpr ⟨r,List.mem_filter.mpr ⟨b,g.w⟩,rfl⟩
 ·cases he:r.e with
  | none=>exact .inl ⟨rfl,ze0 es (λ _ z=>absurd z B0) r b he⟩
  | some e=>
   refine .inr ⟨rfl,?_⟩;rcases T.g r b with g|g
   ·exact .inr ⟨_,g.2.2 e he⟩
   ·exact .inl (g.2.2.2 e he)
end
section
variable {P:Program} {w:Q0} {mg:Str->Option Value} {base:Heap}
theorem good_v {wr:Int} {r:Rc} (h:RdG r\/WrG wr r):r.v=.str (vbS (isW r)):=by
 rcases h with g|g
 ·rw [g.w];exact g.1
 ·rw [g.w];exact g.1
theorem TW.evv {nm:Str} {wr:Int} {es:List Ev} {os:List (Int×Bool)} {us:List Int} (h:TW nm wr es os us) :∀e∈es,EvV e:=by
 induction h with
 | nil=>exact λ _ h=>absurd h B0
 | wri _ _ _ _ ih=>exact λ e a=>(List.mem_append.mp a).elim (ih e) λ z=>by rw [List.mem_singleton.mp z];exact ⟨_,rfl⟩
 | rd _ _ ih=>exact λ e a=>(List.mem_append.mp a).elim (ih e) λ z=>by rw [List.mem_singleton.mp z];exact ⟨_,rfl⟩
 | fin _ _ _ _ ih=>exact λ e a=>(List.mem_append.mp a).elim (ih e) λ z=>by rw [List.mem_singleton.mp z];exact trivial
structure EvsL (K:d0) (H:Hp) (te:Addr) (wr:Int) (es:List Ev) (ys:List V):Prop where
 s:SqT K H te ys
 a:All2 (EvAt K H) es ys
 n:es.length<=63
 w:dWf 0 [] es
 v :∀e∈es,EvV e
 g :∀r∈dAll 0 [] es,RdG r\/WrG wr r
theorem EvsL.same {K:d0} {H H':Hp} {te:Addr} {wr:Int} {es:List Ev} {ys:List V} (s:Same H H') (h:EvsL K H te wr es ys):EvsL K H' te wr es ys:=⟨s.seqT h.s,z02 (λ _ _ z=>EvAt.tups (.of s) z) h.a,h.n,h.w,h.v,h.g⟩
def z1s (K:d0):Sp:=λ vs H Q _=>∃(te p:Addr) (wr:Int) (es:List Ev) (ys:List V) (i j:Nat),vs=[.ref te,.ref p]/\EvsL K H te wr es ys/\H p=some (.tup [.int (i:Nat),.int (j:Nat)])/\Bad (dAll 0 [] es) i j/\∀H',Same H H'->Q (.bl true) H'
theorem z4m (T:TX (kx w) mg) (c0:Ca P w mg base "_law_deeds" ["events"] 1 (z2c (kx w))):Fo P w mg base CX0 2 474 y08 ["events","turn"] (z1s (kx w)):=by
 refine (z14 w.params).ok sc__law_turn_right (λ vs H Q E h=>?_) (λ a9 A a8 s H vs Q E I h=>?_)
 ·obtain ⟨S,p,wr,D,Z,i,j,rfl,_⟩:=h;rfl
 ·obtain ⟨S,p,wr,D,Z,i,j,rfl,c,Y,a0,q⟩:=h;refine ⟨_,(z01 (ps_set (i:=2) sc__law_turn_right.nd rfl (O0 rfl) (pe_cal c0 (I.mono (by decide)) rfl (z00 (pv 0) pa_nil)))
   (z01 (ps_set (i:=3) sc__law_turn_right.nd rfl (O0 rfl) (zay (z7f pe_int (pe_un un_neg pe_int) zbp) rfl rfl (by simp) (by decide)))
   (z01 (ps_for L1 rfl (z0t (pv 2)) (pg_lst rfl (z07 (z0b (i:=4) sc__law_turn_right.nd rfl (O0 rfl)) (z07 (z0b (i:=5) sc__law_turn_right.nd rfl (O0 rfl)) (z07 (z0b (i:=6) sc__law_turn_right.nd rfl (O0 rfl)) (z07 (z0b (i:=7) sc__law_turn_right.nd rfl (O0 rfl)) (z07 (z0b (i:=8) sc__law_turn_right.nd rfl (O0 rfl)) z0j))))))
   (z03 (ps_if (z08 opEq (pv 4) pe_str (nomark _))
   (z03 (z3t (hu_of I) (pv 3) (pv 5) (pv 7) rfl))
   z0d)))
   (z01 (ps_set (i:=9) sc__law_turn_right.nd rfl (O0 rfl) (pe_ix ix_seq (pv 2) (pe_ix ix_seq (pv 1) pe_int (λ _ _=>rfl)) (λ _ _=>rfl)))
   (z01 (ps_set (i:=10) sc__law_turn_right.nd rfl (O0 rfl) (pe_ix ix_seq (pv 2) (pe_ix ix_seq (pv 1) pe_int (λ _ _=>rfl)) (λ _ _=>rfl)))
   (z01 (ps_if (PW.pt (pw_or (z08 opNe (pe_ix ix_seq (pv 9) pe_int (λ _ _=>rfl)) pe_str (nomark _)) (pw_or (z08 opNe (pe_ix ix_seq (pv 10) pe_int (λ _ _=>rfl)) pe_str (nomark _)) (pw_or (z08 op_isN (pe_ix ix_seq (pv 9) pe_int (λ _ _=>rfl)) pe_non (nomark _)) (pw_or1 (z08 op_isN (pe_ix ix_seq (pv 10) pe_int (λ _ _=>rfl)) pe_non (nomark _)))))))
   (z03 (ps_ret pe_bl))
   z0d)
   (z03 (ps_ret (pe_and (z22 op_lt (pe_ix ix_seq (pv 9) pe_int (λ _ _=>rfl)) (pe_ix ix_seq (pv 10) pe_int (λ _ _=>rfl)) (nomark _)) (pe_one (z22 op_lt (z58 (hu_of I) (pv 3) (pe_ix ix_seq (pv 10) pe_int (λ _ _=>rfl)) (λ _ _=>rfl)) (z58 (hu_of I) (pv 3) (pe_ix ix_seq (pv 9) pe_int (λ _ _=>rfl)) (λ _ _=>rfl)) (nomark _)))))))))))),?_⟩
  refine z0f ?_;refine ⟨_,rfl,S,D,Z,rfl,c.s,c.a,by have:=c.n;lia,c.w,c.v,λ l M C s2 O F=>?_⟩;refine g_name ?_;have G:=c.g;have a7:(dAll 0 [] D).length<=63:=K0 z2t (by simpa using c.n);generalize hrs:dAll 0 [] D=rs at G a7 F a0;have lz:M.length=rs.length:=z05 F;refine z0f ?_;intro d W;refine ⟨_,rfl,upd_same,[(.inl 0,.int (-1))],rfl,(show (1:Nat)<=15 by decide),?_⟩;have R:Same C (upd (upd C d (.dK [])) d (.dK (mergeK [] [(.inl 0,.int (-1))]))):=Same.keep (Same.upd W) W;have e3:upd (upd C d (.dK [])) d (.dK (mergeK [] [(.inl 0,.int (-1))])) d=some (.dK [(.inl 0,.int (-1))]):=upd_same;generalize upd (upd C d (.dK [])) d (.dK (mergeK [] [(.inl 0,.int (-1))]))=H3 at R e3⊢;refine g_name ?_;refine ⟨_,rfl,l,rfl,⟨_,SqL.of (R _ _ O)⟩,?_⟩;refine z1g (K:=KX w.params) (a:=l) (xs:=M) (λ i σ U=>Same C U/\(∃kvs,U d=some (.dK kvs)/\kvs.length<=i + 1/\∀x,valV kvs (.inl x)=(sinceF (rs.take i) x).map V.int)/\∃x4 x5 x6 x7 x8,σ=[some (.ref S),some (.ref p),some (.ref l),some (.ref d),x4,x5,x6,x7,x8,none,none])
   ⟨R,⟨_,e3,C0 _,λ x=>?_⟩,_,_,_,_,_,rfl⟩ (λ _ σ U _ h=>SqL.of (h.1 _ _ O)) ?_ ?_
  ·rw [X8,z94];by_cases z:x=0
   ·rw [if_pos z,z];exact z0n rfl
   ·rw [if_neg z,z0o (λ e=>z (O2 e).symm)];rfl
  ·rintro i y σ H4 hy ⟨s4,⟨kvs,ed,lk,wk⟩,x4,x5,x6,x7,x8,rfl⟩;obtain ⟨r,o,p,rfl,Y⟩:=z0c F hy;have hi:i < 63:=by have:=(List.getElem?_eq_some_iff.mp o).1;lia
   refine ⟨p,_,rfl,SqL.of (s4 _ _ Y),rfl,_,_,rfl,_,_,rfl,_,_,rfl,_,_,rfl,_,_,rfl,rfl,?_⟩;have hg:=G r (v0 o);refine ⟨_,rfl,by rw [good_v hg];rfl,_,rfl,?_⟩;cases hw:isW r with
   | false=>refine iteN (λ z=>by rw [isW,z] at hw;cases hw) ?_;refine ⟨s4,⟨kvs,ed,by lia,λ x=>?_⟩,_,_,_,_,_,rfl⟩;rw [z2w o,z2u,if_neg (λ z=>by rw [hw] at z;cases z.1)];exact wk x
   | true=>
    refine iteP hw ?_;have g:WrG wr r:=wr_of hg hw;have xa:xaV r=.int (intV r.x):=by unfold xaV;rw [if_neg (λ z=>z0z (z.1.symm.trans g.1))];exact g.2.2.1
    refine ⟨_,rfl,_,rfl,_,congrArg (λ z=>some (some z)) xa,d,_,rfl,DPut.k (k:=.inl (intV r.x)) ed (U0 (m:=100) (by lia) (by decide)),?_⟩;refine ⟨Same.keep s4 W,⟨_,upd_same,K0 z5m (by lia),λ x=>?_⟩,_,_,_,_,_,rfl⟩;rw [z2w o,z2u,z4j];by_cases z:x=intV r.x
    ·rw [if_pos (show (Sum.inl x:Key)=Sum.inl (intV r.x) by rw [z]),if_pos ⟨hw,z⟩];rfl
    ·rw [if_neg (show ¬ (Sum.inl x:Key)=Sum.inl (intV r.x) from λ e=>z (O2 e)),if_neg (λ e=>z e.2)];exact wk x
  rintro σ H4 ⟨s4,⟨kvs,ed4,lk,wk⟩,x4,x5,x6,x7,x8,rfl⟩;rw [lz,S6] at wk;have a3:=s4 _ _ O;have a1:=z02 (λ _ _ z=>ActAt.same s4 z) F;have a4:=(s2.trans s4) _ _ Y;obtain ⟨r,u,e,f,s0,t0,o,a2,rv,qv,N,X,b0,hs,ht,a6⟩:=a0;obtain ⟨y1,z1,J,rfl,B⟩:=z4z a1 o;obtain ⟨y2,z2,L,rfl,R2⟩:=z4z a1 a2;have g1:=rd_of (G r (v0 o)) (rd_no rv);have g2:=rd_of (G u (v0 a2)) (rd_no qv);have xr:xaV r=.int (intV r.a):=by unfold xaV;rw [if_pos ⟨g1.1,by rw [N];rfl⟩];exact g1.2.2 e N
  have xq:xaV u=.int (intV u.a):=by unfold xaV;rw [if_pos ⟨g2.1,by rw [X];rfl⟩];exact g2.2.2 f X
  rw [rv,xr,N] at B;rw [qv,xq,X] at R2;have a5 :∀{x t:Int},sinceF rs x=some t->DGet H4 d (.int x) (some (.int t)):=λ {x t} h=>by have:=DGet.k (k:=.inl x) ed4;rw [wk x,h] at this;exact this
  refine t_nx (z0f ?_);refine ⟨_,rfl,_,rfl,.inr (.inl ⟨p,_,0,.int (i:Nat),rfl,rfl,SqT.of a4,z04 (j:=0) rfl,.inl ⟨l,M,_,_,rfl,rfl,SqL.of a3,z04 z1,?_⟩⟩)⟩;refine g_name (z0f ?_);refine ⟨_,rfl,_,rfl,.inr (.inl ⟨p,_,1,.int (j:Nat),rfl,rfl,SqT.of a4,z04 (j:=1) rfl,.inl ⟨l,M,_,_,rfl,rfl,SqL.of a3,z04 z2,?_⟩⟩)⟩;refine g_name (sq_if ?_);refine ⟨_,rfl,.inl ⟨J,_,0,.str "read",rfl,rfl,SqL.of B,z04 (j:=0) rfl,rfl,_,rfl,iteK ?_⟩⟩;refine ⟨_,rfl,.inl ⟨L,_,0,.str "read",rfl,rfl,SqL.of R2,z04 (j:=0) rfl,rfl,_,rfl,iteK ?_⟩⟩;refine ⟨_,rfl,.inl ⟨J,_,4,.int (e:Nat),rfl,rfl,SqL.of B,z04 (j:=4) rfl,rfl,_,rfl,iteN (by simp) ?_⟩⟩;refine ⟨_,rfl,.inl ⟨L,_,4,.int (f:Nat),rfl,rfl,SqL.of R2,z04 (j:=4) rfl,rfl,_,rfl,iteN (by simp) ?_⟩⟩;refine t_nx (sq_ret ?_);refine ⟨_,rfl,.inl ⟨J,_,4,.int (e:Nat),rfl,rfl,SqL.of B,z04 (j:=4) rfl,_,rfl,.inl ⟨L,_,3,.int (u.b:Nat),rfl,rfl,SqL.of R2,z04 (j:=3) rfl,_,_,rfl,rfl,_,rfl,iteP (decide_eq_true (by lia)) ?_⟩⟩⟩;refine ⟨_,rfl,_,rfl,.inl ⟨L,_,1,.int (intV u.a),rfl,rfl,SqL.of R2,z04 (j:=1) rfl,d,_,rfl,a5 ht,?_⟩⟩;refine ⟨_,rfl,_,rfl,.inl ⟨J,_,1,.int (intV r.a),rfl,rfl,SqL.of B,z04 (j:=1) rfl,d,_,rfl,a5 hs,_,_,rfl,rfl,?_⟩⟩;rw [decide_eq_true a6];exact q _ (s2.trans s4)
structure WyS (rs:List Rc) (o:List Oa) (g:Nat->Pl):Prop where
 z:g 0=([],0)
 s :∀(i:Nat) x,o[i]? = some x->∃r,rs[x.1]? = some r/\cP rs (g i).1 x.1=true/\(r.e=none\/ansR r.v (g i).2=r.a)/\x.2=ansR r.v (g i).2/\(g (i + 1)).2=nxtR r.v r.x (g i).2/\∀y,y∈(g (i + 1)).1↔y∈(g i).1\/y=x.1
 m :∀i,i<=o.length->∀y,y∈(g i).1↔∃j a,j < i/\o[j]? = some (y,a)
theorem wy_of {rs:List Rc} {o:List Oa} {pl:Pl} (w:Wk rs o pl) :∃g,WyS rs o g/\g o.length=pl:=by
 obtain ⟨g,d,q,m⟩:=wk_g w;have f :∀(i:Nat) x,o[i]? = some x->∃r,rs[x.1]? = some r/\cP rs (g i).1 x.1=true/\(r.e=none\/ansR r.v (g i).2=r.a)/\x.2=ansR r.v (g i).2/\(g (i + 1)).2=nxtR r.v r.x (g i).2/\∀y,y∈(g (i + 1)).1↔y∈(g i).1\/y=x.1:=λ i x b=>by obtain ⟨s,p,rfl,e⟩:=m i x b;obtain ⟨n,r,l,k,t,rfl⟩:=mem_nxT.mp p;exact ⟨r,l,k,t,rfl,by rw [e];rfl,λ y=>by rw [e];exact mem_stq⟩
 refine ⟨g,⟨d,f,λ i=>?_⟩,q⟩;induction i with
 | zero=>exact λ _ y=>⟨λ h=>(by rw [d] at h;cases h),λ ⟨_,_,h,_⟩=>absurd h (U2 _)⟩
 | succ i ih=>
  intro c y;have b:o[i]? = some o[i]:=v1 c;obtain ⟨_,_,_,_,_,_,h⟩:=f i _ b;rw [h y,ih (Nat.le_of_succ_le c) y];constructor
  ·rintro (⟨j,a,h1,h2⟩|h)
   ·exact ⟨j,a,Q1 h1,h2⟩
   ·exact ⟨i,o[i].2,U1 i,by rw [b,h]⟩
  ·rintro ⟨j,a,h1,h2⟩;rcases Nat.lt_succ_iff_lt_or_eq.mp h1 with z|z
   ·exact .inl ⟨j,a,z,h2⟩
   ·subst z;rw [b] at h2;exact .inr (by rw [P1 h2])
structure Plc (o:List Oa) (i:Nat) (kvs:List (Key×V)):Prop where
 a :∀j n a,j < i->o[j]? = some (n,a)->valV kvs (.inl (n:Int))=some (.int (j:Nat))
 b :∀x:Int,(∀j n a,j < i->o[j]? = some (n,a)->x≠(n:Int))->valV kvs (.inl x)=none
 l:kvs.length<=i
theorem Plc.put {rs:List Rc} {o:List Oa} {g:Nat->Pl} (W:WyS rs o g) {i:Nat} {kvs:List (Key×V)} {x:Oa} (h:Plc o i kvs) (hx:o[i]? = some x):valV kvs (.inl (x.1:Int))=none/\Plc o (i + 1) (putK kvs (.inl (x.1:Int)) (.int (i:Nat))):=by
 obtain ⟨r,_,p,_⟩:=W.s i x hx;have q:=(cP_iff.mp p).1;have f :∀j n a,j < i->o[j]? = some (n,a)->(x.1:Int)≠(n:Int):=λ j n a d c e=>q ((W.m i (A3 (List.getElem?_eq_some_iff.mp hx).1) x.1).mpr ⟨j,a,d,by rw [c,show x.1=n by lia]⟩);refine ⟨h.b _ f,λ j n a d c=>?_,λ y k=>?_,K0 z5m (Nat.succ_le_succ h.l)⟩
 ·rw [z4j];rcases Nat.lt_succ_iff_lt_or_eq.mp d with z|z
  ·rw [if_neg λ e=>f j n a z c (O2 e).symm];exact h.a j n a z c
  ·subst z;rw [hx] at c;cases c;rw [if_pos rfl]
 ·rw [z4j,if_neg λ e=>k i x.1 x.2 (U1 i) hx (O2 e)];exact h.b y λ j n a d c=>k j n a (Q1 d) c
def z1i (K:d0):Sp:=λ vs H Q _=>∃(te lo:Addr) (wr:Int) (es:List Ev) (ys:List V) (o:List Oa) (xs:List V) (pl:Pl),vs=[.ref te,.ref lo]/\EvsL K H te wr es ys/\H lo=some (.lst xs)/\All2 (OaAt H) o xs/\Wk (dAll 0 [] es) o pl/\FullP (dAll 0 [] es) pl/\∀H',Same H H'->Q (.bl true) H'
theorem z3p (T:TX (kx w) mg) (c0:Ca P w mg base "_law_deeds" ["events"] 1 (z2c (kx w))):Fo P w mg base CX0 2 467 y07 ["events","order"] (z1i (kx w)):=by
 refine (z0x w.params).ok sc__law_order_right (λ vs H Q E h=>?_) (λ b8 A b7 s H vs Q E J h=>?_)
 ·obtain ⟨C,lo,wr,es,ys,o,xs,pl,rfl,_⟩:=h;rfl
 ·obtain ⟨C,lo,wr,es,ys,o,xs,pl,rfl,D,a7,ao,Y,full,q⟩:=h;refine ⟨_,(z01 (ps_set (i:=2) sc__law_order_right.nd rfl (O0 rfl) (pe_cal c0 (J.mono (by decide)) rfl (z00 (pv 0) pa_nil)))
   (z01 (ps_set (i:=3) sc__law_order_right.nd rfl (O0 rfl) pe_int)
   (z01 (ps_set (i:=4) sc__law_order_right.nd rfl (O0 rfl) z7j)
   (z01 (ps_for L1 rfl (z35 rfl (T.no (z0m _)) (z00 (pv 1) pa_nil)) (pg_tup rfl (z07 (z0b (i:=5) sc__law_order_right.nd rfl (O0 rfl)) (z07 (z0b (i:=6) sc__law_order_right.nd rfl (O0 rfl)) z0j)))
   (z01 (ps_asg (pv 6) (pg_tup rfl (z07 (z0b (i:=7) sc__law_order_right.nd rfl (O0 rfl)) (z07 (z0b (i:=8) sc__law_order_right.nd rfl (O0 rfl)) z0j))))
   (z01 (ps_if (PW.pt (pw_or (pt_cmp (pc_din (hu_of J) (pv 7) (pv 4)) (by with_unfolding_all rfl)) (pw_or1 (pt_not (zhj op_le op_lt pe_int (pv 7) (z0g z3s rfl (T.no (n_len _)) K5 (z00 (pv 2) pa_nil)))))))
   (z03 (ps_ret pe_bl))
   z0d)
   (z01 (z3t (hu_of J) (pv 4) (pv 7) (pv 5) rfl)
   (z01 (ps_asg (pe_ix ix_seq (pv 2) (pv 7) (λ _ _=>rfl)) (pg_lst rfl (z07 (z0b (i:=9) sc__law_order_right.nd rfl (O0 rfl)) (z07 (z0b (i:=10) sc__law_order_right.nd rfl (O0 rfl)) (z07 (z0b (i:=11) sc__law_order_right.nd rfl (O0 rfl)) (z07 (z0b (i:=12) sc__law_order_right.nd rfl (O0 rfl)) (z07 (z0b (i:=13) sc__law_order_right.nd rfl (O0 rfl)) z0j)))))))
   (z03 (ps_if (z08 opEq (pv 9) pe_str (nomark _))
   (z03 (ps_set (i:=3) sc__law_order_right.nd rfl (O0 rfl) (pv 10)))
   (z03 (ps_if (PW.pt (pw_or (PW.pt (pw_and (z08 z45 (pv 13) pe_non (nomark _)) (z2i (z08 opNe (pv 10) (pv 3) (nomark _))))) (pw_or1 (z08 opNe (pv 8) (pv 3) (nomark _)))))
   (z03 (ps_ret pe_bl))
   z0d)))))))))
   (z01 (ps_for L1 rfl (z35 rfl (T.no (z0m _)) (z00 (pv 2) pa_nil)) (pg_tup rfl (z07 (z0b (i:=7) sc__law_order_right.nd rfl (O0 rfl)) (z07 (z0b (i:=14) sc__law_order_right.nd rfl (O0 rfl)) z0j)))
   (z01 (ps_if (PW.pt (pw_and (z08 z45 (pe_ix ix_seq (pv 14) pe_int (λ _ _=>rfl)) pe_non (nomark _)) (z2i (pt_cmp (zgd (hu_of J) (pv 7) (pv 4)) (by with_unfolding_all rfl)))))
   (z03 (ps_ret pe_bl))
   z0d)
   (z03 (ps_for L1 rfl (zfu rfl (T.no (zgm _)) (z00 (pe_op opAdd (pv 7) pe_int) (z00 (z0g z3s rfl (T.no (n_len _)) K5 (z00 (pv 2) pa_nil)) pa_nil))) (z0b (i:=15) sc__law_order_right.nd rfl (O0 rfl))
   (z03 (ps_if (PW.pt (pw_and (z08 z45 (pe_ix ix_seq (pv 14) pe_int (λ _ _=>rfl)) pe_non (nomark _)) (pw_and (z08 op_lt (pe_ix ix_seq (pv 14) pe_int (λ _ _=>rfl)) (pe_ix ix_seq (pe_ix ix_seq (pv 2) (pv 15) (λ _ _=>rfl)) pe_int (λ _ _=>rfl)) (nomark _)) (pw_and (pt_cmp (pc_din (hu_of J) (pv 15) (pv 4)) (by with_unfolding_all rfl)) (z2i (z08 op_lt (z58 (hu_of J) (pv 4) (pv 15) (λ _ _=>rfl)) (z58 (hu_of J) (pv 4) (pv 7) (λ _ _=>rfl)) (nomark _)))))))
   (z03 (ps_ret pe_bl))
   z0d))))))
   (z03 (ps_ret pe_bl))))))),?_⟩
  refine z0f ?_;refine ⟨_,rfl,C,es,ys,rfl,D.s,D.a,by have:=D.n;lia,D.w,D.v,λ l u H2 Z N X=>?_⟩;refine g_name ?_;have G:=D.g;have b2:(dAll 0 [] es).length<=63:=K0 z2t (by simpa using D.n);generalize dAll 0 [] es=rs at G b2 X Y full;have lz:u.length=rs.length:=z05 X;obtain ⟨g,W,rfl⟩:=wy_of Y;have ol:o.length<=63:=by
   have:=(PlOk.of Y)
   have h1:=z3j _ _ this.nd this.lt;have h2:=wk_len Y
   lia
  refine z0f ?_;refine g_name ?_;refine z0f ?_;intro d hd;obtain ⟨H3,U,s3,e3⟩:=newA (.dK []) hd;rw [<-U];refine g_name ?_;refine ⟨_,rfl,lo,xs,rfl,SqL.of ((Z.trans s3) _ _ a7),?_⟩;refine z3k (K:=KX w.params) (a:=lo) (xs:=xs) (λ i σ t=>Same H2 t/\(∃kvs,t d=some (.dK kvs)/\Plc o i kvs)/\∃x5 x6 x7 x8 x9 x10 x11 x12 x13,σ=[some (.ref C),some (.ref lo),some (.ref l),some (.int (g i).2),some (.ref d),x5,x6,x7,x8,x9,x10,x11,x12,x13,none,none])
   ⟨s3,⟨[],e3,λ j n a h=>absurd h (U2 _),λ _ _=>rfl,C0 _⟩,_,_,_,_,_,_,_,_,_,by rw [W.z];rfl⟩ (λ i σ t h=>SqL.of ((Z.trans h.1) _ _ a7)) ?_ ?_
  ·rintro i y σ H4 p hy ⟨s4,⟨kvs,ed,pc⟩,x5,x6,x7,x8,x9,x10,x11,x12,x13,rfl⟩ hp;obtain ⟨x,hx,px,rfl,b3⟩:=z0c ao hy;obtain ⟨M,U,sp,ep⟩:=newA (.tup [.int i,.ref px]) hp;rw [<-U];have F:=s4.trans sp;have a8:=sp _ _ ed;refine ⟨p,_,rfl,SqT.of ep,rfl,.int i,_,rfl,.ref px,_,rfl,rfl,?_⟩;obtain ⟨r,a4,hc,b4,xa,nx,_⟩:=W.s i x hx;obtain ⟨no,b5⟩:=pc.put W hx;have hi:i < 63:=by have:=(List.getElem?_eq_some_iff.mp hx).1;lia
   have lx:x.1 < rs.length:=(List.getElem?_eq_some_iff.mp a4).1;obtain ⟨y1,z1,p1,rfl,R1⟩:=z4z X a4;have dg:DGet M d (.int (x.1:Nat)) none:=by have:=DGet.k (k:=.inl (x.1:Int)) a8;rw [no] at this;exact this
   refine z0f ?_;refine ⟨_,rfl,px,_,rfl,SqT.of ((Z.trans F) _ _ b3),rfl,_,_,rfl,_,_,rfl,rfl,?_⟩;refine sq_if (t_or ?_);refine ⟨_,rfl,_,rfl,d,_,rfl,dg,_,rfl,iteN (by decide) ?_⟩;refine ⟨_,rfl,_,_,rfl,rfl,_,rfl,iteP (decide_eq_true (by lia)) ?_⟩;refine ⟨_,rfl,.inl ⟨l,u,rfl,.inl (SqL.of (F _ _ N)),_,_,rfl,rfl,_,rfl,iteN ?_ ?_⟩⟩
   ·rw [decide_eq_true (show ((x.1:Nat):Int) < (u.length:Int) by lia)];decide
   refine t_nx ?_;refine ⟨_,rfl,_,rfl,_,rfl,d,_,rfl,DPut.k (k:=.inl (x.1:Int)) a8 (U0 (m:=100) (by have:=pc.l;lia) (by decide)),?_⟩;have f:Same H2 (upd M d (.dK (putK kvs (.inl (x.1:Int)) (.int (i:Nat))))):=Same.keep F hd;have a0:upd M d (.dK (putK kvs (.inl (x.1:Int)) (.int (i:Nat)))) d=some (.dK (putK kvs (.inl (x.1:Int)) (.int (i:Nat)))):=upd_same;generalize upd M d (.dK (putK kvs (.inl (x.1:Int)) (.int (i:Nat))))=L at f a0⊢;refine t_nx (z0f ?_);refine ⟨_,rfl,_,rfl,.inl ⟨l,u,_,_,rfl,rfl,SqL.of (f _ _ N),z04 z1,?_⟩⟩;refine ⟨p1,_,rfl,SqL.of (f _ _ R1),rfl,_,_,rfl,_,_,rfl,_,_,rfl,_,_,rfl,_,_,rfl,rfl,?_⟩;have gr:=G r (v0 a4);refine ⟨_,rfl,by rw [good_v gr];rfl,_,rfl,?_⟩;have a5 :∀{x9 x10 x11 x12 x13:Option V} {wv:V},wv=.int (g (i + 1)).2->Same H2 L/\(∃kvs,L d=some (.dK kvs)/\Plc o (i + 1) kvs)/\∃y5 y6 y7 y8 y9 y10 y11 y12 y13,[some (.ref C),some (.ref lo),some (.ref l),some wv,some (.ref d),some (.int (i:Nat)),some (.ref px),some (.int (x.1:Nat)),some x.2,x9,x10,x11,x12,x13,none,none]=[some (.ref C),some (.ref lo),some (.ref l),some (.int (g (i + 1)).2),some (.ref d),y5,y6,y7,y8,y9,y10,y11,y12,y13,none,none]:=λ e=>by subst e;exact ⟨f,⟨_,a0,b5⟩,_,_,_,_,_,_,_,_,_,rfl⟩
   cases ir:isW r with
   | true=>
    refine iteP ir ?_;have xr:xaV r=.int (intV r.x):=by unfold xaV;rw [if_neg (λ z=>z0z (z.1.symm.trans (wr_of gr ir).1))];exact (wr_of gr ir).2.2.1
    refine ⟨_,rfl,g_name (a5 ?_)⟩;rw [xr,nx];exact congrArg V.int (if_pos (of_decide_eq_true ir)).symm
   | false=>
    refine iteN (λ z=>by rw [isW,z] at ir;cases ir) ?_;have nw:nxtR r.v r.x (g i).2=(g i).2:=if_neg λ z=>by rw [isW,decide_eq_true z] at ir;cases ir
    have xv:x.2=.int (g i).2:=xa.trans (an_r ir);refine t_or ?_;cases c:r.e with
    | none=>refine ⟨_,rfl,rfl,_,rfl,iteN (by show ¬ (!decide (V.non=V.non))=true;decide) (iteN (by decide) ?_)⟩;exact ⟨_,rfl,_,rfl,by rw [xv];rfl,_,rfl,iteN (by rw [xv];simp) (tn_x (a5 (by rw [nx,nw])))⟩
    | some e=>
     have xr:xaV r=.int (g i).2:=by unfold xaV;rw [if_pos ⟨(rd_of gr ir).1,by rw [c];rfl⟩];exact (b4.resolve_left (by rw [c];simp)).symm.trans (an_r ir)
     refine ⟨_,rfl,rfl,_,rfl,iteP rfl ?_⟩;refine ⟨_,rfl,_,rfl,by rw [xr];rfl,_,rfl,iteN (by rw [xr];simp) ?_⟩;exact ⟨_,rfl,_,rfl,by rw [xv];rfl,_,rfl,iteN (by rw [xv];simp) (tn_x (a5 (by rw [nx,nw])))⟩
  rintro σ H4 ⟨s4,⟨kvs,ed,pc⟩,x5,x6,x7,x8,x9,x10,x11,x12,x13,rfl⟩;rw [z05 ao] at pc⊢;refine t_nx ?_;refine ⟨_,rfl,l,u,rfl,SqL.of (s4 _ _ N),?_⟩;refine z3k (K:=KX w.params) (a:=l) (xs:=u) (λ i σ t=>Same H4 t/\∃x5 x6 x7 x8 x9 x10 x11 x12 x13 x14 x15,σ=[some (.ref C),some (.ref lo),some (.ref l),some (.int (g o.length).2),some (.ref d),x5,x6,x7,x8,x9,x10,x11,x12,x13,x14,x15])
   ⟨Same.refl _,_,_,_,_,_,_,_,_,_,_,_,rfl⟩ (λ i σ t h=>SqL.of ((s4.trans h.1) _ _ N)) ?_ ?_
  ·rintro i y σ M p hy ⟨F,x5,x6,x7,x8,x9,x10,x11,x12,x13,x14,x15,rfl⟩ hp;obtain ⟨r,a2,B,rfl,R1⟩:=z0c X hy;obtain ⟨L,U,sp,ep⟩:=newA (.tup [.int i,.ref B]) hp;rw [<-U];have f:=F.trans sp;have S:=(s4.trans f) _ _ R1;have c1:i < rs.length:=(List.getElem?_eq_some_iff.mp a2).1;have a0:=f _ _ ed;refine ⟨p,_,rfl,SqT.of ep,rfl,.int i,_,rfl,.ref B,_,rfl,rfl,?_⟩;have R :∀{x:Int} {v:Option V},valV kvs (.inl x)=v->DGet L d (.int x) v:=λ {x v} h=>by have:=DGet.k (k:=.inl x) a0;rw [h] at this;exact this
   have a6 :∀e,r.e=some e->∃j a,o[j]? = some (i,a)/\valV kvs (.inl (i:Int))=some (.int (j:Nat)):=λ e c=>by obtain ⟨j,a,h1,h2⟩:=(W.m o.length (C0 _) i).mp (full i r a2 (by rw [c];rfl));exact ⟨j,a,h2,pc.a j i a h1 h2⟩
   refine z8h (λ σ t=>L=t/\σ=[some (.ref C),some (.ref lo),some (.ref l),some (.int (g o.length).2),some (.ref d),x5,x6,some (.int (i:Nat)),x8,x9,x10,x11,x12,x13,some (.ref B),x15]) ?_ λ go=>?_;rotate_left
   ·cases c:r.e with
    | none=>exact ⟨_,rfl,.inl ⟨B,_,4,.non,rfl,rfl,SqL.of S,z04 (j:=4) (by rw [c];rfl),rfl,_,rfl,iteN (by simp) (iteN (by decide) (tn_x (t_nx (go _ _ ⟨rfl,rfl⟩))))⟩⟩
    | some e=>obtain ⟨j,a,_,hv⟩:=a6 e c;refine ⟨_,rfl,.inl ⟨B,_,4,.int (e:Nat),rfl,rfl,SqL.of S,z04 (j:=4) (by rw [c];rfl),rfl,_,rfl,iteP (by simp) ?_⟩⟩;exact ⟨_,rfl,_,rfl,d,_,rfl,R hv,_,rfl,iteN (by simp) (tn_x (t_nx (go _ _ ⟨rfl,rfl⟩)))⟩
   rintro σ t ⟨rfl,rfl⟩;refine ⟨_,rfl,.inl ⟨_,_,rfl,rfl,_,rfl,.inl ⟨l,u,rfl,.inl (SqL.of ((s4.trans f) _ _ N)),_,_,rfl,⟨by lia,by lia,by lia,by lia⟩,?_⟩⟩⟩;have b0:(((u.length:Nat):Int) - ((i:Int) + 1)).toNat=u.length - (i + 1):=by lia
   rw [b0];refine zc0 (lo:=(i:Int) + 1) (n:=u.length - (i + 1)) (λ m σ t=>L=t/\∃x15,σ=[some (.ref C),some (.ref lo),some (.ref l),some (.int (g o.length).2),some (.ref d),x5,x6,some (.int (i:Nat)),x8,x9,x10,x11,x12,x13,some (.ref B),x15]) ⟨rfl,_,rfl⟩ ?_ ?_
   ·rintro m σ H7 hm ⟨rfl,x15,rfl⟩;rw [show (i:Int) + 1 + (m:Int)=((i + 1 + m:Nat):Int) by lia];refine g_name ?_;generalize hj:i + 1 + m=j;have b6:j < rs.length:=by lia
    have a3:rs[j]? = some rs[j]:=v1 b6;generalize rs[j]=q' at a3;cases c:r.e with
    | none=>exact ⟨_,rfl,.inl ⟨B,_,4,.non,rfl,rfl,SqL.of S,z04 (j:=4) (by rw [c];rfl),rfl,_,rfl,iteN (by simp) (iteN (by decide) (tn_x ⟨rfl,_,rfl⟩))⟩⟩
    | some e=>
     obtain ⟨y2,z2,p2,rfl,R2⟩:=z4z X a3;have R2:=(s4.trans f) _ _ R2;refine ⟨_,rfl,.inl ⟨B,_,4,.int (e:Nat),rfl,rfl,SqL.of S,z04 (j:=4) (by rw [c];rfl),rfl,_,rfl,iteP (by simp) ?_⟩⟩;refine ⟨_,rfl,.inl ⟨B,_,4,.int (e:Nat),rfl,rfl,SqL.of S,z04 (j:=4) (by rw [c];rfl),?_⟩⟩;refine ⟨_,rfl,_,rfl,.inl ⟨l,u,_,_,rfl,rfl,SqL.of ((s4.trans f) _ _ N),z04 z2,.inl ⟨p2,_,3,.int (q'.b:Nat),rfl,rfl,SqL.of R2,z04 (j:=3) rfl,_,_,rfl,rfl,_,rfl,?_⟩⟩⟩;by_cases lt:e < q'.b;rotate_left
     ·exact iteN (λ z=>lt (by have:=of_decide_eq_true z;lia)) (iteN (by decide) (tn_x ⟨rfl,_,rfl⟩))
     refine iteP (decide_eq_true (by lia)) ?_;obtain ⟨jn,a,b9,hv⟩:=a6 e c;by_cases hin :∃(I:Nat) (b:V),o[I]? = some (j,b);rotate_left
     ·have a1:=pc.b (j:Int) λ I n b _ hn z=>hin ⟨I,b,by rw [hn,show j=n by lia]⟩;exact ⟨_,rfl,_,rfl,d,_,rfl,R a1,_,rfl,iteN (by decide) (iteN (by decide) (tn_x ⟨rfl,_,rfl⟩))⟩
     obtain ⟨I,b,O⟩:=hin;have a1:=pc.a I j b (List.getElem?_eq_some_iff.mp O).1 O;refine ⟨_,rfl,_,rfl,d,_,rfl,R a1,_,rfl,iteP rfl ?_⟩;obtain ⟨_,_,hc,_⟩:=W.s I _ O;obtain ⟨j',a',a9,b1⟩:=(W.m I (A3 (List.getElem?_eq_some_iff.mp O).1) i).mp ((cP_iff.mp hc).2.1 i (ah_mk a2 a3 c lt));have e':=hv.symm.trans (pc.a j' i a' (o6 a9 (List.getElem?_eq_some_iff.mp O).1) b1);have ej:(jn:Int)=j':=V.int.inj (P1 e');refine ⟨_,rfl,_,rfl,d,_,rfl,R a1,?_⟩;exact ⟨_,rfl,_,rfl,d,_,rfl,R hv,_,_,rfl,rfl,_,rfl,iteN (λ z=>by have:=of_decide_eq_true z;lia) (tn_x ⟨rfl,_,rfl⟩)⟩
   ·rintro σ H7 ⟨rfl,x15,rfl⟩;exact ⟨f,_,_,_,_,_,_,_,_,_,_,_,rfl⟩
  rintro σ M ⟨F,x5,x6,x7,x8,x9,x10,x11,x12,x13,x14,x15,rfl⟩;exact t_nx (q _ (Z.trans (s4.trans F)))
def sp_law (K:d0):Sp:=λ vs H Q _=>∃(a:Addr) (ns:List Int),vs=[.ref a]/\SqL K H a (ns.map V.int)/\ns.length<=63/\∀H',Q (.bl true) H'
theorem ok_law (T:TX (kx w) mg) (c0:Ca P w mg base "_law_tale" ["script","most"] 5 (z5w (kx w))) (c1:Ca P w mg base "is_regular" ["tale"] 6 (z50 (kx w))) (c2:Ca P w mg base "turn_about" ["tale"] 6 (z56 (kx w))) (c3:Ca P w mg base "judged" ["tale","strictness"] 8 (zb5 (kx w))) (c4:Ca P w mg base "is_safe" ["tale"] 6 (z93 (kx w))) (c5:Ca P w mg base "_law_turn_right" ["events","turn"] 2 (z1s (kx w))) (c6:Ca P w mg base "_law_order_right" ["events","order"] 2 (z1i (kx w))):Fo P w mg base CX0 9 481 fd_law ["script"] (sp_law (kx w)):=by
 refine (F_law w.params).ok sc_law (λ vs H Q E h=>?_) (λ b4 A b3 s H vs Q E f h=>?_)
 ·obtain ⟨u,ns,rfl,_⟩:=h;rfl
 ·obtain ⟨u,ns,rfl,sq,hn,q⟩:=h;refine ⟨_,(z01 (ps_set (i:=1) sc_law.nd rfl (O0 rfl) (pe_cal c0 (f.mono (by decide)) rfl (z00 (pv 0) (z00 pe_int pa_nil))))
   (z01 (ps_set (i:=2) sc_law.nd rfl (O0 rfl) (pe_cal c1 (f.mono (by decide)) rfl (z00 (pv 1) pa_nil)))
   (z01 (ps_set (i:=3) sc_law.nd rfl (O0 rfl) (pe_cal c2 (f.mono (by decide)) rfl (z00 (pv 1) pa_nil)))
   (z01 (ps_set (i:=4) sc_law.nd rfl (O0 rfl) (pe_cal c3 (f.mono (by decide)) rfl (z00 (pv 1) (z00 pe_str pa_nil))))
   (z01 (ps_if (PW.pt (pw_and (pt_val (pv 2) (λ _=>rfl)) (z2i (pt_not (pt_val (pe_cal c4 (f.mono (by decide)) rfl (z00 (pv 1) pa_nil)) (λ _=>rfl))))))
   (z03 (ps_ret pe_bl))
   z0d)
   (z01 (ps_if (PW.pt (pw_and (z08 z45 (pv 3) pe_non (nomark _)) (z2i (pt_not (pt_val (pe_cal c5 (f.mono (by decide)) rfl (z00 (pe_ix ix_seq (pv 1) pe_int (λ _ _=>rfl)) (z00 (pv 3) pa_nil))) (λ _=>rfl))))))
   (z03 (ps_ret pe_bl))
   z0d)
   (z01 (ps_if (PW.pt (pw_or (pt_not (pt_val (pv 2) (λ _=>rfl))) (pw_or1 (z08 z45 (pv 3) pe_non (nomark _)))))
   (z03 (ps_ret (z22 op_isN (pv 4) pe_non (nomark _))))
   z0d)
   (z03 (ps_ret (pe_and (z0g z1a rfl (T.no (z0w _)) l5 (z00 (pv 4) (z00 (z73 (v:=.ty "list") rfl (T.no (n_list _)) boot_list rfl) pa_nil))) (pe_one (pe_cal c6 (f.mono (by decide)) rfl (z00 (pe_ix ix_seq (pv 1) pe_int (λ _ _=>rfl)) (z00 (pv 4) pa_nil)))))))))))))),?_⟩
  refine z0f ?_;refine ⟨_,rfl,u,ns,rfl,sq,hn,λ t pt th y n c os us x nm K s1 O a5 a6 a3 al C ub le=>?_⟩;refine g_name ?_;have ta:TalR (kx w) K t nm x c n:=⟨⟨pt,y,th,SqT.of O,SqT.of a5,SqT.of a6,SqT.of a3⟩,al,⟨os,us,C⟩,by lia⟩
  have tl:TlE (kx w) K t nm c:=⟨pt,y,th,n,SqT.of O,SqT.of a5,SqT.of a6,SqT.of a3,al⟩
  have wf:=(DInv.nil.all C.wf.1).1;have ev:EvsL (kx w) K y x c n:=⟨SqT.of a3,al,by lia,wf,C.evv,C.rs.g⟩
  obtain ⟨gd,U⟩:=C.gd ub;have S:=C.sq;have b1 :∀r∈dAll 0 [] c,r.b < 63:=λ r f=>by
   have:=(List.getElem?_eq_some_iff.mp (S.R.a r f)).1
   lia
  have bd:=zdw S U (K0 z2t (by simpa using le));refine z0f ?_;refine ⟨_,rfl,t,nm,x,c,n,rfl,ta,λ b H2 Y X=>?_⟩;refine g_name ?_;refine z8h (λ σ d=>Same K d/\∃tv,σ=[some (.ref u),some (.ref t),some (.bl b),some tv,none]/\((tv=.non/\∀i j,¬ Bad (dAll 0 [] c) i j)\/∃p i j,tv=.ref p/\d p=some (.tup [.int (i:Nat),.int (j:Nat)])/\Bad (dAll 0 [] c) i j)) ?_ λ k=>?_;rotate_left
  ·refine ⟨_,rfl,t,nm,x,c,n,rfl,ta.same Y,λ H3 F Z=>?_,λ p i j H3 F M fb=>?_⟩
   ·exact g_name (k _ _ ⟨Y.trans F,_,rfl,.inl ⟨rfl,Z⟩⟩)
   ·exact g_name (k _ _ ⟨Y.trans F,_,rfl,.inr ⟨p,i,j,rfl,M,fb.1⟩⟩)
  rintro σ H3 ⟨F,tv,rfl,htv⟩;refine z8h (λ σ d=>Same H3 d/\∃ov,σ=[some (.ref u),some (.ref t),some (.bl b),some tv,some ov]/\((ov=.non/\∀o m,Wk (dAll 0 [] c) o m->¬ FullP (dAll 0 [] c) m)\/∃l B o m,ov=.ref l/\d l=some (.lst B)/\All2 (OaAt d) o B/\Wk (dAll 0 [] c) o m/\FullP (dAll 0 [] c) m)) ?_ λ k=>?_;rotate_left
  ·refine ⟨_,rfl,t,nm,c,65536,rfl,tl.tups (.of F),by lia,C.wf.1,gd,by decide,bd,λ H4 D no=>?_,λ l B o m H4 D _ N ao I J=>?_⟩
   ·exact g_name (k _ _ ⟨D,_,rfl,.inl ⟨rfl,no⟩⟩)
   ·exact g_name (k _ _ ⟨D,_,rfl,.inr ⟨l,B,o,m,rfl,N,ao,I,J⟩⟩)
  rintro σ H4 ⟨D,ov,rfl,hov⟩;have a7:=F.trans D;refine z8h (λ σ d=>Same H4 d/\σ=[some (.ref u),some (.ref t),some (.bl b),some tv,some ov]) ?_ λ k=>?_;rotate_left
  ·cases b with
   | false=>exact ⟨_,rfl,_,rfl,iteN (by decide) (iteN (by decide) (tn_x (t_nx (k _ _ ⟨Same.refl _,rfl⟩))))⟩
   | true=>refine ⟨_,rfl,_,rfl,iteP rfl ⟨_,rfl,t,nm,x,c,n,rfl,ta.same a7,λ b5 H5 G h5=>?_⟩⟩;have e5:b5=true:=h5.mpr λ r f e hv he=>(X.mp rfl r f e hv he).safe;subst e5;exact ⟨_,rfl,iteN (by decide) (tn_x (t_nx (k _ _ ⟨G,rfl⟩)))⟩
  rintro σ H5 ⟨G,rfl⟩;have a0:=a7.trans G;have a8 :∀{d:Hp} {R:VK} {x2 x3 x4:Option V},Same K d->R (.ref y) d->tOp (rIx (kx w)) (tVar 1) (tC (.int 1)) [some (.ref u),some (.ref t),x2,x3,x4] d R:=λ s' h=>⟨_,rfl,.inr (.inl ⟨t,_,1,.ref y,rfl,rfl,SqT.of (s' _ _ O),z04 (j:=1) rfl,h⟩)⟩
  refine z8h (λ σ d=>Same H5 d/\σ=[some (.ref u),some (.ref t),some (.bl b),some tv,some ov]) ?_ λ k=>?_;rotate_left
  ·rcases htv with ⟨rfl,_⟩|⟨p,i,j,rfl,M,bad⟩
   ·exact ⟨_,rfl,rfl,_,rfl,iteN (by decide) (iteN (by decide) (tn_x (t_nx (k _ _ ⟨Same.refl _,rfl⟩))))⟩
   ·refine ⟨_,rfl,rfl,_,rfl,iteP (by simp) (a8 a0 ⟨_,rfl,y,p,x,c,n,i,j,rfl,ev.same a0,(D.trans G) _ _ M,bad,λ H6 L=>?_⟩)⟩;exact ⟨_,rfl,iteN (by decide) (tn_x (t_nx (k _ _ ⟨L,rfl⟩)))⟩
  rintro σ H6 ⟨L,rfl⟩;have W:=G.trans L;have a4:=a0.trans L;have none_of:(¬ b=true\/¬∀i j,¬ Bad (dAll 0 [] c) i j)->ov=.non:=λ h=>by
   rcases hov with ⟨z,_⟩|⟨l,B,o,m,_,_,_,I,J⟩
   ·exact z
   ·obtain ⟨a1,a2⟩:=(SI.of S U I).full J;rcases h with h|h
    ·exact absurd (X.mpr a1) h
    ·exact absurd a2 h
  refine sq_if (t_or ?_);cases b with
  | false=>have e:=none_of (.inl (by decide));subst e;exact ⟨_,rfl,_,rfl,iteP rfl (iteP rfl ⟨_,rfl,rfl,q _⟩)⟩
  | true=>
   refine ⟨_,rfl,_,rfl,iteN (by decide) ?_⟩;rcases htv with ⟨rfl,Z⟩|⟨p,i,j,rfl,M,bad⟩;rotate_left
   ·have e:=none_of (.inr λ h=>h i j bad);subst e;exact ⟨_,rfl,rfl,_,rfl,iteP (by simp) ⟨_,rfl,rfl,q _⟩⟩
   refine ⟨_,rfl,rfl,_,rfl,iteN (by decide) (tn_x (t_nx (sq_ret ?_)))⟩;obtain ⟨o',b2,b0,a9⟩:=way_of S U b1 (X.mp rfl) Z;rcases hov with ⟨_,no⟩|⟨l,B,o,m,rfl,N,ao,I,J⟩
   ·exact absurd a9 (no o' b2 b0)
   refine ⟨_,rfl,_,"list","list",rfl,.inl ⟨⟨_,W _ _ N⟩,rfl⟩,by decide,_,rfl,iteP rfl ?_⟩;exact a8 a4 ⟨_,rfl,y,l,x,c,n,o,B,m,rfl,ev.same a4,W _ _ N,z02 (λ _ _ z=>z.same W) ao,I,J,λ H7 s7=>q _⟩
end
theorem all_law {P:Program} {w:Q0} {mg:Str->Option Value} {base:Heap} (T:TX (kx w) mg):Fo P w mg base CX0 9 481 fd_law ["script"] (sp_law (kx w)):=by have m:=@cal_mk P w (kx w) mg base;have K:=m T (z1w _) (z7v _) (z7l _) (z6j T );have f:=m T (z29 _) (z9n _) (z8b _) (z84 T );have a:=m T (z4n _) (zcp _) (zcj _) (z9t T );have i:=m T (z3a _) (zag _) (zai _) (z95 T a);have c:=m T (zd3 _) (zib _) (zic _) (zhv T );have t:=m T (z4l _) (zc7 _) (zci _) (za9 T a);have n:=m T (z3c _) (zab _) (z9z _) (z8n T i);have Z:=m T (z2s _) (z8l _) (z8q _) (z79 T a i);have L:=m T (z2m _) (z99 _) (z8i _) (z7z T a f Z n);have H:=m T (z4p _) (zcg _) (zc8 _) (za0 T K f t L);have e:=m T (z39 _) (zal _) (zad _) (z9k T );have l:=m T (z5t _) (zd5 _) (zd4 _) (zc6 T );have A:=m T (z2o _) (z9h _) (z9p _) (z75 T l);have s:=m T (z4o _) (zc9 _) (zck _) (z9y T A);have p:=m T (z2f _) (z8o _) (z8s _) (z7m T c s);have j:=m T (z3q _) (zbv _) (zc1 _) (zd2 T );have d:=m T (z2b _) (z9c _) (z9r _) (z7k T );have b:=m T (z0s _) (z40 _) (z4d _) (z3h T p);have g:=m T (z1p _) (z6d _) (z6n _) (z6a T );have h:=m T (z3g _) (z9v _) (zaq _) (z8k T );have r:=m T (z3e _) (zao _) (z9u _) (z8w T b j d g h);have X:=m T (z89 _) (zfs _) (zf6 _) (ze8 T b j d g h);have S:=m T (z3q _) (zbv _) (zc1 _) (zcn T );have y:=m T (z3f _) (z9w _) (zas _) (z8r T b S d);have z:=m T (z34 _) (zac _) (z9s _) (z9g T );have G:=m T (z0y _) (z4x _) (z4u _) (z47 T );have C:=m T (za4 _) (zha _) (zh1 _) (zfi T c G z);have M:=m T (z4t _) (zce _) (zcd _) (zaw T l);have U:=m T (z5g _) (zeu _) (zen _) (zcc T M);have Q:=m T (z2h _) (z8f _) (z8p _) (z7o T );have k:=m T (z7p _) (zfg _) (zg5 _) (zdn T );have u:=m T (z7e _) (zf7 _) (zfd _) (zed T k U Q);have I:=m T (z3b _) (z6c _) (za6 _) (z8e T );have O:=m T (z2g _) (z59 _) (z9e _) (z7c T );have o:=m T (F_do _) (g_do _) (b_do _) (ok_do T u I O);have F:=m T (z2r _) (z8t _) (z8x _) (z7n T k);have q:=zan (P:=P) (w:=w) (base:=base) T;have W:=z26 (P:=P) (w:=w) (base:=base) T;have x:=m T (z7i _) (zf3 _) (zfh _) (zea T o);have J:=m T (z1o _) (z6e _) (z6m _) (z5i T );have B:=m T (z4h _) (zcs _) (zcf _) (zaa T );have R:=m T (z25 _) (z9a _) (z8m _) (z7h T F);have V:=zhb (P:=P) (w:=w) (base:=base) T C c R J q;have v:=z42 (P:=P) (w:=w) (base:=base) T W x;have N:=z61 (P:=P) (w:=w) (base:=base) T B;have E:=m T (z9x _) (zh8 _) (zhn _) (zft T V N v);have Y:=m T (z14 _) (z5c _) (z5d _) (z4m T e);have D:=m T (z0x _) (z4r _) (z4i _) (z3p T e);exact ok_law T H r y E X Y D
end K23
open PySem PySem.W PyProof.Rows
set_option maxRecDepth 100000 in
set_option maxHeartbeats 0 in
theorem PySem.Challenge.cw_talejudge_k23_whole_strict_regular_safe_holds : PySem.Challenge.rw_talejudge_k23_whole_strict_regular_safe.Holds := by
 w_on;o_law
 refine holds_open (q:=K23.viewX) (loose:=K23.looseX) (Xt:=K23.XtX) (XP:=XL K23.viewX []) (Yf:=Hook.obs K23.HX) (Ya:=Hook.val K23.HX) (YP:=Hook.says K23.HX) (N:=200000) K23.leftX (Hook.of K23.HX) (Hook.keeps K23.HX) (λ s e=>xl_of s (Bool.and_eq_true_iff.mp e).1) XL.keeps (by rfl) (by rfl) (by rfl) (λ s e=>recFacts_of (Bool.and_eq_true_iff.mp e).2) (by rfl) (by assumption) (by decide +kernel) ⟨rfl,rfl,rfl,rfl,rfl,by decide +kernel⟩ ?hw ?hc
 case hw=>w_witness2
 case hc=>
  refine L2.walk_of (l:=PySem.Challenge.rw_talejudge_k23_whole_strict_regular_safe) (n:=63) (k:=9) (x:="script") (K:=K23.KX) (CX:=λ _=>L2.CX0) (sp:=λ w=>K23.sp_law (K23.KX w.params)) rfl (by decide) rfl ⟨rfl,by decide,by decide,rfl⟩ (λ w h Y=>PySem.W.kIn_of Y) ?F ?S ?C
  case F=>intro w p i h KX G c;have T:=L2.TX.mk' KX G;have f:=c.symm.trans (T.of (K23.g_law _));cases f;exact ⟨K23.fd_law,λ s u=>.of_eq rfl,λ r m o=>K23.all_law T⟩
  case S=>exact λ w H a b d j g=>⟨a,b,rfl,g,d,λ _=>rfl⟩
  case C=>exact λ _ _ _ _ _ z=>z
