import PyProof.Rows.All
import Wide.All
import OpenK.AllK
import Wide.FinOn
import Lean
import PyProof.EqAt
import PyProof.EqKinds
import PyProof.TupleCall
import Open.Tops
import KE.KIntText
import PyProof.ZipIter
import PyProof.ReprRoads
import PyProof.Draws
import KE.KDictSum
import KE.KSortedM
import OpenK.KRaise
import OpenK.KOwn
import PyProof.ExcBaseAll.ValueError
import KE.KTryMore
import PyProof.NsDelKeeps
import KE.KDictOf
import KE.KEqDict
import PyProof.DictWalks
import PyProof.TupleKey
import PyProof.MinMaxWalk
import KE.KSortTup
import PyProof.StrWalks
import KE.KRevIter
import KE.KListMore
import PyProof.StrLawsTight
import PyProof.StrLawsChain
import KE.KSortKey
import KE.KLam
import PyProof.DictItems
import PySem.Challenge.RW_talejudge_k14_collisions_told
open PySem.PyData renaming keyHash->b0,depthAll->K3
open PySem.W renaming Frag->c0,kia_one->m3,nsIn->P3,keepIn->n4,kla_obj->c5,fnOf->o5,findIn->a6,cellsFrom_some->L6,tabObj->c7,codeIn->d7,CodeHd->f7,methodObj->V7,instObj->k8,lookIn->F8,specialIn->j02,kitx_list->j03,kitx_dict->j04
open List renaming mem_of_getElem?->d0,not_mem_nil->B0,length_map->C0,getElem?_eq_getElem->J0,length_append->L0,size_toArray->N0,mem_append_right->P0,getElem?_map->T0,map_cons->U0,length_filter_le->Z0,length_cons->A1,getElem?_cons_succ->E1,range->N1,forall_mem_cons->O1,getElem?_cons_zero->V1,filter_cons_of_pos->W1,filter_cons_of_neg->X1,mem_cons_self->Y1,append_nil->C2,getElem?_modify->E2,filter_append->F2,map_append->O2,mem_cons_of_mem->P2,replicate->V2,getElem?_append_right->W2,take_length->Z2,length_take->i3,getElem?_append_left->j3,map_map->A3,mem_cons->G3,length_replicate->O3,lookup_cons->R3,getElem?_eq_none->Z3,find?_cons->i4,getElem_map->w4,length_nil->B4,mem_append_left->Q4,length_drop->W4,getElem_mem->X4,filter_nil->k5,length_modify->n5,pairwise_map->D5,length_range->E5,ext_getElem?->F5,drop_zero->G5,filter_cons->S5,of_mem_zip->Z5,zip_nil_right->o6,take_succ->p6,drop_eq_getElem_cons->D6,filterMap_cons_some->G6,any_cons->J6,getElem?_replicate->M6,take_of_length_le->S6,pairwise_lt_range->T6,map_nil->U6,length_singleton->y7,map_congr_left->S7,filterMap_cons->T7,foldl_append->g8,cons_ne_nil->y8,lookup->K8,range_succ->O8,forIn_cons->P8,foldl_cons->Q8,dropLast_concat_getLast->R8,forIn_nil->g9,pairwise_iff_getElem->l9,filterMap_cons_none->A9,getElem?_set_self->K9,getElem?_set_ne->j06,getElem?_append->j07
open PySem.Builtin.Tuple renaming tupleHashOf->o0,tupleExact->J4
open PySem renaming wpAny_bind->v0,Shared->y0,wpAny_pure->D0,World->O0,wpAny->R0,Params->S0,reduceHash->X0,model->Y0,starEach->G1,mainGlobals->U1,Around->Z1,wpAny_holding->G2,compareOp->N2,OsState->T2,wpAny_truthy_bool->y3,treeTable->C3,wpAny_Call_Name_kw->E3,wpAny_mono->L3,boot_len->M3,eval->W3,strKind->k4,codeAny_builtin->o4,wpAny_newObj_type->p4,bootBuiltins->v4,sysModules->y4,wpAny_pyIter_tuple->E4,codeAny_mono->F4,backTo->G4,rawInt->S4,intKind->U4,foldedSetIterable->V4,mem_of_lookup->Z4,binaryOp->d5,PyData->w5,codeAny->C5,tupleKind_room_in1->L5,tupleKind->O5,sizeLine_eq->P5,eqIsQuiet->Q5,wpAny_pyIter_list->T5,placesWithHash->U5,NameKind->W5,wpAny_field->i6,sliceBounds->j6,callSpecialIfBoundUnlessNone?->k6,wpAny_passesOwn->y6,importedModules->z6,SetTable->K6,wpAny_pyIter_enum->Q6,relabel->R6,Builtin->X6,behindInMarks->Z6,attributeBase->a7,Paired->g7,wpAny_call_entry->B7,wpAny_callSpecial?_slot->C7,Fin->F7,wpAny_pyNext_list_item->J7,strKind_is->K7,assignEach->L7,Keyword->P7,letOwnedTupleGo->Q7,wpAny_pyNext_list_end->U7,codeAny_call_builtin->b8,valueAt->d8,swapsWith->e8,getItem->f8,wpAny_newList->o8,atKey->p8,wpAny_rule->B8,wpAny_call->C8,pyNext->D8,builtinsNs->E8,IsPart->L8,wpAny_typeOf->T8,callerA->U8,call_meetsIn->V8,wpAny_of_eq->n9,subscripted->o9,keywordEach->q9,wpAny_execs_nil->C9,spliced->G9,holding->J9,wpAny_seqItems->N9,wpAny_newFunctionEnv_cells->O9,wpAny_letOwnedTupleGo_enum->P9,relayAll->Q9,closureFor->R9,Thread->W9
open PySem.Heap renaming get?_push_of_some->x0,lt_size->G0,get?_push_size->I0,size_push->Y3,DictOf->z5,SameBut->g6,SetOf->r6,get?_update_other->V6,get?_update_self->A7
open Nat renaming le_refl->A0,le_trans->F0,ne_of_lt->Q0,lt_of_lt_of_le->V0,lt_succ_of_lt->i1,lt_of_le_of_lt->J1,zero_le->P1,ne_of_gt->A2,lt_succ_self->D2,lt_trichotomy->U2,lt_irrefl->Y2,not_lt_zero->B3,zero_add->M5,lt_trans->N5,le_succ->Y5,le_of_lt->i7,le_of_eq->j7,mul_le_mul_right->O7,le_of_not_lt->G8,le_add_right->J8,min_self->X9,lt_of_succ_lt_succ->Y9
open Bool renaming false_ne_true->M0,and_eq_true->V3,and_eq_true_iff->R4,true_and->i5,false_and->K5,false_eq_true->w6,and_false->G7,or_false->Z7,not_eq_true->A8
open Array renaming length_toList->W0,getElem?_eq_getElem->Y4,getElem?_eq_none->B5,mem_of_getElem?->M9
open Or renaming inr->B1,inl->C1
open Option.some renaming inj->D1
open PySem.Value renaming ref->F1,type->O4,none->j5,int->R5,isStrOf->E6,str->i8,bool->W8,isInt->V9
open PySem.Obj renaming mapSeq->L1,mapDictKeys->p7,putSet->c8
open PySem.PassesOwn renaming never->Q1
open PySem.NameKind renaming free->R1
open PySem.SetTable renaming below->B2,grown->D4,insertAt->R7,advance->j01
open PyProof.Rows renaming seqObj->Q2,callWith_type1->n3,boot_isinstance->D3,IntsAre->N3,callWith_builtin1->m5,listUpdate_at->c6,get?_update_seq->A6,AllBare->Y6,slot_tuple_getitem->D7,envOfC->a8,arrOf->t8,seqEpoch_at->p9,boot_tuple->S9,boot_str->T9,boot_all->U9
open PySem.Heap.SameBut renaming update->X2
open Ne renaming symm->F3
open PySem.Calls renaming spliced_cons->Q3,spliced_nil->j4,callWith_builtin->A5,evalArgs_plain->E7,Name_function_global->b9
open Pure renaming pure->S3,pure->E9
open PySem.Str renaming ofString->T3
open ForInStep renaming yield->U3
open False renaming elim->X3
open Sum.inl renaming inj->g4
open PySem.Builtin.SmallTypes renaming nextOf->z4,ownedTupleFields->A4
open PySem.Builtin.Slice renaming slicePlaces->C4,sliceAdjust->X5,sliceApplied->Y7
open PySem.W.Fast renaming tw16697807410369149715->K4,tw13926502685295537346->L4,tw13383273872528276517->M4,te14364793385576792824->N4,tw4214721358667687652->P4,tw14364793385576792824->N6
open PySem.SeqAt.EqAt renaming same->T4,of_refs->o7,str_str->r9,str_int->t9,int_str->w9,int_int->y9
open PySem.F renaming slot_tuple_iterator_next->a5,plainAttrs_dict->F6,slot_dict_get->O6,args_tuple_add_2->Z8,slot_dict_items->c9,entry_tuple_add->d9,args_dict_get_3->f9,slot_tuple_add->i9,entry_dict_get->j9,args_tuple_iterator_next_1->m9,slot_dict_pop->z9,entry_tuple_iterator_next->B9
open PyProof.Rows.F renaming entry_set_update_loop->J5
open PySem.SetTable.below renaming go->V5
open PySem.Builtin.Str renaming occurrences->m6
open Option renaming isSome_map->B6,map_some->P6
open Int renaming emod_lt_of_pos->C6,emod_nonneg->z7,toNat_of_nonneg->X7,toNat_natCast->m8,le_refl->S8,le_antisymm->a9,le_of_lt->Z9
open PySem.Code renaming builtin->W6
open List.Pairwise renaming nil->k7
open PySem.Builtin.Frozenset renaming updateFrom->m7
open PySem.Shared renaming TypeIs->M7
open PySem.Paired renaming length->N7
open PUnit renaming unit->W7
open Sum renaming inr->j8
open PySem.Builtin.Dict renaming updateFrom->n8,pairItems->z8
open PySem.Data renaming fields->M8,cell->F9
open PyProof.Rows.SortSt renaming mk'->N8
open PySem.SetTable.probe renaming go->X8
open PySem.SeqAt renaming EqAt->Y8
open PySem.SeqAt.RcAt renaming tuples->D9
open PySem.Heap.DictOf renaming new->L9
open Array.Perm renaming refl->j00
open Prod renaming fst->j05
open PySem.Around renaming under_plain->j08
set_option maxRecDepth 100000
set_option maxHeartbeats 0
namespace PySem.W.Fast
noncomputable def tw6559731609619722842:=0
noncomputable def tw9769544176024521792:=0
noncomputable def tw15242284529470083934:=0
noncomputable def tw6266284123550128191:=0
noncomputable def tw10220460612542814055:=0
noncomputable def tw3121211739469726581:=0
noncomputable def tw12821287943859337233:=0
noncomputable def tw14969277840432541102:=0
noncomputable def tw6478531977784187619:=0
noncomputable def tw16554567492441355602:=0
noncomputable def tw11735235959696974408:=0
noncomputable def tw17800248466717701101:=0
noncomputable def tw17076419540167322902:=0
noncomputable def tw11866478107444592325:=0
noncomputable def tw2823929414330708472:=0
end PySem.W.Fast
namespace K14
open_shared pre for PySem.Challenge.pw_talejudge_k14_collisions_told leaving 44
end K14
set_option maxHeartbeats 200000
-- CHANGE: your row's module here,as the last of these rows
set_option Elab.async false
set_option linter.all false
namespace L2
open PySem PySem.Spec PyProof.Rows
noncomputable abbrev Key:=Sum Int Str
noncomputable def keyIs:Key->Value->Bool
 | .inl k,v=>V9 k v
 | .inr x,v=>E6 x v
noncomputable def keyH (w:O0):Key->Int
 | .inl k=>hashInt k
 | .inr x=>hashStr w x
theorem z0k :∀{k:Key} {v:Value},keyIs k v=true->(∃i t,k=Sum.inl i/\v=R5 i t)\/(∃x t,k=j8 x/\v=i8 x t)
 | .inl i,v,h=>by obtain ⟨t,e⟩:=Value.isInt_shape (k:=i) (v:=v) h;exact .inl ⟨i,t,rfl,e⟩
 | .inr x,v,h=>by obtain ⟨t,e⟩:=Value.isStrOf_shape (x:=x) (v:=v) h;exact .inr ⟨x,t,rfl,e⟩
theorem zcz (i:Int) (t:Tok):keyIs (.inl i) (.int i t)=true:=by simp [keyIs,V9]
theorem zdv (x:Str) (t:Tok):keyIs (.inr x) (.str x t)=true:=by simp [keyIs,E6]
theorem key_ll (a b:Int):decide ((Sum.inl a:Key)=Sum.inl b)=(a == b):=by
 by_cases e:a=b
 ·subst e;simp
 ·have h:¬ (Sum.inl a:Key)=Sum.inl b:=λ q=>e (g4 q);rw [decide_eq_false h];exact (beq_eq_false_iff_ne.mpr e).symm
theorem key_rr (a b:Str):decide ((j8 a:Key)=j8 b)=decide (a=b):=by
 by_cases e:a=b
 ·subst e;simp
 ·have h:¬ (j8 a:Key)=j8 b:=λ q=>e (Sum.inr.inj q);rw [decide_eq_false h,decide_eq_false e]
theorem key_lr (a:Int) (b:Str):decide ((Sum.inl a:Key)=j8 b)=false:=decide_eq_false (λ q=>nomatch q)
theorem key_rl (a:Str) (b:Int):decide ((j8 a:Key)=Sum.inl b)=false:=decide_eq_false (λ q=>nomatch q)
noncomputable def z0f (prog:Program) (w:O0):PySem.KeyKind prog w Key where
 is:=keyIs
 hash:=keyH w
 inj:=λ v a b ha hb=>by
  rcases z0k ha with ⟨i,t,rfl,rfl⟩|⟨x,t,rfl,rfl⟩
  ·rcases z0k hb with ⟨j,u,rfl,e⟩|⟨y,u,rfl,e⟩
   ·injection e with e1 _;rw [e1]
   ·exact nomatch e
  ·rcases z0k hb with ⟨j,u,rfl,e⟩|⟨y,u,rfl,e⟩
   ·exact nomatch e
   ·injection e with e1 _;rw [e1]
 byValue:=λ k v h=>by rcases z0k h with ⟨i,t,rfl,rfl⟩|⟨x,t,rfl,rfl⟩<;>rfl
 pyHash:=λ hv h=>by
  rcases z0k hv with ⟨i,t,rfl,rfl⟩|⟨x,t,rfl,rfl⟩
  ·exact wpAny_pyHash_int h
  ·exact wpAny_pyHash_str h
 eqBool:=λ hu hv h=>by
  rcases z0k hu with ⟨i,t,rfl,rfl⟩|⟨x,t,rfl,rfl⟩
  ·rcases z0k hv with ⟨j,u,rfl,rfl⟩|⟨y,u,rfl,rfl⟩
   ·rw [key_ll] at h;exact wpAny_eqBool_int h
   ·rw [key_lr] at h;exact w9 i t y u _ _ _ _ h
  ·rcases z0k hv with ⟨j,u,rfl,rfl⟩|⟨y,u,rfl,rfl⟩
   ·rw [key_rl] at h;exact t9 x t j u _ _ _ _ h
   ·rw [key_rr] at h;exact wpAny_eqBool_str h
 «strs»:=λ k x t v h=>by
  rcases z0k h with ⟨i,u,rfl,e⟩|⟨y,u,rfl,e⟩
  ·exact nomatch e
  ·injection e with e1 _;subst e1;cases v<;>rfl
theorem z98 (prog:Program) (w:O0) (i:Int) (t:Tok):(z0f prog w).is (.inl i) (.int i t)=true:=zcz i t
theorem z9q (prog:Program) (w:O0) (x:Str) (t:Tok):(z0f prog w).is (.inr x) (.str x t)=true:=zdv x t
inductive V where
 | non|bl (b:Bool)|int (i:Int)|str (x:Str)|byt (b:Array UInt8)|flt (b:UInt64)|ref (a:Addr)|ty (n:String)
 deriving DecidableEq
noncomputable def RelV:V->Value->Prop
 | .non,u=>u=j5
 | .bl b,u=>u=W8 b
 | .int i,u=>∃t,u=R5 i t
 | .str x,u=>∃t,u=i8 x t
 | .byt b,u=>∃t,u=Value.bytes b t
 | .flt b,u=>∃t,u=Value.float b t
 | .ref a,u=>u=F1 a
 | .ty n,u=>u=O4 n
abbrev Vals:List V->List Value->Prop:=g7 RelV
theorem Vals.length {xs:List V} {us:List Value} (r:Vals xs us):xs.length=us.length:=N7 r
theorem Vals.get :∀{xs:List V} {us:List Value} {i:Nat} {x:V},Vals xs us->xs[i]? = some x->∃u,us[i]? = some u/\RelV x u
 | _,_,_,_,.nil,e=>by simp at e
 | _,_,0,_,.cons r _,e=>by simp at e;subst e;exact ⟨_,rfl,r⟩
 | _,_,i + 1,x,.cons _ t,e=>by obtain ⟨u,a,b⟩:=Vals.get (i:=i) (x:=x) t (by simpa using e);exact ⟨u,by simpa using a,b⟩
theorem Vals.set {x:V} {u:Value} (r:RelV x u) :∀{xs:List V} {us:List Value} (i:Nat),Vals xs us->Vals (xs.set i x) (us.set i u)
 | _,_,_,.nil=>.nil
 | _,_,0,.cons _ t=>.cons r t
 | _,_,i + 1,.cons q t=>.cons q (Vals.set r i t)
theorem Vals.append :∀{xs ys:List V} {us ws:List Value},Vals xs us->Vals ys ws->Vals (xs++ys) (us++ws)
 | _,_,_,_,.nil,s=>s
 | _,_,_,_,.cons r t,s=>.cons r (Vals.append t s)
theorem Vals.take :∀{xs:List V} {us:List Value} (n:Nat),Vals xs us->Vals (xs.take n) (us.take n)
 | _,_,0,_=>.nil
 | _,_,_ + 1,.nil=>.nil
 | _,_,n + 1,.cons r t=>.cons r (Vals.take n t)
theorem Vals.drop :∀{xs:List V} {us:List Value} (n:Nat),Vals xs us->Vals (xs.drop n) (us.drop n)
 | _,_,0,r=>r
 | _,_,_ + 1,.nil=>.nil
 | _,_,n + 1,.cons _ t=>Vals.drop n t
noncomputable def RelO:Option V->Option Value->Prop
 | some v,some u=>RelV v u
 | none,none=>True
 | _,_=>False
def KV {κ:Type}:List (κ×V)->List (κ×Value)->Prop:=g7 λ (p:κ×V) (q:κ×Value)=>p.1=q.1/\RelV p.2 q.2
noncomputable def kV:Key->V
 | .inl i=>.int i
 | .inr x=>.str x
inductive HO where
 | lst (xs:List V)
 | tup (xs:List V)
 | dK (kvs:List (Key×V))|dT (kvs:List (List Key×V))
 | set (S:Int->Bool) (n:Nat)
 | ins (C dx:Addr) (fs:List (Str×V))
 | own (x:Addr)
 | xd (fs:List (Str×V))
 | met (f x:Addr)
 | rng (lo hi:Int)
 | frz (o:Obj) (u:HO)
 | tbl (ps:Array Value)
 | ext (φ:Heap->Prop)
noncomputable abbrev Hp:=Addr->Option HO
noncomputable def upd (H:Hp) (a:Addr) (o:HO):Hp:=λ b=>if b=a then some o else H b
theorem z01 {H:Hp} {a:Addr} {o:HO}:upd H a o a=some o:=by unfold upd;rw [if_pos rfl]
theorem upd_ne {H:Hp} {a b:Addr} {o:HO} (h:b≠a):upd H a o b=H b:=by unfold upd;rw [if_neg h]
theorem ne_of {H:Hp} {a b:Addr} {o u:HO} (h:H a=some o) (h':H b=some u) (d:o≠u):a≠b:=by intro e;subst e;rw [h] at h';exact d (D1 h')
theorem z0g {H:Hp} {a b:Addr} {o:HO} (h:H a=some o) (h':H b=none):a≠b:=by intro e;subst e;rw [h] at h';cases h'
section
variable (P:Program) (w:O0)
def IsTupN (h:Heap) (a:Addr) (items:Array Value):Prop:=IsTup h a items/\∃o,h.get? a=some o/\o.dict=none
theorem IsTupN.new (h:Heap) (items:Array Value):IsTupN (h.push { cls:=.type "tuple",data:=.seq items }) h.objs.size items:=⟨IsTup.new _ _,_,I0 _ rfl,rfl⟩
noncomputable def ObjOk (H:Hp) (h:Heap) (a:Addr):HO->Prop
 | .lst xs=>xs.length<=sizeLine/\∃(its:List Value) (n:Nat),Vals xs its/\h.get? a=some { cls:=.type "list",data:=.seq its.toArray n }
 | .tup xs=>xs.length<=sizeLine/\∃its:List Value,Vals xs its/\IsTupN h a its.toArray
 | .dK kvs=>kvs.length<=sizeLine/\(a == y4)=false/\∃vs,KV kvs vs/\h.DictOf (z0f P w) a vs
 | .dT kvs=>kvs.length<=sizeLine/\(a == y4)=false/\∃xs:List (List Key×Addr×Value),
   g7 (λ (p:List Key×V) (q:List Key×Addr×Value)=>p.1=q.1/\H q.2.1=some (.tup (p.1.map kV))/\RelV p.2 q.2.2) kvs xs/\
   ∃o es ep,h.get? a=some o/\o.ExactDict/\o.data=.dict es ep/\es.toList=xs.map (entryOfKey (O5 (z0f P w)))/\(xs.map (·.1)).Nodup
 | .set S n=>h.SetOf (U4 P w) a S n
 | .ins C dx fs=>H dx=some (.own a)/\fs.length<=1000/\dx≠a/\h.get? a=some (k8 C dx)/\
   ∃mA,h.Ns1 dx mA/\(∀f,RelO (fs.lookup f) (mA f))/\PySem.Within mA (fs.map (·.1))
 | .own _=>∃o,h.get? a=some o
 | .xd fs=>∃mA,h.Ns1 a mA/\∀f,RelO (fs.lookup f) (mA f)
 | .rng lo hi=>∃t u v,h.get? a=some { cls:=.type "range",data:=.fields #[.int lo t,.int hi u,.int 1 v] }
 | .frz o u=>h.get? a=some o/\ObjOk H h a u
 | .tbl ps=>h.get? a=some { cls:=.none,data:=.fields ps }
 | .met f x=>h.get? a=some (V7 (.ref f) (.ref x))
 | .ext φ=>φ h/\(∃o,h.get? a=some o)/\∀h1 h2:Heap,φ h1->(∀o,h1.get? a=some o->h2.get? a=some o)->φ h2
def HOk (H:Hp) (h:Heap):Prop:=∀a o,H a=some o->ObjOk P w H h a o
end
section
variable {P:Program} {w:O0} {H H':Hp} {h h':Heap} {a:Addr} {o:HO}
theorem ObjOk.lt (x:ObjOk P w H h a o):a < h.objs.size:=by
 cases o with
 | lst xs=>obtain ⟨_,_,_,_,e⟩:=x;exact G0 e
 | tup xs=>obtain ⟨_,_,_,p⟩:=x;exact p.1.lt
 | dK kvs=>obtain ⟨_,_,_,_,o,_,_,e,_⟩:=x;exact G0 e
 | dT kvs=>obtain ⟨_,_,_,_,o,_,_,e,_⟩:=x;exact G0 e
 | set S n=>obtain ⟨o,_,_,_,e,_⟩:=x;exact G0 e
 | ins C dx fs=>obtain ⟨_,_,_,e,_⟩:=x;exact G0 e
 | own y=>obtain ⟨_,e⟩:=x;exact G0 e
 | xd fs=>obtain ⟨_,⟨_,_,_,e,_⟩,_⟩:=x;exact G0 e
 | rng lo hi=>obtain ⟨_,_,_,e⟩:=x;exact G0 e
 | frz ob u=>obtain ⟨e,_⟩:=x;exact G0 e
 | tbl ps=>exact G0 (show h.get? a=some _ from x)
 | met f y=>exact G0 (show h.get? a=some _ from x)
 | ext φ=>obtain ⟨_,⟨_,e⟩,_⟩:=x;exact G0 e
theorem Paired.mapP {α β:Type} {F G:α->β->Prop} :∀{l₁:List α} {l₂:List β},g7 F l₁ l₂->(∀a b,F a b->G a b)->g7 G l₁ l₂
 | _,_,.nil,_=>.nil
 | _,_,.cons r t,f=>.cons (f _ _ r) (Paired.mapP t f)
theorem ObjOk.stay (x:ObjOk P w H h a o) (k :∀b u,(b=a\/H b=some (.own a))->h.get? b=some u->h'.get? b=some u)
  (ho :∀b,H b=some (.own a)->H' b=some (.own a)) (ht :∀b xs,H b=some (.tup xs)->H' b=some (.tup xs)):ObjOk P w H' h' a o:=by
 induction o with
 | lst xs=>obtain ⟨z,m,n,r,e⟩:=x;exact ⟨z,m,n,r,k _ _ (.inl rfl) e⟩
 | tup xs=>obtain ⟨z,m,r,⟨g,e,c⟩,F,l,G⟩:=x;exact ⟨z,m,r,⟨g,k _ _ (.inl rfl) e,c⟩,F,k _ _ (.inl rfl) l,G⟩
 | dK kvs=>obtain ⟨z,y,D,r,g,i,j,e,c⟩:=x;exact ⟨z,y,D,r,g,i,j,k _ _ (.inl rfl) e,c⟩
 | dT kvs=>obtain ⟨z,y,xs,r,g,i,j,e,c⟩:=x;exact ⟨z,y,xs,Paired.mapP r λ p q z=>⟨z.1,ht _ _ z.2.1,z.2.2⟩,g,i,j,k _ _ (.inl rfl) e,c⟩
 | set S n=>obtain ⟨g,i,j,t,e,c⟩:=x;exact ⟨g,i,j,t,k _ _ (.inl rfl) e,c⟩
 | ins C dx fs=>obtain ⟨d,z,E,e,s,⟨A,i,j,l,c⟩,r⟩:=x;exact ⟨ho _ d,z,E,k _ _ (.inl rfl) e,s,⟨A,i,j,k _ _ (.inr d) l,c⟩,r⟩
 | own y=>obtain ⟨g,e⟩:=x;exact ⟨g,k _ _ (.inl rfl) e⟩
 | xd fs=>obtain ⟨s,⟨A,i,j,e,c⟩,r⟩:=x;exact ⟨s,⟨A,i,j,k _ _ (.inl rfl) e,c⟩,r⟩
 | rng lo hi=>obtain ⟨t,u,v,e⟩:=x;exact ⟨t,u,v,k _ _ (.inl rfl) e⟩
 | frz g u ih=>obtain ⟨e,q⟩:=x;exact ⟨k _ _ (.inl rfl) e,ih q⟩
 | tbl ps=>have e:h.get? a=some { cls:=.none,data:=.fields ps }:=x;show h'.get? a=some { cls:=.none,data:=.fields ps };exact k a _ (.inl rfl) e
 | met f y=>have e:h.get? a=some (V7 (.ref f) (.ref y)):=x;show h'.get? a=some (V7 (.ref f) (.ref y));exact k a _ (.inl rfl) e
 | ext φ=>obtain ⟨p,⟨o,e⟩,B⟩:=x;exact ⟨B _ _ p λ o q=>k _ _ (.inl rfl) q,⟨o,k _ _ (.inl rfl) e⟩,B⟩
theorem HOk.lt (x:HOk P w H h) (e:H a=some o):a < h.objs.size:=(x a o e).lt
theorem HOk.fresh (x:HOk P w H h) (e:h.objs.size<=a):H a=none:=by
 cases q:H a with
 | none=>rfl
 | some u=>exact absurd (V0 (x.lt q) e) (Y2 _)
theorem HOk.kept (x:HOk P w H h) (k :∀b u,h.get? b=some u->h'.get? b=some u):HOk P w H h':=λ a o e=>(x a o e).stay (λ b u _ q=>k b u q) (λ _ q=>q) λ _ _ q=>q
theorem HOk.laid (x:HOk P w H h) (k :∀b u,h.get? b=some u->h'.get? b=some u) (hp:h.objs.size<=a) (new:ObjOk P w (upd H a o) h' a o):HOk P w (upd H a o) h':=λ b u e=>by
 have d:=x.fresh hp;by_cases hb:b=a
 ·subst hb;rw [z01] at e;cases e;exact new
 ·rw [upd_ne hb] at e;exact (x b u e).stay (λ c v _ q=>k c v q) (λ c q=>by rw [upd_ne (z0g q d)];exact q) λ c f q=>by rw [upd_ne (z0g q d)];exact q
end
def Rd (H:Hp) (a:Addr) (u:HO):Prop:=H a=some u\/∃o,H a=some (.frz o u)
theorem Rd.ok {P:Program} {w:O0} {H:Hp} {h:Heap} {a:Addr} {u:HO} (r:Rd H a u) (x:HOk P w H h):ObjOk P w H h a u:=by
 rcases r with r|⟨o,r⟩
 ·exact x a u r
 ·obtain ⟨_,q⟩:=x a _ r;exact q
noncomputable def Mut:Option HO->Prop
 | some (.lst _)=>True
 | some (.dK _)=>True
 | some (.dT _)=>True
 | some (.set _ _)=>True
 | some (.ins _ _ _)=>True
 | some (.ext _)=>True
 | _=>False
section
variable {P:Program} {w:O0} {H:Hp} {h h':Heap} {x e:Addr} {o':HO}
theorem HOk.write (ok:HOk P w H h) (mu:Mut (H x)) (he:e=x\/H e=some (.own x)) (k :∀b u,b≠e->h.get? b=some u->h'.get? b=some u) (heo :∃u,h'.get? e=some u)
  (new:ObjOk P w (upd H x o') h' x o'):HOk P w (upd H x o') h':=λ b u q=>by
 have f :∀c y,H c=some (.own y)->c≠x:=λ c y r z=>by subst z;rw [r] at mu;exact mu
 have j :∀c a,H c=some (.tup a)->c≠x:=λ c a r z=>by subst z;rw [r] at mu;exact mu
 by_cases hb:b=x
 ·subst hb;rw [z01] at q;cases q;exact new
 ·rw [upd_ne hb] at q;by_cases hbe:b=e
  ·have g:H b=some (.own x):=by
    rcases he with z|z
    ·exact absurd (hbe.trans z) hb
    ·rw [hbe];exact z
   rw [q] at g;cases g;obtain ⟨v,i⟩:=heo;exact ⟨v,by rw [hbe];exact i⟩
  ·refine (ok b u q).stay (λ c v d r=>k c v ?_ r) (λ c r=>by rw [upd_ne (f c b r)];exact r) λ c a r=>by rw [upd_ne (j c a r)];exact r
   rcases d with rfl|d
   ·exact hbe
   ·rintro rfl;rcases he with z|z
    ·exact f c b d z
    ·rw [d] at z;cases z;exact hb rfl
end
structure Un (fs ex:List Addr) (H H':Hp) (h h':Heap):Prop where
 keep :∀b o,h.get? b=some o->H b=none->b∉fs->b∉ex->h'.get? b=some o
 slot :∀b o,h.get? b=some o->H b=none->b∈fs->b∉ex->∃sl,h'.get? b=some { o with slots:=sl }
 free :∀b o,h.get? b=some o->H b=none->b∉ex->H' b=none
 there :∀b o,h.get? b=some o->b∉ex->∃o',h'.get? b=some o'
 tups :∀b xs,H b=some (.tup xs)->H' b=some (.tup xs)
 frzs :∀b o u,H b=some (.frz o u)->H' b=some (.frz o u)
 tbls :∀b ps,H b=some (.tbl ps)->∃more,H' b=some (.tbl (ps++more))
section
variable {fs fs' ex ex':List Addr} {H H1 H2:Hp} {h h1 h2 h':Heap} {a x e:Addr} {o:HO}
theorem Un.any (u:Un fs ex H H1 h h1) {b:Addr} {ob:Obj} (q:h.get? b=some ob) (n:H b=none) (hx:b∉ex) :∃sl,h1.get? b=some { ob with slots:=sl }:=by
 by_cases hb:b∈fs
 ·exact u.slot b ob q n hb hx
 ·exact ⟨ob.slots,u.keep b ob q n hb hx⟩
theorem Un.kept (k :∀b u,h.get? b=some u->h'.get? b=some u):Un fs ex H H h h':=
 ⟨λ b a q _ _ _=>k b a q,λ b a q _ _ _=>⟨a.slots,k b a q⟩,λ _ _ _ n _=>n,λ b a q _=>⟨a,k b a q⟩,λ _ _ q=>q,λ _ _ _ q=>q,λ _ c q=>⟨#[],by rw [q];simp⟩⟩
theorem Un.refl:Un fs ex H H h h:=Un.kept λ _ _ q=>q
theorem Un.laid (k :∀b u,h.get? b=some u->h'.get? b=some u) (hp:h.objs.size<=a) (hn:H a=none):Un fs ex H (upd H a o) h h' where
 keep:=λ b u q _ _ _=>k b u q
 slot:=λ b u q _ _ _=>⟨u.slots,k b u q⟩
 free:=λ b u q n _=>by rw [upd_ne (Q0 (V0 (G0 q) hp))];exact n
 there:=λ b u q _=>⟨u,k b u q⟩
 tups:=λ b c q=>by rw [upd_ne (z0g q hn)];exact q
 frzs:=λ b u c q=>by rw [upd_ne (z0g q hn)];exact q
 tbls:=λ b d q=>⟨#[],by rw [upd_ne (z0g q hn),q];simp⟩
theorem Un.write (mu:Mut (H x)) (he:e=x\/H e=some (.own x)) (k :∀b u,b≠e->h.get? b=some u->h'.get? b=some u) (heo :∃u,h'.get? e=some u):Un fs ex H (upd H x o) h h':=by
 have c :∀b,H b=none->b≠x:=λ b n z=>by subst z;rw [n] at mu;exact mu
 have d :∀b,H b=none->b≠e:=λ b n z=>by
  subst z;rcases he with r|r
  ·exact c b n r
  ·rw [n] at r;cases r
 have a :∀b u,H b=some u->¬ Mut (some u)->b≠x:=λ b u q f z=>by subst z;rw [q] at mu;exact f mu
 refine ⟨λ b u q n _ _=>k b u (d b n) q,λ b u q n _ _=>⟨u.slots,k b u (d b n) q⟩,λ b u q n _=>by rw [upd_ne (c b n)];exact n,λ b u q _=>?_,
  λ b g q=>by rw [upd_ne (a b _ q λ z=>z)];exact q,λ b u g q=>by rw [upd_ne (a b _ q λ z=>z)];exact q,λ b i q=>⟨#[],by rw [upd_ne (a b _ q λ z=>z),q];simp⟩⟩
 by_cases hbe:b=e
 ·subst hbe;exact heo
 ·exact ⟨u,k b u hbe q⟩
end
noncomputable def trk (h:Heap) (H:Hp):List Addr:=(N1 h.objs.size).filter λ a=>(H a).isSome
noncomputable def hidT (h:Heap) (H:Hp):Heap:=PySem.W.hideAll h (trk h H)
theorem zdr (h:Heap) (H:Hp):(hidT h H).objs.size=h.objs.size:=PySem.W.hideAll_size _ _
theorem zf6 {h:Heap} {H:Hp} {b:Addr} {o:Obj} (e:h.get? b=some o) (n:H b=none):(hidT h H).get? b=some o:=
 PySem.W.hideAll_get _ e λ a=>by have q:(H b).isSome=true:=(List.mem_filter.mp a).2;rw [n] at q;simp at q
theorem zgb {h:Heap} {H:Hp} {b:Addr} {o:Obj} (e:(hidT h H).get? b=some o):h.get? b=some o/\H b=none:=by
 have a:h.get? b=some o:=PySem.W.of_hideAll (trk h H) e;refine ⟨a,?_⟩;cases q:H b with
 | none=>rfl
 | some x=>have c:b∈trk h H:=List.mem_filter.mpr ⟨List.mem_range.mpr (G0 a),by simp [q]⟩;have z:(hidT h H).get? b=none:=PySem.W.hideAll_none (trk h H) c;rw [z] at e;cases e
noncomputable def zgn (g h:Heap) (L:Addr):List (Addr×Obj):=(N1 h.objs.size).filterMap λ a=>if a=L\/(g.get? a).isSome=true then none else (h.get? a).map λ o=>(a,o)
noncomputable def rest (g h:Heap) (L d:Addr):List (Addr×Obj):=(zgn g h L).filter λ p=>decide (p.1≠d)
structure Mod (K:c0) (mg:Str->Option Value) (base:Heap):Prop where
 kin:K.In base
 glob:base.Ns U1 mg
 blt :∃mb,base.Ns E8 mb/\∀x:Str,x≠"__name__"->mb x=v4 x
 nolimit:base.NoLimit
structure Cx where
 prog:Program
 w:O0
 K:c0
 mg:Str->Option Value
 base:Heap
 A:Z1
 N:List Str
 s₀:y0
 H₀:Hp
 env:Env
 outer:List Env
 stack:List Env
 ex:List Addr
 fn:Str->Bool
 calm:Bool
 pn:List (Addr×Obj)
 xe:Value->y0->Prop
noncomputable def frs (l:List Env):List Addr:=l.filterMap (·.frame)
noncomputable abbrev Cx.fs (X:Cx):List Addr:=frs X.outer
def Vis (sc:Scope) (x:Str):Prop:=sc.names.lookup x=some .local\/sc.names.lookup x=some .cell\/sc.names.lookup x=some .free
def Loc (sc:Scope) (x:Str):Prop:=sc.names.lookup x=some .local\/sc.names.lookup x=some .cell
def Look (env:Env) (h:Heap) (m:Str->Option Value) (x:Str) (u:Value):Prop:=
 (env.kindOf x=some .local/\m x=some u)\/((env.kindOf x=some .cell\/env.kindOf x=some .free)/\∃c,env.cells.lookup x=some c/\h.IsCell c (some u))
structure Cx.Ok (X:Cx):Prop where
 mod:Mod X.K X.mg X.base
 kind:X.env.scope.kind=.function
 glob:X.env.globals=U1
 blt:X.env.builtins=E8
 above:X.s₀.heap.objs.size<=X.env.locals
 inj :∀x y c,X.env.cells.lookup x=some c->X.env.cells.lookup y=some c->x=y
 has :∀x,(X.env.kindOf x=some .cell\/X.env.kindOf x=some .free)->∃c,X.env.cells.lookup x=some c
 cab :∀x c,X.fn x=true->X.env.cells.lookup x=some c->X.s₀.heap.objs.size<=c
 hd:X.calm=true->X.A.handled=none
 frames:X.A.frames=some X.stack
 stk:X.stack=X.outer\/(X.stack=X.env :: X.outer/\X.env.frame=some X.env.locals)
 exf :∀b∈X.ex,b≠X.env.locals/\∀x c,X.env.cells.lookup x=some c->c≠b
 bs :∀b o,X.base.get? b=some o->X.s₀.heap.get? b=some o/\X.H₀ b=none
 bsz:X.base.objs.size<=X.s₀.heap.objs.size
 noex :∀b o,X.base.get? b=some o->b∉X.ex
 exfs :∀b∈X.ex,b∉X.fs
 funs:X.s₀.heap.FunFrames X.base X.outer
 frf :∀b∈X.fs,X.H₀ b=none
structure Inv (X:Cx) (pins:List (Addr×Obj)) (σ:List (Option V)) (H:Hp) (s:y0):Prop where
 ok:X.Ok
 os:s.os=X.s₀.os
 bare:Y6 s.gens
 base:Un X.fs X.ex X.H₀ H X.s₀.heap s.heap
 loc :∃m,s.heap.Ns X.env.locals m/\∀(i:Nat) (x:Str) (v:V),X.N[i]? = some x->σ[i]? = some (some v)->Vis X.env.scope x->∃u,RelV v u/\Look X.env s.heap m x u
 cell :∀x c,X.env.cells.lookup x=some c->∃v,s.heap.IsCell c v
 free:H X.env.locals=none
 freeC :∀x c,X.env.cells.lookup x=some c->H c=none
 pin :∀p∈X.pn++pins,s.heap.get? p.1=some p.2/\H p.1=none/\p.1≠X.env.locals/\p.1∉X.fs/\∀v,p.2.data≠.cell v
 hok:HOk X.prog X.w H s.heap
 len:σ.length=X.N.length
section
variable {X:Cx} {pins:List (Addr×Obj)} {σ:List (Option V)} {H H':Hp} {s:y0} {h':Heap}
theorem Cx.Ok.nofr (ok:X.Ok) {b:Addr} {o:Obj} (e:X.base.get? b=some o):b∉X.fs:=λ a=>by have:=(ok.funs.mem a).1;rw [e] at this;cases this
theorem Inv.bs (I:Inv X pins σ H s) :∀b o,X.base.get? b=some o->s.heap.get? b=some o/\H b=none:=λ b o e=>⟨I.base.keep b o (I.ok.bs b o e).1 (I.ok.bs b o e).2 (I.ok.nofr e) (I.ok.noex b o e),I.base.free b o (I.ok.bs b o e).1 (I.ok.bs b o e).2 (I.ok.noex b o e)⟩
theorem Inv.bk (I:Inv X pins σ H s) :∀b o,X.base.get? b=some o->s.heap.get? b=some o:=λ b o e=>(I.bs b o e).1
theorem Inv.mod (I:Inv X pins σ H s):Mod X.K X.mg X.base:=I.ok.mod
theorem Inv.kIn (I:Inv X pins σ H s):X.K.In s.heap:=I.ok.mod.kin.keeps I.bk
theorem Inv.lt (I:Inv X pins σ H s):X.env.locals < s.heap.objs.size:=let ⟨_,hn,_⟩:=I.loc;hn.lt
theorem Inv.sz (I:Inv X pins σ H s):X.s₀.heap.objs.size<=s.heap.objs.size:=F0 I.ok.above (i7 I.lt)
theorem Inv.nofs (I:Inv X pins σ H s) {a:Addr} (h:s.heap.objs.size<=a):a∉X.fs:=λ b=>by obtain ⟨_,o,c,_⟩:=I.ok.funs.mem b;exact absurd (V0 (G0 c) (F0 I.sz h)) (Y2 _)
theorem Inv.cne (I:Inv X pins σ H s) :∀x c,X.env.cells.lookup x=some c->c≠X.env.locals:=λ x c e z=>by obtain ⟨v,o,a,hd⟩:=I.cell x c e;obtain ⟨m,⟨h,g,f,d,b,_⟩,_⟩:=I.loc;rw [z,d] at a;cases a;rw [b] at hd;cases hd
theorem Inv.funs (I:Inv X pins σ H s):s.heap.FunFrames X.base X.outer:=by
 have all :∀(l:List Env),(∀b∈frs l,b∈X.fs)->X.s₀.heap.FunFrames X.base l->s.heap.FunFrames X.base l:=by
  intro l;induction l with
  | nil=>intro _ _;trivial
  | cons env r ih=>intro f i;obtain ⟨h,⟨L,o,c,g,j,hd⟩,k⟩:=i;have d:L∈X.fs:=f L (by unfold frs;rw [T7,c];exact Y1);obtain ⟨m,e⟩:=I.base.slot L o j (I.ok.frf L d) d λ z=>I.ok.exfs L z d;exact ⟨h,⟨L,_,c,g,e,hd⟩,ih (λ b a=>f b (by unfold frs;rw [T7,c];exact P2 _ a)) k⟩
 exact all X.outer (λ _ a=>a) I.ok.funs
theorem Inv.stack (I:Inv X pins σ H s):s.heap.FunFrames X.base X.stack:=by
 rcases I.ok.stk with e|⟨e,hf⟩
 ·rw [e];exact I.funs
 ·rw [e];obtain ⟨m,a,_⟩:=I.loc;refine .cons (by rw [I.ok.kind];decide) hf a ?_ I.funs;exact Heap.get?_none_of_le (F0 I.ok.bsz I.ok.above)
theorem Inv.stkSub (I:Inv X pins σ H s) :∀b∈frs X.stack,b∈X.env.locals :: X.fs:=λ b a=>by
 rcases I.ok.stk with e|⟨e,hf⟩
 ·rw [e] at a;exact P2 _ a
 ·rw [e] at a;unfold frs at a;rw [T7,hf] at a;exact a
theorem Inv.stkFree (I:Inv X pins σ H s) :∀b∈frs X.stack,H b=none:=λ b a=>by
 rcases List.mem_cons.mp (I.stkSub b a) with e|a
 ·rw [e];exact I.free
 ·obtain ⟨_,o,c,_⟩:=I.ok.funs.mem a;exact I.base.free b o c (I.ok.frf b a) λ z=>I.ok.exfs b z a
theorem Inv.step {g':Array GenState} {t':Nat} {d':Drawn} {ch:List Addr} (I:Inv X pins σ H s)
  (hch :∀b∈ch,(b∈X.ex\/X.s₀.heap.objs.size<=b)/\b≠X.env.locals/\(∀x c,X.env.cells.lookup x=some c->c≠b)/\∀p∈X.pn++pins,p.1≠b)
  (keep :∀b o,b≠X.env.locals->b∉X.fs->b∉ch->s.heap.get? b=some o->H b=none->h'.get? b=some o)
  (slot :∀b o,b≠X.env.locals->b∈X.fs->b∉ch->s.heap.get? b=some o->H b=none->∃sl,h'.get? b=some { o with slots:=sl }) (free :∀b o,b∉ch->s.heap.get? b=some o->H b=none->H' b=none)
  (there :∀b o,b∉ch->s.heap.get? b=some o->∃o',h'.get? b=some o')
  (tups :∀b xs,H b=some (.tup xs)->H' b=some (.tup xs)) (frzs :∀b o u,H b=some (.frz o u)->H' b=some (.frz o u)) (tbls :∀b ps,H b=some (.tbl ps)->∃more,H' b=some (.tbl (ps++more)))
  (ns :∀m,s.heap.Ns X.env.locals m->h'.Ns X.env.locals m) (hok:HOk X.prog X.w H' h') (hg:Y6 g') :
  Inv X pins σ H' { s with heap:=h',gens:=g',drawn:=d',toks:=t' }:=by
 have D :∀b o,X.s₀.heap.get? b=some o->b≠X.env.locals:=λ b o e=>Q0 (V0 (G0 e) I.ok.above);have y :∀b o,X.s₀.heap.get? b=some o->b∉X.ex->b∉ch:=λ b o e a g=>by
  rcases (hch b g).1 with z|z
  ·exact a z
  ·exact absurd (V0 (G0 e) z) (Y2 _)
 have E :∀x c,X.env.cells.lookup x=some c->∀v,s.heap.IsCell c v->h'.IsCell c v:=λ x c e v ⟨o,h,hd⟩=>by
  have t:c∉ch:=λ z=>(hch c z).2.2.1 x c e rfl;by_cases hc:c∈X.fs
  ·obtain ⟨sl,q⟩:=slot c o (I.cne x c e) hc t h (I.freeC x c e);exact ⟨_,q,hd⟩
  ·exact ⟨o,keep c o (I.cne x c e) hc t h (I.freeC x c e),hd⟩
 refine ⟨I.ok,I.os,hg,⟨λ b o e n g a=>?_,λ b o e n g a=>?_,λ b o e n a=>?_,λ b o e a=>?_,λ b xs e=>tups b xs (I.base.tups b xs e),λ b o xs e=>frzs b o xs (I.base.frzs b o xs e),λ b ps e=>?_⟩,?_,λ x c e=>?_,?_,λ x c e=>?_,λ p A=>?_,hok,I.len⟩
 ·exact keep b o (D b o e) g (y b o e a) (I.base.keep b o e n g a) (I.base.free b o e n a)
 ·obtain ⟨sl,f⟩:=I.base.slot b o e n g a;obtain ⟨M,j⟩:=slot b _ (D b o e) g (y b o e a) f (I.base.free b o e n a);exact ⟨M,j⟩
 ·obtain ⟨o',f⟩:=I.base.there b o e a;exact free b o' (y b o e a) f (I.base.free b o e n a)
 ·obtain ⟨o',f⟩:=I.base.there b o e a;exact there b o' (y b o e a) f
 ·obtain ⟨F,f⟩:=I.base.tbls b ps e;obtain ⟨K,j⟩:=tbls b _ f;exact ⟨F++K,by rw [j,Array.append_assoc]⟩
 ·obtain ⟨m,L,G⟩:=I.loc;refine ⟨m,ns m L,λ i x v f j J=>?_⟩;obtain ⟨u,r,l⟩:=G i x v f j J;refine ⟨u,r,?_⟩;rcases l with l|⟨k,c,e,z⟩
  ·exact .inl l
  ·exact .inr ⟨k,c,e,E x c e _ z⟩
 ·obtain ⟨v,z⟩:=I.cell x c e;exact ⟨v,E x c e v z⟩
 ·obtain ⟨m,⟨o,_,_,h,_⟩,_⟩:=I.loc;exact free _ o (λ z=>(hch _ z).2.1 rfl) h I.free
 ·obtain ⟨v,o,h,hd⟩:=I.cell x c e;exact free c o (λ z=>(hch c z).2.2.1 x c e rfl) h (I.freeC x c e)
 ·obtain ⟨e,n,B,C,d⟩:=I.pin p A;have t:p.1∉ch:=λ z=>(hch p.1 z).2.2.2 p A rfl;exact ⟨keep p.1 p.2 B C t e n,free p.1 p.2 t e n,B,C,d⟩
theorem Inv.un {t':Nat} (I:Inv X pins σ H s) (u:Un X.fs [] H H' s.heap h') (hok:HOk X.prog X.w H' h'):Inv X pins σ H' { s with heap:=h',toks:=t' }:=by obtain ⟨m,⟨o,k,q,c,r⟩,_⟩:=id I.loc;obtain ⟨l,g⟩:=u.any c I.free (by simp);exact I.step (g':=s.gens) (d':=s.drawn) (ch:=[]) (λ _ z=>nomatch z) (λ b o _ a _ e n=>u.keep b o e n a (by simp)) (λ b o _ a _ e n=>u.slot b o e n a (by simp)) (λ b o _ e n=>u.free b o e n (by simp)) (λ b o _ e=>u.there b o e (by simp)) u.tups u.frzs u.tbls (λ p f=>by obtain ⟨t,h,j,d,i⟩:=f;rw [c] at d;cases d;exact ⟨_,h,j,g,i⟩) hok I.bare
theorem Inv.call {g':Array GenState} {t':Nat} {d':Drawn} {ch:List Addr} (I:Inv X pins σ H s) (u:Un (frs X.stack) ch H H' s.heap h') (hok:HOk X.prog X.w H' h') (hg:Y6 g')
  (hch :∀b∈ch,(b∈X.ex\/X.s₀.heap.objs.size<=b)/\b≠X.env.locals/\(∀x c,X.env.cells.lookup x=some c->c≠b)/\∀p∈X.pn++pins,p.1≠b) :
  Inv X pins σ H' { s with heap:=h',gens:=g',drawn:=d',toks:=t' }:=by
 obtain ⟨m,⟨o,q,y,f,r⟩,_⟩:=id I.loc;obtain ⟨t,d⟩:=u.any f I.free λ z=>(hch _ z).2.1 rfl;exact I.step (ch:=ch) hch (λ b o d i a e n=>u.keep b o e n (λ z=>(List.mem_cons.mp (I.stkSub b z)).elim d i) a) (λ b o _ _ a e n=>u.any e n a) (λ b o a e n=>u.free b o e n a) (λ b o a e=>u.there b o e a) u.tups u.frzs u.tbls (λ v h=>by obtain ⟨A,j,l,g,k⟩:=h;rw [f] at g;cases g;exact ⟨_,j,l,d,k⟩) hok hg
theorem Inv.turned {t':Nat} {it:Addr} (I:Inv X pins σ H s) (k :∀b o,b≠it->s.heap.get? b=some o->h'.get? b=some o) (hn:H it=none) (hL:it≠X.env.locals)
  (h1:it∈X.ex\/X.s₀.heap.objs.size<=it) (h2 :∀x c,X.env.cells.lookup x=some c->c≠it) (h3 :∀p∈X.pn++pins,p.1≠it):Inv X pins σ H { s with heap:=h',toks:=t' }:=by
 have d :∀b u,H b=some u->b≠it:=λ b u e z=>by rw [z,hn] at e;cases e
 refine I.step (g':=s.gens) (d':=s.drawn) (ch:=[it]) (λ b g=>?_) (λ b o _ _ a e _=>k b o (λ z=>a (by simp [z])) e) (λ b o _ _ a e _=>⟨o.slots,k b o (λ z=>a (by simp [z])) e⟩) (λ _ _ _ _ n=>n)
  (λ b o a e=>⟨o,k b o (λ z=>a (by simp [z])) e⟩) (λ _ _ e=>e) (λ _ _ _ e=>e) (λ b l e=>⟨#[],by rw [e];simp⟩) (λ m f=>?_) (λ b u e=>?_) I.bare
 ·have e:b=it:=by simpa using g
  subst e;exact ⟨h1,hL,h2,h3⟩
 ·obtain ⟨o,i,h,j,r⟩:=f;exact ⟨o,i,h,k _ o (F3 hL) j,r⟩
 ·refine (I.hok b u e).stay (λ c v a q=>k c v ?_ q) (λ _ q=>q) λ _ _ q=>q;rcases a with z|z
  ·rw [z];exact d b u e
  ·exact d c _ z
theorem Inv.tok (I:Inv X pins σ H s) (t:Nat):Inv X pins σ H { s with toks:=t }:=I.un (h':=s.heap) (t':=t) Un.refl I.hok
theorem Inv.kept {t':Nat} (I:Inv X pins σ H s) (k :∀b u,s.heap.get? b=some u->h'.get? b=some u):Inv X pins σ H { s with heap:=h',toks:=t' }:=I.un (Un.kept k) (I.hok.kept k)
theorem Inv.laid {a:Addr} {o:HO} {t':Nat} (I:Inv X pins σ H s) (k :∀b u,s.heap.get? b=some u->h'.get? b=some u) (hp:s.heap.objs.size<=a) (new:ObjOk X.prog X.w (upd H a o) h' a o) :
  Inv X pins σ (upd H a o) { s with heap:=h',toks:=t' }:=I.un (Un.laid k hp (I.hok.fresh hp)) (I.hok.laid k hp new)
theorem Inv.write {x e:Addr} {o:HO} {t':Nat} (I:Inv X pins σ H s) (mu:Mut (H x)) (he:e=x\/H e=some (.own x)) (k :∀b u,b≠e->s.heap.get? b=some u->h'.get? b=some u) (heo :∃u,h'.get? e=some u)
  (new:ObjOk X.prog X.w (upd H x o) h' x o):Inv X pins σ (upd H x o) { s with heap:=h',toks:=t' }:=I.un (Un.write mu he k heo) (I.hok.write mu he k heo new)
theorem Inv.weak {σ':List (Option V)} (I:Inv X pins σ H s) (hl:σ'.length=σ.length) (w :∀(i:Nat) v,σ'[i]? = some (some v)->σ[i]? = some (some v)):Inv X pins σ' H s:=
 ⟨I.ok,I.os,I.bare,I.base,let ⟨m,hn,hl'⟩:=I.loc;⟨m,hn,λ i x v b c a=>hl' i x v b (w i v c) a⟩,I.cell,I.free,I.freeC,I.pin,I.hok,hl.trans I.len⟩
theorem Inv.pins_of {pins':List (Addr×Obj)} (I:Inv X pins σ H s) (h :∀p∈pins',s.heap.get? p.1=some p.2/\H p.1=none/\p.1≠X.env.locals/\p.1∉X.fs/\∀v,p.2.data≠.cell v):Inv X pins' σ H s:=
 ⟨I.ok,I.os,I.bare,I.base,I.loc,I.cell,I.free,I.freeC,λ p a=>(List.mem_append.mp a).elim (λ z=>I.pin p (Q4 _ z)) (h p),I.hok,I.len⟩
theorem zc5 {N:List Str} (hN:N.Nodup) {i j:Nat} {x:Str} (a:N[i]? = some x) (b:N[j]? = some x):i=j:=by obtain ⟨e,c⟩:=List.getElem?_eq_some_iff.mp a;obtain ⟨f,d⟩:=List.getElem?_eq_some_iff.mp b;exact (List.getElem_inj hN).mp (c.trans d.symm)
theorem zdw {M:Model} {A:Z1} {E:Value->y0->Prop} {i:Nat} {x:Str} {v:V} {u:Value} {Q:Unit->y0->Prop} (I:Inv X pins σ H s) (hN:X.N.Nodup) (hi:X.N[i]? = some x) (hx:Loc X.env.scope x) (r:RelV v u)
  (h :∀s',Inv X pins (σ.set i (some v)) H s'->(∃a,g6 a s.heap s'.heap/\(a=X.env.locals\/X.env.cells.lookup x=some a))->Q () s') (hf:X.fn x=true\/X.env.scope.names.lookup x=some .local:=by first|exact .inl rfl|exact .inr rfl|assumption):R0 M A (storeName X.env x u) Q E s:=by
 obtain ⟨m,T,Z⟩:=id I.loc;have a5:(X.env.scope.kind == .class || (X.env.scope.kind == .module && X.env.locals != X.env.globals))=false:=by rw [I.ok.kind];rfl
 have a0:i < σ.length:=by rw [I.len];exact (List.getElem?_eq_some_iff.mp hi).1
 have cne:=I.cne;have Y :∀{a:Addr} {C:Heap},(∃o,s.heap.get? a=some o/\H a=none)->g6 a s.heap C->HOk X.prog X.w H C:=λ {a C} ha f b ob e=>by
  obtain ⟨_,_,a3⟩:=ha;refine (I.hok b ob e).stay (λ c F l q=>(f.2 c ?_).trans q) (λ _ q=>q) λ _ _ q=>q;rintro rfl;rcases l with rfl|l
  ·rw [a3] at e;cases e
  ·rw [a3] at l;cases l
 rcases hx with hk|hk
 ·refine wpAny_storeName_local hk T (λ C a7 f=>?_) a5;obtain ⟨oL,_,_,a4,_⟩:=id T;refine h _ ⟨I.ok,I.os,I.bare,⟨λ b o e n B hx=>?_,λ b o e n B hx=>?_,I.base.free,λ b o e hx=>?_,I.base.tups,I.base.frzs,I.base.tbls⟩,⟨_,a7,λ j y S g t R=>?_⟩,λ y c e=>?_,I.free,I.freeC,λ p J=>?_,Y ⟨oL,a4,I.free⟩ f,by simpa using I.len⟩ ⟨_,f,.inl rfl⟩
  ·exact (f.2 b (Q0 (V0 (G0 e) I.ok.above))).trans (I.base.keep b o e n B hx)
  ·obtain ⟨L,g⟩:=I.base.slot b o e n B hx;exact ⟨L,(f.2 b (Q0 (V0 (G0 e) I.ok.above))).trans g⟩
  ·obtain ⟨U,g⟩:=I.base.there b o e hx;exact ⟨U,(f.2 b (Q0 (V0 (G0 e) I.ok.above))).trans g⟩
  ·by_cases hj:j=i
   ·subst hj;rw [hi] at g;cases g;rw [K9 a0] at t;cases t;exact ⟨u,r,.inl ⟨hk,by simp⟩⟩
   ·rw [j06 (F3 hj)] at t;obtain ⟨K,W,q⟩:=Z j y S g t R;refine ⟨K,W,?_⟩;rcases q with ⟨k,e⟩|⟨k,c,e,z⟩
    ·refine .inl ⟨k,?_⟩;have:y≠x:=λ e=>hj (zc5 hN g (e ▸ hi));simp [this,e]
    ·exact .inr ⟨k,c,e,z.sameBut f (cne y c e)⟩
  ·obtain ⟨F,z⟩:=I.cell y c e;exact ⟨F,z.sameBut f (cne y c e)⟩
  ·obtain ⟨e,n,G,P,d⟩:=I.pin p J;exact ⟨(f.2 p.1 G).trans e,n,G,P,d⟩
 ·have O:X.fn x=true:=by
   rcases hf with z|z
   ·exact z
   ·rw [z] at hk;cases hk
  obtain ⟨c,l⟩:=I.ok.has x (.inl hk);obtain ⟨F,z⟩:=I.cell x c l;refine wpAny_storeName_cell I.ok.kind hk l z (λ C a2 f=>?_);obtain ⟨oc,a1,a6⟩:=id z;refine h { s with heap:=C } ⟨I.ok,I.os,I.bare,⟨λ b o e n B hx=>?_,λ b o e n B hx=>?_,I.base.free,λ b o e hx=>?_,I.base.tups,I.base.frzs,I.base.tbls⟩,⟨m,T.sameBut f (F3 (cne x c l)),λ j y S g t R=>?_⟩,λ y D e=>?_,I.free,I.freeC,λ p J=>?_,Y ⟨oc,a1,I.freeC x c l⟩ f,by simpa using I.len⟩ ⟨c,f,.inr l⟩
  ·exact (f.2 b (Q0 (V0 (G0 e) (I.ok.cab x c O l)))).trans (I.base.keep b o e n B hx)
  ·obtain ⟨L,g⟩:=I.base.slot b o e n B hx;exact ⟨L,(f.2 b (Q0 (V0 (G0 e) (I.ok.cab x c O l)))).trans g⟩
  ·obtain ⟨U,g⟩:=I.base.there b o e hx;exact ⟨U,(f.2 b (Q0 (V0 (G0 e) (I.ok.cab x c O l)))).trans g⟩
  ·by_cases hj:j=i
   ·subst hj;rw [hi] at g;cases g;rw [K9 a0] at t;cases t;exact ⟨u,r,.inr ⟨.inl hk,c,l,a2⟩⟩
   ·rw [j06 (F3 hj)] at t;obtain ⟨K,W,q⟩:=Z j y S g t R;refine ⟨K,W,?_⟩;rcases q with q|⟨k,D,e,z'⟩
    ·exact .inl q
    ·refine .inr ⟨k,D,e,z'.sameBut f ?_⟩;rintro rfl;exact hj (zc5 hN g (I.ok.inj _ _ _ e l ▸ hi))
  ·by_cases hcc:D=c
   ·subst hcc;exact ⟨_,a2⟩
   ·obtain ⟨w2,z2⟩:=I.cell y D e;exact ⟨w2,z2.sameBut f hcc⟩
  ·obtain ⟨e,n,G,P,d⟩:=I.pin p J;refine ⟨(f.2 p.1 ?_).trans e,n,G,P,d⟩;intro q;rw [q,a1] at e;have q':oc=p.2:=D1 e;exact d F (by rw [<-q'];exact a6)
theorem zbb {M:Model} {A:Z1} {E:Value->y0->Prop} {i:Nat} {x:Str} {v:V} {u:Value} {Q:Unit->y0->Prop} (I:Inv X pins σ H s) (hN:X.N.Nodup) (hi:X.N[i]? = some x) (hx:Loc X.env.scope x) (r:RelV v u)
  (h :∀s',Inv X pins (σ.set i (some v)) H s'->Q () s') (hf:X.fn x=true\/X.env.scope.names.lookup x=some .local:=by first|exact .inl rfl|exact .inr rfl|assumption):R0 M A (storeName X.env x u) Q E s:=
 zdw I hN hi hx r (λ s' a _=>h s' a) hf
theorem Inv.call' {s':y0} {ch:List Addr} (I:Inv X pins σ H s) (ho:s'.os=s.os) (u:Un (frs X.stack) ch H H' s.heap s'.heap) (hok:HOk X.prog X.w H' s'.heap) (hg:Y6 s'.gens)
  (hch :∀b∈ch,(b∈X.ex\/X.s₀.heap.objs.size<=b)/\b≠X.env.locals/\(∀x c,X.env.cells.lookup x=some c->c≠b)/\∀p∈X.pn++pins,p.1≠b):Inv X pins σ H' s':=by
 obtain ⟨d,g',d',t',a⟩:=s';have e:a=s.os:=ho;subst e;exact I.call (g':=g') (t':=t') (d':=d') u hok hg hch
end
noncomputable abbrev XK:=Value->Option Addr->Hp->Prop
noncomputable abbrev St:=List (Option V)
noncomputable abbrev VK:=V->Hp->Prop
noncomputable abbrev TE:=St->Hp->VK->Prop
noncomputable abbrev TT:=St->Hp->(Bool->Hp->Prop)->Prop
noncomputable abbrev TA:=St->Hp->(List V->Hp->Prop)->Prop
structure Ends where
 nx:St->Hp->Prop
 rt:VK
 bk:St->Hp->Prop:=λ _ _=>False
 ct:St->Hp->Prop:=λ _ _=>False
noncomputable abbrev TS:=Ends->St->Hp->Prop
def EP (X:Cx) (pins:List (Addr×Obj)) (σ:St) (Q:VK) (u:Value) (s':y0):Prop:=∃v H',Inv X pins σ H' s'/\RelV v u/\Q v H'
def TP (X:Cx) (pins:List (Addr×Obj)) (σ:St) (Q:Bool->Hp->Prop) (b:Bool) (s':y0):Prop:=∃H',Inv X pins σ H' s'/\Q b H'
def AP (X:Cx) (pins:List (Addr×Obj)) (σ:St) (Q:List V->Hp->Prop) (us:List Value) (s':y0):Prop:=∃vs H',Inv X pins σ H' s'/\Vals vs us/\Q vs H'
def SP (X:Cx) (pins:List (Addr×Obj)) (D:Ends) (f:Flow) (s':y0):Prop:=
 match f with
 | .next=>∃σ' H',Inv X pins σ' H' s'/\D.nx σ' H'
 | .brk=>∃σ' H',Inv X pins σ' H' s'/\D.bk σ' H'
 | .cont=>∃σ' H',Inv X pins σ' H' s'/\D.ct σ' H'
 | .ret u=>∃v σ' H',Inv X pins σ' H' s'/\RelV v u/\D.rt v H'
def PE (X:Cx) (e:Expr) (t:TE):Prop:=
 ∀(pins:List (Addr×Obj)) (s:y0) (σ:St) (H:Hp) (Q:VK),Inv X pins σ H s->t σ H Q->R0 (Y0 X.prog X.w) X.A (W3 e X.env) (EP X pins σ Q) X.xe s
def PT (X:Cx) (e:Expr) (t:TT):Prop:=
 ∀(pins:List (Addr×Obj)) (s:y0) (σ:St) (H:Hp) (Q:Bool->Hp->Prop),Inv X pins σ H s->t σ H Q->R0 (Y0 X.prog X.w) X.A (isTrue e X.env (W3 e X.env)) (TP X pins σ Q) X.xe s
def PW (X:Cx) (e:Expr) (t:TT):Prop:=
 ∀(whole:Sem Value) (pins:List (Addr×Obj)) (s:y0) (σ:St) (H:Hp) (Q:Bool->Hp->Prop),Inv X pins σ H s->t σ H Q->R0 (Y0 X.prog X.w) X.A (isTrue e X.env whole) (TP X pins σ Q) X.xe s
theorem PW.pt {X:Cx} {e:Expr} {t:TT} (h:PW X e t):PT X e t:=h _
def PA (X:Cx) (es:List Expr) (t:TA):Prop:=
 ∀(pos:Pos) (pins:List (Addr×Obj)) (s:y0) (σ:St) (H:Hp) (Q:List V->Hp->Prop),Inv X pins σ H s->t σ H Q->R0 (Y0 X.prog X.w) X.A (G9 (G4 pos (G1 es X.env))) (AP X pins σ Q) X.xe s
def PS (X:Cx) (st:Stmt) (t:TS):Prop:=
 ∀(pins:List (Addr×Obj)) (s:y0) (σ:St) (H:Hp) (D:Ends),Inv X pins σ H s->t D σ H->R0 (Y0 X.prog X.w) X.A (exec st X.env) (SP X pins D) X.xe s
def PSs (X:Cx) (st:List Stmt) (t:TS):Prop:=
 ∀(pins:List (Addr×Obj)) (s:y0) (σ:St) (H:Hp) (D:Ends),Inv X pins σ H s->t D σ H->R0 (Y0 X.prog X.w) X.A (execs st X.env) (SP X pins D) X.xe s
theorem thn {α:Type} {t:Sem α} {Q Q':α->y0->Prop} {M:Model} {A:Z1} {E:Value->y0->Prop} {s:y0} (h:R0 M A t Q E s) (hQ :∀a s,Q a s->Q' a s):R0 M A t Q' E s:=L3 h hQ λ _ _ x=>x
section
variable {X:Cx}
noncomputable def tVar (i:Nat):TE:=λ σ H Q=>∃v,σ[i]? = some (some v)/\Q v H
noncomputable def tC (v:V):TE:=λ _ H Q=>Q v H
theorem pe_var {i:Nat} {x:Str} {pos:Pos} (hN:X.N[i]? = some x) (hv:Vis X.env.scope x) (hd:(x == ("__debug__" : Str))=false:=by decide) (hcd:(x == ("__classdict__" : Str))=false:=by decide):PE X (.Name x pos) (tVar i):=by
 intro g s σ H Q I h;obtain ⟨v,e,h⟩:=h;obtain ⟨m,b,f⟩:=I.loc;obtain ⟨u,r,l⟩:=f i x v hN e hv;have fin:EP X g σ Q u s:=⟨v,H,I,r,h⟩
 rcases l with ⟨a,d⟩|⟨a,c,hc,hcell⟩
 ·exact wpAny_Name (wpAny_loadName_local I.ok.kind a b d fin) hd
 ·rcases a with a|a
  ·exact wpAny_Name (wpAny_loadName_cell I.ok.kind a hc hcell fin) hd
  ·exact wpAny_Name (wpAny_loadName_free I.ok.kind a hc hcell fin hcd) hd
theorem pe_int {i j pos}:PE X (.Constant (.int i) j pos) (tC (.int i)):=λ _ _ _ H _ I h=>wpAny_Constant_int ⟨.int i,H,I.tok _,⟨_,rfl⟩,h⟩
theorem pe_bl {b j pos}:PE X (.Constant (.bool b) j pos) (tC (.bl b)):=λ _ _ _ H _ I h=>Constant_bool ⟨.bl b,H,I,rfl,h⟩
theorem pe_non {j pos}:PE X (.Constant .none j pos) (tC .non):=λ _ _ _ H _ I h=>Constant_none ⟨.non,H,I,rfl,h⟩
theorem pe_str {x j pos}:PE X (.Constant (.str x) j pos) (tC (.str x)):=λ _ _ _ H _ I h=>Calls.Constant_str ⟨.str x,H,I.tok _,⟨_,rfl⟩,h⟩
def Gl (X:Cx) (x:Str):Prop:=X.env.kindOf x=some .globalImplicit
theorem zb6 {E:Value->y0->Prop} {pins:List (Addr×Obj)} {s:y0} {σ:St} {H:Hp} {x:Str} {u:Value} {pos:Pos} {Q:Value->y0->Prop} (I:Inv X pins σ H s) (hg:Gl X x) (hm:X.mg x=some u) (h:Q u s)
  (hd:(x == ("__debug__" : Str))=false:=by decide):R0 (Y0 X.prog X.w) X.A (W3 (.Name x pos) X.env) Q E s:=
 b9 I.ok.kind hg (Calls.loadGlobal_global (by rw [I.ok.glob];exact I.mod.glob.keeps I.bk) hm h) hd
theorem ld_blt {E:Value->y0->Prop} {pins:List (Addr×Obj)} {s:y0} {σ:St} {H:Hp} {x:Str} {u:Value} {pos:Pos} {Q:Value->y0->Prop} (I:Inv X pins σ H s) (hg:Gl X x) (hm:X.mg x=none) (hv:v4 x=some u) (h:Q u s)
  (hn:x≠"__name__":=by decide) (hd:(x == ("__debug__" : Str))=false:=by decide):R0 (Y0 X.prog X.w) X.A (W3 (.Name x pos) X.env) Q E s:=by
 obtain ⟨c,a,b⟩:=I.mod.blt;exact b9 I.ok.kind hg (Calls.loadGlobal_builtin (by rw [I.ok.glob];exact I.mod.glob.keeps I.bk) hm (by rw [I.ok.blt];exact a.keeps I.bk) ((b x hn).trans hv) h) hd
theorem z1a {x:Str} {v:V} {u:Value} {pos:Pos} (hg:Gl X x) (hm:X.mg x=some u) (r:RelV v u) (hd:(x == ("__debug__" : Str))=false:=by decide):PE X (.Name x pos) (tC v):=
 λ _ _ _ H _ I h=>zb6 I hg hm ⟨v,H,I,r,h⟩ hd
theorem z1h {x:Str} {v:V} {u:Value} {pos:Pos} (hg:Gl X x) (hm:X.mg x=none) (hv:v4 x=some u) (r:RelV v u) (hn:x≠"__name__":=by decide) (hd:(x == ("__debug__" : Str))=false:=by decide):PE X (.Name x pos) (tC v):=
 λ _ _ _ H _ I h=>ld_blt I hg hm hv ⟨v,H,I,r,h⟩ hn hd
variable {a b:Expr} {ta tb:TE} {pos:Pos}
def PC (X:Cx) (op:CmpOp) (a b:Expr) (t:TE):Prop:=
 ∀(pins:List (Addr×Obj)) (s:y0) (σ:St) (H:Hp) (Q:VK),Inv X pins σ H s->t σ H Q->
  R0 (Y0 X.prog X.w) X.A (W3 a X.env) (λ v s₁=>R0 (Y0 X.prog X.w) X.A (W3 b X.env) (λ u s₂=>R0 (Y0 X.prog X.w) X.A (N2 op v u) (EP X pins σ Q) X.xe s₂) X.xe s₁) X.xe s
noncomputable def tB (t:TE):TT:=λ σ H Q=>t σ H λ x H1=>∃c,x=.bl c/\Q c H1
theorem pt_cmp {op:CmpOp} {t:TE} (h:PC X op a b t) (h1:Z6 op b=false:=by first|exact nobehind _ (by decide) (by decide)|rfl):PT X (.Compare a [op] [b] pos) (tB t):=by intro f s σ H Q I g;refine wpAny_isTrue_Compare1 (thn (h f s σ H _ I g) λ v k h1=>thn h1 λ u i e=>thn e λ c j ⟨x,H1,I1,r1,q1⟩=>?_) h1;obtain ⟨d,rfl,q⟩:=q1;cases r1;exact y3 ⟨H1,I1,q⟩
theorem pt_val {e:Expr} {t:TE} (h:PE X e t) (he :∀whole,isTrue e X.env whole=(do let v <-whole;standAt e.pos;J9 [v] (truthy v)):=by intro _;rfl):PT X e (tB t):=by intro a s σ H Q I b;refine isTrue_plain (thn (h a s σ H _ I b) λ v c ⟨x,H1,I1,r1,q1⟩=>?_) (he _);obtain ⟨d,rfl,q⟩:=q1;cases r1;exact y3 ⟨H1,I1,q⟩
variable {tA tB':TT} {rest:List Expr}
noncomputable def tAnd (t u:TT):TT:=λ σ H Q=>t σ H λ c H1=>if c=true then u σ H1 Q else Q false H1
noncomputable def tOr (t u:TT):TT:=λ σ H Q=>t σ H λ c H1=>if c=true then Q true H1 else u σ H1 Q
noncomputable def tNot (t:TT):TT:=λ σ H Q=>t σ H λ c H1=>Q (!c) H1
theorem z1s (ha:PT X a tA):PW X (.BoolOp .And [a] pos) tA:=by
 intro d b s σ H Q I h;refine isTrue_and (thn (ha b s σ H Q I h) λ c f e=>?_);cases c with
 | true=>exact isTrue_and_nil e
 | false=>exact e
theorem pw_or1 (ha:PT X a tA):PW X (.BoolOp .Or [a] pos) tA:=by
 intro d b s σ H Q I h;refine isTrue_or (thn (ha b s σ H Q I h) λ c f e=>?_);cases c with
 | false=>exact isTrue_or_nil e
 | true=>exact e
theorem pw_and (ha:PT X a tA) (hb:PW X (.BoolOp .And (b :: rest) pos) tB'):PW X (.BoolOp .And (a :: b :: rest) pos) (tAnd tA tB'):=by
 intro e d s σ H Q I h;refine isTrue_and (thn (ha d s σ H _ I h) λ c f ⟨H1,I1,q1⟩=>?_);cases c with
 | true=>exact hb e d f σ H1 Q I1 q1
 | false=>exact ⟨H1,I1,q1⟩
theorem pw_or (ha:PT X a tA) (hb:PW X (.BoolOp .Or (b :: rest) pos) tB'):PW X (.BoolOp .Or (a :: b :: rest) pos) (tOr tA tB'):=by
 intro e d s σ H Q I h;refine isTrue_or (thn (ha d s σ H _ I h) λ c f ⟨H1,I1,q1⟩=>?_);cases c with
 | true=>exact ⟨H1,I1,q1⟩
 | false=>exact hb e d f σ H1 Q I1 q1
theorem pt_not (ha:PT X a tA):PT X (.UnaryOp .Not a pos) (tNot tA):=by intro d s σ H Q I h;exact isTrue_not (ha d s σ H (λ c b=>Q (!c) b) I h)
noncomputable def tAndV (ta tb:TE):TE:=λ σ H Q=>ta σ H λ x H1=>∃c,x=.bl c/\if c=true then tb σ H1 Q else Q (.bl false) H1
noncomputable def tOrV (ta tb:TE):TE:=λ σ H Q=>ta σ H λ x H1=>∃c,x=.bl c/\if c=true then Q (.bl true) H1 else tb σ H1 Q
noncomputable def tNotV (ta:TE):TE:=λ σ H Q=>ta σ H λ x H1=>∃c,x=.bl c/\Q (.bl (!c)) H1
theorem pe_one {op} {t:TE} (h:PE X a t):PE X (.BoolOp op [a] pos) t:=λ b s σ H Q I c=>BoolOp_one (h b s σ H Q I c)
theorem pe_and (ha:PE X a ta) (hb:PE X (.BoolOp .And (b :: rest) pos) tb):PE X (.BoolOp .And (a :: b :: rest) pos) (tAndV ta tb):=by
 intro e s σ H Q I h;refine BoolOp_and (thn (ha e s σ H _ I h) λ v f ⟨x,H1,I1,r1,d⟩=>?_);obtain ⟨c,rfl,d⟩:=d;cases r1;refine y3 ?_;cases c with
 | true=>exact hb e f σ H1 Q I1 d
 | false=>exact ⟨.bl false,H1,I1,rfl,d⟩
theorem pe_or (ha:PE X a ta) (hb:PE X (.BoolOp .Or (b :: rest) pos) tb):PE X (.BoolOp .Or (a :: b :: rest) pos) (tOrV ta tb):=by
 intro e s σ H Q I h;refine BoolOp_or (thn (ha e s σ H _ I h) λ v f ⟨x,H1,I1,r1,d⟩=>?_);obtain ⟨c,rfl,d⟩:=d;cases r1;refine y3 ?_;cases c with
 | false=>exact hb e f σ H1 Q I1 d
 | true=>exact ⟨.bl true,H1,I1,rfl,d⟩
theorem pe_not (ha:PE X a ta):PE X (.UnaryOp .Not a pos) (tNotV ta):=by intro d s σ H Q I h;refine UnaryOp_ (thn (ha d s σ H _ I h) λ v e ⟨x,H1,I1,r1,b⟩=>?_);obtain ⟨c,rfl,b⟩:=b;cases r1;exact not_of (y3 ⟨.bl (!c),H1,I1,rfl,b⟩)
end
def SqL (K:c0) (H:Hp) (a:Addr) (xs:List V):Prop:=
 Rd H a (.lst xs)\/
  ∃(o:Obj) (its:Array Value) (n:Nat),K.lookup a=some o/\o.cls=.type "list"/\o.dict=none/\o.data=.seq its n/\its.size<=sizeLine/\Vals xs its.toList
def SqT (K:c0) (H:Hp) (a:Addr) (xs:List V):Prop:=
 Rd H a (.tup xs)\/
  ∃(o:Obj) (its:Array Value) (n:Nat),K.lookup a=some o/\o.cls=.type "tuple"/\o.data=.seq its n/\its.size<=sizeLine/\Vals xs its.toList
noncomputable def absV:Value->Option V
 | .none=>some .non
 | .bool b=>some (.bl b)
 | .int i _=>some (.int i)
 | .str x _=>some (.str x)
 | .bytes b _=>some (.byt b)
 | .float b _=>some (.flt b)
 | .ref a=>some (.ref a)
 | .type n=>some (.ty n)
 | _=>none
theorem RelV.abs {x:V} {u:Value} (r:RelV x u):absV u=some x:=by
 cases x with
 | non=>cases r;rfl
 | bl _=>cases r;rfl
 | int _=>obtain ⟨t,rfl⟩:=r;rfl
 | str _=>obtain ⟨t,rfl⟩:=r;rfl
 | byt _=>obtain ⟨t,rfl⟩:=r;rfl
 | flt _=>obtain ⟨t,rfl⟩:=r;rfl
 | ref _=>cases r;rfl
 | ty _=>cases r;rfl
theorem RelV.inj {x y:V} {u:Value} (r:RelV x u) (q:RelV y u):x=y:=D1 (r.abs.symm.trans q.abs)
theorem Vals.inj :∀{xs ys:List V} {us:List Value},Vals xs us->Vals ys us->xs=ys
 | _,_,_,.nil,.nil=>rfl
 | _,_,_,.cons r t,.cons r' t'=>by rw [r.inj r',Vals.inj t t']
section
variable {X:Cx} {pins:List (Addr×Obj)} {σ:St} {H:Hp} {s:y0} {a:Addr} {xs ys:List V}
theorem SqL.of {K:c0} (h:H a=some (.lst xs)):SqL K H a xs:=.inl (.inl h)
theorem SqT.of {K:c0} (h:H a=some (.tup xs)):SqT K H a xs:=.inl (.inl h)
theorem Inv.list (I:Inv X pins σ H s) (h:SqL X.K H a xs) :∃its:List Value,Vals xs its/\PlainL s.heap a its.toArray/\xs.length<=sizeLine:=by
 rcases h with h|⟨o,its,n,hk,hc,hd,hs,hz,r⟩
 ·obtain ⟨z,its,n,r,e⟩:=h.ok I.hok;exact ⟨its,r,⟨_,n,e,rfl,rfl,rfl⟩,z⟩
 ·refine ⟨its.toList,r,⟨o,n,I.kIn a o hk,hc,hd,by simpa using hs⟩,?_⟩;have e:=r.length;simp only [W0] at e;omega
theorem Inv.tuple (I:Inv X pins σ H s) (h:SqT X.K H a xs) :∃its:List Value,Vals xs its/\IsTup s.heap a its.toArray/\xs.length<=sizeLine:=by
 rcases h with h|⟨o,its,n,hk,hc,hs,hz,r⟩
 ·obtain ⟨z,its,r,p⟩:=h.ok I.hok;exact ⟨its,r,p.1,z⟩
 ·refine ⟨its.toList,r,⟨o,I.kIn a o hk,hc,n,by simpa using hs⟩,?_⟩;have e:=r.length;simp only [W0] at e;omega
theorem Inv.list_inj (I:Inv X pins σ H s) (h:SqL X.K H a xs) (h':SqL X.K H a ys):xs=ys:=by
 obtain ⟨f,r,⟨o,n,e,_,_,d⟩,_⟩:=I.list h;obtain ⟨g,i,⟨k,j,c,_,_,b⟩,_⟩:=I.list h';rw [e] at c;cases c;rw [d] at b;injection b with d1 _;have:f=g:=by simpa using congrArg Array.toList d1
 subst this;exact r.inj i
theorem Inv.tuple_inj (I:Inv X pins σ H s) (h:SqT X.K H a xs) (h':SqT X.K H a ys):xs=ys:=by
 obtain ⟨f,r,⟨o,e,_,n,d⟩,_⟩:=I.tuple h;obtain ⟨g,i,⟨k,c,_,j,b⟩,_⟩:=I.tuple h';rw [e] at c;cases c;rw [d] at b;injection b with d1 _;have:f=g:=by simpa using congrArg Array.toList d1
 subst this;exact r.inj i
end
noncomputable abbrev Cx.wish (X:Cx) (E:Value->y0->Prop):Cx:={ X with xe:=E }
noncomputable abbrev Cx.nox (X:Cx):Cx:=X.wish λ _ _=>False
theorem Cx.Ok.wish {X:Cx} (ok:X.Ok) (E:Value->y0->Prop):(X.wish E).Ok:=
 ⟨ok.mod,ok.kind,ok.glob,ok.blt,ok.above,ok.inj,ok.has,ok.cab,ok.hd,ok.frames,ok.stk,ok.exf,ok.bs,ok.bsz,ok.noex,ok.exfs,ok.funs,ok.frf⟩
theorem Cx.Ok.unwish {X:Cx} {E:Value->y0->Prop} (ok:(X.wish E).Ok):X.Ok:=
 ⟨ok.mod,ok.kind,ok.glob,ok.blt,ok.above,ok.inj,ok.has,ok.cab,ok.hd,ok.frames,ok.stk,ok.exf,ok.bs,ok.bsz,ok.noex,ok.exfs,ok.funs,ok.frf⟩
section
variable {X:Cx} {pins:List (Addr×Obj)} {σ:St} {H:Hp} {s:y0} {E:Value->y0->Prop}
theorem Inv.wish (I:Inv X pins σ H s) (E:Value->y0->Prop):Inv (X.wish E) pins σ H s:=⟨I.ok.wish E,I.os,I.bare,I.base,I.loc,I.cell,I.free,I.freeC,I.pin,I.hok,I.len⟩
theorem Inv.unwish (I:Inv (X.wish E) pins σ H s):Inv X pins σ H s:=⟨I.ok.unwish,I.os,I.bare,I.base,I.loc,I.cell,I.free,I.freeC,I.pin,I.hok,I.len⟩
theorem SP.unwish {D:Ends} {f:Flow} {s':y0} (h:SP (X.wish E) pins D f s'):SP X pins D f s':=by
 cases f with
 | next=>obtain ⟨a,b,I,q⟩:=h;exact ⟨a,b,I.unwish,q⟩
 | brk=>obtain ⟨a,b,I,q⟩:=h;exact ⟨a,b,I.unwish,q⟩
 | cont=>obtain ⟨a,b,I,q⟩:=h;exact ⟨a,b,I.unwish,q⟩
 | ret u=>obtain ⟨v,a,b,I,r,q⟩:=h;exact ⟨v,a,b,I.unwish,r,q⟩
theorem PSs.nox {st:List Stmt} {t:TS} (h:PSs X.nox st t):PSs X st t:=λ a s σ H D I b=>L3 (h a s σ H D (I.wish _) b) (λ _ _ q=>q.unwish) λ _ _ z=>X3 z
end
section
variable {X:Cx} {st:Stmt} {rest:List Stmt} {t u:TS} {e:Expr} {te:TE} {pos:Pos}
noncomputable def tNext:TS:=λ D σ H=>D.nx σ H
noncomputable def tSeq (t u:TS):TS:=λ D σ H=>t { D with nx:=u D } σ H
theorem z0d:PSs X [] tNext:=λ _ _ σ H _ I h=>C9 ⟨σ,H,I,h⟩
theorem z06 (h1:PS X st t) (h2:PSs X rest u):PSs X (st :: rest) (tSeq t u):=by
 intro a s σ H D I h;refine wpAny_execs_cons (thn (h1 a s σ H { D with nx:=u D } I h) λ f d q=>?_);cases f with
 | next=>obtain ⟨b,e,c,q⟩:=q;exact h2 a d b e D c q
 | ret v=>exact q
 | brk=>exact q
 | cont=>exact q
theorem z05 (h1:PS X st t):PSs X [st] t:=by
 intro a s σ H D I h;refine wpAny_execs_cons (thn (h1 a s σ H D I h) λ f b q=>?_);cases f with
 | next=>exact C9 q
 | ret v=>exact q
 | brk=>exact q
 | cont=>exact q
theorem Inv.quiet {pins:List (Addr×Obj)} {σ:St} {H:Hp} {s:y0} (I:Inv X pins σ H s):interactive X.env=false:=by simp [interactive,I.ok.kind]
noncomputable def tDrop (te:TE):TS:=λ D σ H=>te σ H λ _ H1=>D.nx σ H1
theorem z20 (he:PE X e te) (hs:e8 e none pos.line X.env=S3 false:=by rfl):PS X (.Expr e pos) (tDrop te):=by intro a s σ H D I h;exact wpAny_Expr_any (thn (he a s σ H _ I h) λ v b ⟨x,H1,I1,r1,q1⟩=>⟨σ,H1,I1,q1⟩) I.quiet hs
noncomputable def tRet (te:TE):TS:=λ D σ H=>te σ H D.rt
theorem ps_ret (he:PE X e te):PS X (.Return (some e) pos) (tRet te):=by intro a s σ H D I h;exact wpAny_Return_some (thn (he a s σ H _ I h) λ v b ⟨x,H1,I1,r1,q1⟩=>⟨x,σ,H1,I1,r1,q1⟩)
noncomputable def tIfS (c:TT) (t u:TS):TS:=λ D σ H=>c σ H λ b H1=>if b=true then t D σ H1 else u D σ H1
theorem ps_if {c:Expr} {a b:List Stmt} {tc:TT} (hc:PT X c tc) (ha:PSs X a t) (hb:PSs X b u):PS X (.If c a b pos) (tIfS tc t u):=by
 intro e s σ H D I h;refine wpAny_If (thn (hc e s σ H _ I h) λ d f ⟨H1,I1,q1⟩=>?_);cases d with
 | true=>exact ha e f σ H1 D I1 q1
 | false=>exact hb e f σ H1 D I1 q1
noncomputable def tNever:TS:=λ _ _ _=>False
theorem z1v:PS X st tNever:=λ _ _ _ _ _ _ h=>h.elim
end
noncomputable abbrev TG:=V->St->Hp->(St->Hp->Prop)->Prop
noncomputable abbrev TGs:=List V->St->Hp->(St->Hp->Prop)->Prop
def PG (X:Cx) (target:Expr) (t:TG):Prop:=
 ∀(pins:List (Addr×Obj)) (s:y0) (σ:St) (H:Hp) (v:V) (u:Value) (Q:St->Hp->Prop),Inv X pins σ H s->RelV v u->t v σ H Q->
  R0 (Y0 X.prog X.w) X.A (assign target X.env u) (λ _ s'=>∃σ' H',Inv X pins σ' H' s'/\Q σ' H') X.xe s
def PGs (X:Cx) (ts:List Expr) (t:TGs):Prop:=
 ∀(pins:List (Addr×Obj)) (s:y0) (σ:St) (H:Hp) (vs:List V) (us:List Value) (Q:St->Hp->Prop),Inv X pins σ H s->Vals vs us->t vs σ H Q->
  R0 (Y0 X.prog X.w) X.A (assignInOrder ((L7 ts X.env).map (·.2)) us) (λ _ s'=>∃σ' H',Inv X pins σ' H' s'/\Q σ' H') X.xe s
noncomputable abbrev TSet:=V->V->V->Hp->(Hp->Prop)->Prop
def PSet (X:Cx) (t:TSet):Prop:=
 ∀(pins:List (Addr×Obj)) (s:y0) (σ:St) (H:Hp) (o i v:V) (ov iv u:Value) (Q:Hp->Prop),Inv X pins σ H s->RelV o ov->RelV i iv->RelV v u->t o i v H Q->
  R0 (Y0 X.prog X.w) X.A (setItem ov iv u) (λ _ s'=>∃H',Inv X pins σ H' s'/\Q H') X.xe s
section
variable {X:Cx} {pos:Pos}
noncomputable def gName (i:Nat):TG:=λ v σ H Q=>Q (σ.set i (some v)) H
theorem z0m {i:Nat} {x:Str} (hN:X.N.Nodup) (hi:X.N[i]? = some x) (hx:Loc X.env.scope x) (hf:X.fn x=true\/X.env.scope.names.lookup x=some .local:=by first|exact .inl rfl|exact .inr rfl|assumption):PG X (.Name x pos) (gName i):=by intro c s σ H v u Q I r h;exact wpAny_assign_Name (zbb I hN hi hx r (λ b a=>⟨_,H,a,h⟩) hf)
noncomputable def gNil:TGs:=λ vs σ H Q=>vs=[]/\Q σ H
noncomputable def gCons (t:TG) (u:TGs):TGs:=λ vs σ H Q=>∃v r,vs=v :: r/\t v σ H λ σ' H'=>u r σ' H' Q
theorem z2a:PGs X [] gNil:=by intro a s σ H b c Q I r h;obtain ⟨e,h⟩:=h;subst e;cases r;exact assignInOrder_nil ⟨σ,H,I,h⟩
theorem z0l {e:Expr} {es:List Expr} {t:TG} {u:TGs} (h1:PG X e t) (h2:PGs X es u)
  (hs:(L7 (e :: es) X.env).map (·.2)=assign e X.env :: (L7 es X.env).map (·.2):=by rfl):PGs X (e :: es) (gCons t u):=by
 intro a s σ H d f Q I r h;obtain ⟨v,g,b,h⟩:=h;subst b;cases r with
 | cons r rr=>rw [hs];refine assignInOrder_cons (thn (h1 a s σ H _ _ _ I r h) λ _ c ⟨σ1,H1,I1,q1⟩=>?_);exact h2 a c σ1 H1 _ _ Q I1 rr q1
noncomputable def gTup (K:c0) (n:Nat) (t:TGs):TG:=λ v σ H Q=>∃a xs,v=.ref a/\SqT K H a xs/\xs.length=n/\t xs σ H Q
theorem pg_tup {es:List Expr} {k:Nat} {t:TGs} {n:Nat} (hc:X.calm=true) (h:PGs X es t)
  (hn:(L7 es X.env).length=n:=by rfl) (hst:(L7 es X.env).findIdx? (·.1)=none:=by rfl):PG X (.Tuple es k pos) (gTup X.K n t):=by
 intro f s σ H v u Q I r c;obtain ⟨a,q,w,g,j,c⟩:=c;subst w;cases r;obtain ⟨x,d,l,y⟩:=I.tuple g;refine assign_Tuple_tuple (I.ok.hd hc) l (by simp [hn,<-j,d.length]) hst λ i m=>?_;have p:Inv X f σ H { s with heap:=i }:=I.kept (t':=s.toks) λ b o e=>m b o (Q0 (G0 e)) e;exact h f _ σ H q _ Q p (by simpa using d) c
noncomputable def gSub (to ti:TE) (t:TSet):TG:=λ v σ H Q=>to σ H λ o H1=>ti σ H1 λ i H2=>t o i v H2 λ H3=>Q σ H3
theorem pg_sub {o i:Expr} {to ti:TE} {t:TSet} (ho:PE X o to) (hi:PE X i ti) (hs:PSet X t)
  (ha :∀v,assign (.Subscript o i pos) X.env v=(do
   let ov <-J9 [v] (W3 o X.env)
   let iv <-J9 [v,ov] (W3 i X.env)
   standAt pos
   J9 [v,ov,iv] (setItem ov iv v)
   release [v,ov,iv] []):=by intro _;rfl):PG X (.Subscript o i pos) (gSub to ti t):=by
 intro a s σ H v u Q I r h;rw [ha];refine v0 (G2 (thn (ho a s σ H _ I h) λ ov c ⟨x,H1,I1,r1,q1⟩=>?_));refine v0 (G2 (thn (hi a c σ H1 _ I1 q1) λ iv b ⟨y,H2,I2,r2,q2⟩=>?_));refine v0 (wpAny_standAt (v0 (G2 (thn (hs a b σ H2 x y v ov iv u _ I2 r1 r2 r q2) λ _ d ⟨H3,I3,q3⟩=>?_))));exact wpAny_release ⟨σ,H3,I3,q3⟩
noncomputable def tAsg (te:TE) (g:TG):TS:=λ D σ H=>te σ H λ x H1=>g x σ H1 D.nx
theorem ps_asg {tg e:Expr} {te:TE} {g:TG} (he:PE X e te) (hg:PG X tg g) (hs:swapsWithSole [tg] e pos.line X.env=S3 false:=by rfl) (hw:swappedStores [tg] e X.env=S3 none:=by rfl)
  (h1:(L7 [tg] X.env).map (·.2)=[assign tg X.env]:=by rfl):PS X (.Assign [tg] e pos) (tAsg te g):=by
 intro a s σ H D I h;refine wpAny_Assign_stores (thn (he a s σ H _ I h) λ v b ⟨x,H1,I1,r1,q1⟩=>?_) hs hw;rw [h1];exact thn (hg a b σ H1 x v _ I1 r1 q1) λ _ c q=>q
theorem ps_set {i:Nat} {x:Str} {e:Expr} {te:TE} {pos':Pos} (hN:X.N.Nodup) (hi:X.N[i]? = some x) (hx:Loc X.env.scope x) (he:PE X e te) (hs:e8 e (some (.Name x pos')) pos.line X.env=S3 false:=by rfl) (hf:X.fn x=true\/X.env.scope.names.lookup x=some .local:=by first|exact .inl rfl|exact .inr rfl|assumption) :
  PS X (.Assign [.Name x pos'] e pos) (tAsg te (gName i)):=by
 intro a s σ H D I h;refine wpAny_Assign_Name (thn (he a s σ H _ I h) λ v d ⟨y,H1,I1,r1,q1⟩=>?_) hs;exact zbb I1 hN hi hx r1 (λ c b=>⟨_,H1,b,q1⟩) hf
end
structure It where
 go:Nat->Hp->Prop
 yld:Nat->Hp->V->Hp->Prop
 stop:Nat->Hp->Prop
def FpOk (X:Cx) (pins:List (Addr×Obj)) (H:Hp) (b:Addr):Prop:=
 H b=none/\b≠X.env.locals/\b∉X.fs/\(b∈X.ex\/X.s₀.heap.objs.size<=b)/\(∀x c,X.env.cells.lookup x=some c->c≠b)/\∀p∈X.pn++pins,p.1≠b
theorem Inv.fpOk {X:Cx} {pins:List (Addr×Obj)} {σ:St} {H H':Hp} {s:y0} {b:Addr} (I:Inv X pins σ H s) (hb:s.heap.objs.size<=b) (hn:H' b=none):FpOk X pins H' b:=by
 refine ⟨hn,A2 (V0 I.lt hb),I.nofs hb,.inr (F0 I.sz hb),λ x c e z=>?_,λ p a z=>?_⟩
 ·obtain ⟨v,q⟩:=I.cell x c e;exact absurd (V0 q.lt (by rw [z];exact hb)) (Y2 _)
 ·exact absurd (V0 (G0 (I.pin p a).1) (by rw [z];exact hb)) (Y2 _)
structure Turn (P:Program) (w:O0) (K:c0) (tg:Expr) (J:It) (fp:List Addr) (it:Addr) (tn:Nat->Heap->Prop):Prop where
 mem:it∈fp
 obj :∀i h,tn i h->∀b∈fp,∃o,h.get? b=some o/\∀v,o.data≠.cell v
 keep :∀i h h',tn i h->(∀b∈fp,∀o,h.get? b=some o->h'.get? b=some o)->tn i h'
 item :∀(X:Cx),X.prog=P->X.w=w->X.K=K->X.calm=true->∀(i:Nat) (pins:List (Addr×Obj)) (s:y0) (σ:St) (H:Hp) (E:Value->y0->Prop),Inv X pins σ H s->(∀b∈fp,FpOk X pins H b)->tn i s.heap->J.go i H->
  R0 (Y0 P w) X.A (D8 (.ref it)) (λ r s1=>∃u,r=some u/\
   R0 (Y0 P w) X.A (Q7 tg (.ref it) u) (λ _ s2=>∃x H',Inv X pins σ H' s2/\RelV x u/\J.yld i H x H'/\tn (i + 1) s2.heap/\∀b∈fp,H' b=none) E s1) E s
 done :∀(X:Cx),X.prog=P->X.w=w->X.K=K->X.calm=true->∀(i:Nat) (pins:List (Addr×Obj)) (s:y0) (σ:St) (H:Hp) (E:Value->y0->Prop),Inv X pins σ H s->(∀b∈fp,FpOk X pins H b)->tn i s.heap->J.stop i H->
  R0 (Y0 P w) X.A (D8 (.ref it)) (λ r s1=>r=none/\Inv X pins σ H s1) E s
 self :∀(A:Z1) (i:Nat) (s:y0) (Q:Value->y0->Prop) (E:Value->y0->Prop),tn i s.heap->Q (.ref it) s->R0 (Y0 P w) A (pyIter (.ref it)) Q E s
noncomputable abbrev TI:=St->Hp->(It->Hp->Prop)->Prop
def PIE (X:Cx) (pins:List (Addr×Obj)) (σ:St) (tg:Expr) (R:It->Hp->Prop) (itv:Value) (s2:y0):Prop:=
 ∃(it:Addr) (fp:List Addr) (tn:Nat->Heap->Prop) (J:It) (H':Hp),itv=.ref it/\Inv X pins σ H' s2/\Turn X.prog X.w X.K tg J fp it tn/\tn 0 s2.heap/\(∀b∈fp,FpOk X pins H' b)/\R J H'
def PI (X:Cx) (tg iter:Expr) (wi:TI):Prop:=
 ∀(pins:List (Addr×Obj)) (s:y0) (σ:St) (H:Hp) (R:It->Hp->Prop),Inv X pins σ H s->wi σ H R->
  R0 (Y0 X.prog X.w) X.A (W3 iter X.env) (λ v s1=>R0 (Y0 X.prog X.w) X.A (pyIter v) (PIE X pins σ tg R) X.xe s1) X.xe s
theorem go_of {M:Model} {A:Z1} {E:Value->y0->Prop} {s:y0} {tg:Expr} {it:Addr} {u:Value} {o:Obj} {n:String} {vs:Array Value} {Q:Unit->y0->Prop} (ho:s.heap.get? it=some o) (hc:o.cls=.type n) (hd:o.data=.fields vs)
    (hn:["enumerate","zip","dict_itemiterator","dict_reverseitemiterator","odict_iterator","itertools.zip_longest","itertools.pairwise"].contains n=false) (hQ:Q () s):R0 M A (Q7 tg (.ref it) u) Q E s:=by
  unfold Q7;cases tg<;>first
    | exact D0 hQ
    | (cases u<;>first
        | exact D0 hQ
        | (refine v0 (wpAny_load ho ?_)
           rw [hc,hd];show R0 M A (if (["enumerate","zip","dict_itemiterator","dict_reverseitemiterator","odict_iterator","itertools.zip_longest","itertools.pairwise"].contains n && vs[0]? == some (S4 _))=true then _ else _) Q E s;rw [if_neg (by intro h;rw [hn,K5] at h;cases h)];exact D0 hQ))
noncomputable def Itl (K:c0) (a:Addr):It:=
 ⟨λ i H=>∃xs x,SqL K H a xs/\xs[i]? = some x,λ i H x H'=>H'=H/\∀xs,SqL K H a xs->xs[i]? = some x,λ i H=>∃xs,SqL K H a xs/\xs.length<=i⟩
noncomputable def Itt (K:c0) (a:Addr):It:=
 ⟨λ i H=>∃xs x,SqT K H a xs/\xs[i]? = some x,λ i H x H'=>H'=H/\∀xs,SqT K H a xs->xs[i]? = some x,λ i H=>∃xs,SqT K H a xs/\xs.length<=i⟩
noncomputable def Itr (lo:Int) (n:Nat):It:=⟨λ i _=>i < n,λ i H x H'=>H'=H/\x=.int (lo + i),λ i _=>n<=i⟩
theorem zdf {P:Program} {w:O0} {K:c0} {tg:Expr} (a it:Addr):Turn P w K tg (Itl K a) [it] it (λ i h=>h.IsListIter it a i) where
 mem:=by simp
 obj:=λ i h f b g=>by
  have e:b=it:=by simpa using g
  subst e;obtain ⟨o,e,c,d⟩:=f;exact ⟨o,e,λ v z=>by rw [d] at z;cases z⟩
 keep:=λ i h m f k=>f.at λ o e=>k it (by simp) o e
 item:=by intro X B A n M i L s σ H E I j f y;subst B A n;obtain ⟨V,x,l,D⟩:=y;obtain ⟨Q,r,p,W⟩:=I.list l;obtain ⟨u,N,S⟩:=r.get D;obtain ⟨t,q,U,G,C,F⟩:=j it (by simp);refine J7 f p.isList (x:=u) (by simpa using N) λ m J sb=>?_;have T:Inv X L σ H { s with heap:=m }:=I.turned (t':=s.toks) (λ b o g e=>(sb.2 b g).trans e) t q G C F;obtain ⟨o,e,c,d⟩:=id J;exact ⟨u,rfl,go_of (s:={ s with heap:=m }) e c d (by decide) ⟨x,H,T,S,⟨rfl,λ Y O=>by rw [I.list_inj O l];exact D⟩,J,λ b g=>(j b g).1⟩⟩
 done:=by intro X B A n M i L s σ H E I j f y;subst B A n;obtain ⟨V,l,D⟩:=y;obtain ⟨Q,r,p,W⟩:=I.list l;obtain ⟨t,q,U,G,C,F⟩:=j it (by simp);have Z:=r.length;exact U7 (I.ok.hd M) f p.isList (by simp;omega) λ m R=>⟨rfl,I.turned (t':=s.toks) (λ b o g e=>R b o g e) t q G C F⟩
 self:=λ _ _ _ _ _ f h=>wpAny_pyIter_listiter f h
theorem zak {P:Program} {w:O0} {K:c0} {tg:Expr} (a it:Addr):Turn P w K tg (Itt K a) [it] it (λ i h=>h.IsTupleIter it a i) where
 mem:=by simp
 obj:=λ i h f b g=>by
  have e:b=it:=by simpa using g
  subst e;obtain ⟨o,e,c,d⟩:=f;exact ⟨o,e,λ v z=>by rw [d] at z;cases z⟩
 keep:=λ i h m f k=>f.at λ o e=>k it (by simp) o e
 item:=by intro X C B n N i M s σ H E I j f A;subst C B n;obtain ⟨V,x,l,F⟩:=A;obtain ⟨y,r,p,W⟩:=I.tuple l;obtain ⟨u,O,S⟩:=r.get F;obtain ⟨t,q,U,J,D,G⟩:=j it (by simp);refine wpAny_pyNext_tuple_item f (show s.heap.IsTuple a y.toArray from p) (x:=u) (by simpa using O) λ m L sb=>?_;have T:Inv X M σ H { s with heap:=m }:=I.turned (t':=s.toks) (λ b o g e=>(sb.2 b g).trans e) t q J D G;obtain ⟨o,e,c,d⟩:=id L;exact ⟨u,rfl,go_of (s:={ s with heap:=m }) e c d (by decide) ⟨x,H,T,S,⟨rfl,λ Y Q=>by rw [I.tuple_inj Q l];exact F⟩,L,λ b g=>(j b g).1⟩⟩
 done:=by intro X C B n N i M s σ H E I j f A;subst C B n;obtain ⟨V,l,F⟩:=A;obtain ⟨y,r,p,W⟩:=I.tuple l;obtain ⟨t,q,U,J,D,G⟩:=j it (by simp);have Z:=r.length;exact wpAny_pyNext_tuple_end (I.ok.hd N) f (show s.heap.IsTuple a y.toArray from p) (by simp;omega) λ m R=>⟨rfl,I.turned (t':=s.toks) (λ b o g e=>R b o g e) t q J D G⟩
 self:=λ _ _ _ _ _ f h=>wpAny_pyIter_tupleiter f h
theorem zb0 {P:Program} {w:O0} {K:c0} {tg:Expr} (it:Addr) (lo:Int) (n:Nat):Turn P w K tg (Itr lo n) [it] it (λ i h=>IsRangeIter h it (lo + (i:Nat) * 1) ((n:Int) - (i:Nat)) 1) where
 mem:=by simp
 obj:=λ i h a b c=>by
  have e:b=it:=by simpa using c
  subst e;exact ⟨_,a,λ v z=>by have D:M8 _=F9 v:=z;cases D⟩
 keep:=λ i h f a k=>k it (by simp) _ a
 item:=by intro X r p g q i C s σ H E I d a m;subst r p g;obtain ⟨l,j,M,y,u,x⟩:=d it (by simp);have W:=Walks.range (prog:=X.prog) (w:=X.w) (I.ok.hd q) it lo 1 n;refine W.item i s _ _ m a λ v f A F B J=>?_;obtain ⟨t,rfl⟩:=F;have L:Inv X C σ H { s with heap:=f,toks:=A }:=I.turned (λ b o c e=>J b o (by simpa using c) e) l j y u x;refine ⟨_,rfl,go_of (s:={ s with heap:=f,toks:=A }) (n:="range_iterator") B rfl rfl (by decide) ⟨.int (lo + i),H,L,⟨t,?_⟩,⟨rfl,rfl⟩,B,λ b c=>(d b c).1⟩⟩;rw [Int.mul_one]
 done:=by intro X r p g q i C s σ H E I d a m;subst r p g;obtain ⟨l,j,M,y,u,x⟩:=d it (by simp);exact wpAny_pyNext_range_end (I.ok.hd q) a (by have:n<=i:=m;omega) λ f G=>⟨rfl,I.turned (t':=s.toks) (λ b o c e=>G b o c e) l j y u x⟩
 self:=λ _ _ _ _ _ a h=>wpAny_pyIter_rangeiter a h
section
variable {X:Cx} {tg:Expr}
noncomputable def iList (K:c0) (tl:TE):TI:=λ σ H R=>tl σ H λ x H1=>∃a,x=.ref a/\(∃xs,SqL K H1 a xs)/\R (Itl K a) H1
noncomputable def iTup (K:c0) (tl:TE):TI:=λ σ H R=>tl σ H λ x H1=>∃a,x=.ref a/\(∃xs,SqT K H1 a xs)/\R (Itt K a) H1
theorem z0i {l:Expr} {tl:TE} (hl:PE X l tl):PI X tg l (iList X.K tl):=by
 intro g s σ H R I h;refine thn (hl g s σ H _ I h) λ v c ⟨x,H1,I1,r1,q1⟩=>?_;obtain ⟨a,e,⟨k,f⟩,q⟩:=q1;subst e;cases r1;obtain ⟨j,i,p,m⟩:=I1.list f;refine T5 p.isList ?_;refine ⟨c.heap.objs.size,[c.heap.objs.size],_,_,H1,rfl,I1.kept (t':=c.toks) λ b o e=>x0 _ e,zdf a _,⟨_,I0 _ rfl,rfl,rfl⟩,λ b d=>?_,q⟩;have e:b=c.heap.objs.size:=by simpa using d
 subst e;exact I1.fpOk (A0 _) (I1.hok.fresh (A0 _))
theorem pi_tup {l:Expr} {tl:TE} (hl:PE X l tl):PI X tg l (iTup X.K tl):=by
 intro i s σ H R I h;refine thn (hl i s σ H _ I h) λ v c ⟨x,H1,I1,r1,q1⟩=>?_;obtain ⟨a,e,⟨k,f⟩,q⟩:=q1;subst e;cases r1;obtain ⟨g,j,p,m⟩:=I1.tuple f;refine E4 (show c.heap.IsTuple a g.toArray from p) ?_;refine ⟨c.heap.objs.size,[c.heap.objs.size],_,_,H1,rfl,I1.kept (t':=c.toks) λ b o e=>x0 _ e,zak a _,⟨_,I0 _ rfl,rfl,rfl⟩,λ b d=>?_,q⟩;have e:b=c.heap.objs.size:=by simpa using d
 subst e;exact I1.fpOk (A0 _) (I1.hok.fresh (A0 _))
theorem zfd {pins:List (Addr×Obj)} {σ:St} {H:Hp} {s:y0} {R:It->Hp->Prop} {E:Value->y0->Prop} {lo hi:Int} {t u v:Tok} {tk:Nat} (I:Inv X pins σ H s) (h1:-(2 ^ 62)<=lo) (h2:lo < 2 ^ 62) (h3:-(2 ^ 62)<=hi) (h4:hi < 2 ^ 62)
  (q:R (Itr lo (hi - lo).toNat) H):R0 (Y0 X.prog X.w) X.A (pyIter (.ref s.heap.objs.size)) (PIE X pins σ tg R) E { s with heap:=s.heap.push { cls:=.type "range",data:=.fields #[.int lo t,.int hi u,.int 1 v] },toks:=tk }:=by
 refine wpAny_pyIter_range (IsRange.new ..) (small_one h1 h2 h3 h4) ?_;have a:Inv X pins σ H { s with heap:=s.heap.push { cls:=.type "range",data:=.fields #[.int lo t,.int hi u,.int 1 v] },toks:=tk }:=I.kept λ b o e=>x0 _ e;refine ⟨(s.heap.push { cls:=.type "range",data:=.fields #[.int lo t,.int hi u,.int 1 v] }).objs.size,[(s.heap.push { cls:=.type "range",data:=.fields #[.int lo t,.int hi u,.int 1 v] }).objs.size],_,_,H,rfl,
  a.kept (t':=tk) λ b o e=>x0 _ e,zb0 _ lo (hi - lo).toNat,?_,λ b c=>?_,q⟩
 ·have d:lo + ((0:Nat):Int) * 1=lo:=by simp
  have f:(((hi - lo).toNat:Nat):Int) - ((0:Nat):Int)=Builtin.Range.rangeSize lo hi 1:=by rw [rangeSize_one];split<;>omega
  show IsRangeIter _ _ (lo + ((0:Nat):Int) * 1) ((((hi - lo).toNat:Nat):Int) - ((0:Nat):Int)) 1;rw [d,f];exact I0 _ rfl
 ·have e:b=(s.heap.push { cls:=.type "range",data:=.fields #[.int lo t,.int hi u,.int 1 v] }).objs.size:=by simpa using c
  subst e;exact a.fpOk (A0 _) (a.hok.fresh (A0 _))
noncomputable def iRng1 (ta:TA):TI:=λ σ H R=>ta σ H λ vs H1=>∃j:Int,vs=[.int j]/\-(2 ^ 62)<=j/\j < 2 ^ 62/\R (Itr 0 j.toNat) H1
theorem z8p {a:Expr} {ta:TA} {p pos:Pos} (hg:Gl X "range") (hm:X.mg "range" = none) (ha:PA X [a] ta) (hs:G1 [a] X.env=[(false,W3 a X.env)]:=by rfl):PI X tg (.Call (.Name "range" p) [a] [] pos) (iRng1 ta):=by
 intro c s σ H R I h;refine Call_ (ld_blt I hg hm boot_range (n3 (thn (ha pos c s σ H _ I h) λ f g ⟨vs,H1,I1,r1,b⟩=>?_) hs rfl));obtain ⟨j,e,b,d,q⟩:=b;subst e;cases r1 with
 | cons r rr=>cases rr;obtain ⟨t,rfl⟩:=r;exact call_range_1 (zfd I1 (by omega) (by omega) b d (by simpa using q))
noncomputable def tFor (wi:TI) (g:TG) (tb:TS):TS:=λ D σ H=>wi σ H λ J H1=>∃W:Nat->Nat->St->Hp->Prop,(∃m,W 0 m σ H1)/\∀i m σ H,W i m σ H->
 (J.stop i H/\D.nx σ H)\/(J.go i H/\∃N:St->Hp->Prop,(∀σ' H',N σ' H'->∃m',m' < m/\W (i + 1) m' σ' H')/\∀x H',J.yld i H x H'->g x σ H' λ σ2 H2=>tb { D with nx:=N,ct:=N,bk:=D.nx } σ2 H2)
noncomputable def pinsAt (fp:List Addr) (h:Heap):List (Addr×Obj):=fp.filterMap λ b=>(h.get? b).map λ o=>(b,o)
theorem z10 {fp:List Addr} {h:Heap} {b:Addr} {o:Obj} (hb:b∈fp) (e:h.get? b=some o):(b,o)∈pinsAt fp h:=List.mem_filterMap.mpr ⟨b,hb,by rw [e];rfl⟩
theorem z8l {fp:List Addr} {h:Heap} {p:Addr×Obj} (hp:p∈pinsAt fp h):p.1∈fp/\h.get? p.1=some p.2:=by
 obtain ⟨b,a,e⟩:=List.mem_filterMap.mp hp;cases q:h.get? b with
 | none=>rw [q] at e;cases e
 | some o=>rw [q] at e;have c:(b,o)=p:=D1 e;subst c;exact ⟨a,q⟩
theorem Inv.pinned {pins:List (Addr×Obj)} {σ:St} {H:Hp} {s:y0} {fp:List Addr} (I:Inv X pins σ H s) (hf :∀b∈fp,FpOk X pins H b) (ho :∀b∈fp,∃o,s.heap.get? b=some o/\∀v,o.data≠.cell v):Inv X (pins++pinsAt fp s.heap) σ H s:=
 I.pins_of λ p f=>(List.mem_append.mp f).elim (λ z=>I.pin p (P0 _ z)) λ z=>by obtain ⟨a,e⟩:=z8l z;obtain ⟨i,h,g,_⟩:=hf p.1 a;obtain ⟨o,c,d⟩:=ho p.1 a;rw [e] at c;cases c;exact ⟨e,i,h,g,d⟩
theorem Inv.unpinned {pins pl:List (Addr×Obj)} {σ:St} {H:Hp} {s:y0} (I:Inv X (pins++pl) σ H s):Inv X pins σ H s:=I.pins_of λ p a=>I.pin p (P0 _ (Q4 _ a))
theorem ps_for {iter:Expr} {body:List Stmt} {wi:TI} {g:TG} {tb:TS} {pos:Pos} (hp:PassesOwn (Y0 X.prog X.w) X.A X.env X.xe) (hc:X.calm=true) (hi:PI X tg iter wi) (hg:PG X tg g) (hb:PSs X body tb)
  (hs :∀x,V4 iter X.env x=S3 x:=by intro _;rfl):PS X (.For tg iter body [] pos) (tFor wi g tb):=by
 intro l s σ H D I h;refine wpAny_For (thn (hi l s σ H _ I h) λ v s1 R=>thn R λ a1 s2 M=>?_) hs;obtain ⟨it,q,C,J,H2,e,I2,T,O,G,W,⟨m0,U⟩,Q⟩:=M;subst e
 -- what stays true of the iterator's objects through the loop
 have t :∀{H':Hp},(∀b∈q,H' b=none)->∀b∈q,FpOk X l H' b:=λ hn b hb=>⟨hn b hb,(G b hb).2⟩
 refine codeAny_forLoop_any (λ n F=>∃i σ' H',Inv X l σ' H' F/\C i F.heap/\(∀b∈q,H' b=none)/\W i n σ' H') ?_ m0 ⟨0,σ,H2,I2,O,λ b hb=>(G b hb).1,U⟩;rintro n E ⟨i,σ3,H3,I3,st3,fr3,w3⟩;rcases Q i n σ3 H3 w3 with ⟨a0,qn⟩|⟨go,N,hN,step⟩
 ·refine y6 hp (thn (T.done X rfl rfl rfl hc i l E σ3 H3 X.xe I3 (t fr3) st3 a0) λ r S ⟨hr,I4⟩=>?_);subst hr;exact C9 ⟨σ3,H3,I4,qn⟩
 ·refine y6 hp (thn (T.item X rfl rfl rfl hc i l E σ3 H3 X.xe I3 (t fr3) st3 go) λ r S ⟨u,hr,h4⟩=>?_);subst hr;refine y6 hp (thn h4 λ _ B ⟨x,H5,I5,r5,y5,st5,fr5⟩=>?_);have L:=I5.pinned (t fr5) (T.obj _ _ st5);refine y6 hp (thn (hg _ B σ3 H5 x u _ L r5 (step x H5 y5)) λ _ Z ⟨σ6,H6,I6,q6⟩=>?_);refine y6 hp (thn (hb _ Z σ6 H6 _ I6 q6) λ f y k=>?_);have z :∀{j:St} {c:Hp},Inv X (l++pinsAt q B.heap) j c y->N j c->∃m,m < n/\∃i σ' H',Inv X l σ' H' y/\C i y.heap/\(∀b∈q,H' b=none)/\W i m σ' H':=λ {j c} a p=>by obtain ⟨m',K,P⟩:=hN j c p;refine ⟨m',K,i + 1,j,c,a.unpinned,T.keep _ _ _ st5 λ b hb o e=>(a.pin (b,o) (P0 _ (P0 _ (z10 hb e)))).1,λ b hb=>?_,P⟩;obtain ⟨o,e,d⟩:=T.obj _ _ st5 b hb;exact (a.pin (b,o) (P0 _ (P0 _ (z10 hb e)))).2.1
  cases f with
  | next=>obtain ⟨j,c,a,p⟩:=k;exact z a p
  | cont=>obtain ⟨j,c,a,p⟩:=k;exact z a p
  | brk=>obtain ⟨j,c,a,k⟩:=k;exact ⟨j,c,a.unpinned,k⟩
  | ret v=>obtain ⟨Y,j,c,a,V,k⟩:=k;exact ⟨Y,j,c,a.unpinned,V,k⟩
end
theorem z0z {K:c0} {a:Addr} {xs:List V} {g:TG} {tb:TS} {D:Ends} {σ:St} {H:Hp} (Pv:Nat->St->Hp->Prop) (h0:Pv 0 σ H) (hl :∀i σ H,i<=xs.length->Pv i σ H->SqL K H a xs)
  (hs :∀i x σ H,xs[i]? = some x->Pv i σ H->g x σ H λ σ2 H2=>tb { D with nx:=Pv (i + 1),ct:=Pv (i + 1),bk:=D.nx } σ2 H2) (hd :∀σ H,Pv xs.length σ H->D.nx σ H) :
  ∃W:Nat->Nat->St->Hp->Prop,(∃m,W 0 m σ H)/\∀i m σ H,W i m σ H->
   ((Itl K a).stop i H/\D.nx σ H)\/((Itl K a).go i H/\∃N:St->Hp->Prop,(∀σ' H',N σ' H'->∃m',m' < m/\W (i + 1) m' σ' H')/\∀x H',(Itl K a).yld i H x H'->g x σ H' λ σ2 H2=>tb { D with nx:=N,ct:=N,bk:=D.nx } σ2 H2):=by
 refine ⟨λ i m σ H=>m=xs.length - i/\i<=xs.length/\Pv i σ H,⟨xs.length,by simp,P1 _,h0⟩,?_⟩;rintro i m σ H ⟨rfl,hi,p⟩;have q:=hl i σ H hi p;by_cases hlt:i < xs.length
 ·refine .inr ⟨⟨xs,xs[i],q,by simp [hlt]⟩,Pv (i + 1),λ σ' H' b=>⟨xs.length - (i + 1),by omega,rfl,hlt,b⟩,λ x H' y=>?_⟩;obtain ⟨e,y⟩:=y;subst e;exact hs i x σ _ (y xs q) p
 ·have e:i=xs.length:=by omega
  subst e;exact .inl ⟨⟨xs,q,A0 _⟩,hd σ H p⟩
theorem zgf {K:c0} {a:Addr} {xs:List V} {g:TG} {tb:TS} {D:Ends} {σ:St} {H:Hp} (Pv:Nat->St->Hp->Prop) (h0:Pv 0 σ H) (hl :∀i σ H,i<=xs.length->Pv i σ H->SqT K H a xs)
  (hs :∀i x σ H,xs[i]? = some x->Pv i σ H->g x σ H λ σ2 H2=>tb { D with nx:=Pv (i + 1),ct:=Pv (i + 1),bk:=D.nx } σ2 H2) (hd :∀σ H,Pv xs.length σ H->D.nx σ H) :
  ∃W:Nat->Nat->St->Hp->Prop,(∃m,W 0 m σ H)/\∀i m σ H,W i m σ H->
   ((Itt K a).stop i H/\D.nx σ H)\/((Itt K a).go i H/\∃N:St->Hp->Prop,(∀σ' H',N σ' H'->∃m',m' < m/\W (i + 1) m' σ' H')/\∀x H',(Itt K a).yld i H x H'->g x σ H' λ σ2 H2=>tb { D with nx:=N,ct:=N,bk:=D.nx } σ2 H2):=by
 refine ⟨λ i m σ H=>m=xs.length - i/\i<=xs.length/\Pv i σ H,⟨xs.length,by simp,P1 _,h0⟩,?_⟩;rintro i m σ H ⟨rfl,hi,p⟩;have q:=hl i σ H hi p;by_cases hlt:i < xs.length
 ·refine .inr ⟨⟨xs,xs[i],q,by simp [hlt]⟩,Pv (i + 1),λ σ' H' b=>⟨xs.length - (i + 1),by omega,rfl,hlt,b⟩,λ x H' y=>?_⟩;obtain ⟨e,y⟩:=y;subst e;exact hs i x σ _ (y xs q) p
 ·have e:i=xs.length:=by omega
  subst e;exact .inl ⟨⟨xs,q,A0 _⟩,hd σ H p⟩
theorem z8u {lo:Int} {n:Nat} {g:TG} {tb:TS} {D:Ends} {σ:St} {H:Hp} (Pv:Nat->St->Hp->Prop) (h0:Pv 0 σ H)
  (hs :∀i σ H,i < n->Pv i σ H->g (.int (lo + i)) σ H λ σ2 H2=>tb { D with nx:=Pv (i + 1),ct:=Pv (i + 1),bk:=D.nx } σ2 H2) (hd :∀σ H,Pv n σ H->D.nx σ H) :
  ∃W:Nat->Nat->St->Hp->Prop,(∃m,W 0 m σ H)/\∀i m σ H,W i m σ H->
   ((Itr lo n).stop i H/\D.nx σ H)\/((Itr lo n).go i H/\∃N:St->Hp->Prop,(∀σ' H',N σ' H'->∃m',m' < m/\W (i + 1) m' σ' H')/\∀x H',(Itr lo n).yld i H x H'->g x σ H' λ σ2 H2=>tb { D with nx:=N,ct:=N,bk:=D.nx } σ2 H2):=by
 refine ⟨λ i m σ H=>m=n - i/\i<=n/\Pv i σ H,⟨n,by simp,P1 _,h0⟩,?_⟩;rintro i m σ H ⟨rfl,hi,p⟩;by_cases hlt:i < n
 ·refine .inr ⟨hlt,Pv (i + 1),λ σ' H' a=>⟨n - (i + 1),by omega,rfl,hlt,a⟩,λ x H' y=>?_⟩;obtain ⟨e,y⟩:=y;subst e y;exact hs i σ _ hlt p
 ·have e:i=n:=by omega
  subst e;exact .inl ⟨A0 _,hd σ H p⟩
noncomputable abbrev R2:=V->V->Hp->VK->Prop
def OpR (X:Cx) (f:Value->Value->Sem Value) (r:R2):Prop:=
 ∀(pins:List (Addr×Obj)) (s:y0) (σ:St) (H:Hp) (x y:V) (v u:Value) (Q:VK),Inv X pins σ H s->RelV x v->RelV y u->r x y H Q->
  R0 (Y0 X.prog X.w) X.A (f v u) (EP X pins σ Q) X.xe s
def UnR (X:Cx) (f:Value->Sem Value) (r:V->Hp->VK->Prop):Prop:=
 ∀(pins:List (Addr×Obj)) (s:y0) (σ:St) (H:Hp) (x:V) (v:Value) (Q:VK),Inv X pins σ H s->RelV x v->r x H Q->
  R0 (Y0 X.prog X.w) X.A (f v) (EP X pins σ Q) X.xe s
def CallR (X:Cx) (f:Value) (r:List V->Hp->VK->Prop):Prop:=
 ∀(pins:List (Addr×Obj)) (s:y0) (σ:St) (H:Hp) (xs:List V) (us:List Value) (Q:VK),Inv X pins σ H s->Vals xs us->r xs H Q->
  R0 (Y0 X.prog X.w) X.A (call f us) (EP X pins σ Q) X.xe s
noncomputable def tOp (r:R2) (ta tb:TE):TE:=λ σ H Q=>ta σ H λ x H1=>tb σ H1 λ y H2=>r x y H2 Q
noncomputable def tUn (r:V->Hp->VK->Prop) (ta:TE):TE:=λ σ H Q=>ta σ H λ x H1=>r x H1 Q
noncomputable def rI (C:Int->Int->Prop) (g:Int->Int->V):R2:=λ x y H Q=>∃i j,x=.int i/\y=.int j/\C i j/\Q (g i j) H
noncomputable def rI0 (g:Int->Int->V):R2:=λ x y H Q=>∃i j,x=.int i/\y=.int j/\Q (g i j) H
def rU (g:Int->V):V->Hp->VK->Prop:=λ x H Q=>∃i,x=.int i/\Q (g i) H
section
variable {X:Cx} {a b c:Expr} {ta tb tc:TE} {pos:Pos}
theorem binT (ha:PE X a ta) (hb:PE X b tb) {pins:List (Addr×Obj)} {s:y0} {σ:St} {H:Hp} {R:V->V->Hp->Prop} (I:Inv X pins σ H s)
  (h:ta σ H λ x H1=>tb σ H1 λ y H2=>R x y H2) {Q:Value->y0->Prop} {f:Value->Value->Sem Value}
  (hf :∀v u s2 x y H2,Inv X pins σ H2 s2->RelV x v->RelV y u->R x y H2->R0 (Y0 X.prog X.w) X.A (f v u) Q X.xe s2) :
  R0 (Y0 X.prog X.w) X.A (W3 a X.env) (λ v s₁=>R0 (Y0 X.prog X.w) X.A (W3 b X.env) (λ u s₂=>R0 (Y0 X.prog X.w) X.A (f v u) Q X.xe s₂) X.xe s₁) X.xe s:=by
 refine thn (ha pins s σ H _ I h) λ v c ⟨x,H1,I1,r1,q1⟩=>?_;refine thn (hb pins c σ H1 _ I1 q1) λ u s2 ⟨y,H2,I2,r2,q2⟩=>?_;exact hf v u s2 x y H2 I2 r1 r2 q2
theorem pe_op {op:Operator} {r:R2} (ho:OpR X (d5 op) r) (ha:PE X a ta) (hb:PE X b tb):PE X (.BinOp a op b pos) (tOp r ta tb):=by intro f s σ H Q I h;exact wpAny_BinOp (binT ha hb I h λ v u c x y g d e i q=>ho f c σ g x y v u Q d e i q)
theorem pe_un {op:UnaryOp} {r:V->Hp->VK->Prop} (ho:UnR X (unaryOp op) r) (ha:PE X a ta):PE X (.UnaryOp op a pos) (tUn r ta):=by intro b s σ H Q I h;exact UnaryOp_ (thn (ha b s σ H _ I h) λ v c ⟨x,H1,I1,r1,q1⟩=>ho b c σ H1 x v Q I1 r1 q1)
theorem opI {f:Value->Value->Sem Value} {C:Int->Int->Prop} {g:Int->Int->Int}
  (rule :∀(i j:Int) (t u:Tok) (s:y0) (Q:Value->y0->Prop) (E:Value->y0->Prop),C i j->Q (.int (g i j) s.toks) { s with toks:=s.toks + 1 }->R0 (Y0 X.prog X.w) X.A (f (.int i t) (.int j u)) Q E s) :
  OpR X f (rI C λ i j=>.int (g i j)):=by
 intro e s σ H x y v u Q I b c h;obtain ⟨i,j,rfl,rfl,d,q⟩:=h;obtain ⟨t,rfl⟩:=b;obtain ⟨a,rfl⟩:=c;exact rule i j t a s _ _ d ⟨.int (g i j),H,I.tok _,⟨_,rfl⟩,q⟩
theorem opI0 {f:Value->Value->Sem Value} {g:Int->Int->Int}
  (rule :∀(i j:Int) (t u:Tok) (s:y0) (Q:Value->y0->Prop) (E:Value->y0->Prop),Q (.int (g i j) s.toks) { s with toks:=s.toks + 1 }->R0 (Y0 X.prog X.w) X.A (f (.int i t) (.int j u)) Q E s) :
  OpR X f (rI0 λ i j=>.int (g i j)):=by
 intro d s σ H x y v u Q I b c h;obtain ⟨i,j,rfl,rfl,q⟩:=h;obtain ⟨t,rfl⟩:=b;obtain ⟨a,rfl⟩:=c;exact rule i j t a s _ _ ⟨.int (g i j),H,I.tok _,⟨_,rfl⟩,q⟩
theorem opB0 {f:Value->Value->Sem Value} {g:Int->Int->Bool}
  (rule :∀(i j:Int) (t u:Tok) (s:y0) (Q:Value->y0->Prop) (E:Value->y0->Prop),Q (.bool (g i j)) s->R0 (Y0 X.prog X.w) X.A (f (.int i t) (.int j u)) Q E s) :
  OpR X f (rI0 λ i j=>.bl (g i j)):=by
 intro d s σ H x y v u Q I b c h;obtain ⟨i,j,rfl,rfl,q⟩:=h;obtain ⟨t,rfl⟩:=b;obtain ⟨a,rfl⟩:=c;exact rule i j t a s _ _ ⟨.bl (g i j),H,I,rfl,q⟩
def CPow (i j:Int):Prop:=0<=j/\j<=1000000/\i.natAbs < 2 ^ 64
def CMul (i j:Int):Prop:=(-(2 ^ 64) < i/\i < 2 ^ 64)\/(-(2 ^ 64) < j/\j < 2 ^ 64)
theorem CMul.ok {i j:Int} (h:CMul i j):IntMulOk i j:=by
 rcases h with ⟨a,b⟩|⟨a,b⟩
 ·exact .of_left (intBits_le_64 a b)
 ·exact .of_right (intBits_le_64 a b)
theorem op_add:OpR X (d5 .Add) (rI0 λ i j=>.int (i + j)):=opI0 λ _ _ _ _ _ _ _ q=>add_int q
theorem op_sub:OpR X (d5 .Sub) (rI0 λ i j=>.int (i - j)):=opI0 λ _ _ _ _ _ _ _ q=>sub_int q
theorem op_mul:OpR X (d5 .Mult) (rI CMul λ i j=>.int (i * j)):=opI λ _ _ _ _ _ _ _ a q=>mul_int q a.ok
theorem op_mod:OpR X (d5 .Mod) (rI (λ _ j=>0 < j) λ i j=>.int (i % j)):=opI λ i j _ _ _ _ _ a q=>by have b:(0:Int) < j:=a;exact mod_int' (by omega) (by rw [Int.fmod_eq_emod_of_nonneg i (by omega)];exact q)
theorem op_pow:OpR X (d5 .Pow) (rI CPow λ i j=>.int (i ^ j.toNat)):=opI λ _ _ _ _ _ _ _ a q=>pow_int_small a.1 a.2.1 a.2.2 q
theorem unI {f:Value->Sem Value} {g:Int->Int}
  (rule :∀(i:Int) (t:Tok) (s:y0) (Q:Value->y0->Prop) (E:Value->y0->Prop),Q (.int (g i) s.toks) { s with toks:=s.toks + 1 }->R0 (Y0 X.prog X.w) X.A (f (.int i t)) Q E s) :
  UnR X f (rU λ i=>.int (g i)):=by
 intro b s σ H x v Q I a h;obtain ⟨i,rfl,q⟩:=h;obtain ⟨t,rfl⟩:=a;exact rule i t s _ _ ⟨.int (g i),H,I.tok _,⟨_,rfl⟩,q⟩
theorem un_neg:UnR X (unaryOp .USub) (rU λ i=>.int (-i)):=unI λ _ _ _ _ _ q=>neg_int q
end
noncomputable def scal:V->V->Bool
 | .non,.non=>true | .non,.int _=>true | .int _,.non=>true | .non,.bl _=>true | .bl _,.non=>true | .non,.str _=>true | .str _,.non=>true
 | .int _,.int _=>true | .bl _,.bl _=>true | .str _,.str _=>true | .byt _,.byt _=>true
 | .int _,.str _=>true | .str _,.int _=>true | .bl _,.str _=>true | .str _,.bl _=>true
 | _,_=>false
noncomputable def rEq:R2:=λ x y H Q=>scal x y=true/\Q (.bl (decide (x=y))) H
noncomputable def rNe:R2:=λ x y H Q=>scal x y=true/\Q (.bl (!decide (x=y))) H
theorem zei {i j:Int}:decide (V.int i=V.int j)=(i == j):=by rw [Bool.eq_iff_iff];simp
theorem dec_bl {i j:Bool}:decide (V.bl i=V.bl j)=(i == j):=by rw [Bool.eq_iff_iff];simp
theorem z8s {i j:Str}:decide (V.str i=V.str j)=(i == j):=by rw [Bool.eq_iff_iff];simp
theorem zed {i j:Array UInt8}:decide (V.byt i=V.byt j)=(i.toList == j.toList):=by rw [Bool.eq_iff_iff];cases i;cases j;simp
section
variable {X:Cx} {a b c:Expr} {ta tb tc:TE} {pos:Pos}
theorem fin_bl {pins:List (Addr×Obj)} {σ:St} {H:Hp} {s:y0} {Q:VK} {k k':Bool} (I:Inv X pins σ H s) (q:Q (.bl k) H) (e:k=k'):EP X pins σ Q (.bool k') s:=by subst e;exact ⟨.bl k,H,I,rfl,q⟩
theorem op_eq:OpR X (N2 .Eq) rEq:=by
 intro e s σ H x y v u Q I d a h;obtain ⟨c,q⟩:=h;cases x with
 | non=>
  cases d;cases y with
  | non=>cases a;exact PySem.EqNone.eq_none_none (fin_bl I q (by simp))
  | bl j=>cases a;exact PySem.EqNone.eq_none_bool (fin_bl I q (by simp))
  | int j=>obtain ⟨b,rfl⟩:=a;exact PySem.EqNone.eq_none_int (fin_bl I q (by simp))
  | str j=>obtain ⟨b,rfl⟩:=a;exact PySem.EqNone.eq_none_str (fin_bl I q (by simp))
  | _=>exact absurd (show false=true from c) M0
 | bl i=>
  cases d;cases y with
  | non=>cases a;exact PySem.EqNone.eq_bool_none (fin_bl I q (by simp))
  | bl j=>cases a;exact eq_bool (fin_bl I q dec_bl)
  | str j=>obtain ⟨b,rfl⟩:=a;exact PySem.EqMixed.eq_bool_str (fin_bl I q (by simp))
  | _=>exact absurd (show false=true from c) M0
 | int i=>
  obtain ⟨t,rfl⟩:=d;cases y with
  | non=>cases a;exact PySem.EqNone.eq_int_none (fin_bl I q (by simp))
  | int j=>obtain ⟨b,rfl⟩:=a;exact eq_int (fin_bl I q zei)
  | str j=>obtain ⟨b,rfl⟩:=a;exact PySem.EqMixed.eq_int_str (fin_bl I q (by simp))
  | _=>exact absurd (show false=true from c) M0
 | str i=>
  obtain ⟨t,rfl⟩:=d;cases y with
  | non=>cases a;exact PySem.EqNone.eq_str_none (fin_bl I q (by simp))
  | bl j=>cases a;exact PySem.EqMixed.eq_str_bool (fin_bl I q (by simp))
  | int j=>obtain ⟨b,rfl⟩:=a;exact PySem.EqMixed.eq_str_int (fin_bl I q (by simp))
  | str j=>obtain ⟨b,rfl⟩:=a;exact eq_str (fin_bl I q z8s)
  | _=>exact absurd (show false=true from c) M0
 | byt i=>
  obtain ⟨t,rfl⟩:=d;cases y with
  | byt j=>obtain ⟨b,rfl⟩:=a;exact PySem.W.eq_bytes (fin_bl I q zed)
  | _=>exact absurd (show false=true from c) M0
 | _=>cases y<;>exact absurd (show false=true from c) M0
theorem op_ne:OpR X (N2 .NotEq) rNe:=by
 intro e s σ H x y v u Q I d a h;obtain ⟨c,q⟩:=h;cases x with
 | non=>
  cases d;cases y with
  | non=>cases a;exact PySem.EqNone.ne_none_none (fin_bl I q (by simp))
  | bl j=>cases a;exact PySem.EqNone.ne_none_bool (fin_bl I q (by simp))
  | int j=>obtain ⟨b,rfl⟩:=a;exact PySem.EqNone.ne_none_int (fin_bl I q (by simp))
  | str j=>obtain ⟨b,rfl⟩:=a;exact PySem.EqNone.ne_none_str (fin_bl I q (by simp))
  | _=>exact absurd (show false=true from c) M0
 | bl i=>
  cases d;cases y with
  | non=>cases a;exact PySem.EqNone.ne_bool_none (fin_bl I q (by simp))
  | bl j=>cases a;exact ne_bool (fin_bl I q (congrArg not dec_bl))
  | str j=>obtain ⟨b,rfl⟩:=a;exact PySem.EqMixed.ne_bool_str (fin_bl I q (by simp))
  | _=>exact absurd (show false=true from c) M0
 | int i=>
  obtain ⟨t,rfl⟩:=d;cases y with
  | non=>cases a;exact PySem.EqNone.ne_int_none (fin_bl I q (by simp))
  | int j=>obtain ⟨b,rfl⟩:=a;exact ne_int (fin_bl I q (congrArg not zei))
  | str j=>obtain ⟨b,rfl⟩:=a;exact PySem.EqMixed.ne_int_str (fin_bl I q (by simp))
  | _=>exact absurd (show false=true from c) M0
 | str i=>
  obtain ⟨t,rfl⟩:=d;cases y with
  | non=>cases a;exact PySem.EqNone.ne_str_none (fin_bl I q (by simp))
  | bl j=>cases a;exact PySem.EqMixed.ne_str_bool (fin_bl I q (by simp))
  | int j=>obtain ⟨b,rfl⟩:=a;exact PySem.EqMixed.ne_str_int (fin_bl I q (by simp))
  | str j=>obtain ⟨b,rfl⟩:=a;exact ne_str (fin_bl I q (congrArg not z8s))
  | _=>exact absurd (show false=true from c) M0
 | byt i=>
  obtain ⟨t,rfl⟩:=d;cases y with
  | byt j=>obtain ⟨b,rfl⟩:=a;exact PySem.W.ne_bytes (fin_bl I q (congrArg not zed))
  | _=>exact absurd (show false=true from c) M0
 | _=>cases y<;>exact absurd (show false=true from c) M0
theorem op_lt:OpR X (N2 .Lt) (rI0 λ i j=>.bl (decide (i < j))):=opB0 λ _ _ _ _ _ _ _ q=>lt_int q
theorem op_le:OpR X (N2 .LtE) (rI0 λ i j=>.bl (decide (i<=j))):=opB0 λ _ _ _ _ _ _ _ q=>le_int q
theorem op_gt:OpR X (N2 .Gt) (rI0 λ i j=>.bl (decide (j < i))):=opB0 λ _ _ _ _ _ _ _ q=>gt_int q
theorem zd4:OpR X (N2 .In) (λ x y H Q=>∃i j,x=.str i/\y=.str j/\Q (.bl (!(m6 j i 0 j.length 1).isEmpty)) H):=by intro d s σ H x y v u Q I a b h;obtain ⟨i,j,rfl,rfl,q⟩:=h;obtain ⟨t,rfl⟩:=a;obtain ⟨c,rfl⟩:=b;exact in_str (fin_bl I q rfl)
theorem op_isN:OpR X (N2 .Is) (λ x y H Q=>y=.non/\Q (.bl (decide (x=.non))) H):=by
 intro c s σ H x y v u Q I a b h;obtain ⟨rfl,q⟩:=h;cases b;refine is_none_gen (fin_bl I q ?_);cases x<;>first
  | (cases a;rfl)
  | (obtain ⟨t,rfl⟩:=a;rfl)
theorem z3l:OpR X (N2 .IsNot) (λ x y H Q=>y=.non/\Q (.bl (!decide (x=.non))) H):=by
 intro c s σ H x y v u Q I a b h;obtain ⟨rfl,q⟩:=h;cases b;refine isnot_none_gen (fin_bl I q ?_);cases x<;>first
  | (cases a;rfl)
  | (obtain ⟨t,rfl⟩:=a;rfl)
theorem OpR.or {f:Value->Value->Sem Value} {r r':R2} (h:OpR X f r) (h':OpR X f r'):OpR X f (λ x y H Q=>r x y H Q\/r' x y H Q):=by
 intro a s σ H x y v u Q I b c q;rcases q with q|q
 ·exact h a s σ H x y v u Q I b c q
 ·exact h' a s σ H x y v u Q I b c q
theorem nomark (b:Expr) {op:CmpOp} (h:op≠.In:=by decide) (h2:op≠.NotIn:=by decide):Z6 op b=false:=by
 have a:(op == CmpOp.In)=false:=by cases op<;>first|rfl|exact absurd rfl h
 have c:(op == CmpOp.NotIn)=false:=by cases op<;>first|rfl|exact absurd rfl h2
 cases b<;>simp [Z6,a,c]
theorem z13 {op:CmpOp} {r:R2} (ho:OpR X (N2 op) r) (ha:PE X a ta) (hb:PE X b tb) (hm:Z6 op b=false):PE X (.Compare a [op] [b] pos) (tOp r ta tb):=by intro f s σ H Q I h;exact wpAny_Compare1 (binT ha hb I h λ v u c x y g d e i q=>ho f c σ g x y v u Q d e i q) hm
noncomputable def tTest (t:TE):TT:=λ σ H Q=>t σ H λ x H'=>∃k,x=.bl k/\Q k H'
theorem z09 {op:CmpOp} {r:R2} (ho:OpR X (N2 op) r) (ha:PE X a ta) (hb:PE X b tb) (hm:Z6 op b=false):PT X (.Compare a [op] [b] pos) (tTest (tOp r ta tb)):=by
 intro d s σ H Q I h;refine wpAny_isTrue_Compare1 (thn (ha d s σ H _ I h) λ v g ⟨x,H1,I1,r1,q1⟩=>thn (hb d g σ H1 _ I1 q1) λ u f ⟨y,H2,I2,r2,q2⟩=>thn (ho d f σ H2 x y v u _ I2 r1 r2 q2) λ c i ⟨z,H3,I3,r3,k,e,q3⟩=>?_) hm;subst e;cases r3;exact y3 ⟨H3,I3,q3⟩
noncomputable def tChain (r r':R2) (ta tb tc:TE):TE:=λ σ H Q=>ta σ H λ x H1=>tb σ H1 λ y H2=>r x y H2 λ z H3=>∃k,z=.bl k/\
 (if k=true then tc σ H3 λ w' H4=>r' y w' H4 Q else Q (.bl false) H3)
theorem z7o {op op':CmpOp} {r r':R2} (ho:OpR X (N2 op) r) (ho':OpR X (N2 op') r') (ha:PE X a ta) (hb:PE X b tb) (hc:PE X c tc)
  (hm:lastMarks [op,op'] [b,c]=false:=by with_unfolding_all rfl):PE X (.Compare a [op,op'] [b,c] pos) (tChain r r' ta tb tc):=by
 intro f s σ H Q I h;refine Compare_chain (thn (ha f s σ H _ I h) λ v l ⟨x,H1,I1,r1,q1⟩=>chain_link (thn (hb f l σ H1 _ I1 q1) λ u g ⟨y,H2,I2,r2,q2⟩=>thn (ho f g σ H2 x y v u _ I2 r1 r2 q2) λ d j ⟨z,H3,I3,r3,k,e,q3⟩=>?_)) hm;subst e;cases r3;refine y3 ?_;cases k with
 | false=>exact ite_ff ⟨.bl false,H3,I3,rfl,q3⟩
 | true=>exact ite_tt (chain_last (thn (hc f j σ H3 _ I3 q3) λ m i ⟨z',H4,I4,r4,q4⟩=>ho' f i σ H4 y z' u m Q I4 r2 r4 q4))
theorem zf8 {op op':CmpOp} {r r':R2} (ho:OpR X (N2 op) r) (ho':OpR X (N2 op') r') (ha:PE X a ta) (hb:PE X b tb) (hc:PE X c tc)
  (hm:lastMarks [op,op'] [b,c]=false:=by with_unfolding_all rfl):PT X (.Compare a [op,op'] [b,c] pos) (tTest (tChain r r' ta tb tc)):=by
 intro f s σ H Q I h;refine isTrue_chain (thn (ha f s σ H _ I h) λ v j ⟨x,H1,I1,r1,q1⟩=>test_link (thn (hb f j σ H1 _ I1 q1) λ u o ⟨y,H2,I2,r2,q2⟩=>thn (ho f o σ H2 x y v u _ I2 r1 r2 q2) λ d n ⟨z,H3,I3,r3,k,e,q3⟩=>?_)) hm;subst e;cases r3;refine y3 ?_;cases k with
 | false=>obtain ⟨p,i,m⟩:=q3;cases i;exact ite_ff ⟨H3,I3,m⟩
 | true=>refine ite_tt (test_last (thn (hc f n σ H3 _ I3 q3) λ g l ⟨z',H4,I4,r4,q4⟩=>thn (ho' f l σ H4 y z' u g _ I4 r2 r4 q4) λ t q ⟨z2,H5,I5,r5,k2,e2,q5⟩=>?_));subst e2;cases r5;exact y3 ⟨H5,I5,q5⟩
theorem line63:(sizeLine:Nat) < 2 ^ 63:=by rw [P5];decide
theorem op_add_str:OpR X (d5 .Add) (λ x y H Q=>∃i j,x=.str i/\y=.str j/\i.length + j.length<=sizeLine/\Q (.str (i++j)) H):=by intro f s σ H x y v u Q I b d h;obtain ⟨i,j,rfl,rfl,c,q⟩:=h;obtain ⟨t,rfl⟩:=b;obtain ⟨a,rfl⟩:=d;exact add_str (λ a e=>⟨.str (i++j),H,I.tok _,⟨_,rfl⟩,q⟩) c
theorem vals1 {x:V} {us:List Value} (r:Vals [x] us) :∃u,us=[u]/\RelV x u:=by
 cases r with
 | cons r1 r2=>cases r2;exact ⟨_,rfl,r1⟩
theorem vals2 {x y:V} {us:List Value} (r:Vals [x,y] us) :∃u w',us=[u,w']/\RelV x u/\RelV y w':=by
 cases r with
 | cons r1 r2=>
  cases r2 with
  | cons r3 r4=>cases r4;exact ⟨_,_,rfl,r1,r3⟩
end
structure ObjM (h:Heap) (x dx C:Addr) (mA:Str->Option Value):Prop where
 obj:h.get? x=some (k8 C dx)
 ns:h.Ns1 dx mA
 ne:dx≠x
theorem zdx {h:Heap} {dx:Addr} {mA:Str->Option Value} (n:h.Ns1 dx mA) :∃od,h.get? dx=some od/\∀name,F8 name od=some (mA name):=by
 obtain ⟨o,b,k,i,hd,f,_,c⟩:=n;refine ⟨o,i,λ name=>?_⟩;have e:=c name;unfold nsFind findBy at e;rw [<-Array.find?_toList] at e;unfold F8;rw [hd];dsimp only;split
 ·rename_i y q;rw [q] at e;exact congrArg some e
 ·rename_i q;rw [q] at e;have a:b.toList.any (·.refKey)=false:=by rw [List.any_eq_false];intro y d;obtain ⟨z,t,j⟩:=f y (Array.mem_toList_iff.mp d);simp [DictEntry.refKey,j]
  have g:¬ b.toList.any (·.refKey)=true:=by rw [a];exact M0
  rw [if_neg g];exact congrArg some e
theorem ObjM.look {h:Heap} {x dx C:Addr} {mA:Str->Option Value} (I:ObjM h x dx C mA) :∃od,PySem.W.InstAt h x (k8 C dx) C (some od)/\∀name,F8 name od=some (mA name):=
 let ⟨od,ho,hl⟩:=zdx I.ns
 ⟨od,⟨I.obj,rfl,rfl,ho⟩,hl⟩
theorem RelO.some_of {v:V} {o:Option Value} (r:RelO (some v) o) :∃u,o=some u/\RelV v u:=by
 cases o with
 | none=>exact (show False from r).elim
 | some u=>exact ⟨u,rfl,r⟩
section
variable {P:Program} {w:O0} {H H':Hp} {h h':Heap} {a C dx:Addr} {fs fs':List (Str×V)}
theorem zfo (hok:HOk P w H h) (e:H a=some (.ins C dx fs)) :∃mA,ObjM h a dx C mA/\(∀f,RelO (fs.lookup f) (mA f))/\PySem.Within mA (fs.map (·.1))/\fs.length<=1000/\H dx=some (.own a):=by
 obtain ⟨d,z,c,b,mA,n,r,q⟩:=(show ObjOk P w H h a (.ins C dx fs) from hok a _ e)
 exact ⟨mA,⟨b,n,c⟩,r,q,z,d⟩
end
structure Cls (K:c0) (C:Addr):Prop where
 pg:PySem.W.plainGet K C Str.empty=true
 hd:PySem.W.hasDictIn K C=true
 po:PySem.W.plainOver K C=true
 sa:a6 K (.ref C) "__setattr__" = some (some (.builtin "object.__setattr__"))
theorem Cls.get {K:c0} {C:Addr} (c:Cls K C) (f:Str):PySem.W.plainGet K C f=true:=c.pg
structure Con (K:c0) (C:Addr) (f:Str) (v:V) (u:Value):Prop where
 at_:a6 K (.ref C) f=some (some u)
 rel:RelV v u
 get:j02 K u "__get__" = some none
 cp:PySem.W.copiedNames.contains f=false
structure Meth (K:c0) (C:Addr) (m:Str) (f:Addr):Prop where
 at_:a6 K (.ref C) m=some (some (.ref f))
 fn:PySem.W.isFn K (.ref f)=true
 kp:n4 K (.ref f)=true
section
variable {X:Cx} {pins:List (Addr×Obj)} {σ:St} {H:Hp} {s:y0} {A:Z1} {E:Value->y0->Prop} {Q:Value->y0->Prop} {c:Value} {b:Bool}
inductive TyOf (K:c0) (H:Hp):V->Value->Prop where
 | non:TyOf K H .non (.type "NoneType")
 | bl (x:Bool):TyOf K H (.bl x) (.type "bool")
 | int (i:Int):TyOf K H (.int i) (.type "int")
 | str (x:Str):TyOf K H (.str x) (.type "str")
 | flt (x:UInt64):TyOf K H (.flt x) (.type "float")
 | lst {a:Addr} {xs:List V} (e:H a=some (.lst xs)):TyOf K H (.ref a) (.type "list")
 | frz {a:Addr} {o:Obj} {xs:List V} (e:H a=some (.frz o (.lst xs))):TyOf K H (.ref a) (.type "list")
 | tup {a:Addr} {xs:List V} (e:H a=some (.tup xs)):TyOf K H (.ref a) (.type "tuple")
 | dK {a:Addr} {kvs:List (Key×V)} (e:H a=some (.dK kvs)):TyOf K H (.ref a) (.type "dict")
 | dT {a:Addr} {kvs:List (List Key×V)} (e:H a=some (.dT kvs)):TyOf K H (.ref a) (.type "dict")
 | ins {a C dx:Addr} {fs:List (Str×V)} (e:H a=some (.ins C dx fs)) (cl:Cls K C) (ha:a6 K (.ref C) "__class__" = some (some (.builtin "object.__class__")))
   (hn:j02 K (.builtin "object.__class__") "__get__" = some (some (.builtin "getset_descriptor.__get__"))) (htk:PySem.W.takesIn K (.builtin "object.__class__")=some true)
   (hm:PySem.W.mroIn K C (.type "object")=some true):TyOf K H (.ref a) (.ref C)
theorem zd0 {x:V} {u t:Value} (I:Inv X pins σ H s) (rx:RelV x u) (ty:TyOf X.K H x t) (e:PySem.W.kitOne X.K t c=some b) (h :∀tk,Q (.bool b) { s with toks:=tk }) :
  R0 (Y0 X.prog X.w) A (call (.builtin "isinstance") [u,c]) Q E s:=by
 cases ty with
 | non=>cases (show u=j5 from rx);exact m3 PySem.W.kitx_none I.kIn True.intro e (λ z=>nomatch z) h
 | bl y=>cases (show u=W8 y from rx);exact m3 PySem.W.kitx_bool I.kIn True.intro e (λ z=>nomatch z) h
 | int i=>obtain ⟨t,q⟩:=(show∃t,u=R5 i t from rx);cases q;exact m3 PySem.W.kitx_int I.kIn True.intro e (λ z=>nomatch z) h
 | str y=>obtain ⟨t,q⟩:=(show∃t,u=i8 y t from rx);cases q;exact m3 PySem.W.kitx_str I.kIn True.intro e (λ z=>nomatch z) h
 | flt y=>obtain ⟨t,q⟩:=(show∃t,u=Value.float y t from rx);cases q;exact m3 PySem.W.kitx_float I.kIn True.intro e (λ z=>nomatch z) h
 | @lst a f ea=>
  cases (show u=F1 a from rx);obtain ⟨_,_,n,_,d⟩:=(show ObjOk X.prog X.w H s.heap a (.lst f) from I.hok a _ ea)
  exact m3 j03 I.kIn ⟨_,d,rfl⟩ e (λ z=>nomatch z) h
 | @frz a ob f ea=>
  cases (show u=F1 a from rx);obtain ⟨_,_,_,n,_,d⟩:=(show ObjOk X.prog X.w H s.heap a (.frz ob (.lst f)) from I.hok a _ ea)
  exact m3 j03 I.kIn ⟨_,d,rfl⟩ e (λ z=>nomatch z) h
 | @tup a f ea=>
  cases (show u=F1 a from rx);obtain ⟨_,_,_,p,_⟩:=(show ObjOk X.prog X.w H s.heap a (.tup f) from I.hok a _ ea)
  obtain ⟨o,d,g,_⟩:=p;exact m3 PySem.W.kitx_tuple I.kIn ⟨o,d,g⟩ e (λ z=>nomatch z) h
 | @dK a kvs ea=>
  cases (show u=F1 a from rx);obtain ⟨_,_,m,_,p⟩:=(show ObjOk X.prog X.w H s.heap a (.dK kvs) from I.hok a _ ea)
  obtain ⟨o,k,j,d,g,_⟩:=p;exact m3 j04 I.kIn ⟨o,d,g.1⟩ e (λ z=>nomatch z) h
 | @dT a kvs ea=>
  cases (show u=F1 a from rx);obtain ⟨_,_,f,_,o,k,j,d,g,_⟩:=(show ObjOk X.prog X.w H s.heap a (.dT kvs) from I.hok a _ ea)
  exact m3 j04 I.kIn ⟨o,d,g.1⟩ e (λ z=>nomatch z) h
 | @ins a C dx fs ea cl ha hn htk hm=>cases (show u=F1 a from rx);obtain ⟨l,O,_⟩:=zfo I.hok ea;obtain ⟨r,J,_⟩:=O.look;exact m3 (PySem.W.kitx_own (cl.get _) cl.hd ha hn htk hm) I.kIn J e (λ z=>nomatch z) h
end
structure Room (k:Nat) (A:Z1):Prop where
 hd:A.handled=none
 dp:A.depth + 3 * k + 5 < recursionLimit
 un:A.units + 16 * k + 200 < cLine
 gd:A.guards=some []
theorem Room.mono {j k:Nat} {A:Z1} (r:Room k A) (h:j<=k):Room j A:=⟨r.hd,by have:=r.dp;omega,by have:=r.un;omega,r.gd⟩
theorem Room.deeper {k:Nat} {A:Z1} (r:Room (k + 1) A) (env:Env):Room k (A.deeper env):=
 ⟨r.hd,by have:=r.dp;show A.depth + 1 + 3 * k + 5 < _;omega,by have:=r.un;show A.units + 3 + 16 * k + 200 < _;omega,r.gd⟩
theorem Room.in1 {k:Nat} {A:Z1} (r:Room (k + 1) A):Room k A.in1:=
 ⟨r.hd,by have:=r.dp;show A.depth + 3 * k + 5 < _;omega,by have:=r.un;show A.units + 1 + 16 * k + 200 < _;omega,r.gd⟩
theorem Room.depth {k:Nat} {A:Z1} (r:Room k A):A.depth < recursionLimit:=by have:=r.dp;omega
theorem Room.units {k:Nat} {A:Z1} (r:Room k A):A.units + 64 < cLine:=by have:=r.un;omega
noncomputable def tNil:TA:=λ _ H Q=>Q [] H
noncomputable def tCons (ta:TE) (tr:TA):TA:=λ σ H Q=>ta σ H λ x H1=>tr σ H1 λ xs H2=>Q (x :: xs) H2
section
variable {X:Cx} {e:Expr} {es:List Expr} {te:TE} {t:TA} {pos:Pos}
theorem pa_nil:PA X [] tNil:=λ _ _ _ _ H Q I h=>j4 ⟨[],H,I,.nil,h⟩
theorem z00 (ha:PE X e te) (hr:PA X es t) (hs:G1 (e :: es) X.env=(false,W3 e X.env) :: G1 es X.env:=by rfl):PA X (e :: es) (tCons te t):=by intro pos a s σ H Q I h;rw [hs];show R0 _ _ (G9 ((false,W3 e X.env) :: G4 pos (G1 es X.env))) _ _ s;refine Q3 (thn (ha a s σ H _ I h) λ u b ⟨x,H1,I1,r1,q1⟩=>?_);exact thn (hr pos a b σ H1 _ I1 q1) λ d c ⟨xs,H2,I2,r2,q2⟩=>⟨x :: xs,H2,I2,.cons r1 r2,q2⟩
noncomputable def tTup (t:TA):TE:=λ σ H Q=>t σ H λ xs H1=>xs.length<=sizeLine/\∀p,H1 p=none->Q (.ref p) (upd H1 p (.tup xs))
noncomputable def tLst (t:TA):TE:=λ σ H Q=>t σ H λ xs H1=>xs.length<=sizeLine/\∀p,H1 p=none->Q (.ref p) (upd H1 p (.lst xs))
theorem pe_tup {x1} (h:PA X es t):PE X (.Tuple es x1 pos) (tTup t):=by intro f s σ H Q I d;refine wpAny_Tuple_spliced (thn (h pos f s σ H _ I d) λ g a ⟨xs,H1,I1,r,z,q⟩=>⟨by rw [<-r.length];exact z,?_⟩);have c:H1 a.heap.objs.size=none:=I1.hok.fresh (A0 _);refine ⟨.ref a.heap.objs.size,upd H1 a.heap.objs.size (.tup xs),I1.laid (t':=a.toks) (λ b u e=>x0 _ e) (A0 _) ?_,rfl,q _ c⟩;exact ⟨z,g,r,IsTupN.new _ _⟩
theorem pe_lst (h:PA X es t):PE X (.List es pos) (tLst t):=by intro f s σ H Q I d;refine wpAny_List_spliced (thn (h pos f s σ H _ I d) λ g a ⟨xs,H1,I1,r,z,q⟩=>⟨by rw [<-r.length];exact z,?_⟩);have c:H1 a.heap.objs.size=none:=I1.hok.fresh (A0 _);refine ⟨.ref a.heap.objs.size,upd H1 a.heap.objs.size (.lst xs),I1.laid (t':=a.toks) (λ b u e=>x0 _ e) (A0 _) ?_,rfl,q _ c⟩;exact ⟨z,g,0,r,I0 _ rfl⟩
end
noncomputable abbrev Sp:=List V->Hp->VK->XK->Prop
noncomputable abbrev CXT:=List Env->Hp->y0->XK->Value->y0->Prop
structure Env0 (P:Program) (w:O0) (K:c0) (mg:Str->Option Value) (base:Heap) (A:Z1) (outer:List Env) (s:y0) (H:Hp):Prop where
 frames:A.frames=some outer
 mod:Mod K mg base
 bs :∀b o,base.get? b=some o->s.heap.get? b=some o/\H b=none
 bsz:base.objs.size<=s.heap.objs.size
 funs:s.heap.FunFrames base outer
 frf :∀b∈frs outer,H b=none
 hok:HOk P w H s.heap
 bare:Y6 s.gens
def CE (outer:List Env) (P:Program) (w:O0) (H:Hp) (s:y0) (Q:VK) (u:Value) (s':y0):Prop:=
 ∃v H',s'.os=s.os/\Y6 s'.gens/\Un (frs outer) [] H H' s.heap s'.heap/\HOk P w H' s'.heap/\RelV v u/\Q v H'
def CR (CX:CXT) (outer:List Env) (P:Program) (w:O0) (H:Hp) (s:y0) (Q:VK) (E:XK) (r:Result) (s':y0):Prop:=
 match r with
 | .ok (.ret u)=>CE outer P w H s Q u s'
 | .ok _=>False
 | .error e=>CX outer H s E e s'
structure FnOk (P:Program) (w:O0) (K:c0) (mg:Str->Option Value) (base:Heap) (CX:CXT) (k:Nat) (f:Addr) (fd:FuncData) (ps:List Str) (sp:Sp):Prop where
 len :∀vs H Q E,sp vs H Q E->vs.length=ps.length
 run :∀(A:Z1) (outer:List Env) (s:y0) (H:Hp) (args:Args) (us:List Value) (vs:List V) (Q:VK) (E:XK),Room k A->Env0 P w K mg base A outer s H->BindsTo s fd args (ps.zip us)->Vals vs us->sp vs H Q E->
  C5 (Y0 P w) A (.call (.ref f) args) (CR CX outer P w H s Q E) s
theorem Env0.in1 {P:Program} {w:O0} {K:c0} {mg:Str->Option Value} {base:Heap} {A:Z1} {outer:List Env} {s:y0} {H:Hp} (e:Env0 P w K mg base A outer s H) :
  Env0 P w K mg base A.in1 outer s H:=⟨e.frames,e.mod,e.bs,e.bsz,e.funs,e.frf,e.hok,e.bare⟩
section
variable {X:Cx} {pins:List (Addr×Obj)} {σ:St} {H:Hp} {s s':y0}
theorem Inv.env0 (I:Inv X pins σ H s):Env0 X.prog X.w X.K X.mg X.base X.A X.stack s H:=
 ⟨I.ok.frames,I.ok.mod,I.bs,F0 I.ok.bsz I.sz,I.stack,I.stkFree,I.hok,I.bare⟩
theorem Inv.after {Q:VK} {u:Value} (I:Inv X pins σ H s) (h:CE X.stack X.prog X.w H s Q u s'):EP X pins σ Q u s':=by obtain ⟨v,j,f,e,un,i,r,q⟩:=h;obtain ⟨a,g,d,t,c⟩:=s';obtain rfl:c=s.os:=f;exact ⟨v,j,I.call (h':=a) (g':=g) (d':=d) (t':=t) (ch:=[]) un i e (λ b z=>absurd z (by simp)),r,q⟩
end
noncomputable def tCall (sp:Sp) (dvs:List V) (E:XK) (t:TA):TE:=λ σ H Q=>t σ H λ vs H1=>sp (vs++dvs) H1 Q E
def Binds (K:c0) (fd:FuncData) (ps:List Str) (ds:List Value):Prop:=
 ∀(s:y0) (us:List Value),K.In s.heap->(us++ds).length=ps.length->BindsTo s fd ⟨us,[]⟩ (ps.zip (us++ds))
theorem Binds.all {K:c0} {fd:FuncData} {ps:List Str} (h :∀us:List Value,us.length=ps.length->bindArgs fd ⟨us,[]⟩=S3 (ps.zip us)):Binds K fd ps []:=λ s us _ a=>by rw [C2] at a⊢;exact .of_eq (h us a)
def Passes (CX:CXT) (X:Cx) (E:XK):Prop:=∀(pins:List (Addr×Obj)) (σ:St) (H:Hp) (s:y0) (e:Value) (s':y0),Inv X pins σ H s->CX X.stack H s E e s'->X.xe e s'
section
variable {X:Cx} {CX:CXT} {k:Nat} {f C:Addr} {fd:FuncData} {ps:List Str} {sp:Sp} {dvs:List V} {ds:List Value} {E:XK} {x m:Str} {p pos apos:Pos} {e o:Expr} {es:List Expr} {ta:TE} {t:TA}
theorem run_fn {pins:List (Addr×Obj)} {σ:St} {H:Hp} {s:y0} {Q:VK} {us:List Value} {vs:List V} (F:FnOk X.prog X.w X.K X.mg X.base CX k f fd ps sp) (hr:Room k X.A) (hb:Binds X.K fd ps ds) (hd:Vals dvs ds) (hx:Passes CX X E)
  (I:Inv X pins σ H s) (r:Vals vs us) (h:sp (vs++dvs) H Q E):R0 (Y0 X.prog X.w) X.A (call (.ref f) us) (EP X pins σ Q) X.xe s:=by
 have b:Vals (vs++dvs) (us++ds):=r.append hd;have d:(us++ds).length=ps.length:=by rw [<-b.length];exact F.len _ _ _ _ h
 refine C8 (F4 (F.run X.A X.stack s H ⟨us,[]⟩ (us++ds) (vs++dvs) Q E hr I.env0 (hb s us I.kIn d) b h) λ r c a=>?_);cases r with
 | error e=>exact hx pins σ H s e c I a
 | ok fl=>
  cases fl with
  | ret u=>exact I.after a
  | next=>exact X3 a
  | brk=>exact X3 a
  | cont=>exact X3 a
theorem zfv (F:FnOk X.prog X.w X.K X.mg X.base CX k f fd ps sp) (hr:Room k X.A) (hg:Gl X x) (hm:X.mg x=some (.ref f)) (hk:n4 X.K (.ref f)=true) (hb:Binds X.K fd ps ds) (hd:Vals dvs ds) (hx:Passes CX X E)
  (ha:PA X (e :: es) t) (hdb:(x == ("__debug__" : Str))=false:=by decide) (he:G1 (e :: es) X.env=(false,W3 e X.env) :: G1 es X.env:=by rfl) (hpl:(G4 pos (G1 es X.env)).any (·.1)=false:=by rfl) :
  PE X (.Call (.Name x p) (e :: es) [] pos) (tCall sp dvs E t):=by
 intro a s σ H Q I h;refine E3 (zb6 I hg hm ?_ hdb);refine PySem.W.callWith_K (h₀:=X.base) I.ok.mod.kin hk (thn (ha pos a s σ H _ I h) λ b c ⟨vs,H1,I1,r,q⟩=>⟨I1.kIn,?_⟩) he hpl;exact run_fn F hr hb hd hx I1 r q
structure Mk (K:c0) (C f:Addr):Prop where
 makes:PySem.W.makesIn K C=true
 init:a6 K (.ref C) "__init__" = some (some (.ref f))
 fn:PySem.W.isFn K (.ref f)=true
 kp:n4 K (.ref C)=true
end
section
variable {X:Cx} {CX:CXT} {k:Nat} {f C:Addr} {fd:FuncData} {ps ks:List Str} {sp:Sp} {E:XK} {x m:Str} {p pos apos kpos:Pos} {e o:Expr} {es:List Expr} {kws:List P7} {te ta:TE} {t tk:TA} {nm:Option Str}
structure KBinds (K:c0) (fd:FuncData) (ps ks:List Str) (g:List Value->List Value->List Value) (gV:List V->List V->List V):Prop where
 to :∀(s:y0) (us ws:List Value),K.In s.heap->(g us ws).length=ps.length->BindsTo s fd ⟨us,ks.zip ws⟩ (ps.zip (g us ws))
 rel :∀{vs:List V} {us:List Value} {zs:List V} {ws:List Value},Vals vs us->Vals zs ws->Vals (gV vs zs) (g us ws)
variable {g:List Value->List Value->List Value} {gV:List V->List V->List V}
end
structure FnScope (N P:List Str) (sc:Scope):Prop where
 kind:sc.kind=.function
 co:sc.isCoroutine=false
 gen:sc.isGenerator=false
 nd:N.Nodup
 pre:N.take P.length=P
 par :∀x∈P,sc.names.lookup x=some .local\/sc.names.lookup x=some .cell
 nofree :∀y∈sc.names,y.2≠.free
theorem z8m {kindOf:Str->Option W5} {x:Str} :∀{binds:List (Str×Value)} {m:Str->Option Value},(∀v,(x,v)∉binds)->bindL kindOf binds m x=m x
 | [],_,_=>rfl
 | (n,v) :: r,m,h=>by
  unfold bindL;rw [z8m λ w a=>h w (P2 _ a)];split
  ·have:x≠n:=by rintro rfl;exact h v Y1
   simp [this]
  ·rfl
theorem z8a {kindOf:Str->Option W5} {x:Str} :∀{binds:List (Str×Value)} {m:Str->Option Value},(∀v,(x,v)∉binds)->bindC kindOf binds m x=m x
 | [],_,_=>rfl
 | (n,v) :: r,m,h=>by
  unfold bindC;rw [z8a λ w a=>h w (P2 _ a)];split
  ·rfl
  ·have:x≠n:=by rintro rfl;exact h v Y1
   simp [this]
theorem z7z {kindOf:Str->Option W5} {x:Str} {v:Value} :∀{P:List Str} {vs:List Value} {i:Nat} {m:Str->Option Value},P.Nodup->P[i]? = some x->vs[i]? = some v->kindOf x=some .local->
  bindL kindOf (P.zip vs) m x=some v
 | [],_,_,_,_,h,_,_=>by simp at h
 | _ :: _,[],_,_,_,_,h,_=>by simp at h
 | p :: P,w :: vs,0,m,nd,h1,h2,hk=>by simp at h1 h2;subst h1;subst h2;show bindL kindOf ((p,w) :: P.zip vs) m p=_;unfold bindL;rw [z8m λ v a=>(List.nodup_cons.mp nd).1 (Z5 a).1,if_pos hk];simp
 | p :: P,w :: vs,i + 1,m,nd,h1,h2,hk=>by show bindL kindOf ((p,w) :: P.zip vs) m x=_;unfold bindL;exact z7z (i:=i) (List.nodup_cons.mp nd).2 (by simpa using h1) (by simpa using h2) hk
theorem z8i {kindOf:Str->Option W5} {x:Str} {v:Value} :∀{P:List Str} {vs:List Value} {i:Nat} {m:Str->Option Value},P.Nodup->P[i]? = some x->vs[i]? = some v->kindOf x≠some .local->
  bindC kindOf (P.zip vs) m x=some v
 | [],_,_,_,_,h,_,_=>by simp at h
 | _ :: _,[],_,_,_,_,h,_=>by simp at h
 | p :: P,w :: vs,0,m,nd,h1,h2,hk=>by simp at h1 h2;subst h1;subst h2;show bindC kindOf ((p,w) :: P.zip vs) m p=_;unfold bindC;rw [z8a λ v a=>(List.nodup_cons.mp nd).1 (Z5 a).1,if_neg hk];simp
 | p :: P,w :: vs,i + 1,m,nd,h1,h2,hk=>by show bindC kindOf ((p,w) :: P.zip vs) m x=_;unfold bindC;exact z8i (i:=i) (List.nodup_cons.mp nd).2 (by simpa using h1) (by simpa using h2) hk
noncomputable def start (N:List Str) (vs:List V):St:=vs.map some++V2 (N.length - vs.length) none
noncomputable def cxOf (CX:CXT) (P:Program) (w:O0) (K:c0) (mg:Str->Option Value) (base:Heap) (N:List Str) (qual:Str) (scope:Scope) (f:Addr) (cd:Value) (A:Z1) (outer:List Env) (s:y0) (H:Hp) (E:XK):Cx where
 prog:=P
 w:=w
 K:=K
 mg:=mg
 base:=base
 A:=A.deeper (a8 qual scope s.heap.objs.size f cd)
 N:=N
 s₀:=s
 H₀:=H
 env:=a8 qual scope s.heap.objs.size f cd
 outer:=outer
 stack:=a8 qual scope s.heap.objs.size f cd :: outer
 ex:=[]
 calm:=true
 fn:=λ _=>true
 pn:=[]
 xe:=λ e s'=>R0 (Y0 P w) (A.deeper (a8 qual scope s.heap.objs.size f cd)) («leaving» (a8 qual scope s.heap.objs.size f cd) e) (λ _ s''=>CX outer H s E e s'') (λ e' s''=>CX outer H s E e' s'') s'
theorem zb9 {sc:Scope} {n:Nat} {x:Str} (h:sc.names.lookup x=some .cell) :∃c,(cellsFrom n sc.names []).lookup x=some c:=by have q:=L6 sc.names n [] (.inl h);exact Option.isSome_iff_exists.mp q
theorem z7y {CX:CXT} {P:Program} {w:O0} {K:c0} {mg:Str->Option Value} {base:Heap} {N ps:List Str} {qual:Str} {scope:Scope} {f:Addr} {cd:Value} {A:Z1} {outer:List Env} {s s1:y0} {H:Hp} {E:XK} {us:List Value} {vs:List V}
  (S:FnScope N ps scope) (hd:A.handled=none) (e0:Env0 P w K mg base A outer s H) (hl:vs.length=ps.length) (r:Vals vs us)
  (x:InCallC s s.heap.objs.size (bindL (a8 qual scope s.heap.objs.size f cd).kindOf (ps.zip us) λ _=>none) (cellsFrom (s.heap.objs.size + 1) scope.names []) (bindC (a8 qual scope s.heap.objs.size f cd).kindOf (ps.zip us) λ _=>none) s1) :
  Inv (cxOf CX P w K mg base N qual scope f cd A outer s H E) [] (start N vs) H s1:=by
 have I:ps.length<=N.length:=by have:=congrArg List.length S.pre;rw [i3] at this;omega
 obtain ⟨l,G,rfl,C⟩:=x.done;have o :∀b:Addr,b∉(cxOf CX P w K mg base N qual scope f cd A outer s H E).ex:=λ b z=>absurd (show b∈([]:List Addr) from z) (by simp);refine ⟨⟨e0.mod,S.kind,rfl,rfl,A0 _,λ y z c l d=>?_,λ y g=>?_,λ y c _ h=>?_,λ _=>hd,Around.frames_deeper e0.frames,.inr ⟨rfl,rfl⟩,λ b z=>absurd z (o b),e0.bs,e0.bsz,λ b _ _=>o b,λ b z=>absurd z (o b),e0.funs,e0.frf⟩,
  rfl,e0.bare,Un.kept C,⟨_,x.toInCall.ns,λ i y v l d J=>?_⟩,λ y c h=>⟨_,x.cell y c h⟩,e0.hok.fresh (A0 _),λ y c h=>?_,λ p j=>absurd (show p∈([]:List (Addr×Obj)) from j) (by simp),e0.hok.kept C,?_⟩
 ·exact name_of_addr x.apart (Z4 l) (Z4 d)
 ·have g:scope.names.lookup y=some .cell\/scope.names.lookup y=some .free:=g;rcases g with g|g
  ·exact zb9 g
  ·exact absurd rfl (S.nofree _ (Z4 g))
 ·exact i7 (x.above y c (Z4 h))
 ·have m:i < vs.length:=by
   unfold start at d;by_cases m:i < vs.length
   ·exact m
   ·rw [W2 (by simpa using m)] at d;rw [M6] at d;split at d<;>cases d
  have D:vs[i]? = some v:=by
   unfold start at d;rw [j3 (by simpa using m),T0] at d;cases e:vs[i]? with
   | none=>rw [e] at d;cases d
   | some a=>rw [e] at d;cases d;rfl
  obtain ⟨u,B,F⟩:=r.get D;have j:ps[i]? = some y:=by rw [<-S.pre,List.getElem?_take_of_lt (by omega)];exact l
  have t:ps.Nodup:=by rw [<-S.pre];exact S.nd.sublist (List.take_sublist _ _)
  refine ⟨u,F,?_⟩;rcases S.par y (d0 j) with k|k
  ·exact .inl ⟨k,z7z t j B k⟩
  ·obtain ⟨c,e⟩:=zb9 (n:=s.heap.objs.size + 1) k;refine .inr ⟨.inl k,c,e,?_⟩;have q:=x.cell y c e;rw [z8i t j B (by show scope.names.lookup y≠_;rw [k];decide)] at q;exact q
 ·exact e0.hok.fresh (i7 (x.above y c (Z4 h)))
 ·unfold start;show _=N.length;rw [L0,C0,O3];omega
theorem fn_of {CX:CXT} {P:Program} {w:O0} {K:c0} {mg:Str->Option Value} {base:Heap} {k:Nat} {f:Addr} {name qual:Str} {params:Arguments} {body:List Stmt} {scope:Scope} {dV kV doc pm cdv ct oc:Value} {an od:Option Addr}
  {osl:Array (Option Value)} {N ps:List Str} {sp:Sp} (lk:K.lookup f=some ⟨oc,od,.func (o5 name qual params body scope dV kV doc pm an cdv ct),osl⟩) (hcd:d7 K cdv qual=true) (S:FnScope N ps scope)
  (len :∀vs H Q E,sp vs H Q E->vs.length=ps.length)
  (hbody :∀(A:Z1) (outer:List Env) (s:y0) (H:Hp) (vs:List V) (Q:VK) (E:XK),Room k (A.deeper (a8 qual scope s.heap.objs.size f cdv))->sp vs H Q E->
   ∃t,PSs (cxOf CX P w K mg base N qual scope f cdv A outer s H E) body t/\t { nx:=λ _ H'=>Q .non H',rt:=Q } (start N vs) H) :
  FnOk P w K mg base CX (k + 1) f (o5 name qual params body scope dV kV doc pm an cdv ct) ps sp:=by
 refine ⟨len,λ A outer s H M L vs Q E g c z r l=>?_⟩;have F:=len _ _ _ _ l;have KX:K.In s.heap:=c.mod.kin.keeps λ b o e=>(c.bs b o e).1;have p:s.heap.NoLimit:=c.mod.nolimit.keeps λ b o e=>(c.bs b o e).1;have m :∀y∈ps.zip L,scope.names.lookup y.1=some .local\/(scope.names.lookup y.1=some .cell/\((cellsFrom (s.heap.objs.size + 1) scope.names []).lookup y.1).isSome=true):=λ ⟨n,v⟩ hy=>by
  rcases S.par n (Z5 hy).1 with q|q
  ·exact .inl q
  ·exact .inr ⟨q,L6 _ _ _ (.inl q)⟩
 refine codeAny_call_function g.depth (KX _ _ lk) rfl S.co S.gen rfl (PySem.W.codeRec_of KX hcd) (z _ _ _ _ ?_);refine O9 S.kind m λ O D j x=>?_;subst D;refine ⟨p.keeps x.toInCall.keep,codeAny_func ?_⟩;obtain ⟨t,G,B⟩:=hbody A outer s H vs Q E (g.deeper _) l;have I:Inv (cxOf CX P w K mg base N qual scope f cdv A outer s H E) [] (start N vs) H j:=z7y S g.hd c F r x;refine L3 (G [] j (start N vs) H _ I B) (λ C i a=>?_) λ e i a=>a;have fin :∀{d:St} {H':Hp} {v:V} {u:Value},Inv (cxOf CX P w K mg base N qual scope f cdv A outer s H E) [] d H' i->RelV v u->Q v H'->CE outer P w H s Q u i:=
  λ {d H' v u} J h q=>⟨v,H',J.os,J.bare,J.base,J.hok,h,q⟩
 cases C with
 | ret u=>obtain ⟨v,d,H',J,h,q⟩:=a;exact fin J h q
 | next=>obtain ⟨d,H',J,q⟩:=a;exact fin (v:=V.non) (u:=j5) J rfl q
 | brk=>obtain ⟨_,_,_,q⟩:=a;exact X3 q
 | cont=>obtain ⟨_,_,_,q⟩:=a;exact X3 q
section
variable {X:Cx} {x:Str} {p pos:Pos} {e:Expr} {es:List Expr} {t:TA} {id T:String} {r:List V->Hp->VK->Prop}
noncomputable def tCB (r:List V->Hp->VK->Prop) (t:TA):TE:=λ σ H Q=>t σ H λ vs H1=>r vs H1 Q
theorem z0a (hc:CallR X (.builtin id) r) (hg:Gl X x) (hm:X.mg x=none) (hv:v4 x=some (.builtin id)) (ha:PA X (e :: es) t) (hn:x≠"__name__":=by decide) (hdb:(x == ("__debug__" : Str))=false:=by decide)
  (he:G1 (e :: es) X.env=(false,W3 e X.env) :: G1 es X.env:=by rfl) (hpl:(G4 pos (G1 es X.env)).any (·.1)=false:=by rfl):PE X (.Call (.Name x p) (e :: es) [] pos) (tCB r t):=by
 intro a s σ H Q I h;refine E3 (ld_blt I hg hm hv ?_ hn hdb);exact m5 (thn (ha pos a s σ H _ I h) λ b c ⟨vs,H1,I1,r1,q1⟩=>hc a c σ H1 vs b Q I1 r1 q1) he hpl
theorem z50 (hc:CallR X (.type T) r) (hg:Gl X x) (hm:X.mg x=none) (hv:v4 x=some (.type T)) (ha:PA X (e :: es) t) (hn:x≠"__name__":=by decide) (hdb:(x == ("__debug__" : Str))=false:=by decide)
  (he:G1 (e :: es) X.env=(false,W3 e X.env) :: G1 es X.env:=by rfl) (hpl:(G4 pos (G1 es X.env)).any (·.1)=false:=by rfl):PE X (.Call (.Name x p) (e :: es) [] pos) (tCB r t):=by
 intro a s σ H Q I h;refine E3 (ld_blt I hg hm hv ?_ hn hdb);exact n3 (thn (ha pos a s σ H _ I h) λ b c ⟨vs,H1,I1,r1,q1⟩=>hc a c σ H1 vs b Q I1 r1 q1) he hpl
end
end L2
namespace HT
open PySem PyProof.Rows
section
variable {prog:Program} {w:O0} {A:Z1} {E:Value->y0->Prop} {s:y0}
theorem cat_tup {t b:Addr} {vs ws:List Value} {Q:Value->y0->Prop} (ht:IsTup s.heap t vs.toArray) (hb:IsTup s.heap b ws.toArray) (hv:vs≠[])
  (h1:ws=[]->Q (.ref t) s) (h2:ws≠[]->Q (.ref s.heap.objs.size) { s with heap:=s.heap.push { cls:=.type "tuple",data:=.seq (vs++ws).toArray } })
  (hsz:vs.length + ws.length<=sizeLine):R0 (Y0 prog w) A (d5 .Add (.ref t) (.ref b)) Q E s:=by
 obtain ⟨⟨cls,j,data,i⟩,a,l,n,hd⟩:=id ht;obtain ⟨⟨o,d,m,g⟩,c,k,h,f⟩:=id hb;simp only at l hd k f;subst l hd k f;have e:vs.toArray++ws.toArray=(vs++ws).toArray:=by simp
 by_cases hw:ws=[]
 ·exact concat_meets ⟨_,a,rfl⟩ ⟨_,c,rfl⟩ noFill_tuple_add seq_tuple_add i9 d9 (Z8 _ _)
   (tuple_addW1 t b vs.toArray ws.toArray n h j d i g (by simpa using hv) (by simp [hw])) ⟨a,c,h1 hw⟩
 ·refine concat_meets ⟨_,a,rfl⟩ ⟨_,c,rfl⟩ noFill_tuple_add seq_tuple_add i9 d9 (Z8 _ _)
   (tuple_addW2 t b vs.toArray ws.toArray n h j d i g (by simpa using hv) (by simpa using hw) (by rw [N0,N0];exact hsz)) ⟨a,c,?_⟩
  rw [e];exact h2 hw
noncomputable def sIx (n d:Nat):Option Int->Nat
 | none=>d
 | some v=>if v < 0 then (v + (n:Int)).toNat else min v.toNat n
theorem sIx_nat (n d k:Nat):sIx n d (some (k:Int))=min k n:=by show (if (k:Int) < 0 then ((k:Int) + (n:Int)).toNat else min (k:Int).toNat n)=min k n;rw [if_neg (by omega),m8]
theorem sIx_le (n d:Nat) (hd:d<=n) (o:Option Int):sIx n d o<=n:=by
 cases o with
 | none=>exact hd
 | some v=>
  show (if v < 0 then (v + (n:Int)).toNat else min v.toNat n)<=n;by_cases hv:v < 0
  ·rw [if_pos hv];omega
  ·rw [if_neg hv];exact Nat.min_le_right _ _
theorem zef (v:Int) (n d:Nat):(if v < 0 then max (v + (n:Int)) 0 else min v (n:Int))=((sIx n d (some v):Nat):Int):=by
 show (if v < 0 then max (v + (n:Int)) 0 else min v (n:Int))=(((if v < 0 then (v + (n:Int)).toNat else min v.toNat n):Nat):Int);by_cases hv:v < 0
 ·simp only [if_pos hv];omega
 ·simp only [if_neg hv];omega
theorem zbg (lo hi:Option Int) (n:Nat):X5 lo hi 1 (n:Int)=(((sIx n 0 lo:Nat):Int),((sIx n n hi:Nat):Int)):=by
 have a:¬ ((1:Int) < 0):=by omega
 unfold X5;simp only [a,if_false];refine Prod.ext ?_ ?_
 ·cases lo with
  | none=>rfl
  | some v=>exact zef v n 0
 ·cases hi with
  | none=>rfl
  | some v=>exact zef v n n
theorem zc3 (i j:Nat):C4 (i:Int) (j:Int) 1=j - i:=by
 unfold C4;have a:(1:Int) > 0:=by omega
 simp only [a,if_true,Int.ediv_one];split<;>omega
theorem z69 {v:Value} {o:Option Int} {Q:Option Int->y0->Prop} (p:L8 v o) (h:Q o s):R0 (Y0 prog w) A (Builtin.Slice.slicePartIndex v) Q E s:=by
 cases p with
 | none=>exact slicePart_none h
 | int i t=>exact slicePart_int h
theorem z3d {sl:Addr} {vl vu:Value} {lo hi:Option Int} {n:Nat} {Q:Int×Int×Nat->y0->Prop} (hs:s.heap.IsSliceOf sl vl vu .none) (pl:L8 vl lo) (pu:L8 vu hi)
  (h:Q (((sIx n 0 lo:Nat):Int),1,sIx n n hi - sIx n 0 lo) s):R0 (Y0 prog w) A (Y7 (.ref sl) (S3 (n:Int))) Q E s:=by
 obtain ⟨d,a,c,b⟩:=id hs;unfold Y7 Builtin.Slice.sliceFields;refine v0 (v0 (i6 a b (x:=vl) rfl (v0 (i6 a b (x:=vu) rfl (v0 (i6 a b (x:=.none) rfl (D0 ?_)))))));refine v0 (slicePart_none ?_);show R0 _ _ (if ((1:Int) == 0)=true then _ else _) _ _ s;rw [if_neg (by decide)];refine v0 (z69 pl (v0 (z69 pu (v0 (D0 ?_)))));show R0 _ _ (match X5 lo hi 1 (n:Int) with|(lo,hi)=>S3 (lo,(1:Int),C4 lo hi 1)) _ _ s;rw [zbg lo hi n];show R0 _ _ (S3 (((sIx n 0 lo:Nat):Int),(1:Int),C4 ((sIx n 0 lo:Nat):Int) ((sIx n n hi:Nat):Int) 1)) _ _ s;rw [zc3];exact D0 h
theorem zf2 (xs:Array Value) (i k:Nat):((N1 k).filterMap λ (m:Nat)=>xs[((i:Int) + (m:Int) * 1).toNat]?).toArray=((xs.toList.drop i).take k).toArray:=by
 have e:(λ (m:Nat)=>xs[((i:Int) + (m:Int) * 1).toNat]?)=λ m=>xs[i + m]?:=by
  funext m;have:((i:Int) + (m:Int) * 1).toNat=i + m:=by omega
  rw [this]
 rw [e];have:=pick_run xs i k;rw [List.filterMap_map] at this;have a:((λ x=>xs[x]?) ∘ λ x=>i + x)=λ m=>xs[i + m]?:=rfl;rw [a] at this;rw [this]
theorem getItem_tuple_cut {t sl:Addr} {items:Array Value} {vl vu:Value} {lo hi:Option Int} {Q:Value->y0->Prop} (ht:IsTup s.heap t items) (hs:s.heap.IsSliceOf sl vl vu .none) (pl:L8 vl lo) (pu:L8 vu hi)
  (hw:¬ (sIx items.size 0 lo=0/\sIx items.size items.size hi=items.size))
  (h:Q (.ref s.heap.objs.size) { s with heap:=s.heap.push { cls:=.type "tuple",data:=.seq ((items.toList.drop (sIx items.size 0 lo)).take (sIx items.size items.size hi - sIx items.size 0 lo)).toArray } })
  (hsz:items.size<=sizeLine):R0 (Y0 prog w) A (f8 (.ref t) (.ref sl)) Q E s:=by
 have a:sizeOk (.seq ((items.toList.drop (sIx items.size 0 lo)).take (sIx items.size items.size hi - sIx items.size 0 lo)).toArray):=by show ((items.toList.drop (sIx items.size 0 lo)).take (sIx items.size items.size hi - sIx items.size 0 lo)).toArray.size<=sizeLine;rw [N0,i3,W4,W0];omega
 have k:sIx items.size items.size hi<=items.size:=sIx_le _ _ (A0 _) hi;obtain ⟨c,f,e,g⟩:=id hs;have b:s.TypeIs (.ref sl) "slice":=⟨c,f,e⟩
 unfold f8
 try with_reducible refine G2 ?_
 first|refine v0 (D0 ?_)|skip
 refine v0 (wpAny_sequenceKey ht.typeIs (by decide) ?_);refine v0 (C7 (name:=T3 "__getitem__") ht.typeIs D7
  (B7 D7 ht.typeIs entry_tuple_getitem ?_ (args_tuple_getitem _ _)))
 show R0 _ _ (Builtin.Tuple.tupleItemsOf (.ref t) >>= _) _ _ s;refine v0 (tupleItemsOf_ ht ?_);refine v0 (T8 b ?_);rw [if_pos (by decide)];refine v0 (z3d hs pl pu ?_);have d:¬ ((((sIx items.size 0 lo:Nat):Int) == 0 && (1:Int) == 1 && (sIx items.size items.size hi - sIx items.size 0 lo) == items.size)=true):=by intro q;rw [V3,V3] at q;have i:((sIx items.size 0 lo:Nat):Int)=0:=eq_of_beq q.1.1;have j:sIx items.size items.size hi - sIx items.size 0 lo=items.size:=eq_of_beq q.2;exact hw ⟨by omega,by omega⟩
 show R0 _ _ (if (((sIx items.size 0 lo:Nat):Int) == 0 && (1:Int) == 1 && (sIx items.size items.size hi - sIx items.size 0 lo) == items.size)=true then _ else _) _ _ s;rw [if_neg d,zf2];first
  | exact v0 (m:=J4 _) (p4 (D0 ⟨_,rfl,D0 h⟩) a)
  | exact v0 (m:=J4 _) (p4 (v0 (D0 (D0 ⟨_,rfl,D0 h⟩))) a)
  | exact v0 (v0 (m:=J4 _) (p4 (D0 (D0 ⟨_,rfl,D0 h⟩)) a))
  | exact v0 (v0 (m:=J4 _) (p4 (D0 ⟨_,rfl,D0 h⟩) a))
end
end HT
namespace L2
open PySem PySem.Spec PyProof.Rows
noncomputable abbrev TO:=St->Hp->(Option Int->Hp->Prop)->Prop
def PO (X:Cx) (e:Option Expr) (t:TO):Prop:=
 ∀(pins:List (Addr×Obj)) (s:y0) (σ:St) (H:Hp) (Q:Option Int->Hp->Prop),Inv X pins σ H s->t σ H Q->
  R0 (Y0 X.prog X.w) X.A (evalPart e X.env) (λ u s'=>∃o H',Inv X pins σ H' s'/\L8 u o/\Q o H') X.xe s
noncomputable def zgg:TO:=λ _ H Q=>Q none H
noncomputable def tPart (t:TE):TO:=λ σ H Q=>t σ H λ x H1=>∃i,x=.int i/\Q (some i) H1
theorem z35 {ns:List Int} :∀{us:List Value},Vals (ns.map V.int) us->N3 us ns:=by
 induction ns with
 | nil=>intro us r;rw [U6] at r;cases r;exact .nil
 | cons n ns ih=>
  intro us r;rw [U0] at r;cases r with
  | cons r1 r2=>obtain ⟨t,e⟩:=r1;subst e;exact .cons n t (ih r2)
section
variable {X:Cx} {e:Expr} {te:TE} {lo hi:Option Expr} {tl th:TO} {pos p2:Pos}
theorem z6t:PO X none zgg:=by intro a s σ H Q I h;rw [evalPart_none];exact D0 ⟨none,H,I,.none,h⟩
theorem z34 (h:PE X e te):PO X (some e) (tPart te):=by intro a s σ H Q I b;rw [evalPart_some];refine thn (h a s σ H _ I b) λ u c ⟨x,H1,I1,r1,q1⟩=>?_;obtain ⟨i,rfl,q⟩:=q1;obtain ⟨t,rfl⟩:=r1;exact ⟨some i,H1,I1,.int i t,q⟩
def SlR (X:Cx) (r:V->Option Int->Option Int->Hp->VK->Prop):Prop:=
 ∀(pins:List (Addr×Obj)) (s:y0) (σ:St) (H:Hp) (x:V) (v vl vu:Value) (lo hi:Option Int) (sl:Addr) (Q:VK),Inv X pins σ H s->RelV x v->s.heap.IsSliceOf sl vl vu .none->L8 vl lo->L8 vu hi->r x lo hi H Q->
  ∃T id,typeLookup (.type T) "__getitem__" = S3 (some (.builtin id))/\s.TypeIs v T/\R0 (Y0 X.prog X.w) X.A (f8 v (.ref sl)) (EP X pins σ Q) X.xe s
theorem SlR.or {r r':V->Option Int->Option Int->Hp->VK->Prop} (h:SlR X r) (h':SlR X r'):SlR X (λ x lo hi H Q=>r x lo hi H Q\/r' x lo hi H Q):=by
 intro f s σ H x v g i lo hi b Q I e d a c q;rcases q with q|q
 ·exact h f s σ H x v g i lo hi b Q I e d a c q
 ·exact h' f s σ H x v g i lo hi b Q I e d a c q
noncomputable def tSl (r:V->Option Int->Option Int->Hp->VK->Prop) (te:TE) (tl th:TO):TE:=λ σ H Q=>te σ H λ x H1=>tl σ H1 λ l H2=>th σ H2 λ u H3=>r x l u H3 Q
theorem z2c {r:V->Option Int->Option Int->Hp->VK->Prop} (hr:SlR X r) (he:PE X e te) (hl:PO X lo tl) (hu:PO X hi th):PE X (.Subscript e (.Slice lo hi none p2) pos) (tSl r te tl th):=by intro c s σ H Q I h;refine Subscript_ (thn (he c s σ H _ I h) λ v i ⟨x,H1,I1,r1,q1⟩=>?_);refine wpAny_Slice (thn (hl c i σ H1 _ I1 q1) λ f n ⟨l,H2,I2,pl,q2⟩=>thn (hu c n σ H2 _ I2 q2) λ d a ⟨u,H3,I3,pu,q3⟩=>?_);rw [evalPart_none];refine D0 ?_;have j:Inv X c σ H3 { a with heap:=a.heap.push { cls:=.type "slice",data:=.fields #[f,d,.none] } }:=I3.kept (t':=a.toks) λ b o q=>x0 _ q;obtain ⟨T,id,g,k,m⟩:=hr c { a with heap:=a.heap.push { cls:=.type "slice",data:=.fields #[f,d,.none] } } σ H3 x v f d l u a.heap.objs.size Q j r1 (Heap.IsSliceOf.new ..) pl pu q3;show R0 (Y0 X.prog X.w) X.A (subscriptTail e (.Slice lo hi none p2) v (.ref a.heap.objs.size)) (EP X c σ Q) X.xe { a with heap:=a.heap.push { cls:=.type "slice",data:=.fields #[f,d,.none] } };exact tail_any (ops:=[.ref a.heap.objs.size,v]) k g m (by with_unfolding_all rfl)
noncomputable def cutV (xs:List V) (lo hi:Option Int):List V:=(xs.drop (HT.sIx xs.length 0 lo)).take (HT.sIx xs.length xs.length hi - HT.sIx xs.length 0 lo)
theorem z4m (xs:List V) (lo hi:Option Int):(cutV xs lo hi).length<=xs.length:=by unfold cutV;rw [i3,W4];omega
def rSlT (K:c0):V->Option Int->Option Int->Hp->VK->Prop:=λ x lo hi H Q=>∃a xs,x=.ref a/\SqT K H a xs/\
 ¬ (HT.sIx xs.length 0 lo=0/\HT.sIx xs.length xs.length hi=xs.length)/\∀p,H p=none->Q (.ref p) (upd H p (.tup (cutV xs lo hi)))
theorem sl_tup:SlR X (rSlT X.K):=by
 intro A s σ H x v z w d e y Q I t j k p h;obtain ⟨a,c,rfl,n,m,q⟩:=h;cases t;obtain ⟨l,r,g,i⟩:=I.tuple n;have f:l.toArray.size=c.length:=by rw [N0];exact r.length.symm
 refine ⟨"tuple",_,PyProof.Rows.slot_tuple_getitem.lookup,g.typeIs,?_⟩;refine HT.getItem_tuple_cut g j k p (by rw [f];exact m) ?_ (by rw [f];exact i);rw [f];refine ⟨.ref s.heap.objs.size,_,I.laid (t':=s.toks) (o:=.tup (cutV c d e)) (λ b u q=>x0 _ q) (A0 _) ?_,rfl,q _ (I.hok.fresh (A0 _))⟩;exact ⟨F0 (z4m c d e) i,_,(r.drop (HT.sIx c.length 0 d)).take (HT.sIx c.length c.length e - HT.sIx c.length 0 d),IsTupN.new _ _⟩
noncomputable def rCatT (K:c0):R2:=λ x y H Q=>∃a b xs ys,x=.ref a/\y=.ref b/\SqT K H a xs/\SqT K H b ys/\xs≠[]/\xs.length + ys.length<=sizeLine/\
 (ys=[]->Q (.ref a) H)/\(ys≠[]->∀p,H p=none->Q (.ref p) (upd H p (.tup (xs++ys))))
theorem Vals.nil_iff {xs:List V} {us:List Value} (r:Vals xs us):us=[]↔xs=[]:=by
 cases r with
 | nil=>simp
 | cons _ _=>simp
theorem zge:OpR X (d5 .Add) (rCatT X.K):=by intro D s σ H x y v u Q I t k h;obtain ⟨a,b,r,g,rfl,rfl,i,f,n,e,l,j⟩:=h;cases t;cases k;obtain ⟨C,d,m,_⟩:=I.tuple i;obtain ⟨B,c,p,_⟩:=I.tuple f;refine HT.cat_tup m p (λ z=>n (d.nil_iff.mp z)) (λ z=>⟨.ref a,H,I,rfl,l (c.nil_iff.mp z)⟩) (λ z=>?_) (by rw [<-d.length,<-c.length];exact e);refine ⟨.ref s.heap.objs.size,_,I.laid (t':=s.toks) (o:=.tup (r++g)) (λ b A q=>x0 _ q) (A0 _) ?_,rfl,j (λ w=>z (c.nil_iff.mpr w)) _ (I.hok.fresh (A0 _))⟩;exact ⟨by rw [L0];exact e,_,d.append c,IsTupN.new _ _⟩
end
noncomputable def ixN (n:Nat) (i:Int):Option Nat:=if 0<=i then (if i < n then some i.toNat else none) else if -(n:Int)<=i then some (i + n).toNat else none
noncomputable def atI {α:Type} (xs:List α) (i:Int):Option α:=(ixN xs.length i).bind λ j=>xs[j]?
theorem ze9 {n:Nat} {i:Int} {j:Nat} (h:ixN n i=some j):seqIndex? i n=some j/\j < n/\-(n:Int)<=i/\i < n:=by
 unfold ixN at h;by_cases h0:0<=i
 ·rw [if_pos h0] at h;by_cases h1:i < n
  ·rw [if_pos h1] at h;have e:i.toNat=j:=D1 h;exact ⟨by rw [seqIndex_of h0 h1,e],by omega,by omega,h1⟩
  ·rw [if_neg h1] at h;cases h
 ·rw [if_neg h0] at h;by_cases h1:-(n:Int)<=i
  ·rw [if_pos h1] at h;have e:(i + n).toNat=j:=D1 h;exact ⟨by rw [seqIndex_neg (by omega) h1,e],by omega,h1,by omega⟩
  ·rw [if_neg h1] at h;cases h
theorem zab {α:Type} {xs:List α} {i:Int} {v:α} (h:atI xs i=some v) :∃j,seqIndex? i xs.length=some j/\xs[j]? = some v/\j < xs.length/\-(xs.length:Int)<=i/\i < xs.length:=by
 unfold atI at h;cases e:ixN xs.length i with
 | none=>rw [e] at h;cases h
 | some j=>rw [e] at h;obtain ⟨a,d,b,c⟩:=ze9 e;exact ⟨j,a,h,d,b,c⟩
theorem z03 {α:Type} {xs:List α} {j:Nat} {v:α} (h:xs[j]? = some v):atI xs (j:Int)=some v:=by
 have a:j < xs.length:=(List.getElem?_eq_some_iff.mp h).1;have e:ixN xs.length (j:Int)=some j:=by unfold ixN;rw [if_pos (by omega),if_pos (by omega)];simp
 unfold atI;rw [e];exact h
def ze8 (b:Expr):Prop:=∀o i,o9 b false o i=operate [o,i] (f8 o i)
def IxR (X:Cx) (r:R2):Prop:=
 ∀(value slice:Expr) (pins:List (Addr×Obj)) (s:y0) (σ:St) (H:Hp) (x y:V) (v u:Value) (Q:VK),Inv X pins σ H s->RelV x v->RelV y u->r x y H Q->
  o9 slice false v u=operate [v,u] (f8 v u)->R0 (Y0 X.prog X.w) X.A (subscriptTail value slice v u) (EP X pins σ Q) X.xe s
def MtR (X:Cx) (id:String) (r:V->List V->Hp->VK->Prop):Prop:=
 ∀(pins:List (Addr×Obj)) (s:y0) (σ:St) (H:Hp) (x:V) (xs:List V) (v:Value) (us:List Value) (Q:VK),Inv X pins σ H s->RelV x v->Vals xs us->r x xs H Q->
  R0 (Y0 X.prog X.w) X.A (call (.builtin id) (v :: us)) (EP X pins σ Q) X.xe s
section
variable {X:Cx} {a b:Expr} {ta tb:TE} {pos:Pos}
theorem IxR.or {r r':R2} (h:IxR X r) (h':IxR X r'):IxR X (λ x y H Q=>r x y H Q\/r' x y H Q):=by
 intro a d e s σ H x y v u Q I c f q b;rcases q with q|q
 ·exact h a d e s σ H x y v u Q I c f q b
 ·exact h' a d e s σ H x y v u Q I c f q b
theorem pe_ix {r:R2} (hr:IxR X r) (ha:PE X a ta) (hb:PE X b tb) (hs:ze8 b):PE X (.Subscript a b pos) (tOp r ta tb):=by intro f s σ H Q I h;exact Subscript_ (binT ha hb I h λ v u c x y g d e i q=>hr a b f c σ g x y v u Q d e i q (hs _ _))
noncomputable def rIxL (K:c0):R2:=λ x y H Q=>∃p xs i v,x=.ref p/\y=.int i/\SqL K H p xs/\atI xs i=some v/\Q v H
noncomputable def rIxT (K:c0):R2:=λ x y H Q=>∃p xs i v,x=.ref p/\y=.int i/\SqT K H p xs/\atI xs i=some v/\Q v H
noncomputable def rIxS:R2:=λ x y H Q=>∃z i c,x=.str z/\y=.int i/\z.length<=sizeLine/\atI z.cps.toList i=some c/\Q (.str ⟨#[c]⟩) H
theorem ix_list:IxR X (rIxL X.K):=by
 intro G J f s σ H x y v u Q I D E h d;obtain ⟨p,M,i,z,rfl,rfl,k,l,q⟩:=h;cases D;obtain ⟨t,rfl⟩:=E;obtain ⟨o,r,b,N⟩:=I.list k;obtain ⟨j,a,g,L,A,C⟩:=zab l;obtain ⟨w,e,n⟩:=r.get g;have m:=r.length;have F:=line63;have fin:EP X f σ Q w s:=⟨z,H,I,n,q⟩
 by_cases h0:0<=i
 ·have c:i.toNat=j:=by rw [seqIndex_of h0 C] at a;exact D1 a
  exact item_listR b.isList h0 (by omega) (by rw [c];simpa using e) fin d
 ·have c:(i + (o.toArray.size:Int)).toNat=j:=by rw [seqIndex_neg (by omega) A] at a;rw [N0,<-m];exact D1 a
  exact subscriptTail_builtinR (x:=w) b.isList.typeIs slot_list_getitem.lookup
   (wpAny_getItem_list_neg (Q:=λ r B=>r=w/\EP X f σ Q r B) b.isList (by omega) (by rw [N0]<;>omega) (by omega) (by rw [c];simpa using e) ⟨rfl,fin⟩) d
theorem ix_tup:IxR X (rIxT X.K):=by
 intro E G b s σ H x y v u Q I o A h e;obtain ⟨p,L,i,z,rfl,rfl,d,f,q⟩:=h;cases o;obtain ⟨t,rfl⟩:=A;obtain ⟨B,r,a,M⟩:=I.tuple d;obtain ⟨j,g,c,J,C,F⟩:=zab f;obtain ⟨w,l,m⟩:=r.get c;have k:=r.length;have D:=line63;have fin:EP X b σ Q w s:=⟨z,H,I,m,q⟩
 exact subscriptTail_builtinR (x:=w) a.typeIs slot_tuple_getitem.lookup
  (getItem_tuple (j:=j) (Q:=λ r n=>r=w/\EP X b σ Q r n) a (by omega) (by omega) (by rw [N0,<-k];exact g) (by simpa using l) ⟨rfl,fin⟩) e
theorem ix_str:IxR X rIxS:=by
 intro A B r s σ H x y v u Q I n f h b;obtain ⟨z,i,c,rfl,rfl,D,e,q⟩:=h;obtain ⟨t,rfl⟩:=n;obtain ⟨p,rfl⟩:=f;obtain ⟨j,a,d,C,l,m⟩:=zab e;have g:z.cps.toList.length=z.length:=by simp [Str.length]
 rw [g] at a l m;have w:=line63;exact tail_any (typeIs_str s z t) slot_str_getitem.lookup (getItem_str (c:=c) (by have o:decide (i < -(2 ^ 63:Int))=false:=decide_eq_false (by omega);have k:decide (i ≥ 2 ^ 63)=false:=decide_eq_false (by omega);rw [o,k,Z7]) (by rw [a];simpa using d) ⟨.str ⟨#[c]⟩,H,I.tok _,⟨_,rfl⟩,q⟩) b
noncomputable def rIx (K:c0):R2:=λ x y H Q=>rIxL K x y H Q\/rIxT K x y H Q\/rIxS x y H Q
theorem ix_seq:IxR X (rIx X.K):=ix_list.or (ix_tup.or ix_str)
theorem zas (its:List Value) (n j:Nat) (u:Value):L1 (·.setIfInBounds j u) { cls:=.type "list",data:=.seq its.toArray n }={ cls:=.type "list",data:=.seq (its.set j u).toArray n }:=by simp [L1]
theorem Inv.lst {pins:List (Addr×Obj)} {σ:St} {H:Hp} {s:y0} {p:Addr} {xs:List V} (I:Inv X pins σ H s) (h:H p=some (.lst xs)) :
  ∃(its:List Value) (n:Nat),Vals xs its/\s.heap.get? p=some { cls:=.type "list",data:=.seq its.toArray n }/\xs.length<=sizeLine:=by
 obtain ⟨z,its,n,r,e⟩:=I.hok p _ h;exact ⟨its,n,r,e,z⟩
theorem Inv.lstUpd {pins:List (Addr×Obj)} {σ:St} {H:Hp} {s:y0} {p:Addr} {xs ys:List V} {its its':List Value} {n n':Nat} {f:Obj->Obj} (I:Inv X pins σ H s) (h:H p=some (.lst xs))
  (ho:s.heap.get? p=some { cls:=.type "list",data:=.seq its.toArray n }) (hf:f { cls:=.type "list",data:=.seq its.toArray n }={ cls:=.type "list",data:=.seq its'.toArray n' }) (r:Vals ys its') (hz:ys.length<=sizeLine) (t:Nat) :
  Inv X pins σ (upd H p (.lst ys)) { s with heap:=s.heap.update p f,toks:=t }:=by
 have e:(s.heap.update p f).get? p=some { cls:=.type "list",data:=.seq its'.toArray n' }:=by rw [A7 f ho (by rw [hf]<;>rfl),hf]
 refine I.write (x:=p) (e:=p) (by rw [h];trivial) (.inl rfl) (λ b u a q=>(V6 _ _ (F3 a)).trans q) ⟨_,e⟩ ?_;exact ⟨hz,its',n',r,e⟩
def rSetL:V->V->V->Hp->(Hp->Prop)->Prop:=λ o i v H Q=>∃p xs k j,o=.ref p/\i=.int k/\H p=some (.lst xs)/\ixN xs.length k=some j/\Q (upd H p (.lst (xs.set j v)))
theorem z1w:PSet X rSetL:=by
 intro y s σ H o i v D F u Q I z w x h;obtain ⟨p,A,k,j,rfl,rfl,e,C,q⟩:=h;cases z;obtain ⟨t,rfl⟩:=w;obtain ⟨g,n,r,c,B⟩:=I.lst e;obtain ⟨a,E,m,l⟩:=ze9 C;have b:=r.length;have G:=line63;have f:Inv X y σ (upd H p (.lst (A.set j v))) { s with heap:=s.heap.update p (L1 (·.setIfInBounds j u)) }:=
  I.lstUpd e c (zas g n j u) (r.set x j) (by rw [List.length_set];exact B) s.toks
 by_cases h0:0<=k
 ·have d:k.toNat=j:=by rw [seqIndex_of h0 l] at a;exact D1 a
  exact PySem.W.ki_setAt c h0 (by omega) (by rw [N0,<-b];exact l) (by rw [d];exact ⟨_,f,q⟩)
 ·have d:(k + (g.toArray.size:Int)).toNat=j:=by rw [seqIndex_neg (by omega) m] at a;rw [N0,<-b];exact D1 a
  exact PySem.W.ki_setBack c (by omega) (by rw [N0,<-b];exact m) (by omega) (by rw [d];exact ⟨_,f,q⟩)
theorem z7j (lo hi:Option Int) (n:Nat):(j6 lo hi none n).1=((HT.sIx n 0 lo:Nat):Int)/\(j6 lo hi none n).2.1=((HT.sIx n n hi:Nat):Int)/\(j6 lo hi none n).2.2=1:=by
 refine ⟨?_,?_,rfl⟩
 ·cases lo with
  | none=>simp [j6,HT.sIx]
  | some i=>
   simp only [j6,HT.sIx,Option.getD_none,show (1:Int) > 0 by decide,if_true];by_cases h:i < 0
   ·simp only [h,if_true]<;>omega
   ·simp only [h,if_false]<;>omega
 ·cases hi with
  | none=>simp [j6,HT.sIx]
  | some i=>
   simp only [j6,HT.sIx,Option.getD_none,show (1:Int) > 0 by decide,if_true];by_cases h:i < 0
   ·simp only [h,if_true]<;>omega
   ·simp only [h,if_false]<;>omega
theorem z63 (its:List Value) (lo hi:Option Int):slicePick its.toArray lo hi none=((its.drop (HT.sIx its.length 0 lo)).take (HT.sIx its.length its.length hi - HT.sIx its.length 0 lo)).toArray:=by obtain ⟨a,c,b⟩:=z7j lo hi its.toArray.size;unfold slicePick;rw [a,c,b];simp only [sliceRange_one,pick_run,N0]<;>rfl
def rSlL (K:c0):V->Option Int->Option Int->Hp->VK->Prop:=λ x lo hi H Q=>∃a xs,x=.ref a/\SqL K H a xs/\∀p,H p=none->Q (.ref p) (upd H p (.lst (cutV xs lo hi)))
theorem sl_list:SlR X (rSlL X.K):=by intro z s σ H x v w t d e u Q I n g i l h;obtain ⟨a,c,rfl,k,q⟩:=h;cases n;obtain ⟨y,r,f,m⟩:=I.list k;have j:=r.length;refine ⟨"list",_,slot_list_getitem.lookup,f.isList.typeIs,?_⟩;refine wpAny_getItem_list_slice f.isList g i l .none (by simp) ?_ (by rw [N0]<;>omega);rw [z63,<-j];refine ⟨.ref s.heap.objs.size,_,I.laid (t':=s.toks) (o:=.lst (cutV c d e)) (λ b p q=>x0 _ q) (A0 _) ?_,rfl,q _ (I.hok.fresh (A0 _))⟩;exact ⟨F0 (z4m c d e) m,_,0,(r.drop (HT.sIx c.length 0 d)).take (HT.sIx c.length c.length e - HT.sIx c.length 0 d),I0 _ rfl⟩
noncomputable def flatV:V->Bool
 | .non=>true
 | .bl _=>true
 | .int _=>true
 | .str _=>true
 | _=>false
noncomputable def eqV:V->V->Bool
 | .non,.non=>true
 | .bl a,.bl b=>a == b
 | .bl a,.int b=>(if a then 1 else 0) == b
 | .int a,.bl b=>a == (if b then 1 else 0)
 | .int a,.int b=>a == b
 | .str a,.str b=>a == b
 | _,_=>false
theorem eqAt_V {A:Z1} {s:y0} {y x:V} {u v:Value} (ry:RelV y u) (rx:RelV x v) (fy:flatV y=true) (fx:flatV x=true):Y8 A s u v (eqV y x):=by
 cases y with
 | non=>
  cases ry;cases x with
  | non=>cases rx;exact T4 _
  | bl b=>cases rx;exact SeqAt.EqAt.none_bool b
  | int b=>obtain ⟨t,rfl⟩:=rx;exact SeqAt.EqAt.none_int b t
  | str b=>obtain ⟨t,rfl⟩:=rx;exact SeqAt.EqAt.none_str b t
  | _=>exact absurd (show false=true from fx) M0
 | bl a=>
  cases ry;cases x with
  | non=>cases rx;exact SeqAt.EqAt.bool_none a
  | bl b=>cases rx;exact SeqAt.EqAt.bool_bool a b
  | int b=>obtain ⟨t,rfl⟩:=rx;exact SeqAt.EqAt.bool_int a b t
  | str b=>obtain ⟨t,rfl⟩:=rx;exact SeqAt.EqAt.bool_str a b t
  | _=>exact absurd (show false=true from fx) M0
 | int a=>
  obtain ⟨c,rfl⟩:=ry;cases x with
  | non=>cases rx;exact SeqAt.EqAt.int_none a c
  | bl b=>cases rx;exact SeqAt.EqAt.int_bool a c b
  | int b=>obtain ⟨t,rfl⟩:=rx;exact y9 a c b t
  | str b=>obtain ⟨t,rfl⟩:=rx;exact w9 a c b t
  | _=>exact absurd (show false=true from fx) M0
 | str a=>
  obtain ⟨c,rfl⟩:=ry;cases x with
  | non=>cases rx;exact SeqAt.EqAt.str_none a c
  | bl b=>cases rx;exact SeqAt.EqAt.str_bool a c b
  | int b=>obtain ⟨t,rfl⟩:=rx;exact t9 a c b t
  | str b=>obtain ⟨t,rfl⟩:=rx;exact r9 a c b t
  | _=>exact absurd (show false=true from fx) M0
 | _=>exact absurd (show false=true from fy) M0
noncomputable def eqU (x:V) (u:Value):Bool:=match u with
 | .none=>eqV .non x
 | .bool b=>eqV (.bl b) x
 | .int i _=>eqV (.int i) x
 | .str z _=>eqV (.str z) x
 | _=>false
theorem eqU_of {x y:V} {u:Value} (r:RelV y u) (f:flatV y=true):eqU x u=eqV y x:=by
 cases y with
 | non=>cases r;rfl
 | bl b=>cases r;rfl
 | int i=>obtain ⟨t,rfl⟩:=r;rfl
 | str z=>obtain ⟨t,rfl⟩:=r;rfl
 | _=>exact absurd (show false=true from f) M0
theorem z9y {x:V} :∀{xs:List V} {us:List Value},Vals xs us->xs.all flatV=true->us.any (eqU x)=xs.any λ y=>eqV y x
 | _,_,.nil,_=>rfl
 | y :: xs,u :: us,.cons r t,f=>by rw [List.all_cons,V3] at f;rw [J6,J6,eqU_of r f.1,z9y t f.2]
theorem z7b {A:Z1} {s:y0} {x:V} {v:Value} (rx:RelV x v) (fx:flatV x=true) :∀{xs:List V} {us:List Value},Vals xs us->xs.all flatV=true->∀u∈us,Y8 A s u v (eqU x u)
 | _,_,.nil,_=>λ u a=>by cases a
 | y :: xs,u :: us,.cons r t,f=>λ b a=>by
  rw [List.all_cons,V3] at f;rcases List.mem_cons.mp a with rfl|a
  ·rw [eqU_of r f.1];exact eqAt_V r rx f.1 fx
  ·exact z7b rx fx t f.2 b a
noncomputable def inV (x:V) (xs:List V):Bool:=xs.any λ y=>eqV y x
noncomputable def rIn (K:c0) (neg:Bool):R2:=λ x y H Q=>∃p xs,y=.ref p/\(SqL K H p xs\/SqT K H p xs)/\flatV x=true/\xs.all flatV=true/\Q (.bl (if neg then !inV x xs else inV x xs)) H
theorem z86:OpR X (N2 .In) (rIn X.K false):=by
 intro j s σ H x y v u Q I f g h;obtain ⟨p,k,rfl,a,e,fs,q⟩:=h;cases g;rcases a with a|a
 ·obtain ⟨b,r,c,i⟩:=I.list a;refine SeqAt.in_listAt (eqU x) c.isList (λ w d=>z7b f e r fs w (by simpa using d)) ⟨.bl _,H,I,rfl,?_⟩;rw [show b.toArray.any (eqU x)=b.any (eqU x) by simp,z9y r fs];exact q
 ·obtain ⟨b,r,c,i⟩:=I.tuple a;refine SeqAt.in_tupleAt (eqU x) c (λ w d=>z7b f e r fs w (by simpa using d)) ⟨.bl _,H,I,rfl,?_⟩;rw [show b.toArray.any (eqU x)=b.any (eqU x) by simp,z9y r fs];exact q
theorem call_len_seq:CallR X (.builtin "len") (λ xs H Q=>∃p ys,xs=[.ref p]/\(SqL X.K H p ys\/SqT X.K H p ys)/\Q (.int ys.length) H):=by
 intro j s σ H xs k Q I r h;obtain ⟨p,ys,rfl,a,q⟩:=h;obtain ⟨u,rfl,g⟩:=vals1 r;cases g;have i:=line63;rcases a with a|a
 ·obtain ⟨e,d,b,f⟩:=I.list a;have c:=d.length;exact Calls.call_len_list b.isList (by simp only [N0]<;>omega) ⟨.int ys.length,H,I.tok _,⟨s.toks + 1,by rw [N0,c]⟩,q⟩
 ·obtain ⟨e,d,b,f⟩:=I.tuple a;have c:=d.length;exact len_tuple b (by simp only [N0]<;>omega) ⟨.int ys.length,H,I.tok _,⟨s.toks + 1,by rw [N0,c]⟩,q⟩
theorem z7a:CallR X (.builtin "len") (λ xs H Q=>∃z,xs=[.str z]/\z.length<=sizeLine/\Q (.int z.length) H):=by intro b s σ H xs c Q I r h;obtain ⟨z,rfl,d,q⟩:=h;obtain ⟨u,rfl,t,rfl⟩:=vals1 r;have a:=line63;exact len_str (by omega) ⟨.int z.length,H,I.tok _,⟨_,rfl⟩,q⟩
theorem CallR.or {f:Value} {r r':List V->Hp->VK->Prop} (h:CallR X f r) (h':CallR X f r'):CallR X f (λ xs H Q=>r xs H Q\/r' xs H Q):=by
 intro b s σ H xs c Q I a q;rcases q with q|q
 ·exact h b s σ H xs c Q I a q
 ·exact h' b s σ H xs c Q I a q
theorem z2u:CallR X (.type "tuple") (λ xs H Q=>∃p ys,xs=[.ref p]/\((SqL X.K H p ys/\∀l,H l=none->Q (.ref l) (upd H l (.tup ys)))\/(SqT X.K H p ys/\Q (.ref p) H))):=by
 intro i s σ H xs v Q I r h;obtain ⟨p,ys,rfl,h⟩:=h;obtain ⟨u,rfl,n⟩:=vals1 r;cases n;rcases h with ⟨c,q⟩|⟨c,q⟩
 ·obtain ⟨f,g,d,k⟩:=I.list c;have t:=g.length;refine call_tuple_list d.isList (λ a kp=>?_) (by simp only [N0]<;>omega);have j:Inv X i σ H { s with heap:=a }:=I.kept (t':=s.toks) kp;have m:Inv X i σ (upd H a.objs.size (.tup ys)) { s with heap:=a.push { cls:=.type "tuple",data:=.seq f.toArray } }:=
   j.laid (t':=s.toks) (λ b o e=>x0 _ e) (A0 _) (show ObjOk X.prog X.w _ _ _ (.tup ys) from ⟨k,f,g,IsTupN.new _ _⟩)
  exact ⟨.ref a.objs.size,_,m,rfl,q _ (j.hok.fresh (A0 _))⟩
 ·obtain ⟨f,g,d,k⟩:=I.tuple c;exact call_tuple_same d ⟨.ref p,H,I,rfl,q⟩
def tyV (K:c0) (T:String) (x:V) (H:Hp):Prop:=match x with
 | .str _=>T = "str"
 | .int _=>T = "int"
 | .ref p=>(T = "list"/\∃xs,SqL K H p xs)\/(T = "tuple"/\∃o,K.lookup p=some o/\o.cls=.type "tuple"/\o.dict=none)\/
   (T = "dict"/\((∃kvs,H p=some (.dK kvs))\/∃kvs,H p=some (.dT kvs)))\/(T = "set"/\∃S n,H p=some (.set S n))
 | _=>False
theorem tyV_is {pins:List (Addr×Obj)} {σ:St} {H:Hp} {s:y0} {T:String} {x:V} {v:Value} (I:Inv X pins σ H s) (r:RelV x v) (ty:tyV X.K T x H) :
  s.TypeIs v T/\∀a,v=.ref a->∃ob,s.heap.get? a=some ob/\ob.dict=none:=by
 cases x with
 | str z=>obtain ⟨t,rfl⟩:=r;cases (show T = "str" from ty);exact ⟨typeIs_str s z t,λ _ e=>nomatch e⟩
 | int i=>obtain ⟨t,rfl⟩:=r;cases (show T = "int" from ty);exact ⟨typeIs_int s i t,λ _ e=>nomatch e⟩
 | ref p=>
  cases r;rcases ty with ⟨rfl,l,h⟩|⟨rfl,o,b,hc,hd⟩|⟨rfl,b⟩|⟨rfl,S,n,b⟩
  ·obtain ⟨k,_,g,_⟩:=I.list h;refine ⟨g.isList.typeIs,λ a e=>?_⟩;cases e;obtain ⟨o,n,e,c,hd,_⟩:=g;exact ⟨o,e,hd⟩
  ·refine ⟨⟨o,I.kIn p o b,hc⟩,λ a e=>?_⟩;cases e;exact ⟨o,I.kIn _ o b,hd⟩
  ·have z :∃o,s.heap.get? p=some o/\o.ExactDict:=by
    rcases b with ⟨j,b⟩|⟨j,b⟩
    ·obtain ⟨_,_,_,_,o,_,_,e,d,_⟩:=I.hok p _ b;exact ⟨o,e,d⟩
    ·obtain ⟨_,_,_,_,o,_,_,e,d,_⟩:=I.hok p _ b;exact ⟨o,e,d⟩
   obtain ⟨o,e,d⟩:=z;refine ⟨⟨o,e,d.1⟩,λ a f=>?_⟩;cases f;exact ⟨o,e,d.2.1⟩
  ·obtain ⟨o,_,_,_,e,d,_⟩:=I.hok p _ b;refine ⟨⟨o,e,d.1⟩,λ a f=>?_⟩;cases f;exact ⟨o,e,d.2.1⟩
 | _=>exact X3 ty
noncomputable def tBM (K:c0) (T:String) (r:V->List V->Hp->VK->Prop) (to:TE) (t:TA):TE:=λ σ H Q=>to σ H λ x H1=>tyV K T x H1/\t σ H1 λ xs H2=>r x xs H2 Q
variable {o e:Expr} {es:List Expr} {to:TE} {t:TA} {name:Str} {apos cpos:Pos} {T id:String} {r:V->List V->Hp->VK->Prop}
theorem pe_bm (pa:PlainAttrs T) (slot:Slot T name id) (hty:typeOf (.builtin id)=S3 (.type "method_descriptor")) (hm:MtR X id r) (ho:PE X o to) (ha:PA X (e :: es) t)
  (hbase:a7 o name X.env (W3 o X.env)=W3 o X.env:=by rfl)
  (hfew:((G4 cpos (G1 (e :: es) X.env)).all (λ x=>!x.1) && (backToKw cpos (q9 [] X.env)).all (λ x=>x.1.isSome)
   && decide ((e :: es).length + ([]:List P7).length + (if ([]:List P7).isEmpty then 0 else 1) < 30))=true:=by rfl)
  (hline:(apos.endLine == cpos.line)=true:=by rfl) (hs:G1 (e :: es) X.env=(false,W3 e X.env) :: G1 es X.env:=by rfl) (hplain:(G4 cpos (G1 es X.env)).any (·.1)=false:=by rfl) :
  PE X (.Call (.Attribute o name apos) (e :: es) [] cpos) (tBM X.K T r to t):=by
 intro a s σ H Q I h;refine wpAny_Call_method_late hbase hfew hline rfl (thn (ho a s σ H _ I h) λ v i ⟨x,H1,I1,r1,ty,q1⟩=>?_);obtain ⟨c,f⟩:=tyV_is I1 r1 ty;refine ⟨T,id,pa,slot,hty,c,f,?_⟩;have b:=ha cpos a i σ H1 _ I1 q1;rw [hs] at b⊢;refine A5 (by show (false || (G4 cpos (G1 es X.env)).any (·.1))=false;rw [hplain]<;>rfl) (E7 ?_);exact thn b λ g d ⟨vs,H2,I2,r2,q2⟩=>hm a d σ H2 x vs v g Q I2 r1 r2 q2
end
def MtM (X:Cx) (id:String) (r:V->List V->Hp->VK->Prop):Prop:=
 ∀(pins:List (Addr×Obj)) (s:y0) (σ:St) (H:Hp) (x:V) (xs:List V) (v:Value) (us:List Value) (Q:VK),Inv X pins σ H s->RelV x v->Vals xs us->r x xs H Q->
  R0 (Y0 X.prog X.w) X.A (call (.builtin id) (v :: us)) (EP X pins σ Q) X.xe s
theorem Vals.one :∀{x:V} {us:List Value},Vals [x] us->∃u,us=[u]/\RelV x u
 | _,_,.cons r .nil=>⟨_,rfl,r⟩
section
variable {X:Cx} {pins:List (Addr×Obj)} {σ:St} {H:Hp} {s:y0} {l b:Addr} {xs ys zs:List V}
theorem Inv.lset {its its':List Value} {n:Nat} {f:Array Value->Array Value} {t':Nat} (I:Inv X pins σ H s) (hH:H l=some (.lst xs))
  (e:s.heap.get? l=some { cls:=.type "list",data:=.seq its.toArray n }) (hf:f its.toArray=its'.toArray) (hv:Vals ys its') (hz:ys.length<=sizeLine) :
  Inv X pins σ (upd H l (.lst ys)) { s with heap:=s.heap.update l (L1 f),toks:=t' }:=by
 have q:=PySem.IsL.update e f;rw [hf] at q;refine I.write (x:=l) (e:=l) (by rw [hH];exact trivial) (.inl rfl) (λ c u a b=>(V6 s.heap (L1 f) (F3 a)).trans b) ⟨_,q⟩ ?_;exact ⟨hz,its',_,hv,q⟩
theorem Inv.lnew {its:List Value} {t':Nat} (I:Inv X pins σ H s) (hv:Vals ys its) (hz:ys.length<=sizeLine) :
  Inv X pins σ (upd H s.heap.objs.size (.lst ys)) { s with heap:=s.heap.push { cls:=.type "list",data:=.seq its.toArray },toks:=t' }:=
 I.laid (λ _ _ q=>x0 _ q) (A0 _) ⟨hz,its,0,hv,I0 _ rfl⟩
theorem Inv.fresh (I:Inv X pins σ H s):H s.heap.objs.size=none:=I.hok.fresh (A0 _)
theorem Inv.lstM (I:Inv X pins σ H s) (hH:H l=some (.lst xs)):xs.length<=sizeLine/\∃(its:List Value) (n:Nat),Vals xs its/\xs.length=its.length/\s.heap.get? l=some { cls:=.type "list",data:=.seq its.toArray n }:=by obtain ⟨z,its,n,r,e⟩:=I.hok l _ hH;exact ⟨z,its,n,r,r.length,e⟩
end
section
variable {X:Cx}
def za3:V->List V->Hp->VK->Prop:=λ x vs H Q=>∃l xs y,x=.ref l/\vs=[y]/\H l=some (.lst xs)/\xs.length < sizeLine/\Q .non (upd H l (.lst (xs++[y])))
theorem zdp:MtM X "list.append" za3:=by intro j s σ H x g v k Q I f c h;obtain ⟨l,m,y,rfl,rfl,a,o,q⟩:=h;cases f;obtain ⟨u,rfl,d⟩:=c.one;obtain ⟨z,b,n,r,i,e⟩:=I.lstM a;refine call_meets F.slot_list_append ⟨_,e,rfl⟩ F.entry_list_append (F.args_list_append_2 _ _) (PySem.list_append l b.toArray n u (by rw [N0];omega)) ⟨e,?_⟩;refine ⟨.non,_,I.lset (its':=b++[u]) a e (by simp) (r.append (.cons d .nil)) ?_,rfl,q⟩;rw [L0,y7];omega
noncomputable def rCat:R2:=λ x y H Q=>∃l b xs zs,x=.ref l/\y=.ref b/\H l=some (.lst xs)/\H b=some (.lst zs)/\xs.length + zs.length<=sizeLine/\∀p,H p=none->Q (.ref p) (upd H p (.lst (xs++zs)))
theorem op_cat:OpR X (d5 .Add) rCat:=by
 intro A s σ H x y v u Q I j m h;obtain ⟨l,b,C,t,rfl,rfl,f,k,D,q⟩:=h;cases j;cases m;obtain ⟨z,c,n,r,w,e⟩:=I.lstM f;obtain ⟨p,a,o,d,B,g⟩:=I.lstM k;refine PySem.P.add_list e g ?_ (by rw [N0,N0];omega);have i:c.toArray++a.toArray=(c++a).toArray:=by simp
 rw [i];exact ⟨.ref _,_,I.lnew (t':=s.toks) (r.append d) (by rw [L0];omega),rfl,q _ I.fresh⟩
end
section
variable {prog:Program} {w:O0} {A:Z1} {E:Value->y0->Prop} {s:y0}
set_option maxRecDepth 100000 in
end
section
variable {κ:Type} [DecidableEq κ]
noncomputable def valV (kvs:List (κ×V)) (k:κ):Option V:=(kvs.find? λ kv=>decide (kv.1=k)).map (·.2)
noncomputable def putK (kvs:List (κ×V)) (k:κ) (v:V):List (κ×V):=
 if (kvs.any λ kv=>decide (kv.1=k))=true then kvs.map (λ kv=>if kv.1=k then (kv.1,v) else kv) else kvs++[(k,v)]
noncomputable def dropK (kvs:List (κ×V)) (k:κ):List (κ×V):=kvs.filter λ kv=>decide (kv.1≠k)
theorem z0u {p:κ×V} {r:List (κ×V)} {k:κ} (e:p.1=k):valV (p :: r) k=some p.2:=by simp [valV,i4,e]
theorem z0v {p:κ×V} {r:List (κ×V)} {k:κ} (e:¬ p.1=k):valV (p :: r) k=valV r k:=by simp [valV,i4,e]
theorem z5f (k:κ) :∀kvs:List (κ×V),(kvs.any λ kv=>decide (kv.1=k))=(valV kvs k).isSome
 | []=>rfl
 | p :: r=>by
  rw [J6];by_cases e:p.1=k
  ·simp only [z0u e,decide_eq_true e,Bool.true_or,Option.isSome_some]
  ·rw [z0v e,decide_eq_false e,Bool.false_or];exact z5f k r
theorem zah (k j:κ) (y:V) :∀kvs:List (κ×V),valV (kvs.map λ kv=>if kv.1=k then (kv.1,y) else kv) j=(valV kvs j).map λ x=>if j=k then y else x
 | []=>rfl
 | p :: r=>by
  have a:=zah k j y r;rw [U0];by_cases h:p.1=k
  ·rw [if_pos h];by_cases e:p.1=j
   ·rw [z0u (p:=(p.1,y)) e,z0u e,P6,if_pos (e.symm.trans h)]
   ·rw [z0v (p:=(p.1,y)) e,z0v e,a]
  ·rw [if_neg h];by_cases e:p.1=j
   ·rw [z0u (p:=p) e,z0u e,P6,if_neg (λ z=>h (e.trans z))]
   ·rw [z0v (p:=p) e,z0v e,a]
theorem z8k (k j:κ) (y:V) :∀kvs:List (κ×V),valV kvs k=none->valV (kvs++[(k,y)]) j=if j=k then some y else valV kvs j
 | [],_=>by
  by_cases e:k=j
  ·rw [if_pos e.symm];exact z0u (p:=(k,y)) e
  ·rw [if_neg (λ z=>e z.symm)];exact z0v (p:=(k,y)) e
 | p :: r,hn=>by
  rw [List.cons_append];have a:¬ p.1=k:=λ z=>by rw [z0u z] at hn;cases hn
  rw [z0v a] at hn;have b:=z8k k j y r hn;by_cases e:p.1=j
  ·rw [z0u e,z0u e,if_neg (λ z=>a (e.trans z))]
  ·rw [z0v e,z0v e,b]
theorem z75 (kvs:List (κ×V)) (k j:κ) (y:V):valV (putK kvs k y) j=if j=k then some y else valV kvs j:=by
 unfold putK;by_cases a:(kvs.any λ c=>decide (c.1=k))=true
 ·rw [if_pos a,zah];rw [z5f] at a;by_cases e:j=k
  ·obtain ⟨x,b⟩:=Option.isSome_iff_exists.mp a;rw [if_pos e,e,b,P6,if_pos rfl]
  ·rw [if_neg e];cases valV kvs j with
   | none=>rfl
   | some x=>rw [P6,if_neg e]
 ·rw [if_neg a];refine z8k k j y kvs ?_;rw [z5f] at a;cases q:valV kvs k with
  | none=>rfl
  | some x=>rw [q] at a;exact (a rfl).elim
theorem z1m (kvs:List (κ×V)) (k:κ) (v:V):(putK kvs k v).length<=kvs.length + 1:=by
 unfold putK;split
 ·rw [C0];omega
 ·rw [L0,A1,B4];omega
theorem RelO.isSome_eq {o:Option V} {u:Option Value} (r:RelO o u):o.isSome=u.isSome:=by
 cases o with
 | none=>cases u with
  | none=>rfl
  | some _=>exact (show False from r).elim
 | some _=>cases u with
  | none=>exact (show False from r).elim
  | some _=>rfl
theorem RelO.getD {o:Option V} {u:Option Value} {d:V} {d':Value} (r:RelO o u) (rd:RelV d d'):RelV (o.getD d) (u.getD d'):=by
 cases o with
 | none=>cases u with
  | none=>exact rd
  | some _=>exact (show False from r).elim
 | some _=>cases u with
  | none=>exact (show False from r).elim
  | some _=>exact r
theorem KV.val {kvs:List (κ×V)} {vs:List (κ×Value)} (r:KV kvs vs) (k:κ):RelO (valV kvs k) (d8 vs k):=by
 unfold KV at r;induction r with
 | nil=>exact True.intro
 | @cons p q ps qs h t ih=>
  obtain ⟨c,d⟩:=h;by_cases e:p.1=k
  ·have a:q.1=k:=c.symm.trans e;have b:d8 (q :: qs) k=some q.2:=by simp [d8,i4,a]
   rw [z0u e,b];exact d
  ·have a:¬ q.1=k:=λ z=>e (c.trans z);have b:d8 (q :: qs) k=d8 qs k:=by simp [d8,i4,a]
   rw [z0v e,b];exact ih
theorem KV.any {kvs:List (κ×V)} {vs:List (κ×Value)} (r:KV kvs vs) (k:κ):(kvs.any λ kv=>decide (kv.1=k))=vs.any λ kv=>decide (kv.1=k):=by
 unfold KV at r;induction r with
 | nil=>rfl
 | cons h t ih=>rw [J6,J6,ih,h.1]
theorem KV.repl {kvs:List (κ×V)} {vs:List (κ×Value)} (r:KV kvs vs) (k:κ) {y:V} {u:Value} (ry:RelV y u) :
  KV (kvs.map λ kv=>if kv.1=k then (kv.1,y) else kv) (vs.map λ kv=>if kv.1=k then (kv.1,u) else kv):=by
 unfold KV at r⊢;induction r with
 | nil=>exact .nil
 | @cons p q ps qs h t ih=>
  rw [U0,U0];refine .cons ?_ ih;obtain ⟨a,b⟩:=h;by_cases e:p.1=k
  ·rw [if_pos e,if_pos (a.symm.trans e)];exact ⟨a,ry⟩
  ·rw [if_neg e,if_neg (λ z=>e (a.trans z))];exact ⟨a,b⟩
theorem KV.put {kvs:List (κ×V)} {vs:List (κ×Value)} (r:KV kvs vs) (k:κ) {y:V} {u:Value} (ry:RelV y u):KV (putK kvs k y) (stored vs k u):=by
 unfold putK stored;rw [r.any k];by_cases e:(vs.any λ a=>decide (a.1=k))=true
 ·rw [if_pos e,if_pos e];exact r.repl k ry
 ·rw [if_neg e,if_neg e];exact Paired.snoc r ⟨rfl,ry⟩
theorem KV.drop {kvs:List (κ×V)} {vs:List (κ×Value)} (r:KV kvs vs) (k:κ):KV (dropK kvs k) (without vs k):=by
 unfold KV at r⊢;unfold dropK without;induction r with
 | nil=>exact .nil
 | @cons p q ps qs h t ih=>
  obtain ⟨c,d⟩:=h;rw [S5,S5];by_cases e:p.1=k
  ·have a:¬ decide (p.1≠k)=true:=by simp [e]
   have b:¬ decide (q.1≠k)=true:=by simp [c.symm.trans e]
   rw [if_neg a,if_neg b];exact ih
  ·have f:¬ q.1=k:=λ z=>e (c.trans z);have a:decide (p.1≠k)=true:=by simp [e]
   have b:decide (q.1≠k)=true:=by simp [f]
   rw [if_pos a,if_pos b];exact .cons ⟨c,d⟩ ih
theorem KV.length {kvs:List (κ×V)} {vs:List (κ×Value)} (r:KV kvs vs):kvs.length=vs.length:=N7 r
theorem zeq (kvs:List (κ×V)) (k:κ):(dropK kvs k).length<=kvs.length:=Z0 _ _
end
theorem kV_is {P:Program} {w:O0} {k:Key} {u:Value} (r:RelV (kV k) u):(z0f P w).is k u=true:=by
 cases k with
 | inl i=>obtain ⟨t,e⟩:=(show∃t,u=R5 i t from r);subst e;exact z98 P w i t
 | inr x=>obtain ⟨t,e⟩:=(show∃t,u=i8 x t from r);subst e;exact z9q P w x t
theorem z83 {P:Program} {w:O0} :∀{ks:List Key} {us:List Value},Vals (ks.map kV) us->ItemsAre (z0f P w) ks us
 | [],_,r=>by rw [U6] at r;cases r;exact .nil
 | k :: ks,_,r=>by
  rw [U0] at r;cases r with
  | cons h t=>exact .cons (kV_is h) (z83 t)
abbrev KT (H:Hp):List (List Key×V)->List (List Key×Addr×Value)->Prop:=g7 λ p q=>p.1=q.1/\H q.2.1=some (.tup (p.1.map kV))/\RelV p.2 q.2.2
theorem KT.val {H:Hp} {kvs:List (List Key×V)} {xs:List (List Key×Addr×Value)} (r:KT H kvs xs) (k:List Key):RelO (valV kvs k) ((p8 xs k).map (·.2)):=by
 induction r with
 | nil=>exact True.intro
 | @cons p q ps qs h t ih=>
  obtain ⟨c,_,d⟩:=h;by_cases e:p.1=k
  ·have a:q.1=k:=c.symm.trans e;have b:p8 (q :: qs) k=some q.2:=by simp [p8,i4,a]
   rw [z0u e,b];exact d
  ·have a:¬ q.1=k:=λ z=>e (c.trans z);have b:p8 (q :: qs) k=p8 qs k:=by simp [p8,i4,a]
   rw [z0v e,b];exact ih
theorem KT.repl {H:Hp} {kvs:List (List Key×V)} {xs:List (List Key×Addr×Value)} (r:KT H kvs xs) (k:List Key) {y:V} {u:Value} (ry:RelV y u) :
  KT H (kvs.map λ kv=>if kv.1=k then (kv.1,y) else kv) (xs.map (putAt k u)):=by
 induction r with
 | nil=>exact .nil
 | @cons p q ps qs h t ih=>
  rw [U0,U0];refine .cons ?_ ih;obtain ⟨a,b,c⟩:=h;unfold putAt;by_cases e:p.1=k
  ·rw [if_pos e,if_pos (a.symm.trans e)];exact ⟨a,b,ry⟩
  ·rw [if_neg e,if_neg (λ z=>e (a.trans z))];exact ⟨a,b,c⟩
theorem KT.put {H:Hp} {kvs:List (List Key×V)} {xs:List (List Key×Addr×Value)} (r:KT H kvs xs) (k:List Key) {b:Addr} {y:V} {u:Value} (hb:H b=some (.tup (k.map kV))) (ry:RelV y u) :
  KT H (putK kvs k y) (storedH xs k b u):=by
 have e:(kvs.any λ a=>decide (a.1=k))=(p8 xs k).isSome:=by rw [z5f,(r.val k).isSome_eq,B6]
 unfold putK storedH;rw [e];by_cases q:(p8 xs k).isSome=true
 ·rw [if_pos q,if_pos q];exact r.repl k ry
 ·rw [if_neg q,if_neg q];exact Paired.snoc r ⟨rfl,hb,ry⟩
theorem KT.keeps {H H':Hp} {kvs:List (List Key×V)} {xs:List (List Key×Addr×Value)} (r:KT H kvs xs) (ht :∀b ys,H b=some (.tup ys)->H' b=some (.tup ys)):KT H' kvs xs:=
 Paired.mapP r λ _ _ z=>⟨z.1,ht _ _ z.2.1,z.2.2⟩
section
variable {P:Program} {w:O0} {H:Hp} {h:Heap} {a:Addr}
theorem rd_of {u:HO} (ok:HOk P w H h) (e:Rd H a u):ObjOk P w H h a u:=e.ok ok
theorem dk_rd {kvs:List (Key×V)} (ok:HOk P w H h) (e:Rd H a (.dK kvs)):kvs.length<=sizeLine/\(a == y4)=false/\∃vs,KV kvs vs/\h.DictOf (z0f P w) a vs:=
 show ObjOk P w H h a (.dK kvs) from rd_of ok e
theorem dk_of {kvs:List (Key×V)} (ok:HOk P w H h) (e:H a=some (.dK kvs)):kvs.length<=sizeLine/\(a == y4)=false/\∃vs,KV kvs vs/\h.DictOf (z0f P w) a vs:=dk_rd ok (.inl e)
theorem key_of {ks:List Key} (ok:HOk P w H h) (e:H a=some (.tup (ks.map kV))):(O5 (z0f P w)).is h ks a:=by
 obtain ⟨_,c,r,⟨o,b,d,n,f⟩,_⟩:=(show ObjOk P w H h a (.tup (ks.map kV)) from ok a _ e)
 exact ⟨o,c.toArray,n,b,d,f,by simpa using z83 r⟩
theorem dt_rd {kvs:List (List Key×V)} (ok:HOk P w H h) (e:Rd H a (.dT kvs)):kvs.length<=sizeLine/\(a == y4)=false/\
  ∃xs,KT H kvs xs/\h.DictOfH (O5 (z0f P w)) a xs:=by
 obtain ⟨z,y,xs,r,o,g,d,c,i,j,k,f⟩:=(show ObjOk P w H h a (.dT kvs) from rd_of ok e)
 refine ⟨z,y,xs,r,o,g,d,c,i,j,k,λ x b=>?_,f⟩;have all :∀{l:List (List Key×V)} {m:List (List Key×Addr×Value)},KT H l m->∀x∈m,(O5 (z0f P w)).is h x.1 x.2.1:=by
  intro l m q;induction q with
  | nil=>intro x b;exact nomatch b
  | @cons p q ps qs hq t ih=>
   intro x b;rcases List.mem_cons.mp b with e|b
   ·subst e;exact key_of ok (by rw [<-hq.1];exact hq.2.1)
   ·exact ih x b
 exact all r x b
theorem dt_of {kvs:List (List Key×V)} (ok:HOk P w H h) (e:H a=some (.dT kvs)):kvs.length<=sizeLine/\(a == y4)=false/\
  ∃xs,KT H kvs xs/\h.DictOfH (O5 (z0f P w)) a xs:=dt_rd ok (.inl e)
end
def DGet (H:Hp) (a:Addr) (y:V) (r:Option V):Prop:=
 (∃kvs k,Rd H a (.dK kvs)/\y=kV k/\r=valV kvs k)\/∃kvs k b,Rd H a (.dT kvs)/\y=.ref b/\H b=some (.tup (k.map kV))/\r=valV kvs k
def DPut (H:Hp) (a:Addr) (y v:V) (H':Hp):Prop:=
 (∃kvs k,H a=some (.dK kvs)/\y=kV k/\kvs.length < sizeLine/\H'=upd H a (.dK (putK kvs k v)))\/
 ∃kvs k b,H a=some (.dT kvs)/\y=.ref b/\H b=some (.tup (k.map kV))/\kvs.length < sizeLine/\H'=upd H a (.dT (putK kvs k v))
theorem DGet.k {H:Hp} {a:Addr} {kvs:List (Key×V)} {k:Key} (e:H a=some (.dK kvs)):DGet H a (kV k) (valV kvs k):=.inl ⟨kvs,k,.inl e,rfl,rfl⟩
theorem DPut.k {H:Hp} {a:Addr} {kvs:List (Key×V)} {k:Key} {v:V} (e:H a=some (.dK kvs)) (hl:kvs.length < sizeLine):DPut H a (kV k) v (upd H a (.dK (putK kvs k v))):=.inl ⟨kvs,k,e,rfl,hl,rfl⟩
section
variable {X:Cx} {pins:List (Addr×Obj)} {σ:St} {H:Hp} {s:y0} {a:Addr} {y v:V} {u r:Value} {o:Option V} {A:Z1} {E:Value->y0->Prop}
theorem Inv.big (I:Inv X pins σ H s):y4 < s.heap.objs.size:=by have h:U1 < s.heap.objs.size:=(I.mod.glob.keeps I.bk).lt;exact N5 (by decide) h
theorem zcr {Q:Value->y0->Prop} (hu:A.units + 1 < cLine) (I:Inv X pins σ H s) (g:DGet H a y (some v)) (ry:RelV y u) (h :∀w' s',Inv X pins σ H s'->RelV v w'->Q w' s') :
  R0 (Y0 X.prog X.w) A (f8 (.ref a) u) Q E s:=by
 rcases g with ⟨q,k,e,f,l⟩|⟨q,k,b,e,f,eb,l⟩
 ·subst f;obtain ⟨z,hd,r,i,d⟩:=dk_rd I.hok e;obtain ⟨w',j,c⟩:=RelO.some_of (v:=v) (o:=d8 r k) (by rw [l];exact i.val k);exact wpAny_getItem_of (kV_is ry) d.mapOf j (h w' _ (I.tok _) c)
 ·subst f;cases (show u=F1 b from ry);obtain ⟨z,hd,t,i,d⟩:=dt_rd I.hok e;obtain ⟨w',j,c⟩:=RelO.some_of (v:=v) (o:=(p8 t k).map (·.2)) (by rw [l];exact i.val k);obtain ⟨p,n,m⟩:=Option.map_eq_some_iff.mp j;refine wpAny_getItem_heap (L5 hu) (key_of I.hok eb) d n ?_;rw [m];exact h w' _ (I.tok _) c
theorem d_in {Q:Value->y0->Prop} (hu:A.units + 1 < cLine) (I:Inv X pins σ H s) (g:DGet H a y o) (ry:RelV y u) (h :∀s',Inv X pins σ H s'->Q (.bool o.isSome) s') :
  R0 (Y0 X.prog X.w) A (N2 .In u (.ref a)) Q E s:=by
 rcases g with ⟨i,k,e,d,l⟩|⟨i,k,b,e,d,eb,l⟩
 ·subst d;obtain ⟨z,hd,j,f,c⟩:=dk_rd I.hok e;refine wpAny_in_of (kV_is ry) hd c.mapOf ?_;rw [<-(f.val k).isSome_eq,<-l];exact h _ (I.tok _)
 ·subst d;cases (show u=F1 b from ry);obtain ⟨z,hd,m,f,c⟩:=dt_rd I.hok e;refine wpAny_in_heap (L5 hu) (key_of I.hok eb) hd c ?_;have q:=(f.val k).isSome_eq;rw [B6] at q;rw [<-q,<-l];exact h _ (I.tok _)
theorem zfw {Q:Value->y0->Prop} (hu:A.units + 1 < cLine) (I:Inv X pins σ H s) (g:DGet H a y o) (ry:RelV y u) (h :∀s',Inv X pins σ H s'->Q (.bool (!o.isSome)) s') :
  R0 (Y0 X.prog X.w) A (N2 .NotIn u (.ref a)) Q E s:=by
 rcases g with ⟨i,k,e,d,l⟩|⟨i,k,b,e,d,eb,l⟩
 ·subst d;obtain ⟨z,hd,j,f,c⟩:=dk_rd I.hok e;refine wpAny_notIn_of (kV_is ry) hd c.mapOf ?_;rw [<-(f.val k).isSome_eq,<-l];exact h _ (I.tok _)
 ·subst d;cases (show u=F1 b from ry);obtain ⟨z,hd,m,f,c⟩:=dt_rd I.hok e;refine wpAny_notIn_heap (L5 hu) (key_of I.hok eb) hd c ?_;have q:=(f.val k).isSome_eq;rw [B6] at q;rw [<-q,<-l];exact h _ (I.tok _)
theorem z8c {h':Heap} {t':Nat} {ob:HO} (I:Inv X pins σ H s) (mu:Mut (H a)) (hs:g6 a s.heap h') (he :∃q,h'.get? a=some q) (new:ObjOk X.prog X.w (upd H a ob) h' a ob) :
  Inv X pins σ (upd H a ob) { s with heap:=h',toks:=t' }:=
 I.write (x:=a) (e:=a) mu (.inl rfl) (λ b q c z=>(hs.2 b c).trans z) he new
theorem dk_new {P:Program} {w:O0} {H':Hp} {h':Heap} {kvs:List (Key×V)} {vs:List (Key×Value)} (z:kvs.length<=sizeLine) (hd:(a == y4)=false) (rel:KV kvs vs) (dd:h'.DictOf (z0f P w) a vs) :
  ObjOk P w H' h' a (.dK kvs):=⟨z,hd,vs,rel,dd⟩
theorem zd9 {H':Hp} {Q:Unit->y0->Prop} (hu:A.units + 1 < cLine) (I:Inv X pins σ H s) (g:DPut H a y v H') (ry:RelV y u) (rv:RelV v r) (h :∀s',Inv X pins σ H' s'->Q () s') :
  R0 (Y0 X.prog X.w) A (setItem (.ref a) u r) Q E s:=by
 rcases g with ⟨d,k,e,t,l,n⟩|⟨d,k,b,e,t,eb,l,n⟩
 ·subst t n;obtain ⟨z,hd,G,f,p⟩:=dk_of I.hok e;have x:G.length<=sizeLine:=by rw [<-f.length];exact z
  have o:(putK d k v).length<=sizeLine:=by have:=z1m d k v;omega
  refine wpAny_setItem_pairs (hsz:=x) (kV_is ry) p λ C j m=>h _ ?_;have J :∃q,C.get? a=some q:=let ⟨q,_,_,i,_⟩:=j;⟨q,i⟩;exact z8c I (by rw [e];exact True.intro) m J (dk_new o hd (f.put k rv) j)
 ·subst t n;cases (show u=F1 b from ry);obtain ⟨z,hd,O,f,p⟩:=dt_of I.hok e;have x:O.length<=sizeLine:=by rw [<-N7 f];exact z
  have o:(putK d k v).length<=sizeLine:=by have:=z1m d k v;omega
  refine wpAny_setItem_heap (hsz:=x) (L5 hu) (key_of I.hok eb) p λ C j m=>h _ ?_;obtain ⟨q,D,L,i,F,N,K,_,M⟩:=j;refine z8c I (by rw [e];exact True.intro) m ⟨q,i⟩ ⟨o,hd,_,(f.put k eb rv).keeps λ c P B=>?_,q,D,L,i,F,N,K,M⟩;rw [upd_ne (ne_of B e (λ z=>nomatch z))];exact B
end
section
variable {X:Cx} {pins:List (Addr×Obj)} {σ:St} {H:Hp} {s:y0} {a:Addr} {kvs:List (Key×V)} {k:Key} {u:Value} {A:Z1} {E:Value->y0->Prop}
theorem d_pop {v:V} {more:List Value} {Q:Value->y0->Prop} (I:Inv X pins σ H s) (e:H a=some (.dK kvs)) (ry:RelV (kV k) u) (l:valV kvs k=some v) (hm:more=[]\/∃x,more=[x])
  (h :∀w' s',Inv X pins σ (upd H a (.dK (dropK kvs k))) s'->RelV v w'->Q w' s'):R0 (Y0 X.prog X.w) A (call (.builtin "dict.pop") (.ref a :: u :: more)) Q E s:=by
 obtain ⟨z,hd,d,b,c⟩:=dk_of I.hok e;obtain ⟨w',y,n⟩:=RelO.some_of (v:=v) (o:=d8 d k) (by rw [<-l];exact b.val k);have p:(keyPart u).isSome=true:=by
  cases k with
  | inl i=>obtain ⟨t,q⟩:=(show∃t,u=R5 i t from ry);subst q;rfl
  | inr x=>obtain ⟨t,q⟩:=(show∃t,u=i8 x t from ry);subst q;rfl
 have j:argsOk "dict.pop" ⟨.ref a :: u :: more,[]⟩:=by
  rcases hm with q|⟨x,q⟩
  ·subst q;exact PySem.F.args_dict_pop_2 _ _
  ·subst q;exact PySem.F.args_dict_pop_3 _ _ _
 refine V8 z9 c.typeIs PySem.F.entry_dict_pop j (meets_dict_pop_there (z0f X.prog X.w) a (kV_is ry) more hm p)
  ⟨d,w',c,by rw [<-b.length];exact z,y,λ g f r=>h w' _ ?_ n⟩
 have m :∃q,g.get? a=some q:=let ⟨q,_,_,hq,_⟩:=f;⟨q,hq⟩;exact z8c I (by rw [e];exact True.intro) r m (dk_new (F0 (zeq kvs k) z) hd (b.drop k) f)
end
def NoSl (i:Expr):Prop:=∀ov iv,o9 i false ov iv=operate [ov,iv] (f8 ov iv)
theorem zfm {prog:Program} {w:O0} {A:Z1} {E:Value->y0->Prop} {s:y0} {env:Env} {value slice:Expr} {pos:Pos} {T id:String} {Q:Value->y0->Prop}
  (hl:typeLookup (.type T) "__getitem__" = S3 (some (.builtin id))) (hs:NoSl slice)
  (h:R0 (Y0 prog w) A (W3 value env) (λ o s₁=>R0 (Y0 prog w) A (W3 slice env) (λ i s₂=>s₂.TypeIs o T/\R0 (Y0 prog w) A (f8 o i) Q E s₂) E s₁) E s) :
  R0 (Y0 prog w) A (W3 (.Subscript value slice pos) env) Q E s:=by
 refine Subscript_ (L3 h (λ o s₁ e=>L3 e (λ i s₂ a=>?_) λ _ _ x=>x) λ _ _ x=>x);obtain ⟨c,a⟩:=a;unfold subscriptTail;refine v0 ?_;rw [getitemInPython_of_ne c.not_modules];refine v0 (wpAny_specialOf c hl ?_);have fin:R0 (Y0 prog w) A (o9 slice false o i) (λ r b=>R0 (Y0 prog w) A (letTemporaryGo value o r >>= λ _=>S3 r) Q E b) E s₂:=by rw [hs o i];exact wpAny_operating (L3 a (λ r b d=>v0 (wpAny_letTemporaryGo (D0 d))) λ _ _ x=>x)
 first
  | exact D0 (v0 fin)
  | exact v0 (D0 (v0 fin))
  | exact v0 fin
theorem z99 {X:Cx} {pins:List (Addr×Obj)} {σ:St} {H:Hp} {s:y0} {a:Addr} {y:V} {o:Option V} (I:Inv X pins σ H s) (g:DGet H a y o):s.TypeIs (.ref a) "dict":=by
 rcases g with ⟨d,k,e,_,_⟩|⟨d,k,b,e,_,_,_⟩
 ·obtain ⟨_,_,f,_,c⟩:=dk_rd I.hok e;exact c.typeIs
 ·obtain ⟨_,_,h,_,c⟩:=dt_rd I.hok e;exact c.typeIs
noncomputable def tDGet (td ty:TE):TE:=λ σ H Q=>td σ H λ x H1=>ty σ H1 λ y H2=>∃a v,x=.ref a/\DGet H2 a y (some v)/\Q v H2
noncomputable def tDIn (ty td:TE):TE:=λ σ H Q=>ty σ H λ y H1=>td σ H1 λ x H2=>∃a o,x=.ref a/\DGet H2 a y o/\Q (.bl o.isSome) H2
noncomputable def zfq (ty td:TE):TE:=λ σ H Q=>ty σ H λ y H1=>td σ H1 λ x H2=>∃a o,x=.ref a/\DGet H2 a y o/\Q (.bl (!o.isSome)) H2
noncomputable def sDPut (td ty tv:TE):TS:=λ D σ H=>tv σ H λ v H1=>td σ H1 λ x H2=>ty σ H2 λ y H3=>∃a H4,x=.ref a/\DPut H3 a y v H4/\D.nx σ H4
section
variable {X:Cx} {o i e value:Expr} {pos pos' tpos:Pos} {td ty tv:TE}
theorem z3k (hu:X.A.units + 1 < cLine) (ho:PE X o td) (hi:PE X i ty) (hs:NoSl i):PE X (.Subscript o i pos) (tDGet td ty):=by intro b s σ H Q I h;refine zfm PySem.F.slot_dict_getitem.lookup hs (thn (ho b s σ H _ I h) λ u e ⟨x,H1,I1,rx,q1⟩=>thn (hi b e σ H1 _ I1 q1) λ f j ⟨y,H2,I2,ry,a,v,ex,g,q2⟩=>?_);subst ex;obtain rfl:u=F1 a:=rx;exact ⟨z99 I2 g,zcr hu I2 g ry λ k l d c=>⟨v,H2,d,c,q2⟩⟩
theorem pc_din (hu:X.A.units + 1 < cLine) (hi:PE X i ty) (ho:PE X o td):PC X .In i o (tDIn ty td):=by intro b s σ H Q I h;refine thn (hi b s σ H _ I h) λ e d ⟨y,H1,I1,ry,q1⟩=>thn (ho b d σ H1 _ I1 q1) λ u f ⟨x,H2,I2,rx,a,ov,ex,g,q2⟩=>?_;subst ex;obtain rfl:u=F1 a:=rx;exact d_in hu I2 g ry λ j c=>⟨.bl ov.isSome,H2,c,rfl,q2⟩
theorem z4n (hu:X.A.units + 1 < cLine) (hi:PE X i ty) (ho:PE X o td):PC X .NotIn i o (zfq ty td):=by intro b s σ H Q I h;refine thn (hi b s σ H _ I h) λ e d ⟨y,H1,I1,ry,q1⟩=>thn (ho b d σ H1 _ I1 q1) λ u f ⟨x,H2,I2,rx,a,ov,ex,g,q2⟩=>?_;subst ex;obtain rfl:u=F1 a:=rx;exact zfw hu I2 g ry λ j c=>⟨.bl (!ov.isSome),H2,c,rfl,q2⟩
theorem z4g (hu:X.A.units + 1 < cLine) (ho:PE X o td) (hi:PE X i ty) (hv:PE X value tv) (hs:e8 value (some (.Subscript o i pos')) pos.line X.env=S3 false) :
  PS X (.Assign [.Subscript o i pos'] value pos) (sDPut td ty tv):=by
 intro b s σ H D I h;refine wpAny_Assign_Subscript (thn (hv b s σ H _ I h) λ r e ⟨v,H1,I1,rv,q1⟩=>thn (ho b e σ H1 _ I1 q1) λ u c ⟨x,H2,I2,rx,q2⟩=>thn (hi b c σ H2 _ I2 q2) λ f k ⟨y,H3,I3,ry,a,H4,ex,g,q3⟩=>?_) hs;subst ex;obtain rfl:u=F1 a:=rx;exact zd9 hu I3 g ry rv λ j d=>⟨σ,H4,d,q3⟩
end
theorem za1 {P:Program} {w:O0} {H:Hp} (h:Heap) (hb:y4 < h.objs.size):ObjOk P w H (h.push { cls:=.type "dict",data:=.dict #[] }) h.objs.size (.dK []):=
 ⟨P1 _,beq_eq_false_iff_ne.mpr (F3 (Q0 hb)),[],.nil,L9 h⟩
noncomputable def tDNewK:TE:=λ _ H Q=>∀p,H p=none->Q (.ref p) (upd H p (.dK []))
section
variable {X:Cx} {pos:Pos}
theorem z7k:PE X (.Dict [] [] pos) tDNewK:=λ b s σ H Q I h=>wpAny_Dict_empty ⟨.ref s.heap.objs.size,_,I.laid (a:=s.heap.objs.size) (o:=.dK []) (t':=s.toks) (λ _ _ q=>x0 _ q) (A0 _) (za1 s.heap I.big),rfl,h _ (I.hok.fresh (A0 _))⟩
end
noncomputable def tPairs:List (TE×TE)->St->Hp->(List (V×V)->Hp->Prop)->Prop
 | [],_,H,Q=>Q [] H
 | (tk,tv) :: r,σ,H,Q=>tk σ H λ x H1=>tv σ H1 λ y H2=>tPairs r σ H2 λ ps H3=>Q ((x,y) :: ps) H3
abbrev VV:List (V×V)->List (Value×Value)->Prop:=g7 λ p q=>RelV p.1 q.1/\RelV p.2 q.2
def PPs (X:Cx) (pos:Pos) (keys:List (Option Expr)) (values:List Expr) (trs:List (TE×TE)):Prop:=
 ∀(pins:List (Addr×Obj)) (s:y0) (σ:St) (H:Hp) (Q:List (V×V)->Hp->Prop),Inv X pins σ H s->tPairs trs σ H Q->
  R0 (Y0 X.prog X.w) X.A (evalPairs (pairTrees keys values X.env pos)) (λ vs s'=>∃ps H',Inv X pins σ H' s'/\VV ps vs/\Q ps H') X.xe s
theorem ze4 {X:Cx} {pos:Pos}:PPs X pos [] [] []:=λ a s σ H Q I h=>pairTrees_nil_walk ⟨[],H,I,.nil,h⟩
theorem zbx {X:Cx} {pos:Pos} {k v:Expr} {ks:List (Option Expr)} {vs:List Expr} {tk tv:TE} {trs:List (TE×TE)} (hk:PE X k tk) (hv:PE X v tv) (hr:PPs X pos ks vs trs) :
  PPs X pos (some k :: ks) (v :: vs) ((tk,tv) :: trs):=λ a s σ H Q I h=>
 pairTrees_cons_walk (thn (hk a s σ H _ I h) λ u c ⟨x,H1,I1,rx,q1⟩=>thn (hv a c σ H1 _ I1 q1) λ e b ⟨y,H2,I2,ry,q2⟩=>thn (hr a b σ H2 _ I2 q2) λ d f ⟨ps,H3,I3,rel,q3⟩=>⟨(x,y) :: ps,H3,I3,.cons ⟨rx,ry⟩ rel,q3⟩)
noncomputable def mergeK (kvs more:List (Key×V)):List (Key×V):=more.foldl (λ acc kv=>putK acc kv.1 kv.2) kvs
theorem KV.merge :∀{more:List (Key×V)} {rs:List (Key×Value)} {kvs:List (Key×V)} {vs:List (Key×Value)},KV more rs->KV kvs vs->KV (mergeK kvs more) (merged vs rs):=by
 intro more rs kvs vs r;unfold KV at r;induction r generalizing kvs vs with
 | nil=>intro q;exact q
 | @cons p q ps qs h t ih=>
  intro a;have e:KV (putK kvs p.1 p.2) (stored vs q.1 q.2):=by have:=a.put p.1 h.2;rw [<-h.1];exact this
  exact ih e
theorem z2r :∀(more kvs:List (Key×V)),(mergeK kvs more).length<=kvs.length + more.length
 | [],kvs=>by show kvs.length<=kvs.length + 0;omega
 | p :: r,kvs=>by have a:=z2r r (putK kvs p.1 p.2);have b:=z1m kvs p.1 p.2;show (mergeK (putK kvs p.1 p.2) r).length<=_;rw [A1];omega
theorem z6x {P:Program} {w:O0} :∀{kvs:List (Key×V)} {ws:List (Value×Value)},VV (kvs.map λ kv=>(kV kv.1,kv.2)) ws->∃rs,Carries (z0f P w) ws rs/\KV kvs rs
 | [],_,r=>by rw [U6] at r;cases r;exact ⟨[],True.intro,.nil⟩
 | p :: kvs,_,r=>by
  rw [U0] at r;cases r with
  | @cons a b as bs h t=>obtain ⟨rs,c,q⟩:=z6x (P:=P) (w:=w) t;obtain ⟨e,d⟩:=b;exact ⟨(p.1,d) :: rs,⟨kV_is h.1,rfl,c⟩,.cons ⟨rfl,h.2⟩ q⟩
noncomputable def tDisp (trs:List (TE×TE)):TE:=λ σ H Q=>∀p,H p=none->tPairs trs σ (upd H p (.dK [])) λ ps H2=>H2 p=some (.dK [])/\∃kvs:List (Key×V),ps=kvs.map (λ kv=>(kV kv.1,kv.2))/\kvs.length<=15/\Q (.ref p) (upd H2 p (.dK (mergeK [] kvs)))
theorem ze2 {X:Cx} {pos:Pos} {keys:List (Option Expr)} {values:List Expr} {trs:List (TE×TE)} (h:PPs X pos keys values trs) (hall:keys.all (·.isSome)=true) (hl:keys.length=values.length) (h0:keys≠[])
  (h15:keys.length<=15):PE X (.Dict keys values pos) (tDisp trs):=by
 intro l s σ H Q I q;have m:=I.hok.fresh (A0 s.heap.objs.size);have n:=I.laid (a:=s.heap.objs.size) (o:=.dK []) (h':=s.heap.push { cls:=.type "dict",data:=.dict #[] }) (t':=s.toks) (λ _ _ q=>x0 _ q) (A0 _) (za1 s.heap I.big);refine wpAny_Dict_walk (knd:=z0f X.prog X.w) hall hl h0 h15 (thn (h l _ σ _ _ n (q _ m)) λ t u ⟨ps,H2,I2,rel,e,kvs,ep,lk,q2⟩=>?_);subst ep;obtain ⟨i,c,k⟩:=z6x (P:=X.prog) (w:=X.w) rel;obtain ⟨z,hd,v,p,j⟩:=dk_of I2.hok e;cases p;refine ⟨i,c,j,λ h' b d=>⟨.ref s.heap.objs.size,_,?_,rfl,q2⟩⟩;have r:(mergeK [] kvs).length<=sizeLine:=by have f:=z2r kvs [];rw [B4] at f;rw [P5];omega
 have g :∃q,h'.get? s.heap.objs.size=some q:=let ⟨q,_,_,hq,_⟩:=b;⟨q,hq⟩;exact z8c I2 (by rw [e];exact True.intro) d g (dk_new r hd (k.merge .nil) b)
structure M1 (X:Cx) (o:Expr) (m:Str) (apos:Pos) (e:Expr) (cpos:Pos):Prop where
 base:a7 o m X.env (W3 o X.env)=W3 o X.env
 few:((G4 cpos (G1 [e] X.env)).all (λ x=>!x.1) && (backToKw cpos (q9 [] X.env)).all (λ x=>x.1.isSome)
  && decide (([e]:List Expr).length + ([]:List P7).length + (if ([]:List P7).isEmpty then 0 else 1) < 30))=true
 line:(apos.endLine == cpos.line)=true
 trees:G4 cpos (G1 [e] X.env)=[(false,W3 e X.env)]
structure M2 (X:Cx) (o:Expr) (m:Str) (apos:Pos) (e f:Expr) (cpos:Pos):Prop where
 base:a7 o m X.env (W3 o X.env)=W3 o X.env
 few:((G4 cpos (G1 [e,f] X.env)).all (λ x=>!x.1) && (backToKw cpos (q9 [] X.env)).all (λ x=>x.1.isSome)
  && decide (([e,f]:List Expr).length + ([]:List P7).length + (if ([]:List P7).isEmpty then 0 else 1) < 30))=true
 line:(apos.endLine == cpos.line)=true
 trees:G4 cpos (G1 [e,f] X.env)=[(false,W3 e X.env),(false,W3 f X.env)]
def IsD (H:Hp) (a:Addr):Prop:=(∃kvs,Rd H a (.dK kvs))\/∃kvs,Rd H a (.dT kvs)
theorem isD_at {X:Cx} {pins:List (Addr×Obj)} {σ:St} {H:Hp} {s:y0} {a:Addr} (I:Inv X pins σ H s) (d:IsD H a) :
  s.TypeIs (.ref a) "dict"/\(∀b,F1 a=.ref b->∃ob,s.heap.get? b=some ob/\ob.dict=none)/\(a == y4)=false:=by
 rcases d with ⟨h,e⟩|⟨h,e⟩
 ·obtain ⟨_,hd,i,_,c⟩:=dk_rd I.hok e;refine ⟨c.typeIs,λ b q=>?_,hd⟩;cases q;obtain ⟨ob,_,_,f,g,_⟩:=c;exact ⟨ob,f,g.2.1⟩
 ·obtain ⟨_,hd,j,_,c⟩:=dt_rd I.hok e;refine ⟨c.typeIs,λ b q=>?_,hd⟩;cases q;obtain ⟨ob,_,_,f,g,_⟩:=c;exact ⟨ob,f,g.2.1⟩
section
variable {X:Cx} {pins:List (Addr×Obj)} {σ:St} {H:Hp} {s:y0} {a:Addr} {y d:V} {u r:Value} {o:Option V} {A:Z1} {E:Value->y0->Prop}
theorem d_get2 {Q:Value->y0->Prop} (hu:A.units + 1 < cLine) (I:Inv X pins σ H s) (g:DGet H a y o) (ry:RelV y u) (rd:RelV d r) (h :∀w' s',Inv X pins σ H s'->RelV (o.getD d) w'->Q w' s') :
  R0 (Y0 X.prog X.w) A (call (.builtin "dict.get") [.ref a,u,r]) Q E s:=by
 rcases g with ⟨j,k,e,f,l⟩|⟨j,k,b,e,f,eb,l⟩
 ·subst f;obtain ⟨z,hd,n,i,c⟩:=dk_rd I.hok e;refine V8 O6 c.typeIs j9 (f9 _ _ _) (meets_dict_get_default (z0f X.prog X.w) a (kV_is ry) hd r) ⟨_,c.mapOf,h _ _ (I.tok _) ?_⟩;rw [l];exact (i.val k).getD rd
 ·subst f;cases (show u=F1 b from ry);obtain ⟨z,hd,m,i,c⟩:=dt_rd I.hok e;refine V8 O6 c.typeIs j9 (f9 _ _ _) (meetsH_dict_get_default (O5 (z0f X.prog X.w)) a b hd r) ⟨L5 hu,k,m,key_of I.hok eb,c,h _ _ (I.tok _) ?_⟩;rw [l];exact (i.val k).getD rd
end
noncomputable def tDGet2 (td ty tx:TE):TE:=λ σ H Q=>td σ H λ x H1=>∃a,x=.ref a/\IsD H1 a/\ty σ H1 λ y H2=>tx σ H2 λ z H3=>∃o,DGet H3 a y o/\Q (o.getD z) H3
noncomputable def tDPop1 (td ty:TE):TE:=λ σ H Q=>td σ H λ x H1=>∃a,x=.ref a/\IsD H1 a/\ty σ H1 λ y H2=>∃kvs k v,H2 a=some (.dK kvs)/\y=kV k/\valV kvs k=some v/\Q v (upd H2 a (.dK (dropK kvs k)))
section
variable {X:Cx} {o e f:Expr} {apos cpos:Pos} {td ty tx:TE}
theorem zel (hu:X.A.units + 1 < cLine) (ho:PE X o td) (he:PE X e ty) (hf:PE X f tx) (m:M2 X o "get" apos e f cpos):PE X (.Call (.Attribute o "get" apos) [e,f] [] cpos) (tDGet2 td ty tx):=by
 intro b s σ H Q I h;refine wpAny_Call_method m.base m.few m.line F6 O6 PySem.F.type_dict_get (thn (ho b s σ H _ I h) λ u i ⟨x,H1,I1,rx,a,ex,d,q1⟩=>?_);subst ex;obtain rfl:u=F1 a:=rx;obtain ⟨k,c,_⟩:=isD_at I1 d;refine ⟨k,c,?_⟩;rw [m.trees];refine A5 rfl (E7 (Q3 (thn (he b i σ H1 _ I1 q1) λ q n ⟨y,H2,I2,ry,q2⟩=>Q3 (thn (hf b n σ H2 _ I2 q2) λ t v ⟨z,H3,I3,rz,ov,g,q3⟩=>j4 ?_))));exact d_get2 hu I3 g ry rz λ p r j l=>⟨_,H3,j,l,q3⟩
theorem zen (ho:PE X o td) (he:PE X e ty) (m:M1 X o "pop" apos e cpos):PE X (.Call (.Attribute o "pop" apos) [e] [] cpos) (tDPop1 td ty):=by intro b s σ H Q I h;refine wpAny_Call_method m.base m.few m.line F6 z9 PySem.F.type_dict_pop (thn (ho b s σ H _ I h) λ u j ⟨x,H1,I1,rx,a,ex,d,q1⟩=>?_);subst ex;obtain rfl:u=F1 a:=rx;obtain ⟨c,g,_⟩:=isD_at I1 d;refine ⟨c,g,?_⟩;rw [m.trees];refine A5 rfl (E7 (Q3 (thn (he b j σ H1 _ I1 q1) λ n p ⟨y,H2,I2,ry,kvs,k,v,ea,ey,l,q2⟩=>j4 ?_)));subst ey;exact d_pop I2 ea ry l (.inl rfl) λ q r i f=>⟨v,_,i,f,q2⟩
end
end L2
namespace Att
open PySem PySem.W PySem.Calls PyProof.Rows
theorem z3y {P:S0} {h:Heap} :∀(ns:List Int) (vs:List Value),WellAll P h vs (ns.map WData.int)->N3 vs ns:=by
 intro ns;induction ns with
 | nil=>intro vs w;rw [U6] at w;cases w;exact .nil
 | cons n ns ih=>
  intro vs w;rw [U0] at w;cases w with
  | cons a b=>cases a;exact .cons _ _ (ih _ b)
theorem zcw {l:OpenLaw} {n:Nat} (hn:l.most=some n) {P:S0} {h:Heap} {args:List WData} {vals:List Value}
  (hpre:l.row.toRowW.claim.pre args=true) (hwl:WellAll P h vals args) :
  ∃a vs ns,vals=[F1 a]/\args=[WData.list (ns.map WData.int)]/\h.get? a=some { cls:=.type "list",data:=.seq vs.toArray }/\N3 vs ns/\ns.length<=n:=by
 have i:WShape.hasAll [] args [.list .int]=true:=(pre_splitW hpre).1;have e:l.pre.holds [] { args:=args }=true:=(pre_splitW hpre).2;obtain ⟨d,r,rfl,f,j⟩:=hasAllW_cons i;obtain rfl:=hasAllW_nil j;obtain ⟨o,rfl,k⟩:=hasW_list f;obtain ⟨ns,rfl⟩:=items_int k;have g:ns.length<=n:=by
  unfold OpenLaw.pre at e;have c:(WTm.not (.lt (.lit (.int (n:Int))) (.len (.arg 0)))).holds [] { args:=[.list (ns.map .int)] }=true:=by have c:=(holds_andW e).1;rw [hn] at c;exact c
  have b:=condW_of c (w_not (w_lt w_lit (w_len_list (w_arg rfl))));rw [C0] at b;refine G8 λ q=>?_;have m:(n:Int) < ((ns.length:Nat):Int):=by omega
  first
   | (rw [decide_eq_true m] at b;exact absurd b (by decide))
   | (simp at b;omega)
 cases hwl with
 | cons w1 w2=>
  cases w2;cases w1 with
  | list ho hall=>exact ⟨_,_,ns,rfl,rfl,ho,z3y ns _ hall,g⟩
theorem zdq (l:OpenLaw) (args:List WData):l.row.toRowW.claim.post args (.bool true) args=true:=
 postW_of (r:=l.row.toRowW) (X:=(true == true))
  (show WShape.has [] (.bool true) .bool=true by first|rfl|decide|simp [WShape.has,WShape.arms,WShape.armsAll])
  (show (WTm.eq .res (.lit (.bool true))).value [] { args:=args,res:=some (.bool true),after:=args }=some (.bool (true == true)) from w_eq_bool (w_res rfl) w_lit) rfl
theorem attach_call {l:OpenLaw} {n:Nat} {q:Program} {loose:List Str} {XP:(Str->Option Value)->Heap->Prop} {YP:O0->Heap->Prop} {d:DefRec}
  (hn:l.most=some n) (hdf:d.params.defaults=[])
  (call :∀(w:O0) (s₀ s₁:y0) (mg mb:Str->Option Value) (fa:Addr) (o:Obj) (pm cd doc:Value) (a:Addr) (vs:List Value) (ns:List Int),
   Ground q loose [] XP w s₀ mg mb s₁.heap->YP w s₁.heap->
   s₁.heap.get? fa=some o->o.data=.func (docDef d.name d.params d.body d.scope pm cd doc)->s₁.heap.CodeRec cd d.name->mg d.name=some (.ref fa)->
   s₁.heap.get? a=some { cls:=.type "list",data:=.seq vs.toArray }->N3 vs ns->ns.length<=n->s₁.gens = #[]->
   C5 (Y0 l.prog w) U8 (.call (.ref fa) ⟨[.ref a],[]⟩) (λ r s'=>r=.ok (.ret (.bool true))/\OldK s₁.heap s'.heap/\s'.os=s₁.os/\Y6 s'.gens) s₁) :
  WalkO q loose XP YP l.row.toRowW d [] (λ f vs=>PySem.call f vs):=by
 intro w s₀ s₁ mg mb G Y fa o pm cd doc c kV p hd g b u t C z A k B E h D;obtain rfl:c=.none:=Dflts.none b hdf;obtain rfl:kV=.none:=Dflts.noKw b;obtain ⟨a,vs,ns,rfl,rfl,v,m,s⟩:=zcw hn k h;refine enter_call (F4 (call w s₀ s₁ mg mb fa o pm cd doc a vs ns G Y p (fd_plain hd) g u v m s t) λ r s' j=>?_);obtain ⟨rfl,i,y,x⟩:=j;exact ⟨.inl ⟨.bool true,.bool true,[],rfl,λ _=>rfl,.bool true,zdq l _,λ _=>⟨k7,λ _ e=>(nomatch e)⟩⟩,i,y,x⟩
end Att
namespace L2
open PySem PySem.Spec PyProof.Rows
theorem z85 :∀{vs:List Value} {ns:List Int},N3 vs ns->Vals (ns.map V.int) vs
 | _,_,.nil=>.nil
 | _,_,.cons n t h=>.cons ⟨t,rfl⟩ (z85 h)
noncomputable def z6j (s:Stmt):Arguments:=match s with
 | .FunctionDef _ a _ _ _ _ _ _ _ _=>a
 | _=>{ posonlyargs:=[],args:=[],vararg:=none,kwonlyargs:=[],kw_defaults:=[],kwarg:=none,defaults:=[] }
noncomputable def z3p (s:Stmt):List Stmt:=match s with
 | .FunctionDef _ _ b _ _ _ _ _ _ _=>b
 | _=>[]
noncomputable def z07 (s:Stmt):Scope:=match s with
 | .FunctionDef _ _ _ _ _ _ sc _ _ _=>sc
 | _=>{ kind:=.function,names:=[],isGenerator:=false,isCoroutine:=false }
noncomputable abbrev CX0:CXT:=λ _ _ _ _ _ _=>False
noncomputable abbrev E0:XK:=λ _ _ _=>False
theorem pass0 {X:Cx}:Passes CX0 X E0:=λ _ _ _ _ _ _ _ h=>h.elim
structure Fun (K:c0) (x qual:Str) (st:Stmt) (f:Addr) (fd:FuncData):Prop where
 ex :∃(oc:Value) (od:Option Addr) (kV doc pm:Value) (an:Option Addr) (cdv ct:Value) (osl:Array (Option Value)),
  fd=o5 x qual (z6j st) (z3p st) (z07 st) .none kV doc pm an cdv ct/\K.lookup f=some ⟨oc,od,.func fd,osl⟩/\d7 K cdv qual=true
 kp:n4 K (.ref f)=true
section
variable {P:Program} {w:O0} {K:c0} {mg:Str->Option Value} {base:Heap}
theorem Fun.ok {x qual:Str} {st:Stmt} {f:Addr} {fd:FuncData} {N ps:List Str} {k:Nat} {sp:Sp} (F:Fun K x qual st f fd) (S:FnScope N ps (z07 st)) (len :∀vs H Q E,sp vs H Q E->vs.length=ps.length)
  (hbody :∀(cdv:Value) (A:Z1) (outer:List Env) (s:y0) (H:Hp) (vs:List V) (Q:VK) (E:XK),Room k (A.deeper (a8 qual (z07 st) s.heap.objs.size f cdv))->sp vs H Q E->
   ∃t,PSs (cxOf CX0 P w K mg base N qual (z07 st) f cdv A outer s H E).nox (z3p st) t/\t { nx:=λ _ H'=>Q .non H',rt:=Q } (start N vs) H):FnOk P w K mg base CX0 (k + 1) f fd ps sp:=by
 obtain ⟨n,j,kV,m,l,e,cdv,i,g,rfl,d,a⟩:=F.ex;refine fn_of d a S len λ A outer s H vs Q E c b=>?_;obtain ⟨t,h,q⟩:=hbody cdv A outer s H vs Q E c b;exact ⟨t,h.nox,q⟩
theorem Fun.binds {x qual:Str} {st:Stmt} {f:Addr} {fd:FuncData} {ps:List Str} (F:Fun K x qual st f fd)
  (h :∀(kV doc pm:Value) (an:Option Addr) (cdv ct:Value) (us:List Value),us.length=ps.length->bindArgs (o5 x qual (z6j st) (z3p st) (z07 st) .none kV doc pm an cdv ct) ⟨us,[]⟩=S3 (ps.zip us)):Binds K fd ps []:=by
 obtain ⟨e,d,kV,doc,pm,an,cdv,ct,b,rfl,c,a⟩:=F.ex;exact .all (h kV doc pm an cdv ct)
theorem fun_mk {x qual:Str} {st:Stmt} {f:Addr} {oc:Value} {od an:Option Addr} {osl:Array (Option Value)} {kV doc pm cdv ct:Value} (l:K.lookup f=some ⟨oc,od,.func (o5 x qual (z6j st) (z3p st) (z07 st) .none kV doc pm an cdv ct),osl⟩)
  (c:d7 K cdv qual=true) (k:n4 K (.ref f)=true):Fun K x qual st f (o5 x qual (z6j st) (z3p st) (z07 st) .none kV doc pm an cdv ct):=⟨⟨oc,od,kV,doc,pm,an,cdv,ct,osl,rfl,l,c⟩,k⟩
end
theorem hu_of {A:Z1} {k:Nat} (hr:Room k A):A.units + 1 < cLine:=J1 (Nat.add_le_add_left (by decide:1<=64) _) hr.units
section
variable {X:Cx}
theorem pv (i:Nat) {x:Str} {pos:Pos} (hN:X.N[i]? = some x:=by rfl) (hv:Vis X.env.scope x:=by first|exact C1 rfl|exact B1 (C1 rfl)|exact B1 (B1 rfl)) (hd:(x == ("__debug__" : Str))=false:=by decide)
  (hcd:(x == ("__classdict__" : Str))=false:=by decide):PE X (.Name x pos) (tVar i):=pe_var hN hv hd hcd
end
theorem iteF {A B:Prop} (h:B):if false=true then A else B:=by rw [if_neg M0];exact h
theorem iteT {A B:Prop} (h:A):if true=true then A else B:=by rw [if_pos rfl];exact h
theorem ite2 {c A B:Prop} [Decidable c] (h1:c->A) (h2:¬ c->B):if c then A else B:=by
 by_cases h:c
 ·rw [if_pos h];exact h1 h
 ·rw [if_neg h];exact h2 h
def Same (H H':Hp):Prop:=∀b o,H b=some o->H' b=some o
theorem Same.refl (H:Hp):Same H H:=λ _ _ h=>h
theorem Same.trans {H H1 H2:Hp} (a:Same H H1) (b:Same H1 H2):Same H H2:=λ c o h=>b c o (a c o h)
theorem Same.free {H H':Hp} (e:Same H H') {l:Addr} (h:H' l=Option.none):H l=Option.none:=by
 cases q:H l with
 | none=>rfl
 | some o=>rw [e l o q] at h;cases h
theorem Same.seq {K:c0} {H H':Hp} {a:Addr} {xs:List V} (e:Same H H') (h:SqL K H a xs):SqL K H' a xs:=by
 rcases h with (h|⟨o,h⟩)|h
 ·exact .inl (.inl (e _ _ h))
 ·exact .inl (.inr ⟨o,e _ _ h⟩)
 ·exact .inr h
section
variable {κ:Type} [DecidableEq κ]
theorem zdn {p:κ×V} {r:List (κ×V)} {k:κ} (e:p.1=k):dropK (p :: r) k=dropK r k:=by unfold dropK;rw [S5,if_neg (by simp [e])]
theorem zci {p:κ×V} {r:List (κ×V)} {k:κ} (e:¬ p.1=k):dropK (p :: r) k=p :: dropK r k:=by unfold dropK;rw [S5,if_pos (by simp [e])]
end
end L2
set_option maxHeartbeats 4000000
namespace L2
open PySem PySem.Spec PyProof.Rows
section
variable {prog:Program} {w:O0} {A:Z1} {R:Result->y0->Prop} {s:y0}
theorem zdu {elt target iter:Expr} {ifs:List Expr} {scope:Scope} {pos:Pos} {it acc:Value} {env:Env} (J:Nat->y0->Prop)
  (turn :∀n s,J n s->R0 (Y0 prog w) A (D8 it) (λ r s₁=>match r with
   | none=>R (.ok .next) s₁
   | some v=>R0 (Y0 prog w) A (Q7 target it v) (λ _ s₂=>R0 (Y0 prog w) A (assign target env v) (λ _ s₃=>
     R0 (Y0 prog w) A (forIn ifs true λ c r=>if r=true then do let ok <-isTrue c env (W3 c env);S3 (U3 ok) else S3 (U3 r)) (λ ok s₄=>
      if ok=true then R0 (Y0 prog w) A (W3 elt env) (λ x s₅=>R0 (Y0 prog w) A (call (.builtin "list.append") [acc,x]) (λ _ s₆=>∃m,m < n/\J m s₆) (λ _ _=>False) s₅) (λ _ _=>False) s₄
      else∃m,m < n/\J m s₄) (λ _ _=>False) s₃) (λ _ _=>False) s₂) (λ _ _=>False) s₁) (λ _ _=>False) s)
  (n:Nat) (h:J n s):C5 (Y0 prog w) A (.compLoop (.ListComp elt [⟨target,iter,ifs,0⟩] scope pos) 0 it acc env) R s:=by
 refine codeAny_loop rfl J (λ n s g=>?_) n h;show R0 _ A ((compTurn (.ListComp elt [⟨target,iter,ifs,0⟩] scope pos) 0 it acc env).onRaise (λ x=>do noteFrame x env;theTreesLotGoes x)) _ _ s;refine wpAny_noted ?_;rw [compTurn_list];refine v0 (wpAny_standAt (v0 (L3 (turn n s g) (λ r s₁ b=>?_) λ _ _ f=>f.elim)));cases r with
 | none=>exact D0 b
 | some v=>
  refine v0 (L3 b (λ _ s₂ e=>v0 (L3 e (λ _ s₃ d=>v0 (L3 d (λ ok s₄ a=>?_) λ _ _ f=>f.elim)) λ _ _ f=>f.elim)) λ _ _ f=>f.elim);cases ok with
  | false=>exact D0 ⟨rfl,a⟩
  | true=>exact v0 (v0 (L3 a (λ x s₅ j=>v0 (L3 j (λ _ s₆ i=>D0 (D0 ⟨rfl,i⟩)) λ _ _ f=>f.elim)) λ _ _ f=>f.elim))
end
theorem z1y {env:Env} :∀(names:List (Str×W5)) (acc:List (Str×Addr)),(∀y∈names,y.2=R1->∃c,env.cells.lookup y.1=some c)->(∀y c,acc.lookup y=some c->env.cells.lookup y=some c)->
  ∃cl,(forIn names acc λ (x:Str×W5) (r:List (Str×Addr))=>(match x with
    | (name,kind)=>if (kind == R1)=true then do let c <-cellOf env name;S3 (U3 ((name,c) :: r)) else S3 (U3 r):Sem (ForInStep (List (Str×Addr)))))=S3 cl/\
   (∀y c,cl.lookup y=some c->env.cells.lookup y=some c)/\(∀y,((y,R1)∈names\/∃c,acc.lookup y=some c)->∃c,cl.lookup y=some c)
 | [],acc,_,ha=>⟨acc,by rw [g9],ha,λ y h=>h.elim (λ z=>nomatch z) id⟩
 | (n,k) :: r,acc,hf,ha=>by
  rw [P8];dsimp only;by_cases hk:k=R1
  ·subst hk;obtain ⟨c,i⟩:=hf (n,.free) Y1 rfl;have e:cellOf env n=S3 c:=by unfold cellOf;rw [i]
   rw [if_pos (by rfl),e];obtain ⟨cl,b,f,g⟩:=z1y r ((n,c) :: acc) (λ y a=>hf y (P2 _ a)) (λ y d hd=>by
    rw [R3] at hd;by_cases a:(y == n)=true
    ·rw [a] at hd;have:=eq_of_beq a;subst this;cases hd;exact i
    ·rw [A8] at a;rw [a] at hd;exact ha y d hd)
   refine ⟨cl,b,f,λ y a=>g y ?_⟩;rcases a with a|⟨d,hd⟩
   ·rcases List.mem_cons.mp a with z|z
    ·cases z;exact .inr ⟨c,by rw [R3];simp⟩
    ·exact .inl z
   ·refine .inr ?_;rw [R3];by_cases a:(y == n)=true
    ·rw [a];exact ⟨c,rfl⟩
    ·rw [A8] at a;rw [a];exact ⟨d,hd⟩
  ·rw [if_neg (by simpa using hk)];obtain ⟨cl,b,f,g⟩:=z1y r acc (λ y a=>hf y (P2 _ a)) ha;refine ⟨cl,b,f,λ y a=>g y ?_⟩;rcases a with a|a
   ·rcases List.mem_cons.mp a with z|z
    ·cases z;exact absurd rfl hk
    ·exact .inl z
   ·exact .inr a
theorem zch {scope:Scope} {env:Env} (hf :∀y∈scope.names,y.2=R1->∃c,env.cells.lookup y.1=some c) :
  ∃cl,R9 scope env=S3 cl/\(∀y c,cl.lookup y=some c->env.cells.lookup y=some c)/\(∀y,(y,R1)∈scope.names->∃c,cl.lookup y=some c):=by
 obtain ⟨cl,a,d,e⟩:=z1y (env:=env) scope.names [] hf (λ _ _ z=>nomatch z);refine ⟨cl,?_,d,λ y b=>e y (.inl b)⟩;simp only [R9];rw [a];rfl
theorem mem_of_lookup {κ:Type} {y:Str} {k:κ} :∀{l:List (Str×κ)},l.lookup y=some k->(y,k)∈l
 | (n,c) :: r,h=>by
  rw [R3] at h;by_cases hy:(y == n)=true
  ·rw [hy] at h;cases h;rw [eq_of_beq hy];exact Y1
  ·rw [A8] at hy;rw [hy] at h;exact P2 _ (mem_of_lookup h)
theorem z3u {scope:Scope} {env:Env} (hcell :∀y∈scope.names,y.2≠NameKind.cell) {y:Str} {k:W5} (h:(R6 scope env).names.lookup y=some k) (hk:k=.cell\/k=.free):(y,R1)∈scope.names:=by
 have m:=mem_of_lookup h;unfold R6 at m;obtain ⟨⟨n,c⟩,a,e⟩:=List.mem_map.mp m;dsimp only at e;by_cases hc:(c == R1)=true
 ·have:=eq_of_beq hc;subst this;split at e<;>(injection e with e1 e2;subst e1;exact a)
 ·rw [if_neg (by simp [hc])] at e;injection e with e1 e2;subst e1 e2;rcases hk with rfl|rfl
  ·exact absurd rfl (hcell _ a)
  ·exact absurd rfl hc
noncomputable abbrev cxComp (X:Cx) (scope:Scope) (cl:List (Str×Addr)) (N:List Str) (C:Addr) (s₂:y0) (H₂:Hp) (fp:List Addr):Cx:=
 { X with N:=N,s₀:=s₂,H₀:=H₂,env:=compEnvC scope cl C X.env,outer:=X.stack,stack:=X.stack,ex:=fp,fn:=λ _=>false,pn:=[],xe:=λ _ _=>False }
def PF (X:Cx) (ifs:List Expr) (t:TT):Prop:=
 ∀(pins:List (Addr×Obj)) (s:y0) (σ:St) (H:Hp) (Q:Bool->Hp->Prop),Inv X pins σ H s->t σ H Q->
  R0 (Y0 X.prog X.w) X.A (forIn ifs true λ c r=>if r=true then do let ok <-isTrue c X.env (W3 c X.env);S3 (U3 ok) else S3 (U3 r)) (TP X pins σ Q) X.xe s
theorem pf_nil {X:Cx}:PF X [] (λ _ H Q=>Q true H):=λ _ _ _ H _ I h=>wpAny_tests_nil ⟨H,I,h⟩
theorem pf_one {X:Cx} {c:Expr} {t:TT} (h:PT X c t):PF X [c] t:=λ a s σ H Q I q=>wpAny_tests_one (h a s σ H Q I q)
theorem Vals.snoc {xs:List V} {us:List Value} {x:V} {u:Value} (r:Vals xs us) (q:RelV x u):Vals (xs++[x]) (us++[u]):=Vals.append r (.cons q .nil)
def TagOf (H:Hp) (x:V) (T:String):Prop:=match x with
 | .non=>T = "NoneType"
 | .bl _=>T = "bool"
 | .int _=>T = "int"
 | .str _=>T = "str"
 | .ref a=>((∃xs,H a=some (.lst xs))/\T = "list")\/((∃xs,H a=some (.tup xs))/\T = "tuple")\/((∃kvs,H a=some (.dK kvs))/\T = "dict")
 | _=>False
noncomputable def instB (T C:String):Bool:=T == C || (T == "bool" && C == "int")
theorem TagOf.ty {K:c0} {H:Hp} {x:V} {T:String} (h:TagOf H x T):TyOf K H x (.type T):=by
 cases x with
 | non=>cases (show T = "NoneType" from h);exact .non
 | bl b=>cases (show T = "bool" from h);exact .bl b
 | int i=>cases (show T = "int" from h);exact .int i
 | str z=>cases (show T = "str" from h);exact .str z
 | ref a=>
  rcases h with ⟨⟨c,e⟩,rfl⟩|⟨⟨c,e⟩,rfl⟩|⟨⟨c,e⟩,rfl⟩
  ·exact .lst e
  ·exact .tup e
  ·exact .dK e
 | _=>exact h.elim
theorem TagOf.one {H:Hp} {x:V} {T:String} (h:TagOf H x T):T = "NoneType"\/T = "bool"\/T = "int"\/T = "str"\/T = "list"\/T = "tuple"\/T = "dict":=by
 cases x with
 | non=>exact .inl h
 | bl b=>exact .inr (.inl h)
 | int i=>exact .inr (.inr (.inl h))
 | str z=>exact .inr (.inr (.inr (.inl h)))
 | ref a=>rcases h with ⟨_,rfl⟩|⟨_,rfl⟩|⟨_,rfl⟩<;>simp
 | _=>exact h.elim
noncomputable def isiC:List String:=["int","str","bool","tuple","list"]
theorem kit_of (K:c0) {T C:String} (h:T = "NoneType"\/T = "bool"\/T = "int"\/T = "str"\/T = "list"\/T = "tuple"\/T = "dict") (hC:C∈isiC):PySem.W.kitOne K (.type T) (.type C)=some (instB T C):=by
 have hC:C = "int"\/C = "str"\/C = "bool"\/C = "tuple"\/C = "list":=by simpa [isiC] using hC
 rcases h with rfl|rfl|rfl|rfl|rfl|rfl|rfl<;>rcases hC with rfl|rfl|rfl|rfl|rfl<;>kernel_rfl
section
variable {X:Cx}
theorem z0j:CallR X (.builtin "isinstance") (λ xs H Q=>∃x C T,xs=[x,.ty C]/\TagOf H x T/\C∈isiC/\Q (.bl (instB T C)) H):=by intro g s σ H xs i Q I r h;obtain ⟨x,C,T,rfl,a,c,q⟩:=h;obtain ⟨u,d,rfl,e,f⟩:=vals2 r;cases (show d=O4 C from f);exact zd0 I e a.ty (kit_of X.K a.one c) λ b=>⟨.bl _,H,I.tok b,rfl,q⟩
theorem zd1 {ys:List V} {its:List Value} (rv:Vals ys its) (hb :∀y∈ys,∃b,y=V.bl b):((N1 its.length).all λ i=>decide (ys[i]? = some (V.bl true)))=ys.all λ y=>decide (y=V.bl true):=by
 have e:=rv.length;rw [Bool.eq_iff_iff,List.all_eq_true,List.all_eq_true];constructor
 ·intro h y d;obtain ⟨i,a,rfl⟩:=List.getElem_of_mem d;have:=h i (List.mem_range.mpr (by omega));simpa [a] using this
 ·intro h i a;have c:i < ys.length:=by have:=List.mem_range.mp a;omega
  have:=h ys[i] (X4 c);simpa [c] using this
theorem z23 (hc:X.calm=true):CallR X (.builtin "all") (λ xs H Q=>∃p ys,xs=[.ref p]/\SqL X.K H p ys/\(∀y∈ys,∃b,y=V.bl b)/\Q (.bl (ys.all λ y=>decide (y=V.bl true))) H):=by
 intro M s σ H xs N Q I r h;obtain ⟨p,ys,rfl,t,g,q⟩:=h;obtain ⟨u,rfl,F⟩:=vals1 r;cases F;obtain ⟨k,c,d,P⟩:=I.list t;have B:p≠s.heap.objs.size:=by obtain ⟨o,e,_⟩:=d.isList;exact Q0 (G0 e)
 refine call_all_walk (T5 d.isList ?_);refine ⟨s.heap.objs.size,_,_,_,_,_,λ i=>decide (ys[i]? = some (V.bl true)),rfl,Walks.list (show X.A.in1.handled=none from I.ok.hd hc) s.heap.objs.size p B k.toArray,⟨⟨_,I0 _ rfl,rfl,rfl⟩,d.isList.at λ o e=>x0 _ e⟩,?_,?_⟩
 ·intro i v O G L a C;have a:k[i]? = some v:=by simpa using a
  obtain ⟨w,e⟩:=List.getElem?_eq_some_iff.mp a;have f:i < ys.length:=by rw [c.length];exact w
  obtain ⟨b,l⟩:=g ys[i] (X4 f);obtain ⟨u,m,j⟩:=c.get (i:=i) (x:=ys[i]) (by simp [f]);rw [a] at m;cases m;rw [l] at j;cases (show v=W8 b from j);have:decide (ys[i]? = some (V.bl true))=b:=by rw [J0 f,l];cases b<;>simp
  exact y3 (this ▸ C)
 ·intro J n E;have e:=zd1 c g;rw [<-N0] at e;refine ⟨.bl _,H,I.kept (t':=n) λ b o z=>E b o ?_ (x0 _ z),rfl,e.symm ▸ q⟩;intro D;rw [List.mem_singleton.mp D] at z;exact absurd (G0 z) (Y2 _)
def CDivB (i j:Int):Prop:=0 < j/\j < 2 ^ 64
theorem z7h:OpR X (d5 .FloorDiv) (rI CDivB λ i j=>.int (i / j)):=opI λ i j _ _ _ _ _ a q=>by
 obtain ⟨c,b⟩:=a;refine floordiv_int (by omega) ?_ (.inl (PyProof.noPylong_of_log2 ?_))
 ·rw [Int.fdiv_eq_ediv_of_nonneg _ (by omega)];exact q
 ·have:j.natAbs.log2 < 64:=(Nat.log2_lt (by omega)).mpr (by omega);omega
structure KDict (K:c0) (P:S0) (a:Addr) (kvs:List (Str×V)):Prop where
 ex :∃es n,K.lookup a=some ⟨.type "dict",none,.dict es n,#[]⟩/\g7 (λ (p:Str×V) (e:DictEntry)=>(∃t,e.key=.str p.1 t)/\e.hash=b0 P p.1/\RelV p.2 e.val) kvs es.toList
 lo:(a == y4)=false
theorem zdm {kvs:List (Str×V)} {P:S0} :∀{es:List DictEntry},g7 (λ (p:Str×V) (e:DictEntry)=>(∃t,e.key=.str p.1 t)/\e.hash=b0 P p.1/\RelV p.2 e.val) kvs es->∀z,
  RelO (kvs.lookup z) (findBy E6 es.toArray z):=by
 intro es r;induction r with
 | nil=>intro z;exact True.intro
 | @cons p e kvs es h t a=>
  intro z;obtain ⟨⟨g,c⟩,f,d⟩:=h;have a:=a z;unfold findBy at a⊢;rw [List.find?_toArray] at a⊢;rw [i4,R3];have b:E6 z e.key=(z == p.1):=by rw [c];show (p.1 == z)=_;rw [Bool.eq_iff_iff,beq_iff_eq,beq_iff_eq];exact ⟨λ q=>q.symm,λ q=>q.symm⟩
  cases hz:(z == p.1) with
  | true=>rw [b,hz];exact d
  | false=>rw [b,hz];exact a
theorem KDict.mapOf {a:Addr} {kvs:List (Str×V)} (D:KDict X.K X.w.params a kvs) {h:Heap} (k:X.K.In h) :∃f,h.MapOf (strKind X.prog X.w) a f/\∀z,RelO (kvs.lookup z) (f z):=by
 obtain ⟨c,n,d,r⟩:=D.ex;have b:PySem.W.KeysLit X.w.params c.toList:=by
  clear d D;generalize c.toList=l at r;induction r with
  | nil=>exact True.intro
  | cons h t ih=>obtain ⟨⟨g,b⟩,e,j⟩:=h;exact ⟨⟨_,g,b,e⟩,ih⟩
 have i :∀z,RelO (kvs.lookup z) (findBy E6 c.toList.toArray z):=zdm r;exact ⟨_,PySem.W.mapOf_K (prog:=X.prog) k d b,λ z=>by simpa using i z⟩
theorem zf7 {a:Addr} {kvs:List (Str×V)} (D:KDict X.K X.w.params a kvs):OpR X (N2 .In) (λ x y H Q=>∃z,x=.str z/\y=.ref a/\Q (.bl (kvs.lookup z).isSome) H):=by intro g s σ H x y v u Q I d e h;obtain ⟨z,rfl,rfl,q⟩:=h;obtain ⟨t,rfl⟩:=d;cases e;obtain ⟨f,b,c⟩:=D.mapOf I.kIn;refine wpAny_in_of (K7 X.prog X.w z t) D.lo b ⟨.bl _,H,I.tok _,rfl,?_⟩;have:=c z;rw [RelO.isSome_eq this] at q;exact q
theorem ix_kd {a:Addr} {kvs:List (Str×V)} (D:KDict X.K X.w.params a kvs):IxR X (λ x y H Q=>∃z v,x=.ref a/\y=.str z/\kvs.lookup z=some v/\Q v H):=by
 intro l m k s σ H x y v u Q I i j h g;obtain ⟨z,r,rfl,rfl,e,q⟩:=h;cases i;obtain ⟨t,rfl⟩:=j;obtain ⟨f,c,d⟩:=D.mapOf I.kIn;have b:=d z;rw [e] at b;cases ef:f z with
 | none=>rw [ef] at b;exact b.elim
 | some u=>rw [ef] at b;exact tail_any c.typeIs slot_dict_getitem.lookup (wpAny_getItem_of (K7 X.prog X.w z t) c ef ⟨r,H,I.tok _,b,q⟩) g
structure KDictT (K:c0) (P:S0) (a:Addr) (kvs:List ((Str×Str)×V)):Prop where
 ex :∃es n,K.lookup a=some ⟨.type "dict",none,.dict es n,#[]⟩/\g7 (λ (p:(Str×Str)×V) (e:DictEntry)=>(∃(b:Addr) (t t':Tok) (m:Nat),e.key=.ref b/\K.lookup b=some ⟨.type "tuple",none,.seq #[.str p.1.1 t,.str p.1.2 t'] m,#[]⟩)/\
  e.hash=X0 (o0 [b0 P p.1.1,b0 P p.1.2])/\RelV p.2 e.val) kvs es.toList
 nd:(kvs.map (·.1)).Nodup
 lo:(a == y4)=false
theorem zcl {prog:Program} {w:O0} {K:c0} {h:Heap} (k:K.In h) :∀{kvs:List ((Str×Str)×V)} {es:List DictEntry},
  g7 (λ (p:(Str×Str)×V) (e:DictEntry)=>(∃(b:Addr) (t t':Tok) (m:Nat),e.key=.ref b/\K.lookup b=some ⟨.type "tuple",none,.seq #[.str p.1.1 t,.str p.1.2 t'] m,#[]⟩)/\
   e.hash=X0 (o0 [b0 w.params p.1.1,b0 w.params p.1.2])/\RelV p.2 e.val) kvs es->
  ∃xs:List (List Str×Addr×Value),es=xs.map (entryOfKey (O5 (strKind prog w)))/\(∀x∈xs,(O5 (strKind prog w)).is h x.1 x.2.1)/\xs.map (·.1)=kvs.map (λ p=>[p.1.1,p.1.2])/\
   ∀a b,RelO (kvs.lookup (a,b)) ((p8 xs [a,b]).map (·.2)):=by
 intro kvs es r;induction r with
 | nil=>exact ⟨[],rfl,λ x f=>absurd f B0,rfl,λ a b=>True.intro⟩
 | @cons p e kvs es hpe t ih=>
  obtain ⟨xs,q,o,A,y⟩:=ih;obtain ⟨⟨b,D,B,m,j,s⟩,g,v⟩:=hpe;refine ⟨([p.1.1,p.1.2],b,e.val) :: xs,?_,?_,?_,?_⟩
  ·rw [U0,<-q];congr 1;obtain ⟨n,u,C⟩:=e;have j:u=.ref b:=j;have g:n=_:=g;subst j g;rfl
  ·intro x f;rcases List.mem_cons.mp f with rfl|f
   ·exact ⟨_,_,m,k _ _ s,rfl,rfl,.cons (K7 prog w _ _) (.cons (K7 prog w _ _) .nil)⟩
   ·exact o x f
  ·rw [U0,U0,A]
  ·intro c d;have:=y c d;rw [R3];unfold p8 at this⊢;rw [i4];by_cases hcd:(c,d)=p.1
   ·have l:((c,d) == p.1)=true:=by rw [beq_iff_eq];exact hcd
    rw [l];have i:decide ([p.1.1,p.1.2]=[c,d])=true:=by rw [<-hcd];simp
    rw [i];exact v
   ·have l:((c,d) == p.1)=false:=by rw [beq_eq_false_iff_ne];exact hcd
    rw [l];have i:decide ([p.1.1,p.1.2]=[c,d])=false:=by rw [decide_eq_false_iff_not];intro z;injection z with z1 z;injection z with z2 _;exact hcd (Prod.ext z1.symm z2.symm)
    rw [i];exact this
theorem z47 :∀{l:List (Str×Str)},l.Nodup->(l.map λ p=>[p.1,p.2]).Nodup
 | [],_=>List.nodup_nil
 | p :: r,h=>by obtain ⟨a,c⟩:=List.nodup_cons.mp h;rw [U0];refine List.nodup_cons.mpr ⟨λ m=>a ?_,z47 c⟩;obtain ⟨q,b,e⟩:=List.mem_map.mp m;injection e with e1 e;injection e with e2 _;have:q=p:=Prod.ext e1 e2;exact this ▸ b
theorem KDictT.dict {a:Addr} {kvs:List ((Str×Str)×V)} (D:KDictT X.K X.w.params a kvs) {h:Heap} (k:X.K.In h) :∃xs,h.DictOfH (O5 (strKind X.prog X.w)) a xs/\∀c d,RelO (kvs.lookup (c,d)) ((p8 xs [c,d]).map (·.2)):=by obtain ⟨f,n,e,r⟩:=D.ex;obtain ⟨xs,b,g,i,j⟩:=zcl (prog:=X.prog) (w:=X.w) k r;refine ⟨xs,⟨_,f,n,k _ _ e,⟨rfl,rfl,rfl⟩,rfl,b,g,?_⟩,j⟩;rw [i];have:=z47 D.nd;rw [A3] at this;exact this
theorem zg4 {pins:List (Addr×Obj)} {σ:St} {H:Hp} {s:y0} {p:Addr} {c d:Str} (I:Inv X pins σ H s) (hp:H p=some (.tup [.str c,.str d])):(O5 (strKind X.prog X.w)).is s.heap [c,d] p:=by
 obtain ⟨_,g,a,⟨o,b,e,n,hd⟩,_⟩:=(show ObjOk X.prog X.w H s.heap p (.tup [.str c,.str d]) from I.hok p _ hp)
 cases a with
 | cons r1 a=>
  cases a with
  | cons r2 a=>cases a;obtain ⟨f,rfl⟩:=r1;obtain ⟨h,rfl⟩:=r2;exact ⟨o,_,n,b,e,hd,.cons (K7 X.prog X.w _ _) (.cons (K7 X.prog X.w _ _) .nil)⟩
theorem z79 {a:Addr} {kvs:List ((Str×Str)×V)} (hu:X.A.units + 1 < cLine) (D:KDictT X.K X.w.params a kvs) :
  OpR X (N2 .NotIn) (λ x y H Q=>∃p c d,x=.ref p/\H p=some (.tup [.str c,.str d])/\y=.ref a/\Q (.bl (!(kvs.lookup (c,d)).isSome)) H):=by
 intro j s σ H x y v u Q I g i h;obtain ⟨p,c,d,rfl,e,rfl,q⟩:=h;cases g;cases i;obtain ⟨l,b,f⟩:=D.dict I.kIn;refine wpAny_notIn_heap (k:=[c,d]) hu (zg4 I e) D.lo b ⟨.bl _,H,I.tok _,rfl,?_⟩;have:=RelO.isSome_eq (f c d);rw [B6] at this;rw [this] at q;exact q
end
structure Cal (P:Program) (w:O0) (K:c0) (mg:Str->Option Value) (base:Heap) (x:Str) (ps:List Str) (k:Nat) (sp:Sp):Prop where
 ex :∃f fd,FnOk P w K mg base CX0 k f fd ps sp/\mg x=some (.ref f)/\n4 K (.ref f)=true/\Binds K fd ps []
section
variable {X:Cx} {x:Str} {ps:List Str} {k:Nat} {sp:Sp} {e:Expr} {es:List Expr} {t:TA} {p pos:Pos}
theorem pe_cal (c:Cal X.prog X.w X.K X.mg X.base x ps k sp) (hr:Room k X.A) (hg:Gl X x) (ha:PA X (e :: es) t) (hn:x≠"__name__":=by decide) (hdb:(x == ("__debug__" : Str))=false:=by decide)
  (he:G1 (e :: es) X.env=(false,W3 e X.env) :: G1 es X.env:=by rfl) (hpl:(G4 pos (G1 es X.env)).any (·.1)=false:=by rfl):PE X (.Call (.Name x p) (e :: es) [] pos) (tCall sp [] E0 t):=by
 obtain ⟨f,g,F,a,b,d⟩:=c.ex;exact zfv F hr hg a b d .nil pass0 ha hdb he hpl
end
structure TX (K:c0) (mg:Str->Option Value):Prop where
 of :∀{n:Str} {v:Value},P3 K U1 n=some (some v)->mg n=some v
 no :∀{n:Str},P3 K U1 n=some none->mg n=none
theorem TX.mk' {K:c0} {mg:Str->Option Value} {h:Heap} (X:K.In h) (G:h.Ns U1 mg):TX K mg:=⟨λ e=>PySem.W.mg_of X G e,λ e=>PySem.W.mg_none_of X G e⟩
section
variable {X:Cx}
noncomputable def rAdd4 (K:c0):R2:=λ x y H Q=>(∃i j,x=.int i/\y=.int j/\Q (.int (i + j)) H)\/(∃i j,x=.str i/\y=.str j/\i.length + j.length<=sizeLine/\Q (.str (i++j)) H)\/rCat x y H Q\/rCatT K x y H Q
theorem opAdd:OpR X (d5 .Add) (rAdd4 X.K):=op_add.or (op_add_str.or (op_cat.or zge))
theorem opEq:OpR X (N2 .Eq) rEq:=op_eq
theorem opNe:OpR X (N2 .NotEq) rNe:=op_ne
theorem z0r:CallR X (.builtin "len") (λ xs H Q=>(∃p ys,xs=[.ref p]/\(SqL X.K H p ys\/SqT X.K H p ys)/\Q (.int ys.length) H)\/∃z,xs=[.str z]/\z.length<=sizeLine/\Q (.int z.length) H):=call_len_seq.or z7a
end
noncomputable def z0t (x:V) (g:Int):Bool:=match x with
 | .int i=>decide (-g<=i) && decide (i<=g)
 | _=>false
noncomputable def tupOf (H:Hp) (x:V):Option (List V):=match x with
 | .ref a=>(match H a with|some (.tup xs)=>some xs|_=>none)
 | _=>none
theorem zcc {H H':Hp} {x:V} {T:String} (t:TagOf H x T) (e:Same H H'):tupOf H' x=tupOf H x:=by
 cases x with
 | ref a=>rcases t with ⟨⟨b,h⟩,_⟩|⟨⟨b,h⟩,_⟩|⟨⟨b,h⟩,_⟩<;>(unfold tupOf;dsimp only;rw [h,e a _ h])
 | _=>rfl
theorem TagOf.same {H H':Hp} {x:V} {T:String} (t:TagOf H x T) (e:Same H H'):TagOf H' x T:=by
 cases x with
 | ref a=>
  rcases t with ⟨⟨b,h⟩,z⟩|⟨⟨b,h⟩,z⟩|⟨⟨b,h⟩,z⟩
  ·exact .inl ⟨⟨b,e a _ h⟩,z⟩
  ·exact .inr (.inl ⟨⟨b,e a _ h⟩,z⟩)
  ·exact .inr (.inr ⟨⟨b,e a _ h⟩,z⟩)
 | _=>exact t
theorem TagOf.tuple {H:Hp} {x:V} (t:TagOf H x "tuple") :∃a xs,x=.ref a/\H a=some (.tup xs):=by
 cases x with
 | ref a=>
  rcases t with ⟨_,z⟩|⟨⟨xs,h⟩,_⟩|⟨_,z⟩
  ·exact absurd z (by decide)
  ·exact ⟨a,xs,rfl,h⟩
  ·exact absurd z (by decide)
 | non=>exact absurd (show "tuple" = "NoneType" from t) (by decide)
 | bl b=>exact absurd (show "tuple" = "bool" from t) (by decide)
 | int i=>exact absurd (show "tuple" = "int" from t) (by decide)
 | str z=>exact absurd (show "tuple" = "str" from t) (by decide)
 | _=>exact t.elim
theorem TagOf.int {H:Hp} {x:V} (t:TagOf H x "int") :∃i,x=.int i:=by
 cases x with
 | ref a=>rcases t with ⟨_,z⟩|⟨_,z⟩|⟨_,z⟩<;>exact absurd z (by decide)
 | non=>exact absurd (show "int" = "NoneType" from t) (by decide)
 | bl b=>exact absurd (show "int" = "bool" from t) (by decide)
 | int i=>exact ⟨i,rfl⟩
 | str z=>exact absurd (show "int" = "str" from t) (by decide)
 | _=>exact t.elim
theorem TagOf.str {H:Hp} {x:V} (t:TagOf H x "str") :∃z,x=.str z:=by
 cases x with
 | ref a=>rcases t with ⟨_,z⟩|⟨_,z⟩|⟨_,z⟩<;>exact absurd z (by decide)
 | non=>exact absurd (show "str" = "NoneType" from t) (by decide)
 | bl b=>exact absurd (show "str" = "bool" from t) (by decide)
 | int i=>exact absurd (show "str" = "int" from t) (by decide)
 | str z=>exact ⟨z,rfl⟩
 | _=>exact t.elim
theorem noInt {H:Hp} {x:V} {T:String} (t:TagOf H x T) (h:T≠"int") (g:Int):z0t x g=false:=by
 cases x with
 | int i=>exact absurd t h
 | _=>rfl
theorem noTup {H:Hp} {x:V} {T:String} (t:TagOf H x T) (h:T≠"tuple"):tupOf H x=none:=by
 cases x with
 | ref a=>
  rcases t with ⟨⟨b,e⟩,_⟩|⟨_,z⟩|⟨⟨b,e⟩,_⟩
  ·unfold tupOf;dsimp only;rw [e]
  ·exact absurd z h
  ·unfold tupOf;dsimp only;rw [e]
 | _=>rfl
theorem z51 {H:Hp} {x:V} {T:String} (t:TagOf H x T) {C:String} (h:C≠"int"):instB T C=decide (T=C):=by
 unfold instB;have:(C == "int")=false:=by simpa using h
 rw [this,G7,Z7,Bool.beq_eq_decide_eq]
def Flat (H:Hp) (x:V):Prop:=∀xs,tupOf H x=some xs->xs.length<=1000/\∀y∈xs,∃T,TagOf H y T
theorem z7i {α β:Type} [BEq α] [LawfulBEq α] {l:List (α×β)} {a:α} {b:β} (h:l.lookup a=some b):(a,b)∈l:=by
 induction l with
 | nil=>cases h
 | cons p r ih=>
  obtain ⟨c,d⟩:=p;rw [R3] at h;cases hc:(a == c) with
  | true=>rw [hc] at h;cases h;rw [eq_of_beq hc];exact Y1
  | false=>rw [hc] at h;exact P2 _ (ih h)
theorem z2z {names:List (Str×W5)} {Q:Str×W5->Prop} (h:(names.all λ y=>y.2 != R1)=true) :∀y∈names,y.2=R1->Q y:=λ y a e=>by have:=List.all_eq_true.mp h y a;rw [e] at this;exact absurd this (by decide)
theorem Same.upd {H:Hp} {p:Addr} {o:HO} (h:H p=none):Same H (upd H p o):=λ b u e=>by rw [upd_ne (z0g e h)];exact e
theorem Same.seqT {K:c0} {H H':Hp} {a:Addr} {xs:List V} (e:Same H H') (h:SqT K H a xs):SqT K H' a xs:=by
 rcases h with (h|⟨o,h⟩)|h
 ·exact .inl (.inl (e _ _ h))
 ·exact .inl (.inr ⟨o,e _ _ h⟩)
 ·exact .inr h
theorem za7 {H:Hp} {x:V} {xs:List V} (h:tupOf H x=some xs) :∃a,x=.ref a/\H a=some (.tup xs):=by
 unfold tupOf at h;cases x with
 | ref a=>
  dsimp only at h;split at h
  ·rename_i ys e;exact ⟨a,rfl,by rw [e,D1 h]⟩
  ·cases h
 | _=>cases h
end L2
namespace L2
open PySem PySem.Spec PyProof.Rows
open Builtin.Str (occurrences partsBetween strKind)
section
variable {X:Cx}
theorem z8n {vl:Value} {lo:Option Int} (p:L8 vl lo) :∃l:Option (Int×Tok),vl=partValue l/\l.map (·.1)=lo:=by
 cases p with
 | none=>exact ⟨none,rfl,rfl⟩
 | int i t=>exact ⟨some (i,t),rfl,rfl⟩
end
end L2
namespace L2
open PySem PySem.Spec PyProof.Rows
section
variable {X:Cx}
def rSlS:V->Option Int->Option Int->Hp->VK->Prop:=λ x lo hi H Q=>∃z,x=.str z/\z.length<=sizeLine/\Q (.str (Txt.slice z lo hi)) H
theorem sl_str:SlR X rSlS:=by
 intro p s σ H x v o j r m n Q I i a d f h;obtain ⟨z,rfl,g,q⟩:=h;obtain ⟨t,rfl⟩:=i;obtain ⟨l,rfl,c⟩:=z8n d;obtain ⟨u,rfl,b⟩:=z8n f;subst c b;refine ⟨"str",_,F.slot_str_getitem.lookup,typeIs_str _ _ _,wpAny_getItem_str_slice (l:=l) (u:=u) (st:=none) a rfl
  (post_val_or_str ⟨F0 (Txt.slice_le z _ _) g,λ e k=>⟨.str (Txt.slice z _ _),H,I.tok k,⟨e,rfl⟩,q⟩⟩)⟩
theorem slSeq:SlR X (λ x lo hi H Q=>rSlL X.K x lo hi H Q\/rSlT X.K x lo hi H Q\/rSlS x lo hi H Q):=sl_list.or (sl_tup.or sl_str)
end
def RowAt (H:Hp) (r:Addr):Prop:=∃a b c:Int,H r=some (.lst [.int a,.int b,.int c])/\0<=c/\c < 536870909
def Kept (r:Addr) (H H':Hp):Prop:=∀b o,b≠r->H b=some o->H' b=some o
theorem Kept.set {r:Addr} {H:Hp} {o:HO}:Kept r H (upd H r o):=λ b u n h=>by rw [upd_ne n];exact h
structure Rw (r:Addr) (H H':Hp):Prop where
 k:Kept r H H'
 r:RowAt H' r
section
variable {r:Addr} {σ:St} {H0:Hp} {K:c0}
theorem g_name {i:Nat} {v:V} {σ:St} {H:Hp} {Q:St->Hp->Prop} (h:Q (σ.set i (some v)) H):gName i v σ H Q:=h
theorem t_nx {nx ct bk:St->Hp->Prop} {rt:VK} {σ:St} {H:Hp} (h:nx σ H):Ends.nx { nx:=nx,rt:=rt,bk:=bk,ct:=ct } σ H:=h
end
end L2
namespace L2
open PySem
section
variable {prog:Program} {w:O0} {A:Z1} {E:Value->y0->Prop} {s:y0}
theorem tupOn {it t:Addr} {i:Nat} {its:Array Value} {x:Value} {Q:Value->y0->Prop} (a:s.heap.IsTupleIter it t i) (b:s.heap.IsTuple t its) (c:its[i]? = some x)
  (q :∀h',h'.IsTupleIter it t (i + 1)->g6 it s.heap h'->Q x { s with heap:=h' }):R0 (Y0 prog w) A (z4 (.ref it)) Q E s:=by
 obtain ⟨o,e,g,d⟩:=id a;obtain ⟨p,h,_,n,f⟩:=b;unfold z4;refine v0 (C7 (name:=T3 "__next__") a.typeIs a5 (B7 a5 a.typeIs B9 (show R0 _ _ (field (.ref it) 0 >>= _) _ _ s from v0 (i6 e d (x:=.ref t) rfl ?_)) (m9 _)));show R0 _ _ (if (F1 t == j5)=true then _ else (field (.ref it) 1 >>= _)) _ _ s;rw [if_neg (by exact M0)];refine v0 (i6 e d (x:=.int i 0) rfl (show R0 _ _ (seqItems? (.ref t) >>= _) _ _ s from v0 (N9 h f ?_)));simp only [m8,c];refine v0 (wpAny_setField e d (by simp) (D0 ⟨x,rfl,D0 (q _ ⟨_,A7 _ e (Obj.isFreed_of_fields (Obj.data_mapFields d _)),(Obj.cls_mapFields ..).trans g,?_⟩ (X2 ..))⟩));rw [Obj.data_mapFields d];simp [S4]
theorem tupOff {it t:Addr} {i:Nat} {its:Array Value} {Q:Value->y0->Prop} (hh:A.handled=none) (a:s.heap.IsTupleIter it t i) (b:s.heap.IsTuple t its) (c:its[i]? = none)
  (q :∀h' e,Heap.ExtBut it s.heap h'->(∃o,h'.get? e=some o/\o.cls=.type "StopIteration")->E (.ref e) { s with heap:=h' }):R0 (Y0 prog w) A (z4 (.ref it)) Q E s:=by
 obtain ⟨o,f,j,d⟩:=id a;obtain ⟨p,h,_,n,g⟩:=b;unfold z4;refine v0 (C7 (name:=T3 "__next__") a.typeIs a5 (B7 a5 a.typeIs B9 (show R0 _ _ (field (.ref it) 0 >>= _) _ _ s from v0 (i6 f d (x:=.ref t) rfl ?_)) (m9 _)));show R0 _ _ (if (F1 t == j5)=true then _ else (field (.ref it) 1 >>= _)) _ _ s;rw [if_neg (by exact M0)];refine v0 (i6 f d (x:=.int i 0) rfl (show R0 _ _ (seqItems? (.ref t) >>= _) _ _ s from v0 (N9 h g ?_)));simp only [m8,c];refine v0 (B8 (v0 (wpAny_setField f d (by simp) (show R0 _ _ (newExc (.type "StopIteration") [] >>= _) _ _ _ from v0 ?_))));simp only [newExc,newTuple];refine v0 (p4 (v0 (m:=firstArgMember _ _) (n9 (a:=j5) (by first|rfl|(simp only [firstArgMember];rfl)) (p4 ?_ (by size_fits)))) (by size_fits));simp only [raiseNew];refine v0 (wpAny_handled ?_);first|rw [show A.in1.handled=none from hh]|rw [hh]
 exact v0 (D0 (wpAny_throw (q _ _ (((X2 ..).extBut.push _).push _) ⟨_,I0 _ rfl,rfl⟩)))
structure ZApart (z T U i j a b:Addr):Prop where
 dis:[z,T,U,i,j].Nodup
 fa:a∉[z,T,U,i,j]
 fb:b∉[z,T,U,i,j]
structure ZAt (h:Heap) (z T U i j a b:Addr) (n:Nat) (f:Value):Prop where
 z:IsZip h z T U f
 t:IsPair h T (.ref i) (.ref j)
 u :∃p q,IsPair h U p q
 i:h.IsTupleIter i a n
 j:h.IsTupleIter j b n
end
end L2
namespace L2
open PySem PySem.Spec PyProof.Rows
inductive Dt where
 | non|bl (b:Bool)|int (i:Int)|str (z:Str)|tup (ds:List Dt)
mutual
noncomputable def IsDt (K:c0) (H:Hp):Dt->V->Prop
 | .non,v=>v=.non
 | .bl b,v=>v=.bl b
 | .int i,v=>v=.int i
 | .str z,v=>v=.str z
 | .tup ds,v=>∃a xs,v=.ref a/\SqT K H a xs/\IsDts K H ds xs
noncomputable def IsDts (K:c0) (H:Hp):List Dt->List V->Prop
 | [],xs=>xs=[]
 | d :: ds,xs=>∃x r,xs=x :: r/\IsDt K H d x/\IsDts K H ds r
end
mutual
noncomputable def Dt.deep:Dt->Nat
 | .tup ds=>Dt.deeps ds + 1
 | _=>0
noncomputable def Dt.deeps:List Dt->Nat
 | []=>0
 | d :: ds=>max d.deep (Dt.deeps ds)
noncomputable def Dt.plain:Dt->Bool
 | .int _=>true
 | .str _=>true
 | .tup ds=>Dt.plains ds
 | _=>false
noncomputable def Dt.plains:List Dt->Bool
 | []=>true
 | d :: ds=>d.plain && Dt.plains ds
end
section
variable {X:Cx}
theorem Inv.turnedL {pins:List (Addr×Obj)} {σ:St} {H:Hp} {s:y0} {h':Heap} {t':Nat} {fp:List Addr} (I:Inv X pins σ H s) (k :∀b o,b∉fp->s.heap.get? b=some o->h'.get? b=some o) (hf :∀b∈fp,FpOk X pins H b) :
  Inv X pins σ H { s with heap:=h',toks:=t' }:=by
 have f :∀b u,H b=some u->b∉fp:=λ b u e z=>by have:=(hf b z).1;rw [this] at e;cases e
 refine I.step (g':=s.gens) (d':=s.drawn) (ch:=fp) (λ b d=>⟨(hf b d).2.2.2.1,(hf b d).2.1,(hf b d).2.2.2.2.1,(hf b d).2.2.2.2.2⟩) (λ b o _ _ a e _=>k b o a e) (λ b o _ _ a e _=>⟨o.slots,k b o a e⟩) (λ _ _ _ _ n=>n)
  (λ b o a e=>⟨o,k b o a e⟩) (λ _ _ e=>e) (λ _ _ _ e=>e) (λ b l e=>⟨#[],by rw [e];simp⟩) (λ m g=>?_) (λ b u e=>?_) I.bare
 ·obtain ⟨o,i,h,j,r⟩:=g;exact ⟨o,i,h,k _ o (λ z=>(hf _ z).2.1 rfl) j,r⟩
 ·refine (I.hok b u e).stay (λ c v a q=>k c v ?_ q) (λ _ q=>q) λ _ _ q=>q;rcases a with z|z
  ·rw [z];exact f b u e
  ·exact f c _ z
theorem Inv.turnedLaid {pins:List (Addr×Obj)} {σ:St} {H:Hp} {s:y0} {h':Heap} {t':Nat} {fp:List Addr} {a:Addr} {o:HO} (I:Inv X pins σ H s) (k :∀b o,b∉fp->s.heap.get? b=some o->h'.get? b=some o) (hf :∀b∈fp,FpOk X pins H b)
  (hp:s.heap.objs.size<=a) (new:ObjOk X.prog X.w (upd H a o) h' a o):Inv X pins σ (upd H a o) { s with heap:=h',toks:=t' }:=by
 have p:H a=none:=I.hok.fresh hp;have h :∀b u,H b=some u->b∉fp:=λ b u e z=>by have:=(hf b z).1;rw [this] at e;cases e
 have g :∀b u,H b=some u->upd H a o b=some u:=λ b u e=>by rw [upd_ne (z0g e p)];exact e
 refine I.step (g':=s.gens) (d':=s.drawn) (ch:=fp) (λ b d=>⟨(hf b d).2.2.2.1,(hf b d).2.1,(hf b d).2.2.2.2.1,(hf b d).2.2.2.2.2⟩) (λ b o _ _ f e _=>k b o f e) (λ b o _ _ f e _=>⟨o.slots,k b o f e⟩)
  (λ b u _ e n=>by rw [upd_ne (λ z=>by subst z;exact absurd (G0 e) (Nat.not_lt.mpr hp))];exact n)
  (λ b o f e=>⟨o,k b o f e⟩) (λ _ _ e=>g _ _ e) (λ _ _ _ e=>g _ _ e) (λ b x e=>⟨#[],by rw [g _ _ e];simp⟩) (λ m i=>?_) (λ b u e=>?_) I.bare
 ·obtain ⟨o,j,t,l,r⟩:=i;exact ⟨o,j,t,k _ o (λ z=>(hf _ z).2.1 rfl) l,r⟩
 ·by_cases d:b=a
  ·subst d;rw [z01] at e;cases e;exact new
  ·rw [upd_ne d] at e;refine (I.hok b u e).stay (λ c v f q=>k c v ?_ q) (λ c q=>g _ _ q) λ c y q=>g _ _ q;rcases f with z|z
   ·rw [z];exact h b u e
   ·exact h c _ z
theorem z12 {o e:Expr} {es:List Expr} {to:TE} {t:TA} {apos cpos:Pos} (ho:PE X o to) (ha:PA X (e :: es) t)
  (hbase:a7 o "append" X.env (W3 o X.env)=W3 o X.env:=by rfl)
  (hfew:((G4 cpos (G1 (e :: es) X.env)).all (λ x=>!x.1) && (backToKw cpos (q9 [] X.env)).all (λ x=>x.1.isSome)
   && decide ((e :: es).length + ([]:List P7).length + (if ([]:List P7).isEmpty then 0 else 1) < 30))=true:=by rfl)
  (hline:(apos.endLine == cpos.line)=true:=by rfl) (hs:G1 (e :: es) X.env=(false,W3 e X.env) :: G1 es X.env:=by rfl) (hplain:(G4 cpos (G1 es X.env)).any (·.1)=false:=by rfl) :
  PE X (.Call (.Attribute o "append" apos) (e :: es) [] cpos) (tBM X.K "list" za3 to t):=pe_bm PySem.F.plainAttrs_list PySem.F.slot_list_append PySem.F.type_list_append zdp ho ha hbase hfew hline hs hplain
end
theorem SqT.wrote {K:c0} {H:Hp} {l a:Addr} {o:HO} {zs xs:List V} (e:H l=some (.lst zs)) (h:SqT K H a xs):SqT K (upd H l o) a xs:=by
 rcases h with (h|⟨ob,h⟩)|h
 ·exact .inl (.inl (by rw [upd_ne (ne_of h e (by intro z;cases z))];exact h))
 ·exact .inl (.inr ⟨ob,by rw [upd_ne (ne_of h e (by intro z;cases z))];exact h⟩)
 ·exact .inr h
theorem iteP {c A B:Prop} [Decidable c] (hc:c) (h:A):if c then A else B:=by rw [if_pos hc];exact h
theorem iteN {c A B:Prop} [Decidable c] (hc:¬ c) (h:B):if c then A else B:=by rw [if_neg hc];exact h
theorem zff {names:List (Str×W5)} {n:Str} {Q:Str×W5->Prop} (h:(names.all λ y=>y.2 != R1 || y.1 == n)=true) (q :∀k,Q (n,k)) :∀y∈names,y.2=R1->Q y:=λ y c e=>by
 have:=List.all_eq_true.mp h y c;rw [e] at this;have:(y.1 == n)=true:=by simpa using this
 obtain ⟨a,b⟩:=y;rw [beq_iff_eq] at this;have:a=n:=this;subst this;exact q b
noncomputable def CXE (P:Program) (w:O0) (base:Heap):CXT:=λ outer H s E e s'=>∃(ea:Addr) (cls a0:Value) (B:Heap) (H':Hp),e=.ref ea/\s'.os=s.os/\Y6 s'.gens/\Un (frs outer) [] H H' s.heap s'.heap/\HOk P w H' s'.heap/\H' ea=none/\
 base.StaysIn B/\Heap.FlyingW B outer ea cls a0 s'.heap/\(∀b o,s'.heap.get? b=some o->b∉frs outer->((∃u,H' b=some u)\/∃u,s.heap.get? b=some u)->B.get? b=some o)/\E cls none H'
structure CalE (P:Program) (w:O0) (K:c0) (mg:Str->Option Value) (base:Heap) (x:Str) (ps:List Str) (k:Nat) (sp:Sp):Prop where
 ex :∃f fd,FnOk P w K mg base (CXE P w base) k f fd ps sp/\mg x=some (.ref f)/\n4 K (.ref f)=true/\Binds K fd ps []
end L2
set_option maxHeartbeats 400000
namespace L2
open PySem PySem.Spec PyProof.Rows PySem.W PySem.Calls PySem.Builtin PySem.Builtin.ObjectAttr PySem.Builtin.Getset_descriptor
end L2
namespace L2
open PySem PySem.Spec PyProof.Rows PySem.W
end L2
namespace L2
open PySem PySem.Spec PyProof.Rows
end L2
set_option maxHeartbeats 4000000
namespace L2
open PySem PySem.Spec PyProof.Rows
noncomputable def cStG (σ:St) (fr:List (Nat×Str)) (us:List (Option V)):St:=us++fr.map λ p=>(σ[p.1]?).join
noncomputable def tCompG (wi:TI) (n:Nat) (fr:List (Nat×Str)) (g:TG) (tc:TT) (te:TE):TE:=λ σ H Q=>wi σ H λ J H1=>∃W:Nat->Nat->List V->Hp->Prop,(∃m,W 0 m [] H1)/\∀i m ys H,W i m ys H->
 (J.stop i H/\ys.length<=sizeLine/\∀p,H p=none->Q (.ref p) (upd H p (.lst ys)))\/
 (J.go i H/\ys.length<=sizeLine/\∀v H',J.yld i H v H'->g v (cStG σ fr (V2 n none)) H' λ σ6 H6=>∃us,us.length=n/\σ6=cStG σ fr us/\tc (cStG σ fr us) H6 λ b H2=>if b=true then te (cStG σ fr us) H2 λ y H3=>∃m',m' < m/\W (i + 1) m' (ys++[y]) H3 else∃m',m' < m/\W (i + 1) m' ys H2)
section
variable {X:Cx}
theorem zfg {scope:Scope} {cl:List (Str×Addr)} {N:List Str} {C:Addr} {s₂:y0} {H₂:Hp} {fp:List Addr} {x:Str} {px:Pos} (i:Nat) (hN:N.Nodup) (hi:N[i]? = some x) (hx:scope.names.lookup x=some .local):PG (cxComp X scope cl N C s₂ H₂ fp) (.Name x px) (gName i):=
 z0m hN hi (.inl (lookup_relabel_local hx)) (.inr (lookup_relabel_local hx))
theorem zcb {xs:List Str} {tg:Expr} {g:TG} {pos:Pos} {elt iter:Expr} {ifs:List Expr} {scope:Scope} {fr:List (Nat×Str)} {wi:TI} {tc:TT} {te:TE} {use:Option (Value->Sem Unit)} {QQ:Value->y0->Prop} {pins:List (Addr×Obj)} {s:y0} {σ:St} {H:Hp} {Q:VK} {pp:Pos} (hcalm:X.calm=true) (hi:PI X tg iter wi)
  (hfr :∀p∈fr,X.N[p.1]? = some p.2/\(X.env.kindOf p.2=some .cell\/X.env.kindOf p.2=some .free))
  (hfree :∀y∈scope.names,y.2=R1->X.env.kindOf y.1=some .cell\/X.env.kindOf y.1=some .free)
  (hfs :∀p∈fr,(p.2,R1)∈scope.names/\((R6 scope X.env).names.lookup p.2=some .cell\/(R6 scope X.env).names.lookup p.2=some .free))
  (hcell :∀y∈scope.names,y.2≠NameKind.cell) (hkind:scope.kind=.function) (hnames :∀y∈scope.names,y.2=NameKind.local->scope.names.lookup y.1=some .local)
  (hg :∀cl C s₂ H₂ fp,PG (cxComp X scope cl (xs++fr.map (·.2)) C s₂ H₂ fp) tg g)
  (ht :∀cl C s₂ H₂ fp,PF (cxComp X scope cl (xs++fr.map (·.2)) C s₂ H₂ fp) ifs tc) (he :∀cl C s₂ H₂ fp,PE (cxComp X scope cl (xs++fr.map (·.2)) C s₂ H₂ fp) elt te)
  (hs :∀x,V4 iter X.env x=S3 x) (I:Inv X pins σ H s) (h:tCompG wi xs.length fr g tc te σ H Q)
  (hend :∀(D:Addr) (s4:y0) (H4:Hp),Inv X pins σ H4 s4->(∃m,s4.heap.Ns (D + 1) m)->H4 (D + 1)=none->D + 1≠X.env.locals->X.s₀.heap.objs.size<=D + 1->(D + 1∉X.fs/\(∀x c,X.env.cells.lookup x=some c->c≠D + 1)/\∀p∈X.pn++pins,p.1≠D + 1)->Q (.ref D) H4->compPost (Y0 X.prog X.w) X.A X.xe use QQ (.ref D) (D + 1) (.ok .next) s4) :
  R0 (Y0 X.prog X.w) X.A (comprehension (.ListComp elt [⟨tg,iter,ifs,0⟩] scope pos) scope X.env pp (newList []) false (firstIter [⟨tg,iter,ifs,0⟩] X.env) use) QQ X.xe s:=by
 obtain ⟨cl,e7,U,b8⟩:=zch (scope:=scope) (env:=X.env) λ y S hk=>I.ok.has y.1 (hfree y S hk);refine wpAny_comprehension_free (use:=use) rfl hs e7 hkind hnames (thn (hi pins s σ H _ I h) λ xv s₁ h₁=>thn h₁ λ g2 s₂ h₂=>?_);obtain ⟨it,fp,tn,J,M,e,f,T,b1,L,W,⟨m0,w0⟩,f8⟩:=h₂;subst e
 -- the list that is filled,the block's names
 refine p4 (wpAny_newFunctionEnv hcell (by intro y S;simp at S) (λ h₁ a3 a0=>?_) hkind);dsimp only at a3 a0⊢;generalize hD:s₂.heap.objs.size=D at a3 a0⊢;generalize hG:s₂.heap.push { cls:=.type "list",dict:=none,data:=.seq ([]:List Value).toArray }=G at a3 a0⊢;have hC:G.objs.size=D + 1:=by rw [<-hG,Y3,hD]
 generalize hCC:G.objs.size=C at a3 a0 hC⊢;subst hC;have a9 :∀b∈fp,b < D:=λ b a=>by obtain ⟨o,e,_⟩:=T.obj _ _ b1 b a;rw [<-hD];exact G0 e
 have a1 :∀b o,s₂.heap.get? b=some o->h₁.get? b=some o:=λ b o e=>a0.extBut b o (Q0 (i1 (by rw [<-hD];exact G0 e))) (x0 _ (hG ▸ x0 _ e));have f7:G.get? D=some { cls:=.type "list",dict:=none,data:=.seq ([]:List Value).toArray }:=by rw [<-hG,<-hD];exact I0 _ rfl
 have f0:h₁.PlainList D #[]:=⟨0,a0.extBut _ _ (Q0 (D2 D)) (x0 _ f7)⟩
 have d9 :∀y c,cl.lookup y=some c->c < D:=λ y c e=>by obtain ⟨v,q⟩:=f.cell y c (U y c e);rw [<-hD];exact q.lt
 have g1 :∀b∈frs X.stack,b < D:=λ b a=>by
  rcases List.mem_cons.mp (f.stkSub b a) with e|a
  ·rw [e,<-hD];exact f.lt
  ·rw [<-hD];exact Nat.lt_of_not_le λ z=>f.nofs z a
 have c4 :∀b∈fp,b∉frs X.stack:=λ b a e5=>by
  rcases List.mem_cons.mp (f.stkSub b e5) with e|z
  ·exact (L b a).2.1 e
  ·exact (L b a).2.2.1 z
 generalize hX':cxComp X scope cl (xs++fr.map (·.2)) (D + 1) s₂ M fp=X';have e4:X'.Ok:=by
  subst hX';refine ⟨f.ok.mod,hkind,f.ok.glob,f.ok.blt,(by show s₂.heap.objs.size<=D + 1;omega),λ y z c P O=>f.ok.inj y z c (U _ _ P) (U _ _ O),λ y S=>?_,(λ _ _ z=>Bool.noConfusion z),f.ok.hd,f.ok.frames,.inl rfl,λ b a=>⟨?_,λ y c e=>?_⟩,λ b o e=>f.bs b o e,?_,λ b o e a=>?_,c4,f.env0.funs,f.stkFree⟩
  ·rcases S with S|S
   ·exact b8 y (z3u hcell S (.inl rfl))
   ·exact b8 y (z3u hcell S (.inr rfl))
  ·exact Q0 (i1 (a9 b a))
  ·exact (L b a).2.2.2.2.1 y c (U y c e)
  ·exact F0 f.ok.bsz f.sz
  ·rcases (L b a).2.2.2.1 with z|z
   ·exact f.ok.noex b o e z
   ·exact absurd (V0 (G0 (f.ok.bs b o e).1) z) (Y2 _)
 have Y:X'.env.locals=D + 1:=by subst hX';rfl
 have a4:X'.env.cells=cl:=by subst hX';rfl
 have b0:X'.fs=frs X.stack:=by subst hX';rfl
 have b4:X'.pn=[]:=by subst hX';rfl
 have a5:X'.s₀=s₂:=by subst hX';rfl
 have c2:X'.H₀=M:=by subst hX';rfl
 have b2:X'.ex=fp:=by subst hX';rfl
 have d1:X'.N=xs++fr.map (·.2):=by subst hX';rfl
 have c8:X'.A=X.A:=by subst hX';rfl
 have E:X'.prog=X.prog/\X'.w=X.w/\X'.K=X.K/\X'.calm=true:=by subst hX';exact ⟨rfl,rfl,rfl,hcalm⟩
 have b6:X'.xe=λ _ _=>False:=by subst hX';rfl
 have c1:X'.env=compEnvC scope cl (D + 1) X.env:=by subst hX';rfl
 have d8:PF X' ifs tc:=hX' ▸ ht cl (D + 1) s₂ M fp;have e0:PE X' elt te:=hX' ▸ he cl (D + 1) s₂ M fp;have f6:PG X' tg g:=hX' ▸ hg cl (D + 1) s₂ M fp;have fresh :∀b,D<=b->M b=none:=λ b a=>f.hok.fresh (by rw [hD];exact a);have start :∀t,Inv X' [] (cStG σ fr (V2 xs.length none)) M { s₂ with heap:=h₁,toks:=t }:=λ t=>by
  refine ⟨e4,by rw [a5],f.bare,?_,⟨_,by rw [Y];exact a3,λ i y v P O e3=>?_⟩,λ y c e=>?_,by rw [Y];exact fresh _ (Y5 _),λ y c e=>?_,λ p B=>?_,?_,?_⟩
  ·rw [b0,b2,c2,a5];exact Un.kept a1
  ·rw [d1] at P;by_cases a2:i < xs.length
   ·exfalso;unfold cStG at O;rw [j3 (by rw [O3];exact a2),M6,if_pos a2] at O;cases O
   ·have a2:xs.length<=i:=G8 a2;rw [W2 a2,T0] at P;unfold cStG at O;rw [W2 (by rw [O3];exact a2),O3,T0] at O;generalize i - xs.length=i at P O;cases ej:fr[i]? with
    | none=>rw [ej] at P;cases P
    | some p=>
     rw [ej] at P;obtain rfl:p.2=y:=D1 P;have a6:(σ[p.1]?).join=some v:=by rw [ej] at O;exact D1 O
     have f4:σ[p.1]? = some (some v):=by
      cases q:σ[p.1]? with
      | none=>rw [q] at a6;cases a6
      | some z=>rw [q] at a6;exact congrArg some a6
     have B:=d0 ej;obtain ⟨m,hn,hl⟩:=f.loc;obtain ⟨u,r,l⟩:=hl p.1 p.2 v (hfr p B).1 f4 (by rcases (hfr p B).2 with z|z;exact .inr (.inl z);exact .inr (.inr z));refine ⟨u,r,.inr ⟨?_,?_⟩⟩
     ·rw [c1];exact (hfs p B).2
     ·rcases l with ⟨z,_⟩|⟨_,c,ec,q⟩
      ·exfalso;rcases (hfr p B).2 with z'|z'<;>(rw [z] at z';cases z')
      ·obtain ⟨c',c0⟩:=b8 p.2 (hfs p B).1;have:=U _ _ c0;rw [ec] at this;cases this;obtain ⟨o,ho,hd⟩:=q;exact ⟨c,by rw [a4];exact c0,o,a1 _ _ ho,hd⟩
  ·rw [a4] at e;obtain ⟨v,o,ho,hd⟩:=f.cell y c (U y c e);exact ⟨v,o,a1 _ _ ho,hd⟩
  ·rw [a4] at e;exact f.freeC y c (U y c e)
  ·rw [b4] at B;exact nomatch B
  ·rw [E.1,E.2.1];exact f.hok.kept a1
  ·rw [d1];unfold cStG;simp
 have FP :∀{pins':List (Addr×Obj)} {H':Hp},(∀b∈fp,H' b=none)->(∀p∈pins',p.1=D)->∀b∈fp,FpOk X' pins' H' b:=λ hn B b a=>by
  refine ⟨hn b a,?_,?_,.inl (by rw [b2];exact a),λ y c e=>?_,λ p c3=>?_⟩
  ·rw [Y];exact Q0 (i1 (a9 b a))
  ·rw [b0];exact c4 b a
  ·rw [a4] at e;exact (L b a).2.2.2.2.1 y c (U y c e)
  ·rw [b4] at c3;rw [B p c3];exact A2 (a9 b a)
 -- the turns
 have loop :∀s₃:y0,s₃={ s₂ with heap:=h₁,toks:=s₂.toks + ([]:List (Str×Value)).length }->
   C5 (Y0 X.prog X.w) X.A (.compLoop (.ListComp elt [⟨tg,iter,ifs,0⟩] scope pos) 0 (.ref it) (.ref D) (compEnvC scope cl (D + 1) X.env))
    (compPost (Y0 X.prog X.w) X.A X.xe use QQ (.ref D) (D + 1)) s₃:=by
  rintro s₃ rfl;rw [<-c1,<-E.1,<-E.2.1,<-c8];refine zdu (λ k s'=>∃i ys its H',Inv X' [] (cStG σ fr (V2 xs.length none)) H' s'/\tn i s'.heap/\(∀b∈fp,H' b=none)/\s'.heap.PlainList D its.toArray/\Vals ys its/\H' D=none/\W i k ys H') ?_ m0
   ⟨0,[],[],M,start _,T.keep _ _ _ b1 λ b a o e=>a1 b o e,λ b a=>(L b a).1,f0,.nil,fresh _ (A0 _),w0⟩
  rintro n s3 ⟨i,ys,its,H3,I3,st3,fr3,ac3,rv3,hD3,w3⟩;obtain ⟨na,d5⟩:=id ac3;have c6:Inv X' [(D,{ cls:=.type "list",data:=.seq its.toArray na })] (cStG σ fr (V2 xs.length none)) H3 s3:=I3.pins_of λ p B=>by rw [List.mem_singleton] at B;subst B;refine ⟨d5,hD3,by rw [Y];exact Q0 (D2 D),by rw [b0];exact λ z=>Y2 _ (g1 D z),λ v z=>nomatch z⟩
  have hT:=T;rw [<-E.1,<-E.2.1,<-E.2.2.1] at hT;rcases f8 i n ys H3 w3 with ⟨f9,b9,qn⟩|⟨go,b9,step⟩
  ·refine thn (hT.done X' rfl rfl rfl E.2.2.2 i _ s3 _ H3 _ c6 (FP fr3 (by intro p B;rw [List.mem_singleton.mp B])) st3 f9) λ r s4 ⟨hr,I4⟩=>?_;subst hr;obtain ⟨m4,d7,_⟩:=id I4.loc;obtain ⟨h',c5⟩ :∃h',h'=s4.heap:=⟨_,rfl⟩
   have c9:g6 (D + 1) s4.heap h':=by rw [c5];exact ⟨rfl,λ _ _=>rfl⟩
   have d4:D≠D + 1:=Q0 (D2 D);have f1:=(I4.pin (D,_) (P0 _ Y1))
   have d6:h'.get? D=some { cls:=.type "list",data:=.seq its.toArray na }:=(c9.2 D d4).trans f1.1;have un:Un (frs X.stack) fp M H3 s₂.heap s4.heap:=by have:=I4.base;rw [b0,b2,c2,a5] at this;exact this
   have kp :∀b o,b≠D + 1->s4.heap.get? b=some o->h'.get? b=some o:=λ b o a e=>(c9.2 b a).trans e;have a8 :∀b o,s₂.heap.get? b=some o->b≠D + 1/\b≠D:=λ b o e=>by have:=G0 e;rw [hD] at this;exact ⟨Q0 (i1 this),Q0 this⟩
   have g0:Un (frs X.stack) fp M (upd H3 D (.lst ys)) s₂.heap h':=by
    refine ⟨λ b o e n a Z=>kp b o (a8 b o e).1 (un.keep b o e n a Z),λ b o e n a Z=>?_,λ b o e n Z=>by rw [upd_ne (a8 b o e).2];exact un.free b o e n Z,λ b o e Z=>?_,λ b xs e=>?_,λ b o u e=>?_,λ b ps e=>?_⟩
    ·obtain ⟨sl,z⟩:=un.slot b o e n a Z;exact ⟨sl,kp _ _ (a8 b o e).1 z⟩
    ·obtain ⟨o',z⟩:=un.there b o e Z;exact ⟨o',kp _ _ (a8 b o e).1 z⟩
    ·rw [upd_ne (z0g e (fresh D (A0 _)))];exact un.tups b xs e
    ·rw [upd_ne (z0g e (fresh D (A0 _)))];exact un.frzs b o u e
    ·rw [upd_ne (z0g e (fresh D (A0 _)))];exact un.tbls b ps e
   have b7:H3 (D + 1)=none:=by have:=I4.free;rw [Y] at this;exact this
   have f5:HOk X.prog X.w (upd H3 D (.lst ys)) h':=λ b u e=>by
    by_cases a:b=D
    ·subst a;rw [z01] at e;cases e;exact ⟨b9,its,na,rv3,d6⟩
    ·rw [upd_ne a] at e;have z:=I4.hok b u e;rw [E.1,E.2.1] at z;refine z.stay (λ c v hc q=>kp c v ?_ q) (λ c q=>by rw [upd_ne (z0g q hD3)];exact q) λ c xs q=>by rw [upd_ne (z0g q hD3)];exact q
     rintro rfl;rcases hc with rfl|hc
     ·rw [b7] at e;cases e
     ·rw [b7] at hc;cases hc
   subst c5;have I5:Inv X pins σ (upd H3 D (.lst ys)) s4:=f.call' (s':=s4) (ch:=fp) (by have:=I4.os;rw [a5] at this;exact this) g0 f5 I4.bare (λ b a=>⟨(L b a).2.2.2.1,(L b a).2.1,(L b a).2.2.2.2.1,(L b a).2.2.2.2.2⟩);show compPost (Y0 X'.prog X'.w) X'.A X.xe use QQ (.ref D) (D + 1) (.ok .next) s4;rw [E.1,E.2.1,c8];refine hend D s4 _ I5 ⟨m4,Y ▸ d7⟩ ?_ ?_ ?_ ?_ (qn D hD3)
   ·rw [upd_ne (A2 (D2 D))];exact b7
   ·exact A2 (i1 (by rw [<-hD];exact f.lt))
   ·exact F0 f.sz (by rw [hD];exact Y5 D)
   ·refine ⟨λ z=>f.nofs (by rw [hD];exact Y5 D) z,λ y c e=>?_,λ p B=>?_⟩
    ·obtain ⟨v,q⟩:=f.cell y c e;exact Q0 (i1 (by rw [<-hD];exact q.lt))
    ·exact Q0 (i1 (by rw [<-hD];exact G0 (f.pin p B).1))
  ·refine thn (hT.item X' rfl rfl rfl E.2.2.2 i _ s3 _ H3 _ c6 (FP fr3 (by intro p B;rw [List.mem_singleton.mp B])) st3 go) λ r s4 ⟨u,hr,h4⟩=>?_;subst hr;refine thn h4 λ _ s5 ⟨v,H5,I5,r5,y5,st5,fr5⟩=>?_;have d3:=I5.pinned (FP fr5 (by intro p B;rw [List.mem_singleton.mp B])) (T.obj _ _ st5);have g5:=f6 _ s5 (cStG σ fr (V2 xs.length none)) H5 v u _ d3 r5 (step v H5 y5);rw [b6] at g5;refine thn g5 λ _ s6 ⟨σ6,H6,I6,us,hus,e6,q6⟩=>?_;subst e6;have t6:=d8 _ s6 _ H6 _ I6 q6;rw [b6] at t6;refine thn t6 λ ok s7 ⟨H7,I7,q7⟩=>?_;have d2 :∀{H8:Hp} {F:y0} {ys':List V} {its':List Value} {pl:List (Addr×Obj)},Inv X' (pl++pinsAt fp s5.heap) (cStG σ fr us) H8 F->F.heap.PlainList D its'.toArray->Vals ys' its'->H8 D=none->(∃m',m' < n/\W (i + 1) m' ys' H8)->
     ∃m,m < n/\∃i ys its H',Inv X' [] (cStG σ fr (V2 xs.length none)) H' F/\tn i F.heap/\(∀b∈fp,H' b=none)/\F.heap.PlainList D its.toArray/\Vals ys its/\H' D=none/\W i m ys H':=λ {H8 F ys' its' pl} R b3 rv8 a7 ⟨m',hm,w8⟩=>by
    refine ⟨m',hm,i + 1,ys',its',H8,(R.pins_of (pins':=[]) (λ p B=>absurd B B0)).weak (by unfold cStG;simp [hus]) ?_,T.keep _ _ _ st5 λ b a o e=>(R.pin (b,o) (P0 _ (P0 _ (z10 a e)))).1,λ b a=>?_,b3,rv8,a7,w8⟩
    ·intro j z e;unfold cStG at e⊢;by_cases hj:j < xs.length
     ·rw [j3 (by rw [O3];exact hj),M6,if_pos hj] at e;cases e
     ·have hj:xs.length<=j:=G8 hj;rw [W2 (by rw [O3];exact hj),O3] at e;rw [W2 (by rw [hus];exact hj),hus];exact e
    ·obtain ⟨o,e,d⟩:=T.obj _ _ st5 b a;exact (R.pin (b,o) (P0 _ (P0 _ (z10 a e)))).2.1
   have b5 :∀{H8:Hp} {F:y0} {σ8:St},Inv X' ([(D,{ cls:=.type "list",data:=.seq its.toArray na })]++pinsAt fp s5.heap) σ8 H8 F->F.heap.PlainList D its.toArray/\H8 D=none:=λ R=>
    have z:=R.pin (D,_) (P0 _ (Q4 _ Y1))
    ⟨⟨na,z.1⟩,z.2.1⟩
   cases ok with
   | false=>rw [if_neg M0] at q7⊢;exact d2 I7 (b5 I7).1 rv3 (b5 I7).2 q7
   | true=>
    rw [if_pos rfl] at q7⊢;have t7:=e0 _ s7 _ H7 _ I7 q7;rw [b6] at t7;refine thn t7 λ y F ⟨vy,H8,R,r8,q8⟩=>?_;obtain ⟨b3,a7⟩:=b5 R;refine wpAny_list_append_plain (hsz:=by have:=rv3.length;rw [N0,<-this];exact b9) b3 λ h9 c7 e8=>?_;have I9:Inv X' ([]++pinsAt fp s5.heap) (cStG σ fr us) H8 F:=R.pins_of λ p B=>(R.pin p (P0 _ (P0 _ B)))
    have f3:Inv X' ([]++pinsAt fp s5.heap) (cStG σ fr us) H8 { F with heap:=h9 }:=by
     refine I9.turned (t':=F.toks) (it:=D) (λ b o a e=>(e8.2 b a).trans e) a7 (by rw [Y];exact Q0 (D2 D)) (.inr (by rw [a5,hD];exact A0 _)) (λ y' c e=>?_) λ p B=>?_
     ·rw [a4] at e;exact Q0 (d9 y' c e)
     ·rw [b4] at B;exact Q0 (a9 _ (z8l B).1)
    have e9:its.toArray.push y=(its++[y]).toArray:=by simp
    rw [e9] at c7;exact d2 f3 c7 (rv3.snoc r8) a7 q8
 exact codeAny_compStart_list (loop _ rfl) (T.self _ 0 _ _ _ (T.keep _ _ _ b1 λ b a o e=>a1 b o e) (loop _ rfl))
theorem zf0 {xs:List Str} {tg:Expr} {g:TG} {pos:Pos} {elt iter:Expr} {ifs:List Expr} {scope:Scope} {fr:List (Nat×Str)} {wi:TI} {tc:TT} {te:TE} (hcalm:X.calm=true) (hi:PI X tg iter wi)
  (hfr :∀p∈fr,X.N[p.1]? = some p.2/\(X.env.kindOf p.2=some .cell\/X.env.kindOf p.2=some .free))
  (hfree :∀y∈scope.names,y.2=R1->X.env.kindOf y.1=some .cell\/X.env.kindOf y.1=some .free)
  (hfs :∀p∈fr,(p.2,R1)∈scope.names/\((R6 scope X.env).names.lookup p.2=some .cell\/(R6 scope X.env).names.lookup p.2=some .free))
  (hcell :∀y∈scope.names,y.2≠NameKind.cell) (hkind:scope.kind=.function) (hnames :∀y∈scope.names,y.2=NameKind.local->scope.names.lookup y.1=some .local)
  (hg :∀cl C s₂ H₂ fp,PG (cxComp X scope cl (xs++fr.map (·.2)) C s₂ H₂ fp) tg g)
  (ht :∀cl C s₂ H₂ fp,PF (cxComp X scope cl (xs++fr.map (·.2)) C s₂ H₂ fp) ifs tc) (he :∀cl C s₂ H₂ fp,PE (cxComp X scope cl (xs++fr.map (·.2)) C s₂ H₂ fp) elt te)
  (hs :∀x,V4 iter X.env x=S3 x:=by intro _;rfl):PE X (.ListComp elt [⟨tg,iter,ifs,0⟩] scope pos) (tCompG wi xs.length fr g tc te):=by
 intro t s σ H Q I h;rw [eval_ListComp];refine zcb hcalm hi hfr hfree hfs hcell hkind hnames hg ht he hs I h λ D j l k a d i n ⟨c,hc,hp⟩ q=>?_;obtain ⟨m,a⟩:=a;exact ⟨m,a,λ r f=>⟨.ref D,l,k.turned (t':=j.toks) (it:=D + 1) (λ b o c e=>(f.2 b c).trans e) d i (.inr n) hc hp,rfl,q⟩⟩
theorem z6r {xs:List Str} {tg:Expr} {g:TG} {pos:Pos} {elt iter:Expr} {ifs:List Expr} {scope:Scope} {fr:List (Nat×Str)} {wi:TI} {tc:TT} {te:TE} {i:Nat} {y:Str} {py spos:Pos} (hNy:X.N.Nodup) (hiy:X.N[i]? = some y) (hy:Loc X.env.scope y) (hcalm:X.calm=true) (hi:PI X tg iter wi)
  (hfr :∀p∈fr,X.N[p.1]? = some p.2/\(X.env.kindOf p.2=some .cell\/X.env.kindOf p.2=some .free))
  (hfree :∀y∈scope.names,y.2=R1->X.env.kindOf y.1=some .cell\/X.env.kindOf y.1=some .free)
  (hfs :∀p∈fr,(p.2,R1)∈scope.names/\((R6 scope X.env).names.lookup p.2=some .cell\/(R6 scope X.env).names.lookup p.2=some .free))
  (hcell :∀y∈scope.names,y.2≠NameKind.cell) (hkind:scope.kind=.function) (hnames :∀y∈scope.names,y.2=NameKind.local->scope.names.lookup y.1=some .local)
  (hg :∀cl C s₂ H₂ fp,PG (cxComp X scope cl (xs++fr.map (·.2)) C s₂ H₂ fp) tg g)
  (ht :∀cl C s₂ H₂ fp,PF (cxComp X scope cl (xs++fr.map (·.2)) C s₂ H₂ fp) ifs tc) (he :∀cl C s₂ H₂ fp,PE (cxComp X scope cl (xs++fr.map (·.2)) C s₂ H₂ fp) elt te)
  (hs :∀x,V4 iter X.env x=S3 x:=by intro _;rfl) (hw:e8 (.ListComp elt [⟨tg,iter,ifs,0⟩] scope pos) (some (.Name y py)) spos.line X.env=S3 true:=by rfl) (hf:X.fn y=true\/X.env.scope.names.lookup y=some .local:=by first|exact .inl rfl|exact .inr rfl|assumption) :
  PS X (.Assign [.Name y py] (.ListComp elt [⟨tg,iter,ifs,0⟩] scope pos) spos) (tAsg (tCompG wi xs.length fr g tc te) (gName i)):=by
 intro r s σ H D I h;rw [exec_Assign_Name_used y py _ spos hw];refine v0 (wpAny_standAt (v0 ?_));show R0 _ _ (do let _ <-comprehension (.ListComp elt [⟨tg,iter,ifs,0⟩] scope pos) scope X.env (firstIterPos [⟨tg,iter,ifs,0⟩] pos) (newList []) (firstAsync [⟨tg,iter,ifs,0⟩]) (firstIter [⟨tg,iter,ifs,0⟩] X.env) (some (assign (.Name y py) X.env));S3 ()) _ _ _;refine v0 (zcb hcalm hi hfr hfree hfs hcell hkind hnames hg ht he hs I h λ A j t k d M f K ⟨c,hc,hp⟩ q=>?_);obtain ⟨m,d⟩:=d;obtain ⟨o,w,L,F,hd,J,u⟩:=d;have E:Inv X ((A + 1,o) :: r) σ t j:=k.pins_of λ p a=>by
  rcases List.mem_cons.mp a with rfl|a
  ·exact ⟨F,M,f,c,λ v z=>by rw [hd] at z;cases z⟩
  ·exact k.pin p (P0 _ a)
 refine thn (z0m (pos:=py) hNy hiy hy hf _ j σ t (.ref A) (.ref A) D.nx E rfl q) λ _ n ⟨σ5,H5,I6,q6⟩=>?_;have l:=I6.pin (A + 1,o) (P0 _ Y1);have G:Inv X r σ5 H5 n:=I6.pins_of λ p a=>I6.pin p (P0 _ (P2 _ a));refine ⟨m,⟨o,w,L,l.1,hd,J,u⟩,λ O B=>?_⟩;exact D0 (D0 ⟨σ5,H5,G.turned (t':=n.toks) (it:=A + 1) (λ b o c e=>(B.2 b c).trans e) l.2.1 f (.inr K) hc hp,q6⟩)
end
end L2
set_option maxHeartbeats 400000
namespace L2
open PySem PySem.Spec PyProof.Rows
theorem z6b {t rest:TS} {D:Ends} {σ:St} {H:Hp} (R:St->Hp->Prop) (hr :∀σ1 H1,R σ1 H1->rest D σ1 H1) (h:(∀σ1 H1,R σ1 H1->rest D σ1 H1)->t { D with nx:=rest D } σ H):tSeq t rest D σ H:=h hr
theorem z0c {te:TE} {g:TG} {rest:TS} {D:Ends} {σ:St} {H:Hp} (h:te σ H λ x H1=>g x σ H1 (rest D)):tSeq (tAsg te g) rest D σ H:=h
structure Runs (J:It) (H1:Hp) (n:Nat) (Item:Nat->V->Hp->Prop):Prop where
 go :∀i,i < n->∀H,Same H1 H->J.go i H
 stop :∀H,Same H1 H->J.stop n H
 item :∀i,i < n->∀H v H',Same H1 H->J.yld i H v H'->Same H H'/\Item i v H'
theorem z1b (p:Nat->Bool) (n:Nat):(N1 (n + 1)).filter p=(N1 n).filter p++(if p n=true then [n] else []):=by rw [O8,F2,S5];cases p n<;>rfl
inductive All2 {α β:Type} (R:α->β->Prop):List α->List β->Prop
 | nil:All2 R [] []
 | cons {a:α} {b:β} {xs:List α} {ys:List β}:R a b->All2 R xs ys->All2 R (a :: xs) (b :: ys)
theorem z36 {α β:Type} {R:α->β->Prop} :∀{xs:List α} {ys:List β} {x:α} {y:β},All2 R xs ys->R x y->All2 R (xs++[x]) (ys++[y])
 | [],_,x,y,.nil,h=>.cons h .nil
 | _ :: _,_,x,y,.cons a r,h=>.cons a (z36 r h)
theorem z02 {α β:Type} {R S:α->β->Prop} (h :∀a b,R a b->S a b) :∀{xs:List α} {ys:List β},All2 R xs ys->All2 S xs ys
 | [],_,.nil=>.nil
 | _ :: _,_,.cons a r=>.cons (h _ _ a) (z02 h r)
theorem z04 {α β:Type} {R:α->β->Prop} :∀{xs:List α} {ys:List β},All2 R xs ys->ys.length=xs.length
 | [],_,.nil=>rfl
 | _ :: _,_,.cons _ r=>congrArg (· + 1) (z04 r)
theorem z16 {α β:Type} {f:α->β} :∀{xs:List α} {ys:List β},All2 (λ x y=>y=f x) xs ys->ys=xs.map f
 | [],_,.nil=>rfl
 | _ :: _,_,.cons a r=>by rw [U0,z16 r,a]
theorem z0x {α β:Type} (p:α->Bool) (f:α->β) (d:α) :∀xs:List α,((N1 xs.length).filter λ i=>p (xs[i]?.getD d)).map (λ i=>f (xs[i]?.getD d))=(xs.filter p).map f:=by
 intro xs;have h:(N1 xs.length).map (λ i=>xs[i]?.getD d)=xs:=by
  apply List.ext_getElem
  ·simp
  ·intro i b a;simp only [w4,List.getElem_range,J0 a,Option.getD_some]
 have e:(xs.filter p).map f=((((N1 xs.length).map (λ i=>xs[i]?.getD d))).filter p).map f:=by rw [h]
 rw [e,List.filter_map,A3];rfl
theorem z46 (ns:List Int) :∀j,j<=ns.length->preSum (λ i=>ns[i]?.getD 0) j=(ns.take j).sum
 | 0,_=>by rw [List.take_zero];rfl
 | j + 1,h=>by show preSum (λ i=>ns[i]?.getD 0) j + ns[j]?.getD 0=_;rw [z46 ns j (Nat.le_of_succ_le h),List.take_succ_eq_append_getElem h,List.sum_append,J0 h];simp
structure QE (X:Cx) (e:Expr) (t:TE):Prop where
 run:PE X e t
structure QA (X:Cx) (es:List Expr) (t:TA):Prop where
 run:PA X es t
structure QPs (X:Cx) (pos:Pos) (ks:List (Option Expr)) (vs:List Expr) (t:List (TE×TE)):Prop where
 run:PPs X pos ks vs t
structure QS (X:Cx) (st:Stmt) (t:TS):Prop where
 run:PS X st t
structure QSs (X:Cx) (sts:List Stmt) (t:TS):Prop where
 run:PSs X sts t
section
variable {X:Cx} {pos:Pos}
theorem q_of {sts:List Stmt} {t:TS} {G:TS->Prop} (q:QSs X sts t) (g:G t) :∃t,PSs X sts t/\G t:=⟨t,q.run,g⟩
theorem z28 {st:Stmt} {t:TS} (h:QS X st t):QSs X [st] t:=⟨z05 h.run⟩
theorem z0b {st:Stmt} {rest:List Stmt} {t u:TS} (h:QS X st t) (r:QSs X rest u):QSs X (st :: rest) (tSeq t u):=⟨z06 h.run r.run⟩
theorem qs_set {i:Nat} {x:Str} {e:Expr} {te:TE} {pos':Pos} (hN:X.N.Nodup) (hi:X.N[i]? = some x) (hx:Loc X.env.scope x) (he:QE X e te) (hs:e8 e (some (.Name x pos')) pos.line X.env=S3 false:=by rfl) (hf:X.fn x=true\/X.env.scope.names.lookup x=some .local:=by first|exact .inl rfl|exact .inr rfl|assumption) :
  QS X (.Assign [.Name x pos'] e pos) (tAsg te (gName i)):=⟨ps_set hN hi hx he.run hs hf⟩
theorem qs_for {tg iter:Expr} {body:List Stmt} {wi:TI} {g:TG} {tb:TS} (hp:PassesOwn (Y0 X.prog X.w) X.A X.env X.xe) (hc:X.calm=true) (hi:PI X tg iter wi) (hg:PG X tg g) (hb:QSs X body tb)
  (hs :∀x,V4 iter X.env x=S3 x:=by intro _;rfl):QS X (.For tg iter body [] pos) (tFor wi g tb):=⟨ps_for hp hc hi hg hb.run hs⟩
theorem qe_lst {es:List Expr} {t:TA} (h:QA X es t):QE X (.List es pos) (tLst t):=⟨pe_lst h.run⟩
theorem qe_tup {es:List Expr} {t:TA} {x1} (h:QA X es t):QE X (.Tuple es x1 pos) (tTup t):=⟨pe_tup h.run⟩
theorem qa_nil:QA X [] tNil:=⟨pa_nil⟩
theorem z1r {e:Expr} {es:List Expr} {te:TE} {t:TA} (ha:QE X e te) (hr:QA X es t) (hs:G1 (e :: es) X.env=(false,W3 e X.env) :: G1 es X.env:=by rfl):QA X (e :: es) (tCons te t):=⟨z00 ha.run hr.run hs⟩
theorem zeh:QPs X pos [] [] []:=⟨ze4⟩
theorem zbz {k v:Expr} {ks:List (Option Expr)} {vs:List Expr} {tk tv:TE} {trs:List (TE×TE)} (hk:QE X k tk) (hv:QE X v tv) (hr:QPs X pos ks vs trs):QPs X pos (some k :: ks) (v :: vs) ((tk,tv) :: trs):=⟨zbx hk.run hv.run hr.run⟩
theorem ze5 {keys:List (Option Expr)} {values:List Expr} {trs:List (TE×TE)} (h:QPs X pos keys values trs) (hall:keys.all (·.isSome)=true) (hl:keys.length=values.length) (h0:keys≠[]) (h15:keys.length<=15):QE X (.Dict keys values pos) (tDisp trs):=⟨ze2 h.run hall hl h0 h15⟩
theorem qe_op {a b:Expr} {ta tb:TE} {op:Operator} {r:R2} (ho:OpR X (d5 op) r) (ha:QE X a ta) (hb:QE X b tb):QE X (.BinOp a op b pos) (tOp r ta tb):=⟨pe_op ho ha.run hb.run⟩
theorem qe_ix {a b:Expr} {ta tb:TE} {r:R2} (hr:IxR X r) (ha:QE X a ta) (hb:QE X b tb) (hs:ze8 b):QE X (.Subscript a b pos) (tOp r ta tb):=⟨pe_ix hr ha.run hb.run hs⟩
end
theorem z0q {X:Cx} {K:c0} (h:X.K=K):IxR X (rIx K):=h ▸ ix_seq
theorem z08 {α β:Type} {R:α->β->Prop} :∀{xs:List α} {ys:List β} {i:Nat} {y:β},All2 R xs ys->ys[i]? = some y->∃x,xs[i]? = some x/\R x y
 | _,_,i,y,.nil,e=>by simp at e
 | _,_,0,y,.cons a _,e=>by rw [V1] at e;cases e;exact ⟨_,V1,a⟩
 | _,_,i + 1,y,.cons _ r,e=>by rw [E1] at e;obtain ⟨x,b,c⟩:=z08 r e;exact ⟨x,by rw [E1];exact b,c⟩
end L2
set_option maxHeartbeats 4000000
namespace L2
open PySem PySem.Spec PyProof.Rows
section
variable {prog:Program} {w:O0} {A:Z1} {E:Value->y0->Prop} {s:y0}
theorem z4k (hh:A.handled=none) (it t:Addr) (ne:t≠it) (items:Array Value):Draws prog w A it [it,t] items.size (λ i v=>items[i]? = some v) (λ i h=>h.IsTupleIter it t i/\h.IsTuple t items) where
 live:=λ i h a=>a.1.elim λ o z=>⟨o,z.1⟩
 frame:=λ i h b a k=>⟨a.1.elim λ o z=>⟨o,k it (by simp) o z.1,z.2⟩,a.2.elim λ o z=>⟨o,k t (by simp) o z.1,z.2⟩⟩
 item:=λ i s Q E c a q=>tupOn a.1 a.2 (Y4 c) λ b d sb=>q _ b s.toks (Y4 c) ⟨d,a.2.elim λ o z=>⟨o,(sb.2 t ne).trans z.1,z.2⟩⟩ sb
 done:=λ s Q E a q=>tupOff hh a.1 a.2 (by simp) λ b e x y=>q b e x y
theorem zfz (a:Addr) (xs:Array Value):Meets (X6.«enumerate.__new__» ⟨[.type "enumerate",.ref a],[]⟩) (λ _ R s=>s.heap.IsTuple a xs/\R (.ok (.ret (.ref (s.heap.objs.size + 1))))
  { s with heap:=(s.heap.push { cls:=.type "tuple_iterator",data:=.fields #[.ref a,.int 0 0] }).push { cls:=.type "enumerate",data:=.fields #[.none,.bool false,.ref s.heap.objs.size,S4 0,.none,.none] } }):=
 .of_wp λ j w A R s h=>by
  obtain ⟨i,g,d,k,f⟩:=s;obtain ⟨e,h⟩:=h;have m:=sub_enumerate;have b:Heap.IsTuple (Shared.heap ⟨i,g,d,k,f⟩) a xs:=e
  wp_walk using E4 b
  intro Γ p l;show R0 (Y0 j w) A.in1 (S3 _) _ _ _;refine D0 ?_;generalize List.drop 1 ((Γ.code,p) :: Γ.below)=L;split
  ·rename_i c _ _ _ _;cases c == O4 "enumerate" with
   | true=>
    wp_walk using E4 b
    refine ⟨_,rfl,?_⟩;simpa [Y3,A4] using h
   | false=>
    wp_walk using E4 b
    refine ⟨_,rfl,?_⟩;simpa [Y3,A4] using h
  ·wp_walk using E4 b
   refine ⟨_,rfl,?_⟩;simpa [Y3,A4] using h
theorem zfi {a:Addr} {xs:Array Value} {Q:Value->y0->Prop} (ha:s.heap.IsTuple a xs)
  (q :∀h',IsEnum h' (s.heap.objs.size + 1) s.heap.objs.size 0 .none->h'.IsTupleIter s.heap.objs.size a 0->h'.objs.size=s.heap.objs.size + 2->(∀c o,s.heap.get? c=some o->h'.get? c=some o)->Q (.ref (s.heap.objs.size + 1)) { s with heap:=h' }) :
  R0 (Y0 prog w) A (call (.type "enumerate") [.ref a]) Q E s:=by
 refine callType_new F.called_enumerate (by decide) (F.typeCall_enumerate_1 _) (F.newCall_enumerate_1 _) (λ g=>F.args_object_init_2 g _) F.entry_enumerate_new (zfz a xs) ⟨ha,?_⟩;generalize hn:s.heap.objs.size=n at q⊢;generalize h0:s.heap.push { cls:=.type "tuple_iterator",data:=.fields #[.ref a,.int 0 0] }=k0;have d:k0.objs.size=n + 1:=by rw [<-h0,Y3,hn]
 have f:k0.get? n=some { cls:=.type "tuple_iterator",data:=.fields #[.ref a,.int 0 0] }:=by rw [<-h0,<-hn];exact I0 _ rfl
 have b:(k0.push { cls:=.type "enumerate",data:=.fields #[.none,.bool false,.ref n,S4 0,.none,.none] }).get? (n + 1)=some { cls:=.type "enumerate",data:=.fields #[.none,.bool false,.ref n,S4 0,.none,.none] }:=by rw [<-d];exact I0 _ rfl
 exact ⟨⟨_,b,rfl⟩,q _ b ⟨_,x0 _ f,rfl,rfl⟩ (by rw [Y3,d]) λ c o e=>x0 _ (by rw [<-h0];exact x0 _ e)⟩
end
noncomputable def IteL (K:c0) (a:Addr):It:=
  ⟨λ i H=>∃xs x,SqL K H a xs/\xs[i]? = some x,
   λ i H v H'=>∃p,H p=none/\v=.ref p/\∀xs,SqL K H a xs->∃x,xs[i]? = some x/\H'=upd H p (.tup [.int i,x]),
   λ i H=>∃xs,SqL K H a xs/\xs.length=i⟩
theorem w_0:(0:Nat)<=sizeLine:=by decide
theorem w_1:(1:Nat)<=sizeLine:=by decide
theorem w_2:(2:Nat)<=sizeLine:=by decide
theorem w_3:(3:Nat)<=sizeLine:=by decide
theorem w_4:(4:Nat)<=sizeLine:=by decide
theorem w_5:(5:Nat)<=sizeLine:=by decide
theorem w_7:(7:Nat)<=sizeLine:=by decide
theorem zcf {P:Program} {w:O0} {K:c0} {elts:List Expr} {x1:Nat} {pos:Pos} {e it a:Addr} (ne:e≠it) (nae:a≠e) (nai:a≠it):Turn P w K (.Tuple elts x1 pos) (IteL K a) [e,it] e (λ n h=>(∃old,IsEnum h e it (n:Nat) old)/\h.IsListIter it a n) where
 mem:=by simp
 obj:=λ n h g c f=>by
  simp only [G3,B0,or_false] at f;rcases f with rfl|rfl
  ·obtain ⟨⟨old,z⟩,_⟩:=g;exact ⟨_,z,λ v z=>by cases (show M8 _=F9 v from z)⟩
  ·obtain ⟨_,o,e,_,d⟩:=g;exact ⟨o,e,λ v z=>by rw [d] at z;cases z⟩
 keep:=λ n h O g k=>by obtain ⟨⟨old,z⟩,o,e1,e2⟩:=g;exact ⟨⟨old,k e (by simp) _ z⟩,o,k it (by simp) _ e1,e2⟩
 item:=by
  intro X F C r f n a6 s σ H E I m g B;subst F C r;obtain ⟨U,x,q,R⟩:=B;obtain ⟨i,J,j,_⟩:=I.list q;have j:s.heap.IsList a i.toArray:=j.isList;obtain ⟨u,M,ru⟩:=J.get R;have D:=Draws.list (prog:=X.prog) (w:=X.w) (A:=X.A.in1) (I.ok.hd f) it a nai i.toArray;have a2:n < i.toArray.size:=by have:=(List.getElem?_eq_some_iff.mp M).1;simpa using this
  obtain ⟨⟨old,N⟩,S⟩:=g;refine wpAny_pyNext_enum_itemD D N ⟨S,j⟩ a2 ne (by simp [ne,nae.symm]) λ y O t p a0 a3 Z hz G=>?_;have p:i[n]? = some y:=by simpa using p
  rw [M] at p;cases p;have a1:e < s.heap.objs.size:=G0 N;have a7:it < s.heap.objs.size:=by obtain ⟨o,z,_⟩:=S;exact G0 z
  have Q:s.heap.objs.size≠e:=A2 a1;have nT:s.heap.objs.size∉[e,it]:=by simp only [G3,B0,or_false,not_or];exact ⟨Q,A2 a7⟩
  refine ⟨_,rfl,P9 a0 λ L a5 sb=>?_⟩;have k2 :∀b o,b∉[e,it]->s.heap.get? b=some o->L.get? b=some o:=λ b o l z=>by simp only [G3,B0,or_false,not_or] at l;exact (sb.2 b l.1).trans (G b o l.1 l.2 z)
  have T:=(sb.2 _ Q).trans Z;have V:=a3.1.elim λ o z=>(⟨o,(sb.2 it ne.symm).trans z.1,z.2⟩:L.IsListIter it a (n + 1))
  have fr:H s.heap.objs.size=none:=I.hok.fresh (A0 _);refine ⟨.ref s.heap.objs.size,upd H s.heap.objs.size (.tup [.int n,x]),I.turnedLaid (t':=t + 1) k2 m (A0 _) ⟨w_2,[.int n t,u],.cons ⟨t,rfl⟩ (.cons ru .nil),⟨_,T,rfl,_,rfl⟩,_,T,rfl⟩,rfl,⟨_,fr,rfl,λ a8 a4=>⟨x,?_,rfl⟩⟩,⟨⟨_,a5⟩,V⟩,λ c f=>?_⟩
  ·rw [I.list_inj a4 q];exact R
  ·rw [upd_ne (λ (z:c=s.heap.objs.size)=>nT (z ▸ f))];exact (m c f).1
 done:=by
  intro X F C r f n a6 s σ H E I m g B;subst F C r;obtain ⟨U,q,rfl⟩:=B;obtain ⟨i,J,j,_⟩:=I.list q;have j:s.heap.IsList a i.toArray:=j.isList;have D:=Draws.list (prog:=X.prog) (w:=X.w) (A:=X.A.in1) (I.ok.hd f) it a nai i.toArray;have W:=WalksT.enumerateD D e ne (by simp [ne,nae.symm]) (by simp);have la:i.toArray.size=U.length:=by simpa using J.length.symm
  exact W.done s _ E (by rw [la];exact ⟨g.1,g.2,j⟩) λ O Y G=>⟨rfl,I.turnedL (t':=Y) (λ c o f e=>G c o f e) m⟩
 self:=λ _ _ _ _ _ g h=>g.1.elim λ old z=>Q6 z h
noncomputable def ieL (K:c0) (ta:TA):TI:=λ σ H R=>ta σ H λ vs H1=>∃a xs,vs=[.ref a]/\SqL K H1 a xs/\R (IteL K a) H1
theorem zem {X:Cx} {elts:List Expr} {x1:Nat} {tpos:Pos} {e:Expr} {ta:TA} {p pos:Pos} (hg:Gl X "enumerate") (hm:X.mg "enumerate" = none) (ha:PA X [e] ta) (hs:G1 [e] X.env=[(false,W3 e X.env)]:=by rfl) :
  PI X (.Tuple elts x1 tpos) (.Call (.Name "enumerate" p) [e] [] pos) (ieL X.K ta):=by
 intro t s σ H R I h;refine Call_ (ld_blt I hg hm boot_enumerate (n3 (thn (ha pos t s σ H _ I h) λ x b ⟨vs,H1,I1,r1,q1⟩=>?_) (by rw [hs];rfl) rfl));obtain ⟨a,z,m,n,q⟩:=q1;subst m;obtain ⟨u,rfl,r⟩:=vals1 r1;cases (show u=F1 a from r);obtain ⟨l,y,d,_⟩:=I1.list n;have d:b.heap.IsList a l.toArray:=d.isList;have f:a < b.heap.objs.size:=by obtain ⟨o,e,_⟩:=id d;exact G0 e
 refine call_enumerate_list d λ w i k _ v=>?_;refine Q6 i ?_;refine ⟨_,_,_,_,H1,rfl,I1.kept (t':=b.toks) v,zcf (A2 (D2 _)) (Q0 (i1 f)) (Q0 f),⟨⟨_,i⟩,k⟩,λ c g=>?_,q⟩;have j:b.heap.objs.size<=c:=by
  simp only [G3,B0,or_false] at g;rcases g with rfl|rfl
  ·exact J8 _ _
  ·exact A0 _
 exact I1.fpOk j (I1.hok.fresh j)
noncomputable def IteT (K:c0) (a:Addr):It:=
  ⟨λ i H=>∃xs x,SqT K H a xs/\xs[i]? = some x,
   λ i H v H'=>∃p,H p=none/\v=.ref p/\∀xs,SqT K H a xs->∃x,xs[i]? = some x/\H'=upd H p (.tup [.int i,x]),
   λ i H=>∃xs,SqT K H a xs/\xs.length=i⟩
theorem zbn {P:Program} {w:O0} {K:c0} {elts:List Expr} {x1:Nat} {pos:Pos} {e it a:Addr} (ne:e≠it) (nae:a≠e) (nai:a≠it):Turn P w K (.Tuple elts x1 pos) (IteT K a) [e,it] e (λ n h=>(∃old,IsEnum h e it (n:Nat) old)/\h.IsTupleIter it a n) where
 mem:=by simp
 obj:=λ n h g c f=>by
  simp only [G3,B0,or_false] at f;rcases f with rfl|rfl
  ·obtain ⟨⟨old,z⟩,_⟩:=g;exact ⟨_,z,λ v z=>by cases (show M8 _=F9 v from z)⟩
  ·obtain ⟨_,o,e,_,d⟩:=g;exact ⟨o,e,λ v z=>by rw [d] at z;cases z⟩
 keep:=λ n h O g k=>by obtain ⟨⟨old,z⟩,o,e1,e2⟩:=g;exact ⟨⟨old,k e (by simp) _ z⟩,o,k it (by simp) _ e1,e2⟩
 item:=by
  intro X F C r f n a6 s σ H E I m g B;subst F C r;obtain ⟨U,x,q,R⟩:=B;obtain ⟨i,J,j,_⟩:=I.tuple q;have j:s.heap.IsTuple a i.toArray:=j;obtain ⟨u,M,ru⟩:=J.get R;have D:=z4k (prog:=X.prog) (w:=X.w) (A:=X.A.in1) (I.ok.hd f) it a nai i.toArray;have a2:n < i.toArray.size:=by have:=(List.getElem?_eq_some_iff.mp M).1;simpa using this
  obtain ⟨⟨old,N⟩,S⟩:=g;refine wpAny_pyNext_enum_itemD D N ⟨S,j⟩ a2 ne (by simp [ne,nae.symm]) λ y O t p a0 a3 Z hz G=>?_;have p:i[n]? = some y:=by simpa using p
  rw [M] at p;cases p;have a1:e < s.heap.objs.size:=G0 N;have a7:it < s.heap.objs.size:=by obtain ⟨o,z,_⟩:=S;exact G0 z
  have Q:s.heap.objs.size≠e:=A2 a1;have nT:s.heap.objs.size∉[e,it]:=by simp only [G3,B0,or_false,not_or];exact ⟨Q,A2 a7⟩
  refine ⟨_,rfl,P9 a0 λ L a5 sb=>?_⟩;have k2 :∀b o,b∉[e,it]->s.heap.get? b=some o->L.get? b=some o:=λ b o l z=>by simp only [G3,B0,or_false,not_or] at l;exact (sb.2 b l.1).trans (G b o l.1 l.2 z)
  have T:=(sb.2 _ Q).trans Z;have V:=a3.1.elim λ o z=>(⟨o,(sb.2 it ne.symm).trans z.1,z.2⟩:L.IsTupleIter it a (n + 1))
  have fr:H s.heap.objs.size=none:=I.hok.fresh (A0 _);refine ⟨.ref s.heap.objs.size,upd H s.heap.objs.size (.tup [.int n,x]),I.turnedLaid (t':=t + 1) k2 m (A0 _) ⟨w_2,[.int n t,u],.cons ⟨t,rfl⟩ (.cons ru .nil),⟨_,T,rfl,_,rfl⟩,_,T,rfl⟩,rfl,⟨_,fr,rfl,λ a8 a4=>⟨x,?_,rfl⟩⟩,⟨⟨_,a5⟩,V⟩,λ c f=>?_⟩
  ·rw [I.tuple_inj a4 q];exact R
  ·rw [upd_ne (λ (z:c=s.heap.objs.size)=>nT (z ▸ f))];exact (m c f).1
 done:=by
  intro X F C r f n a6 s σ H E I m g B;subst F C r;obtain ⟨U,q,rfl⟩:=B;obtain ⟨i,J,j,_⟩:=I.tuple q;have j:s.heap.IsTuple a i.toArray:=j;have D:=z4k (prog:=X.prog) (w:=X.w) (A:=X.A.in1) (I.ok.hd f) it a nai i.toArray;have W:=WalksT.enumerateD D e ne (by simp [ne,nae.symm]) (by simp);have la:i.toArray.size=U.length:=by simpa using J.length.symm
  exact W.done s _ E (by rw [la];exact ⟨g.1,g.2,j⟩) λ O Y G=>⟨rfl,I.turnedL (t':=Y) (λ c o f e=>G c o f e) m⟩
 self:=λ _ _ _ _ _ g h=>g.1.elim λ old z=>Q6 z h
noncomputable def ieT (K:c0) (ta:TA):TI:=λ σ H R=>ta σ H λ vs H1=>∃a xs,vs=[.ref a]/\SqT K H1 a xs/\R (IteT K a) H1
theorem zfj {X:Cx} {elts:List Expr} {x1:Nat} {tpos:Pos} {e:Expr} {ta:TA} {p pos:Pos} (hg:Gl X "enumerate") (hm:X.mg "enumerate" = none) (ha:PA X [e] ta) (hs:G1 [e] X.env=[(false,W3 e X.env)]:=by rfl) :
  PI X (.Tuple elts x1 tpos) (.Call (.Name "enumerate" p) [e] [] pos) (ieT X.K ta):=by
 intro t s σ H R I h;refine Call_ (ld_blt I hg hm boot_enumerate (n3 (thn (ha pos t s σ H _ I h) λ x b ⟨vs,H1,I1,r1,q1⟩=>?_) (by rw [hs];rfl) rfl));obtain ⟨a,z,m,n,q⟩:=q1;subst m;obtain ⟨u,rfl,r⟩:=vals1 r1;cases (show u=F1 a from r);obtain ⟨l,y,d,_⟩:=I1.tuple n;have d:b.heap.IsTuple a l.toArray:=d;have f:a < b.heap.objs.size:=by obtain ⟨o,e,_⟩:=id d;exact G0 e
 refine zfi d λ w i k _ v=>?_;refine Q6 i ?_;refine ⟨_,_,_,_,H1,rfl,I1.kept (t':=b.toks) v,zbn (A2 (D2 _)) (Q0 (i1 f)) (Q0 f),⟨⟨_,i⟩,k⟩,λ c g=>?_,q⟩;have j:b.heap.objs.size<=c:=by
  simp only [G3,B0,or_false] at g;rcases g with rfl|rfl
  ·exact J8 _ _
  ·exact A0 _
 exact I1.fpOk j (I1.hok.fresh j)
theorem zdj {K:c0} {a:Addr} {xs:List V} {g:TG} {tb:TS} {D:Ends} {σ:St} {H:Hp} (Pv:Nat->St->Hp->Prop) (h0:Pv 0 σ H) (hl :∀i σ H,Pv i σ H->SqT K H a xs)
  (hs :∀i x σ H p,xs[i]? = some x->Pv i σ H->H p=none->g (.ref p) σ (upd H p (.tup [.int i,x])) λ σ2 H2=>tb { D with nx:=Pv (i + 1),ct:=Pv (i + 1),bk:=D.nx } σ2 H2) (hd :∀σ H,Pv xs.length σ H->D.nx σ H) :
  ∃W:Nat->Nat->St->Hp->Prop,(∃m,W 0 m σ H)/\∀i m σ H,W i m σ H->
   ((IteT K a).stop i H/\D.nx σ H)\/((IteT K a).go i H/\∃N:St->Hp->Prop,(∀σ' H',N σ' H'->∃m',m' < m/\W (i + 1) m' σ' H')/\∀x H',(IteT K a).yld i H x H'->g x σ H' λ σ2 H2=>tb { D with nx:=N,ct:=N,bk:=D.nx } σ2 H2):=by
 refine ⟨λ i m σ H=>m=xs.length - i/\i<=xs.length/\Pv i σ H,⟨xs.length,by simp,P1 _,h0⟩,?_⟩;rintro i m σ H ⟨rfl,hi,p⟩;have b:=hl i σ H p;by_cases hlt:i < xs.length
 ·refine .inr ⟨⟨xs,xs[i],b,by simp [hlt]⟩,Pv (i + 1),λ σ' H' c=>⟨xs.length - (i + 1),by omega,rfl,hlt,c⟩,λ v H' y=>?_⟩;obtain ⟨t,j,rfl,h⟩:=y;obtain ⟨f,d,rfl⟩:=h xs b;exact hs i f σ H t d p j
 ·have e:i=xs.length:=by omega
  subst e;exact .inl ⟨⟨xs,b,rfl⟩,hd σ H p⟩
end L2
set_option maxHeartbeats 400000
namespace L2
open PySem PySem.Spec PyProof.Rows
section
variable {X:Cx}
theorem zcj (hc:X.calm=true):CallR X (.builtin "sum") (λ xs H Q=>∃(p:Addr) (ns:List Int),xs=[.ref p]/\SqL X.K H p (ns.map V.int)/\Q (.int ns.sum) H):=by
 intro E s σ H xs F Q I r h;obtain ⟨p,ns,rfl,w,q⟩:=h;obtain ⟨u,rfl,D⟩:=vals1 r;cases D;obtain ⟨d,l,a,G⟩:=I.list w;have B:p≠s.heap.objs.size:=by obtain ⟨o,e,_⟩:=a.isList;exact Q0 (G0 e)
 have j:d.length=ns.length:=by have:=l.length;rw [C0] at this;exact this.symm
 refine call_sum_walkAnyS (T5 a.isList ?_);refine ⟨s.heap.objs.size,_,_,_,_,_,_,λ i=>ns[i]?.getD 0,rfl,(Walks.list (show X.A.in1.handled=none from I.ok.hd hc) s.heap.objs.size p B d.toArray).toS,⟨⟨_,I0 _ rfl,rfl,rfl⟩,a.isList.at λ o e=>x0 _ e⟩,?_,?_,?_⟩
 ·intro b f;simp only [G3,B0,or_false] at f;rcases f with rfl|rfl
  ·rw [Y3];exact D2 _
  ·obtain ⟨o,e,_⟩:=a.isList;exact G0 (x0 _ e)
 ·intro i v c;have c:d[i]? = some v:=by simpa using c
  obtain ⟨y,e⟩:=List.getElem?_eq_some_iff.mp c;have m:i < ns.length:=by rw [<-j];exact y
  obtain ⟨u,n,g⟩:=l.get (i:=i) (x:=.int ns[i]) (by simp [m]);rw [c] at n;cases n;obtain ⟨t,g⟩:=g;exact ⟨t,by show v=R5 (ns[i]?.getD 0) t;rw [J0 m];exact g⟩
 ·intro C t' k;have e:preSum (λ i=>ns[i]?.getD 0) d.toArray.size=ns.sum:=by rw [N0,j,z46 ns _ (A0 _),Z2]
  rw [e,k.eq_with];refine ⟨.int _,H,I.kept (t':=C.toks) λ b o z=>k.heap b o ?_ (x0 _ z),⟨_,rfl⟩,q⟩;intro f;rw [List.mem_singleton.mp f] at z;exact absurd (G0 z) (Y2 _)
end
mutual
noncomputable def IsPd (K:c0) (H:Hp):w5->V->Prop
 | .none,v=>v=.non
 | .bool b,v=>v=.bl b
 | .int i,v=>v=.int i
 | .str z,v=>v=.str z
 | .list ds,v=>∃a xs,v=.ref a/\SqL K H a xs/\IsPds K H ds xs
 | .tuple ds,v=>∃a xs,v=.ref a/\SqT K H a xs/\IsPds K H ds xs
 | .dict _,_=>False
noncomputable def IsPds (K:c0) (H:Hp):List w5->List V->Prop
 | [],xs=>xs=[]
 | d :: ds,xs=>∃x r,xs=x :: r/\IsPd K H d x/\IsPds K H ds r
end
section
variable {X:Cx} {pins:List (Addr×Obj)} {σ:St} {H:Hp} {s:y0}
mutual
theorem z7m (I:Inv X pins σ H s) :∀(d:w5) (v:V) (u:Value),IsPd X.K H d v->RelV v u->∃as,Reads s.heap u d as
 | .none,v,u,h,r=>by cases (show v=.non from h);cases (show u=.none from r);exact ⟨_,.none⟩
 | .bool b,v,u,h,r=>by cases (show v=.bl b from h);cases (show u=.bool b from r);exact ⟨_,.bool b⟩
 | .int i,v,u,h,r=>by cases (show v=.int i from h);obtain ⟨t,rfl⟩:=r;exact ⟨_,.int i t⟩
 | .str z,v,u,h,r=>by cases (show v=.str z from h);obtain ⟨t,rfl⟩:=r;exact ⟨_,.str z t⟩
 | .list ds,v,u,h,r=>by obtain ⟨a,l,rfl,e,j⟩:=h;cases (show u=.ref a from r);obtain ⟨f,m,c,_⟩:=I.list e;obtain ⟨o,p,q,n,g⟩:=c.isList;obtain ⟨as,k⟩:=z5e I ds l f j m;exact ⟨_,.list p q g k⟩
 | .tuple ds,v,u,h,r=>by obtain ⟨a,l,rfl,e,j⟩:=h;cases (show u=.ref a from r);obtain ⟨f,m,c,_⟩:=I.tuple e;obtain ⟨o,p,q,n,g⟩:=c;obtain ⟨as,k⟩:=z5e I ds l f j m;exact ⟨_,.tuple p q g k⟩
 | .dict _,v,u,h,r=>h.elim
theorem z5e (I:Inv X pins σ H s) :∀(ds:List w5) (xs:List V) (us:List Value),IsPds X.K H ds xs->Vals xs us->∃as,ReadsAll s.heap us ds as
 | [],xs,us,h,r=>by cases (show xs=[] from h);cases r;exact ⟨_,.nil⟩
 | d :: ds,xs,us,h,r=>by
  obtain ⟨x,t,rfl,a,b⟩:=h;cases r with
  | cons r1 r2=>obtain ⟨as,c⟩:=z7m I d x _ a r1;obtain ⟨bs,e⟩:=z5e I ds t _ b r2;exact ⟨_,.cons c e⟩
end
end
mutual
noncomputable def plainP:w5->Bool
 | .none=>true
 | .bool _=>false
 | .int _=>true
 | .str z=>(PyData.str z).canLay0
 | .list ds=>z6g ds
 | .tuple ds=>z6g ds
 | .dict _=>false
noncomputable def z6g:List w5->Bool
 | []=>true
 | d :: ds=>plainP d && z6g ds
end
mutual
theorem z5b :∀d:w5,plainP d=true->d.canLay0=true
 | .none,_=>rfl
 | .bool _,h=>by cases h
 | .int _,_=>rfl
 | .str _,h=>h
 | .list ds,h=>z3e ds h
 | .tuple ds,h=>z3e ds h
 | .dict _,h=>by cases h
theorem z3e :∀ds:List w5,z6g ds=true->PyData.canLayAll0 ds=true
 | [],_=>rfl
 | d :: ds,h=>by have h:(plainP d && z6g ds)=true:=h;rw [V3] at h;show (d.canLay0 && PyData.canLayAll0 ds)=true;rw [z5b d h.1,z3e ds h.2];rfl
end
section
variable {X:Cx}
noncomputable def rNeP (K:c0):R2:=λ x y H Q=>∃d e,IsPd K H d x/\IsPd K H e y/\plainP d=true/\plainP e=true/\d.depth<=60/\Q (.bl (!d.eqv e)) H
theorem room60 {A:Z1} {k m n:Nat} (hr:Room k A) (h:m<=60):A.units + min m n < cLine:=J1 (Nat.add_le_add_left (F0 (Nat.min_le_left _ _) (F0 h (by decide:60<=64))) _) hr.units
theorem op_neP {k:Nat} (hr:Room k X.A):OpR X (N2 .NotEq) (rNeP X.K):=by intro n s σ H x y v u Q I l f h;obtain ⟨d,e,hd,c,j,g,b,q⟩:=h;obtain ⟨m,i⟩:=z7m I d x v hd l;obtain ⟨bs,a⟩:=z7m I e y u c f;exact SeqAt.compareNe_reads i a (z5b _ j) (z5b _ g) (room60 hr b) ⟨.bl _,H,I,rfl,q⟩
end
end L2
set_option maxHeartbeats 1000000
namespace L2
open PySem PySem.Spec PyProof.Rows
section
variable {prog:Program} {w:O0} {A:Z1} {E:Value->y0->Prop} {s:y0}
theorem z8g:entryFor table "dict.update.loop" = some X6.«dict.update.loop»:=by kernel_rfl
theorem zao {l:Addr} {items:Array Value} {n:Nat} {sl:Array (Option Value)} {Q:Option Value->y0->Prop} (h:s.heap.get? l=some { cls:=.type "tuple",data:=.seq items n,slots:=sl }) (hh:A.handled=none)
  (q :∀h' tk,(∀b o,s.heap.get? b=some o->h'.get? b=some o)->Q none { s with heap:=h',toks:=tk }):R0 (Y0 prog w) A (getAttr? (.ref l) (T3 "keys")) Q E s:=by
 unfold getAttr?;refine v0 (wpAny_mkText ?_);unfold getAttrBy? getAttrBy;have d:M7 { s with toks:=s.toks + 1 } (.ref l) "tuple":=⟨_,h,rfl⟩
 refine v0 (wpAny_attempt (G2 (v0 (T8 d ?_))));rw [show typeLookup (O4 "tuple") (T3 "__getattribute__")=S3 (some (.builtin "tuple.__getattribute__")) from rfl];refine v0 (D0 ?_);show R0 _ _ (getAttrByItsOwn (.ref l) (.str (T3 "keys") s.toks) (.type "tuple") (.builtin "tuple.__getattribute__") false false) _ _ _;unfold getAttrByItsOwn;refine v0 (show R0 _ _ (S3 none) _ _ _ from D0 ?_);refine v0 (wpAny_attempt (G2 ?_));show R0 _ _ (boundAndCalled (.builtin "tuple.__getattribute__") (.ref l) (.str (T3 "keys") s.toks)) _ _ _;unfold boundAndCalled;rw [show bindSpecial (.builtin "tuple.__getattribute__") (.ref l)=S3 (Value.builtin "tuple.__getattribute__",[F1 l]) from rfl];refine v0 (D0 ?_);show R0 _ _ (call (.builtin "tuple.__getattribute__") [.ref l,.str (T3 "keys") s.toks]) _ _ _;refine call_meets F.slot_tuple_getattribute d am_entry_tuple_getattribute (F.args_tuple_getattribute_2 _ _) (meets_getattribute_miss_tuple l items n sl (T3 "keys") s.toks rfl (by decide +kernel) (by decide +kernel)) ⟨h,hh,λ h' tk e a=>?_⟩;obtain ⟨t,u,f⟩:=a.there;have c:M7 { s with heap:=h',toks:=tk } (.ref e) "AttributeError":=⟨_,f,rfl⟩
 show R0 _ _ (getattributeRaised (.ref l) _ (.type "tuple") (.ref e) none false false) _ _ _;unfold getattributeRaised;refine v0 (wpAny_isInstance c rfl ?_);show R0 _ _ (hookBehind (.type "tuple") none >>= _) _ _ _;rw [show hookBehind (.type "tuple") none=S3 none from rfl];refine v0 (D0 ?_);show R0 _ _ (throw (F1 e) >>= _) _ _ _;refine v0 (wpAny_throw ?_);show R0 _ _ (isInstance (.ref e) (.type "AttributeError") >>= _) _ _ _;refine v0 (wpAny_isInstance c rfl ?_);exact D0 (q h' tk a.keeps)
theorem z81 (a:Args):(W6 "dict.update.loop" a).quiet=true:=plainId_quiet (by decide +kernel) _
def PairOf (prog:Program) (w:O0) (h:Heap) (p:Key×Value) (u:Value):Prop:=∃a kv,u=.ref a/\h.IsTuple a #[kv,p.2]/\(z0f prog w).is p.1 kv=true
theorem PairOf.kept {h h':Heap} {p:Key×Value} {u:Value} {L:List Addr} (k :∀b o,b∉L->h.get? b=some o->h'.get? b=some o) (nt :∀b∈L,∀o,h.get? b=some o->o.cls≠.type "tuple") (x:PairOf prog w h p u):PairOf prog w h' p u:=by obtain ⟨a,f,e,⟨o,c,d,n,g⟩,i⟩:=x;exact ⟨a,f,e,⟨o,k a o (λ z=>nt a z o c d) c,d,n,g⟩,i⟩
theorem zba {a:Addr} {items:Array Value} {Q:List Value->y0->Prop} (h:s.heap.IsTuple a items) (q:Q items.toList s):R0 (Y0 prog w) A (z8 (.ref a)) Q E s:=by obtain ⟨o,b,c,n,d⟩:=h;unfold z8;refine v0 (T8 (T:="tuple") ⟨o,b,c⟩ ?_);show R0 _ _ (seqItems? (.ref a) >>= _) _ _ _;exact v0 (N9 b d (D0 q))
theorem z8w {d it l:Addr} {items:Array Value} (ndi:d≠it) (ndl:d≠l) (nil':it≠l) :∀(ps:List (Key×Value)) (i:Nat) (kvs:List (Key×Value)) (A:Z1) (R:Result->y0->Prop) (s:y0),A.handled=none->s.heap.IsTupleIter it l i->s.heap.IsTuple l items->
  All2 (PairOf prog w s.heap) ps (items.toList.drop i)->z5 (z0f prog w) s.heap d kvs->kvs.length + ps.length<=sizeLine->
  (∀h' tk,z5 (z0f prog w) h' d (ps.foldl (λ acc p=>stored acc p.1 p.2) kvs)->(∀b o,b≠d->b≠it->s.heap.get? b=some o->h'.get? b=some o)->R (.ok (.ret .none)) { s with heap:=h',toks:=tk })->
  C5 (Y0 prog w) A (W6 "dict.update.loop" { pos:=[.ref d,.ref it,.int (i:Nat) 0,.none],kw:=[] }) R s
 | [],i,kvs,A,R,s,hh,si,sl,al,r,hz,q=>by
  have hn:items[i]? = none:=by
   cases hd:items.toList.drop i with
   | nil=>have:=List.drop_eq_nil_iff.mp hd;rw [W0] at this;exact B5 this
   | cons u us=>rw [hd] at al;cases al
  refine o4 z8g ?_;show R0 _ _ (D8 (.ref it) >>= _) _ _ s;refine v0 (wpAny_pyNext_tuple_end (show (A.under _).handled=none from hh) si sl hn λ h' I=>?_);show R0 _ _ ((do Builtin.Dict.addKeywords d [];ret .none):Sem F7) _ _ _;refine v0 (show R0 _ _ (S3 ()) _ _ _ from D0 ?_);have D:z5 (z0f prog w) h' d kvs:=by obtain ⟨o,t,v,f,m⟩:=r;exact ⟨o,t,v,I d o ndi f,m⟩
  exact D0 (q h' s.toks D λ b o _ k e=>I b o k e)
 | p :: ps,i,kvs,A,R,s,hh,si,sl,al,r,hz,q=>by
  cases hd:items.toList.drop i with
  | nil=>rw [hd] at al;cases al
  | cons u us=>
   rw [hd] at al;cases al with
   | cons pu al=>
    have V:items.toList[i]? = some u:=by have:=congrArg (λ l=>l[0]?) hd;simpa using this
    have O:items[i]? = some u:=by simpa using V
    have S:items.toList.drop (i + 1)=us:=by have:=congrArg List.tail hd;simpa using this
    obtain ⟨a,B,rfl,N,X⟩:=pu;refine o4 z8g ?_;show R0 _ _ (D8 (.ref it) >>= _) _ _ s;refine v0 (wpAny_pyNext_tuple_item si sl O λ f P C=>?_);have G :∀o,s.heap.get? it=some o->o.cls≠.type "tuple":=λ o e z=>by obtain ⟨o',n,c,_⟩:=si;rw [e] at n;cases n;rw [z] at c;exact absurd c (by decide)
    have Q :∀(h:Heap) (kvs:List (Key×Value)),z5 (z0f prog w) h d kvs->∀o,h.get? d=some o->o.cls≠.type "tuple":=λ h kvs r o e z=>by obtain ⟨o',t,v,n,c,_⟩:=r;rw [e] at n;cases n;have:=c.1;rw [z] at this;exact absurd this (by decide)
    have F :∀b o,b∉[it]->s.heap.get? b=some o->f.get? b=some o:=λ b o k e=>(C.2 b (λ z=>k (by rw [z];exact List.mem_singleton.mpr rfl))).trans e;have a0:f.IsTuple a #[B,p.2]:=by obtain ⟨o,j,g,Z⟩:=N;exact ⟨o,F a o (λ z=>G o (List.mem_singleton.mp z ▸ j) g) j,g,Z⟩
    have U:All2 (PairOf prog w f) ps us:=z02 (λ x y z=>PairOf.kept F (λ b k o e=>G o (List.mem_singleton.mp k ▸ e)) z) al;have H:z5 (z0f prog w) f d kvs:=by obtain ⟨o,t,v,j,g⟩:=r;exact ⟨o,t,v,(C.2 d ndi).trans j,g⟩
    have W:f.IsTuple l items:=by obtain ⟨o,j,g⟩:=sl;exact ⟨o,(C.2 l (F3 nil')).trans j,g⟩
    refine v0 (G2 (v0 (wpAny_tryCatch (zba (s:={ s with heap:=f }) a0 ?_))));show R0 _ _ (J9 [B,p.2] (dictSet d B p.2)) _ _ _;refine G2 (wpAny_dictSet_pairs X H (λ m Y E=>?_) (F0 (J8 _ _) hz));refine D0 ⟨z81 _,?_⟩;have J :∀b o,b∉[d]->f.get? b=some o->m.get? b=some o:=λ b o k e=>(E.2 b (λ z=>k (by rw [z];exact List.mem_singleton.mpr rfl))).trans e;have M:All2 (PairOf prog w m) ps us:=z02 (λ x y z=>PairOf.kept J (λ b k o e=>Q f kvs H o (List.mem_singleton.mp k ▸ e)) z) U;have a1:m.IsTupleIter it l (i + 1):=by obtain ⟨o,j,g⟩:=P;exact ⟨o,(E.2 it (F3 ndi)).trans j,g⟩
    have T:m.IsTuple l items:=by obtain ⟨o,j,g⟩:=W;exact ⟨o,(E.2 l (F3 ndl)).trans j,g⟩
    have a2:(stored kvs p.1 p.2).length + ps.length<=sizeLine:=by
     have:(stored kvs p.1 p.2).length<=kvs.length + 1:=by
      unfold stored;split
      ·rw [C0];exact Y5 _
      ·rw [L0];exact A0 _
     rw [A1] at hz;omega
    exact z8w ndi ndl nil' ps (i + 1) (stored kvs p.1 p.2) A R { s with heap:=m,toks:=s.toks + 1 } hh a1 T (by rw [S];exact M) Y a2 λ h' tk D kk=>q h' tk D λ b o L K e=>kk b o L K (J b o (λ z=>L (List.mem_singleton.mp z)) (F b o (λ z=>K (List.mem_singleton.mp z)) e))
theorem z7f {h:Heap} {D:Addr} (e:h.get? D=some { cls:=.type "dict",data:=.dict #[] }):z5 (z0f prog w) h D []:=by obtain ⟨o,c,b,a,r⟩:=L9 (knd:=z0f prog w) h;rw [I0 _ rfl] at a;cases a;exact ⟨_,c,b,e,r⟩
theorem z45 {D l:Addr} {items:Array Value} {n:Nat} {sl:Array (Option Value)} {ps:List (Key×Value)} {Q:y0->Prop} {A':Z1} (hd:s.heap.get? D=some { cls:=.type "dict",data:=.dict #[] }) (hl:s.heap.get? l=some { cls:=.type "tuple",data:=.seq items n,slots:=sl }) (hh:A.handled=none) (hh':A'.handled=none)
  (al:All2 (PairOf prog w s.heap) ps items.toList) (hz:ps.length<=sizeLine)
  (q :∀h' tk,z5 (z0f prog w) h' D (merged [] ps)->(∀b o,b≠D->s.heap.get? b=some o->h'.get? b=some o)->Q { s with heap:=h',toks:=tk }) :
  R0 (Y0 prog w) A (X6.«dict.__init__» { pos:=[.ref D,.ref l] }) (λ fin s'=>match fin with
   | .done f=>wants (λ r s₂=>r=j5/\Q s₂) E (.ok f) s'
   | .again c'=>c'.quiet=true/\C5 (Y0 prog w) A' c' (wants (λ r s₂=>r=j5/\Q s₂) E) s') (λ e s'=>wants (λ r s₂=>r=j5/\Q s₂) E (.error e) s') s:=by
 have i:D≠l:=λ z=>by rw [z,hl] at hd;exact absurd (show O4 "tuple" = O4 "dict" from congrArg Obj.cls (D1 hd)) (by decide)
 unfold X6.«dict.__init__» Builtin.Dict.selfAndRest;refine v0 (v0 (wpAny_notOrdered_dict ⟨_,hd,rfl⟩ ?_));refine v0 (show R0 _ _ (S3 D) _ _ _ from D0 (D0 ?_));show R0 _ _ (n8 "dict.__init__" D (.ref l) [] .none) _ _ _;unfold n8;refine v0 (T8 (T:="tuple") ⟨_,hl,rfl⟩ ?_);show R0 _ _ (getAttr? (.ref l) (T3 "keys") >>= _) _ _ _;refine v0 (zao hl hh λ h tk a=>?_);show R0 _ _ (rule _ >>= _) _ _ _;refine v0 (B8 (v0 (E4 (items:=items) ⟨_,a _ _ hl,rfl,_,rfl⟩ ?_)));refine D0 ⟨z81 _,?_⟩;have t:=G0 (a _ _ hd);have m:=G0 (a _ _ hl);have c :∀b o,s.heap.get? b=some o->(h.push { cls:=.type "tuple_iterator",data:=.fields #[.ref l,.int 0 0] }).get? b=some o:=λ b o e=>x0 _ (a b o e);refine z8w (d:=D) (it:=h.objs.size) (l:=l) (items:=items) (Q0 t) i (A2 m) ps 0 [] A' _ _ hh' ⟨_,I0 _ rfl,rfl,rfl⟩ ⟨_,c _ _ hl,rfl,_,rfl⟩ ?_ ?_ (by simpa using hz) λ h' k p j=>⟨rfl,q h' k p λ b o g e=>j b o g (λ z=>?_) (c b o e)⟩
 ·rw [G5];exact z02 (λ x y z=>PairOf.kept (L:=[]) (λ b o _ e=>c b o e) (λ b g=>absurd g B0) z) al
 ·exact z7f (c _ _ hd)
 ·rw [z] at e;exact absurd (G0 (a _ _ e)) (Y2 _)
end
section
variable {X:Cx}
theorem zbr {pins:List (Addr×Obj)} {σ:St} {H:Hp} {s:y0} (I:Inv X pins σ H s) :∀{kvs:List (Key×V)} {ys:List V} {its:List Value},All2 (λ (p:Key×V) y=>∃b,y=.ref b/\SqT X.K H b [kV p.1,p.2]) kvs ys->Vals ys its->
  ∃ps,KV kvs ps/\All2 (PairOf X.prog X.w s.heap) ps its
 | [],_,_,.nil,r=>by cases r;exact ⟨[],.nil,.nil⟩
 | p :: kvs,_,_,.cons ⟨b,e,sb⟩ al,r=>by
  cases r with
  | cons r1 r2=>
   subst e;obtain ⟨ps,c,d⟩:=zbr I al r2;obtain ⟨its,a,tb,_⟩:=I.tuple sb;cases a with
   | cons ra a=>
    cases a with
    | cons rb a=>cases a;rename_i u1 u2;exact ⟨(p.1,u2) :: ps,.cons ⟨rfl,rb⟩ c,.cons ⟨b,u1,r1,tb,kV_is ra⟩ d⟩
theorem z5x (kvs:List (Key×V)) :∀more:List (Key×V),(mergeK kvs more).length<=kvs.length + more.length
 | []=>A0 _
 | p :: more=>by have a:=z5x (putK kvs p.1 p.2) more;have b:=z1m kvs p.1 p.2;show (mergeK (putK kvs p.1 p.2) more).length<=_;rw [A1];omega
end
end L2
set_option maxHeartbeats 400000
namespace L2
open PySem PySem.Spec PyProof.Rows
structure RunsR (S:Hp->Hp->Prop) (J:It) (H1:Hp) (n:Nat) (Item:Nat->V->Hp->Prop):Prop where
 go :∀i,i < n->∀H,S H1 H->J.go i H
 stop :∀H,S H1 H->J.stop n H
 item :∀i,i < n->∀H v H',S H1 H->J.yld i H v H'->S H H'/\Item i v H'
theorem z32 {S:Hp->Hp->Prop} {J:It} {H1:Hp} {n m:Nat} {Item:Nat->V->Hp->Prop} {fr:List (Nat×Str)} {g:TG} {tc:TT} {te:TE} {σ:St} {Q:VK} (s0:S H1 H1) (st :∀a b c,S a b->S b c->S a c) (p:Nat->Bool) (R:Nat->V->Hp->Prop) (hR :∀i y H H',S H H'->R i y H->R i y H') (r:RunsR S J H1 n Item) (hn:n<=sizeLine)
  (body :∀i,i < n->∀v H,S H1 H->Item i v H->∀(KT:VK) (KF:Hp->Prop),(p i=true->∀y H',S H H'->R i y H'->KT y H')->(p i=false->∀H',S H H'->KF H')->
   g v (cStG σ fr (V2 m none)) H λ σ6 H6=>∃us,us.length=m/\σ6=cStG σ fr us/\tc (cStG σ fr us) H6 λ b H2=>if b=true then te (cStG σ fr us) H2 KT else KF H2)
  (hQ :∀l H' ys,S H1 H'->H' l=none->All2 (λ i y=>R i y H') ((N1 n).filter p) ys->Q (.ref l) (upd H' l (.lst ys))) :
  ∃W:Nat->Nat->List V->Hp->Prop,(∃m,W 0 m [] H1)/\∀i k ys H,W i k ys H->
   (J.stop i H/\ys.length<=sizeLine/\∀p,H p=none->Q (.ref p) (upd H p (.lst ys)))\/
   (J.go i H/\ys.length<=sizeLine/\∀v H',J.yld i H v H'->g v (cStG σ fr (V2 m none)) H' λ σ6 H6=>∃us,us.length=m/\σ6=cStG σ fr us/\tc (cStG σ fr us) H6 λ b H2=>if b=true then te (cStG σ fr us) H2 λ y H3=>∃m',m' < k/\W (i + 1) m' (ys++[y]) H3 else∃m',m' < k/\W (i + 1) m' ys H2):=by
 refine ⟨λ i k ys H'=>k=n - i/\i<=n/\S H1 H'/\All2 (λ i y=>R i y H') ((N1 i).filter p) ys,⟨n,by simp,P1 _,s0,.nil⟩,?_⟩;rintro i k ys H' ⟨rfl,hi,sm,fa⟩;have j:ys.length<=sizeLine:=by rw [z04 fa];have:=Z0 p (N1 i);rw [E5] at this;omega
 by_cases hlt:i < n
 ·refine .inr ⟨r.go i hlt H' sm,j,λ v H2 y=>?_⟩;obtain ⟨d,q⟩:=r.item i hlt H' v H2 sm y;refine body i hlt v H2 (st _ _ _ sm d) q _ _ (λ h y H3 f s=>⟨n - (i + 1),by omega,rfl,hlt,st _ _ _ (st _ _ _ sm d) f,?_⟩) (λ h H3 f=>⟨n - (i + 1),by omega,rfl,hlt,st _ _ _ (st _ _ _ sm d) f,?_⟩)
  ·rw [z1b,if_pos h];exact z36 (z02 (λ a b z=>hR a b _ _ (st _ _ _ d f) z) fa) s
  ·rw [z1b,if_neg (by rw [h];decide),C2];exact z02 (λ a b z=>hR a b _ _ (st _ _ _ d f) z) fa
 ·have e:i=n:=by omega
  subst e;exact .inl ⟨r.stop H' sm,j,λ l o=>hQ l H' ys sm o fa⟩
theorem zav {S:Hp->Hp->Prop} {K:c0} {a:Addr} {xs:List V} {H1:Hp} (hs :∀H,S H1 H->S H H) (hq :∀H,S H1 H->SqL K H a xs):RunsR S (Itl K a) H1 xs.length (λ i v _=>xs[i]? = some v):=
 ⟨λ i b H s=>⟨xs,xs[i],hq H s,by simp [b]⟩,λ H s=>⟨xs,hq H s,A0 _⟩,λ i b H v c s y=>by obtain ⟨e,y⟩:=y;subst e;exact ⟨hs _ s,y xs (hq _ s)⟩⟩
theorem zdt {S:Hp->Hp->Prop} {K:c0} {a:Addr} {xs:List V} {H1:Hp} (hs :∀H,S H1 H->S H H) (hq :∀H,S H1 H->SqT K H a xs):RunsR S (Itt K a) H1 xs.length (λ i v _=>xs[i]? = some v):=
 ⟨λ i b H s=>⟨xs,xs[i],hq H s,by simp [b]⟩,λ H s=>⟨xs,hq H s,A0 _⟩,λ i b H v c s y=>by obtain ⟨e,y⟩:=y;subst e;exact ⟨hs _ s,y xs (hq _ s)⟩⟩
def Ris (xs:Array Nat):Prop:=xs.toList.Pairwise (· < ·)
theorem Ris.lt {xs:Array Nat} (r:Ris xs) {i k:Nat} (h:i < k) (hk:k < xs.size):xs[i]'(N5 h hk) < xs[k]:=by have:=(List.pairwise_iff_getElem.mp r) i k (by simpa using N5 h hk) (by simpa using hk) h;simpa using this
theorem zg9 {xs:Array Nat} {i d:Nat} (h:i < xs.size):xs.getD i d=xs[i]:=by simp [Array.getD,h]
theorem z7w {xs:Array Nat} {j:Nat} (r:Ris xs) :∀(f lo hi:Nat),lo<=hi->hi<=xs.size->hi - lo<=f->(∀i (h:i < xs.size),i < lo->xs[i] < j)->(∀i (h:i < xs.size),hi<=i->j<=xs[i])->
  V5 xs j f lo hi<=xs.size/\(∀i (h:i < xs.size),i < V5 xs j f lo hi->xs[i] < j)/\(∀i (h:i < xs.size),V5 xs j f lo hi<=i->j<=xs[i])
 | 0,lo,hi,h1,h2,h3,ha,hb=>by
  have:lo=hi:=by omega
  subst this;exact ⟨h2,ha,hb⟩
 | f + 1,lo,hi,h1,h2,h3,ha,hb=>by
  unfold V5;by_cases z:lo < hi
  ·rw [if_pos z];have a:(lo + hi) / 2 < xs.size:=by omega
   dsimp only;rw [zg9 a];by_cases y:xs[(lo + hi) / 2] < j
   ·rw [if_pos y];refine z7w r f _ _ (by omega) h2 (by omega) (λ i h b=>?_) hb;by_cases e:i=(lo + hi) / 2
    ·subst e;exact y
    ·exact N5 (r.lt (by omega) a) y
   ·rw [if_neg y];refine z7w r f _ _ (by omega) (by omega) (by omega) ha λ i h b=>?_;by_cases e:i=(lo + hi) / 2
    ·subst e;omega
    ·exact F0 (Nat.not_lt.mp y) (i7 (r.lt (by omega) h))
  ·rw [if_neg z];have:lo=hi:=by omega
   subst this;exact ⟨h2,ha,hb⟩
theorem zcd {xs:Array Nat} (r:Ris xs) (j:Nat):B2 xs j<=xs.size/\(∀i (h:i < xs.size),i < B2 xs j->xs[i] < j)/\(∀i (h:i < xs.size),B2 xs j<=i->j<=xs[i]):=
 z7w r _ _ _ (P1 _) (A0 _) (A0 _) (λ i h z=>absurd z (B3 _)) (λ i h z=>absurd h (Nat.not_lt.mpr z))
theorem z43 {α:Type} (xs:Array α) (p:Nat) (x:α) (hp:p<=xs.size):(R7 xs p x).toList=xs.toList.take p++x :: xs.toList.drop p:=by unfold R7;simp [S6]
theorem Ris.insert {xs:Array Nat} (r:Ris xs) {j:Nat} (h:¬ xs[B2 xs j]? = some j):Ris (R7 xs (B2 xs j) j):=by
 obtain ⟨o,m,g⟩:=zcd r j;unfold Ris;rw [z43 _ _ _ o];refine List.pairwise_append.mpr ⟨r.sublist (List.take_sublist _ _),List.pairwise_cons.mpr ⟨λ y u=>?_,r.sublist (List.drop_sublist _ _)⟩,λ a p b d=>?_⟩
 ·obtain ⟨i,f,e⟩:=List.mem_drop_iff_getElem.mp u;have l:B2 xs j + i < xs.size:=by simpa [Nat.add_comm] using f
  have c:xs[B2 xs j + i]=y:=by simpa using e
  have le:=g _ l (by omega);rw [c] at le;rcases Nat.lt_or_eq_of_le le with z|z
  ·exact z
  ·exfalso;have d:B2 xs j < xs.size:=by omega
   have x:=g _ d (A0 _);have:xs[B2 xs j]=j:=by
    by_cases i0:i=0
    ·subst i0;exact c.trans z.symm
    ·have:=r.lt (show B2 xs j < B2 xs j + i by omega) l;rw [c] at this;omega
   exact h (by rw [Y4 d,this])
 ·obtain ⟨i,f,e⟩:=List.mem_take_iff_getElem.mp p;have s:i < xs.size:=by have:=f;simp at this;omega
  have n:i < B2 xs j:=by have:=f;simp at this;omega
  have lt:=m i s n;have c:xs[i]=a:=by simpa using e
  rw [c] at lt;rcases List.mem_cons.mp d with z|z
  ·rw [z];exact lt
  ·obtain ⟨k,w,t⟩:=List.mem_drop_iff_getElem.mp z;have v:B2 xs j + k < xs.size:=by simpa [Nat.add_comm] using w
   have q:xs[B2 xs j + k]=b:=by simpa using t
   have:=g _ v (by omega);rw [q] at this;omega
theorem zcx (n:Nat):Ris (Array.range n):=by unfold Ris;rw [Array.toList_range];exact T6
def z61 (t:K6) (j:Nat):Prop:=¬ t.place[B2 t.place j]? = some j
theorem z5t {t:K6} {j:Nat} (h :∀i,t.slot j≠.live i):z61 t j:=λ e=>by refine h (B2 t.place j) ?_;unfold SetTable.slot;dsimp only;rw [if_pos (by rw [e];exact beq_self_eq_true _)]
theorem z3c {t:K6} {hs:Nat->Int} {h:Int} :∀(f:Nat) (p:SetTable.Probe) (j:Nat) (d:Option Nat),(∀k,p.dummy=some k->z61 t k)->X8 t hs h f p=some (.empty j d)->z61 t j/\∀k,d=some k->z61 t k
 | 0,p,j,d,hd,e=>by cases e
 | f + 1,p,j,d,hd,e=>by
  unfold X8 at e;cases q:t.slot p.j with
  | empty=>rw [q] at e;cases e;exact ⟨z5t (λ i z=>by rw [q] at z;cases z),hd⟩
  | dummy=>rw [q] at e;refine z3c f _ j d (λ k z=>?_) e;unfold j01 at z;dsimp only at z;split at z<;>(cases z;exact z5t λ i z=>by rw [q] at z;cases z)
  | live i=>
   rw [q] at e;dsimp only at e;split at e
   ·cases e
   ·refine z3c f _ j d (λ k z=>?_) e;unfold j01 at z;dsimp only at z;split at z<;>exact hd k z
theorem z9g {t:K6} {h:Int} {s:Nat} {b:Bool} (e:t.freeSlot h=some (s,b)):z61 t s:=by
 unfold SetTable.freeSlot at e;cases q:t.probe (λ _=>h + 1) h (t.probeStart h) with
 | none=>rw [q] at e;cases e
 | some m=>
  rw [q] at e;cases m with
  | candidate a b c=>cases e
  | empty j d=>
   have:=z3c _ _ j d (λ k z=>by cases z) q;cases e;cases d with
   | none=>exact this.1
   | some k=>exact this.2 k rfl
def Tidy (l:Bool) (t:K6):Prop:=t.led=l/\Ris t.place
theorem Tidy.standIn {l:Bool} {t:K6} (h:Tidy l t) (n:Nat):Tidy l (t.standIn n):=⟨h.1,zcx n⟩
theorem Tidy.layNew {l:Bool} {t:K6} (h:Tidy l t) (es:Array (Int×Value)) (k:Int) (x:Value):Tidy l (layNew t es k x).2.1:=by
 unfold PySem.layNew;cases q:t.freeSlot k with
 | none=>exact h.standIn _
 | some s=>
  obtain ⟨s,b⟩:=s;dsimp only;have a:Tidy l (t.put s).1:=⟨h.1,Ris.insert h.2 (z9g q)⟩
  unfold SetTable.orStandIn;split
  ·exact a
  ·exact a.standIn _
theorem Tidy.relayAll {l:Bool} {t:K6} (h:Tidy l t) (es:Array (Int×Value)) (n:Nat):Tidy l (Q9 t es n).2.1:=by
 unfold PySem.relayAll;cases q:t.relaid (es.map (·.1)) n with
 | none=>exact h.standIn _
 | some p=>
  obtain ⟨j,o⟩:=p;dsimp only;split
  ·unfold SetTable.relaid SetTable.laid at q;cases q2:SetTable.layClean (SetTable.sizeAbove n - 1) (es.map (·.1)) with
   | none=>rw [q2] at q;cases q
   | some ow=>rw [q2] at q;cases q;refine ⟨h.1,?_⟩;show (List.map _ _).Pairwise _;rw [D5];refine List.Pairwise.filterMap _ (λ a b e c f d hd=>?_) (T6);obtain ⟨k,_,g⟩:=Option.map_eq_some_iff.mp f;obtain ⟨m,_,i⟩:=Option.map_eq_some_iff.mp hd;rw [<-g,<-i];exact e
  ·exact h.standIn _
end L2
set_option maxHeartbeats 1000000
namespace L2
open PySem PySem.Spec PyProof.Rows
noncomputable def intOf:Value->Int
 | .int i _=>i
 | _=>0
theorem z5n {vs:List Value} {ns:List Int} (h:N3 vs ns):ns=vs.map intOf/\∀v∈vs,∃i t,v=.int i t:=by
 induction h with
 | nil=>exact ⟨rfl,λ v a=>by cases a⟩
 | cons n t r ih=>
  refine ⟨by rw [ih.1];rfl,λ v a=>?_⟩;rcases List.mem_cons.mp a with e|a
  ·exact ⟨n,t,e⟩
  ·exact ih.2 v a
theorem zax :∀vs:List Value,(∀v∈vs,∃i t,v=.int i t)->N3 vs (vs.map intOf)
 | [],_=>.nil
 | v :: vs,h=>by obtain ⟨i,t,e⟩:=h v (.head _);subst e;exact .cons i t (zax vs λ v a=>h v (.tail _ a))
theorem z8e {vs vs':List Value} {ns:List Int} (h:N3 vs ns) (p:vs'.Perm vs) :∃ns',N3 vs' ns'/\ns'.Perm ns:=by obtain ⟨e,k⟩:=z5n h;refine ⟨vs'.map intOf,zax vs' λ v a=>k v (p.mem_iff.mp a),?_⟩;rw [e];exact p.map _
theorem zbu {vs:List Value} {ns:List Int} (h:N3 vs ns):ns.length=vs.length:=by rw [(z5n h).1,C0]
theorem zcu {vs:List Value} {ns:List Int} (h:N3 vs ns) (n:Int) (t:Tok):N3 (vs++[.int n t]) (ns++[n]):=by
 induction h with
 | nil=>exact .cons n t .nil
 | cons m u r ih=>exact .cons m u ih
section
variable {prog:Program} {w:O0} {A:Z1} {E:Value->y0->Prop} {s:y0}
def SetAt (prog:Program) (w:O0) (l:Bool) (h:Heap) (a:Addr) (ns:List Int):Prop:=
 ∃es ep t,h.get? a=some { cls:=.type "set",dict:=none,data:=.set es ep t,slots:=#[] }/\ElemsOf (U4 prog w) es.toList/\N3 (es.toList.map (·.2)) ns/\ns.Nodup/\es.size < scanBound/\t.fits es.size=true/\Tidy l t
theorem z8t {l:Bool} {h:Heap} {a:Addr} {es0 es:Array (Int×Value)} {ep:Nat} {t0 t:K6} {ns:List Int} (ho:h.get? a=some { cls:=.type "set",dict:=none,data:=.set es0 ep t0,slots:=#[] })
  (hel:ElemsOf (U4 prog w) es.toList) (hi:N3 (es.toList.map (·.2)) ns) (nd:ns.Nodup) (hb:es.size < scanBound) (hf:t.fits es.size=true) (ht:Tidy l t) :
  (h.update a (c8 es t)).get? a=some { cls:=.type "set",dict:=none,data:=.set es (ep + 1) t,slots:=#[] }/\SetAt prog w l (h.update a (c8 es t)) a ns:=by
 have g:(h.update a (c8 es t)).get? a=some { cls:=.type "set",dict:=none,data:=.set es (ep + 1) t,slots:=#[] }:=A7 (c8 es t) ho rfl;exact ⟨g,es,ep + 1,t,g,hel,hi,nd,hb,hf,ht⟩
theorem zeo {es:List (Int×Value)} {ns:List Int} {v:Int} (hi:N3 (es.map (·.2)) ns) (h:es.findIdx? (λ e=>(U4 prog w).is v e.2)=none):¬ v∈ns:=λ c=>by
 obtain ⟨e,k⟩:=z5n hi;rw [e] at c;obtain ⟨y,b,j⟩:=List.mem_map.mp c;obtain ⟨p,d,f⟩:=List.mem_map.mp b;obtain ⟨i,t,a⟩:=k y b;have:=List.findIdx?_eq_none_iff.mp h p d;have g:v=i:=by rw [<-j,a];rfl
 have:(U4 prog w).is v p.2=false:=by simpa using this
 rw [f,a,g,intKind_is] at this;cases this
theorem zg8 {es:List (Int×Value)} {ns:List Int} {v:Int} {j:Nat} (hi:N3 (es.map (·.2)) ns) (h:es.findIdx? (λ e=>(U4 prog w).is v e.2)=some j):v∈ns:=by obtain ⟨b,a,_⟩:=List.findIdx?_eq_some_iff_getElem.mp h;obtain ⟨t,e⟩:=Value.isInt_shape (show V9 v es[j].2=true from a);rw [(z5n hi).1];exact List.mem_map.mpr ⟨es[j].2,List.mem_map.mpr ⟨es[j],X4 b,rfl⟩,by rw [e];rfl⟩
theorem zb8 {ns:List Int} {v:Int} (h:ns.Nodup) (n:¬ v∈ns):(ns++[v]).Nodup:=by refine List.nodup_append.mpr ⟨h,by simp,λ a d b c e=>?_⟩;rw [List.mem_singleton.mp c] at e;exact n (e ▸ d)
noncomputable def addI (ns:List Int) (v:Int):List Int:=if v∈ns then ns else ns++[v]
theorem zfr {l:Bool} {a:Addr} {v:Int} {tk:Tok} {ns:List Int} {Q:Bool->y0->Prop} (hS:SetAt prog w l s.heap a ns) (hroom:ns.length + 1 < scanBound)
  (h :∀b h' ns',g6 a s.heap h'->SetAt prog w l h' a ns'->ns'.Perm (addI ns v)->Q b { s with heap:=h' }):R0 (Y0 prog w) A (setAddHashed a (.int v tk) ((U4 prog w).hash v)) Q E s:=by
 obtain ⟨f,ep,t,n,u,m,nd,J,B,N⟩:=hS;have a1:f.size=ns.length:=by rw [zbu m,C0,W0]
 have S:(U4 prog w).is v (.int v tk)=true:=intKind_is prog w v tk;unfold setAddHashed setAddHashedIn;refine G2 (v0 (wpAny_setState_of n rfl B ?_));dsimp only;rw [byScan_of rfl J u];simp only [↓reduceIte];unfold setAddByScan;refine v0 (v0 (B8 (v0 (wpAny_setScan_of S n rfl B u ?_))));cases hr:List.findIdx? (λ e=>(U4 prog w).is v e.2) f.toList with
 | some j=>refine D0 (D0 ?_);have:=h false s.heap ns (Heap.SameBut.refl a s.heap) ⟨f,ep,t,n,u,m,nd,J,B,N⟩ (by unfold addI;rw [if_pos (zg8 m hr)]);exact this
 | none=>
  dsimp only;have g:=layNew_perm t f ((U4 prog w).hash v) (.int v tk);have I:=layNew_fits t f ((U4 prog w).hash v) (.int v tk);have y:=N.layNew f ((U4 prog w).hash v) (.int v tk);generalize layNew t f ((U4 prog w).hash v) (.int v tk)=L at g I y⊢;obtain ⟨c,d,wd,a0⟩:=L;dsimp only at g I y⊢;rw [Array.toList_push] at g;have M:ElemsOf (U4 prog w) c.toList:=(u.push S rfl).perm g;have p :∃i,N3 (c.toList.map (·.2)) i/\i.Perm (ns++[v]):=z8e (zcu m v tk) (by have:=g.map (λ e:Int×Value=>e.2);rwa [O2] at this);obtain ⟨i,p,D⟩:=p;have V:=zeo m hr;have K:i.Nodup:=D.nodup_iff.mpr (zb8 nd V);have T:addI ns v=ns++[v]:=if_neg V;have H:c.size < scanBound:=by rw [<-W0,g.length_eq,L0,W0,a1];exact hroom
  have R :∀(b:Bool) {F:y0} {Q':Unit->y0->Prop},Q' () F->R0 (Y0 prog w) A (match b with|true=>rule "set.scan.the-table-gave-way" | false=>S3 ()) Q' E F:=λ b F Q' q=>by cases b with|false=>exact D0 q|true=>exact B8 q
  have Z:R0 (Y0 prog w) A (do
    storeSet a c d
    if (!wd && d.tooFull)=true then do
      (match (Q9 d c (D4 c.size)).2.2 with|true=>rule "set.scan.the-table-gave-way" | false=>S3 ())
      storeSet a (Q9 d c (D4 c.size)).1 (Q9 d c (D4 c.size)).2.1
      S3 (some true)
     else S3 (some true)) (λ r o=>∃b,r=some b/\Q b o) E s:=by
   obtain ⟨O,S1⟩:=z8t (prog:=prog) (w:=w) n M p K H I y;have sb:=X2 s.heap a (c8 c d);refine v0 (wpAny_storeSet_of n rfl ?_ (fits_of_scanBound H));split
   ·have k:=relayAll_perm d c (D4 c.size);have C:=relayAll_fits d c (D4 c.size);have G:=y.relayAll c (D4 c.size);generalize Q9 d c (D4 c.size)=L2 at k C G⊢;obtain ⟨Y,t2,g2⟩:=L2;dsimp only at k C G⊢;obtain ⟨a2,X,P⟩:=z8e p (k.map (λ e:Int×Value=>e.2));have U:Y.size < scanBound:=by rw [<-W0,k.length_eq,W0];exact H
    refine v0 (R g2 (v0 (wpAny_storeSet_of O rfl ?_ (fits_of_scanBound U))));obtain ⟨_,W⟩:=z8t (prog:=prog) (w:=w) O (M.perm k) X (P.nodup_iff.mpr K) U C G;exact D0 ⟨true,rfl,h true _ a2 (sb.trans (X2 _ a _)) W (by rw [T];exact P.trans D)⟩
   ·exact D0 ⟨true,rfl,h true _ i sb S1 (by rw [T];exact D)⟩
  refine v0 (R a0 ?_);have fin:=L3 Z (Q':=λ r o=>R0 (Y0 prog w) A (match r with|some added=>S3 added|none=>setAddHashedIn a (.int v tk) ((U4 prog w).hash v) 99999) Q E o) (E':=E) (λ r o x=>by obtain ⟨b,e,q⟩:=x;subst e;exact D0 q) (λ e o x=>x);by_cases z:d.plain=true
  ·rw [if_pos z];exact v0 (n9 (show hashByValue 8 (R5 v tk)=S3 true from rfl) fin)
  ·rw [if_neg z];exact v0 (D0 fin)
end
theorem zcs {ns ms:List Int} (p:ns.Perm ms) (v:Int):(addI ns v).Perm (addI ms v):=by
 unfold addI;by_cases z:v∈ns
 ·rw [if_pos z,if_pos (p.mem_iff.mp z)];exact p
 ·rw [if_neg z,if_neg (λ y=>z (p.mem_iff.mpr y))];exact p.append_right [v]
theorem z26 :∀(vs:List Int) {ns ms:List Int},ns.Perm ms->(vs.foldl addI ns).Perm (vs.foldl addI ms)
 | [],_,_,p=>p
 | v :: vs,_,_,p=>z26 vs (zcs p v)
theorem zbi (ns:List Int) (v:Int):(addI ns v).length<=ns.length + 1:=by
 unfold addI;split
 ·exact Y5 _
 ·rw [L0];exact A0 _
section
variable {prog:Program} {w:O0} {A:Z1} {E:Value->y0->Prop} {s:y0}
theorem SetAt.at' {l:Bool} {h h':Heap} {a:Addr} {ns:List Int} (k :∀o,h.get? a=some o->h'.get? a=some o) (x:SetAt prog w l h a ns):SetAt prog w l h' a ns:=by obtain ⟨c,b,t,e,r⟩:=x;exact ⟨c,b,t,k _ e,r⟩
theorem z8q (a:Args):(W6 "set.update.loop" a).quiet=true:=plainId_quiet (by decide +kernel) _
noncomputable def set0 (w:O0):Obj:={ cls:=.type "set",dict:=none,data:=.set #[] 0 (.fresh 0 0 (!w.params.followText "set-order")) }
theorem zec (a:Value) {Q₁:Value->y0->Prop} (h:Q₁ (.ref s.heap.objs.size) { s with heap:=s.heap.push (set0 w) }):C5 (Y0 prog w) A (.call (.builtin "set.__new__") ⟨[.type "set",a],[]⟩) (wants Q₁ E) s:=by refine b8 F.plain_set_new F.entry_set_new (n9 (F.newCall_set_1 a) ?_);show R0 _ _ (Builtin.Frozenset.newClass "set" ⟨[.type "set",a],[]⟩ >>= _) _ _ _;refine v0 (v0 (show R0 _ _ (S3 true) _ _ _ from D0 ?_));show R0 _ _ (isSubtype (.type "set") (.type "set") >>= _) _ _ _;refine v0 (n9 sub_set_self ?_);refine D0 ?_;show R0 _ _ (newSet (.type "set") >>= _) _ _ _;unfold newSet setsByText;refine v0 (v0 (v0 (wpAny_askSetting (D0 ?_))));exact v0 (wpAny_alloc (D0 (D0 h)))
theorem zg5 {h:Heap} {a:Addr} (e:h.get? a=some (set0 w)):SetAt prog w (!w.params.followText "set-order") h a []:=
 ⟨#[],0,_,e,λ x b=>by simp at b,.nil,List.nodup_nil,by decide,by rfl,rfl,k7⟩
end
section
variable {X:Cx}
theorem z2s :∀(vs ns:List Int),(vs.foldl addI ns).length<=ns.length + vs.length
 | [],ns=>A0 _
 | v :: vs,ns=>by have a:=z2s vs (addI ns v);have b:=zbi ns v;show (vs.foldl addI (addI ns v)).length<=_;rw [A1];omega
end
end L2
set_option maxHeartbeats 400000
namespace HT
open PySem PySem.Spec PyProof.Rows L2
variable {prog:Program} {w:O0} {A:Z1} {E:Value->y0->Prop} {s:y0}
end HT
namespace L2
open PySem PySem.Spec PyProof.Rows
theorem qs_if {X:Cx} {pos:Pos} {c:Expr} {a b:List Stmt} {t:TT} {ta tb:TS} (hc:PT X c t) (ha:QSs X a ta) (hb:QSs X b tb):QS X (.If c a b pos) (tIfS t ta tb):=⟨ps_if hc ha.run hb.run⟩
theorem zew {f:List V->Hp->VK->Prop} {te tb:TE} {r:R2} {σ:St} {H:Hp} {Q:Bool->Hp->Prop} (h:te σ H λ x H1=>f [x] H1 λ y H2=>tb σ H2 λ z H3=>r y z H3 λ b H4=>∃k,b=.bl k/\Q k H4):tTest (tOp r (tCB f (tCons te tNil)) tb) σ H Q:=h
theorem z0p {c:TT} {a b:TS} {D:Ends} {σ:St} {H:Hp} (h:c σ H λ k H1=>if k=true then a D σ H1 else b D σ H1):tIfS c a b D σ H:=h
theorem z95 {K:c0} {a:Addr} {xs:List V} {H1:Hp} (hq:SqL K H1 a xs):RunsR Same (IteL K a) H1 xs.length (λ i v H=>∃x p,xs[i]? = some x/\v=.ref p/\H p=some (.tup [.int (i:Nat),x])):=by refine ⟨λ i b H s=>⟨xs,xs[i],s.seq hq,by simp [b]⟩,λ H s=>⟨xs,s.seq hq,rfl⟩,λ i b H v e s y=>?_⟩;obtain ⟨p,c,rfl,f⟩:=y;obtain ⟨x,d,rfl⟩:=f xs (s.seq hq);exact ⟨Same.upd c,x,p,d,rfl,z01⟩
end L2
set_option maxHeartbeats 1000000
namespace L2
open PySem PySem.Spec PyProof.Rows
section
variable {prog:Program} {w:O0} {A:Z1} {E:Value->y0->Prop} {s:y0}
theorem zac {b:Bool} {S it l:Addr} {items:Array Value} (nsi:S≠it) (nsl:S≠l) (nil':it≠l) :∀(ms:List Int) (i:Nat) (ns:List Int) (A:Z1) (R:Result->y0->Prop) (s:y0),A.handled=none->s.heap.IsListIter it l i->s.heap.IsList l items->
  N3 (items.toList.drop i) ms->SetAt prog w b s.heap S ns->ns.length + ms.length < scanBound->
  (∀h' tk ns',SetAt prog w b h' S ns'->ns'.Perm (ms.foldl addI ns)->(∀c o,c≠S->c≠it->s.heap.get? c=some o->h'.get? c=some o)->R (.ok (.ret .none)) { s with heap:=h',toks:=tk })->
  C5 (Y0 prog w) A (W6 "set.update.loop" { pos:=[.ref S,.ref it],kw:=[] }) R s
 | [],i,ns,A,R,s,hh,si,sl,al,dd,hz,q=>by
  have L:items[i]? = none:=by
   cases hd:items.toList.drop i with
   | nil=>have:=List.drop_eq_nil_iff.mp hd;rw [W0] at this;exact B5 this
   | cons u us=>rw [hd] at al;cases al
  refine o4 J5 ?_;show R0 _ _ (D8 (.ref it) >>= _) _ _ s;refine v0 (U7 (show (A.under _).handled=none from hh) si sl L λ h' r=>?_);exact D0 (q h' s.toks ns (dd.at' λ o e=>r S o nsi e) (List.Perm.refl _) λ c o _ H e=>r c o H e)
 | m :: ms,i,ns,A,R,s,hh,si,sl,al,dd,hz,q=>by
  cases hd:items.toList.drop i with
  | nil=>rw [hd] at al;cases al
  | cons u us=>
   rw [hd] at al;cases al with
   | cons _ tk al=>
    have C:items.toList[i]? = some (.int m tk):=by have:=congrArg (λ l=>l[0]?) hd;simpa using this
    have x:items[i]? = some (.int m tk):=by simpa using C
    have z:items.toList.drop (i + 1)=us:=by have:=congrArg List.tail hd;simpa using this
    refine o4 J5 ?_;show R0 _ _ (D8 (.ref it) >>= _) _ _ s;refine v0 (J7 si sl x λ g y h=>?_);have D:g.IsList l items:=by obtain ⟨o,d,a⟩:=sl;exact ⟨o,(h.2 l (F3 nil')).trans d,a⟩
    have E:SetAt prog w b g S ns:=dd.at' λ o e=>(h.2 S nsi).trans e;rw [A1] at hz;refine v0 (G2 (show R0 _ _ (setAdd S (.int m tk)) _ _ _ from ?_));unfold setAdd;refine G2 (v0 ((U4 prog w).pyHash (k:=m) (intKind_is prog w m tk) ?_));refine zfr (s:={ s with heap:=g,toks:=s.toks + 1 }) E (J1 (by omega) hz) λ c f v j G t=>?_;refine D0 ⟨z8q _,?_⟩;have K:f.IsListIter it l (i + 1):=by obtain ⟨o,d,a⟩:=y;exact ⟨o,(j.2 it (F3 nsi)).trans d,a⟩
    have B:f.IsList l items:=by obtain ⟨o,d,a⟩:=D;exact ⟨o,(j.2 l (F3 nsl)).trans d,a⟩
    have N:v.length<=ns.length + 1:=by rw [t.length_eq];exact zbi ns m
    refine zac nsi nsl nil' ms (i + 1) v A R { s with heap:=f,toks:=s.toks + 1 } hh K B (by rw [z];exact al) G (by omega) λ h' M ns' F I J=>q h' M ns' F (I.trans (z26 ms t)) λ c o n p e=>J c o n p ((j.2 c n).trans ((h.2 c p).trans e))
theorem z6y:isSubtype (.type "list") (.type "set")=S3 false:=by rw [isSubtype_type];kernel_rfl
theorem z49:isSubtype (.type "list") (.type "frozenset")=S3 false:=by rw [isSubtype_type];kernel_rfl
theorem z73 {l:Addr} {items:Array Value} {ns:List Int} {Q:Value->y0->Prop} (hh:A.handled=none) (ht:s.heap.IsList l items) (hi:N3 items.toList ns) (hb:ns.length < scanBound)
  (h :∀h' tk ns',SetAt prog w (!w.params.followText "set-order") h' s.heap.objs.size ns'->ns'.Perm (ns.foldl addI [])->(∀b o,s.heap.get? b=some o->h'.get? b=some o)->Q (.ref s.heap.objs.size) { s with heap:=h',toks:=tk }) :
  R0 (Y0 prog w) A (call (.type "set") [.ref l]) Q E s:=by
 obtain ⟨c,W,L⟩:=F.called_set.mro;have O:=F.called_set.made;have Z:=F.called_set.sub;refine C8 (codeAny_of_tree (show R0 _ _ (callAny (.type "set") _) _ _ _ from D0 ⟨Code.quiet_builtin _ (by decide +kernel),o4 F.entry_type_call ?_⟩));rw [j08 (weight_type_call_type "set" [.ref l] []) rfl];have N:=F.called_set.notType;have K:=F.called_set.canCreate;have J:=F.typeCall_set_1 (.ref l)
 (repeat (any_goals (first|assumption|wp_step)));refine F4 (zec (.ref l) (E:=E) (Q₁:=λ j q=>j=.ref s.heap.objs.size/\q={ s with heap:=s.heap.push (set0 w) }) ⟨rfl,rfl⟩) λ r q a=>?_
 cases r with
 | error e=>exact a
 | ok fl=>
  cases fl with
  | next=>exact a.elim
  | brk=>exact a.elim
  | cont=>exact a.elim
  | ret j=>
   obtain ⟨rfl,rfl⟩:=a;have g:(s.heap.push (set0 w)).get? s.heap.objs.size=some (set0 w):=I0 _ rfl;have z:M7 { s with heap:=s.heap.push (set0 w) } (.ref s.heap.objs.size) "set":=⟨_,g,rfl⟩
   have U:=F.called_set.init.lookup;have V:=F.called_set.init.bind (.ref s.heap.objs.size)
   (repeat (any_goals (first|assumption|wp_step)))
   have x:C5 (Y0 prog w) A.in1 (.call (.builtin "set.__init__") ⟨[.ref s.heap.objs.size,.ref l],[]⟩) (wants (λ r m=>r=.none/\Q (.ref s.heap.objs.size) m) E) { s with heap:=s.heap.push (set0 w) }:=by
    refine b8 F.called_set.init.plain F.entry_set_init (check_set_init_1 z ?_);obtain ⟨o,i,p,n,hd⟩:=ht;obtain ⟨T,I,P,u⟩:=o;dsimp only at p hd;subst p hd;have y:(s.heap.push (set0 w)).get? l=some { cls:=.type "list",dict:=I,data:=.seq items n,slots:=u }:=x0 _ i;have X:=z6y;have M:=z49;have R:(O4 "list" == O4 "dict")=false:=by decide
    have Y:(s.heap.push (set0 w)).get? s.heap.objs.size=some { cls:=.type "set",dict:=none,data:=.set #[] 0 (.fresh 0 0 (!w.params.followText "set-order")),slots:=#[] }:=g;have C:(s.heap.push (set0 w)).IsList l items:=⟨_,y,rfl,n,rfl⟩
    have k:l < s.heap.objs.size:=G0 i;unfold X6.«set.__init__» noKeywords m7;generalize hPI:pyIter=PI
    wp_walk
    subst hPI;refine T5 C (v0 (wpAny_runValue ?_));have t :∀b o,s.heap.get? b=some o->((s.heap.push (set0 w)).push { cls:=.type "list_iterator",data:=.fields #[.ref l,.int 0 0] }).get? b=some o:=λ b o e=>x0 _ (x0 _ e);have f:(s.heap.push (set0 w)).objs.size=s.heap.objs.size + 1:=Y3 _ _;refine zac (S:=s.heap.objs.size) (it:=(s.heap.push (set0 w)).objs.size) (l:=l) (items:=items) (by rw [f];exact Q0 (D2 _)) (A2 k) (by rw [f];exact A2 (i1 k)) ns 0 [] _ _ _ (by simp [hh]) ⟨_,I0 _ rfl,rfl,rfl⟩ ⟨_,t _ _ i,rfl,n,rfl⟩ (by rw [G5];exact hi) (zg5 (x0 _ g)) (by simpa using hb) λ h' tk ns' B D G=>?_;refine D0 (D0 ⟨rfl,h h' tk ns' B D λ b o e=>G b o (Q0 (G0 e)) (by rw [f];exact Q0 (i1 (G0 e))) (t b o e)⟩)
   refine F4 x λ H m d=>?_;cases H with
   | error e=>exact d
   | ok f2=>
    cases f2 with
    | next=>exact d.elim
    | brk=>exact d.elim
    | cont=>exact d.elim
    | ret r=>obtain ⟨rfl,v⟩:=d;exact D0 (D0 v)
end
section
variable {X:Cx}
noncomputable def tLSet (K:c0) (te:TE):TE:=λ σ H Q=>te σ H λ x H1=>∃(a:Addr) (ns:List Int),x=.ref a/\SqL K H1 a (ns.map V.int)/\ns.length < 100/\Q (.int ((ns.foldl addI []).length:Nat)) H1
theorem zck {e:Expr} {te:TE} {p1 p2 c1 c2:Pos} (hcalm:X.calm=true) (g1:Gl X "len") (m1:X.mg "len" = none) (g2:Gl X "set") (m2:X.mg "set" = none) (b1:v4 "len" = some (.builtin "len")) (b2:v4 "set" = some (.type "set")) (ha:PE X e te)
  (he:G1 [e] X.env=[(false,W3 e X.env)]:=by rfl):PE X (.Call (.Name "len" p1) [.Call (.Name "set" p2) [e] [] c2] [] c1) (tLSet X.K te):=by
 intro p s σ H Q I h;have j:X.A.handled=none:=I.ok.hd hcalm;refine E3 (ld_blt I g1 m1 b1 ?_ (by decide) (by decide));refine m5 ?_ rfl rfl;refine (show R0 _ _ (G9 ((false,W3 (.Call (.Name "set" p2) [e] [] c2) X.env) :: [])) _ _ s from Q3 ?_);refine E3 (ld_blt I g2 m2 b2 ?_ (by decide) (by decide));refine n3 ?_ he rfl;rw [he];refine (show R0 _ _ (G9 ((false,W3 e X.env) :: [])) _ _ s from Q3 (thn (ha p s σ H _ I h) λ u i ⟨x,H1,I1,r1,a,ns,ex,sq,hl,q⟩=>?_));subst ex;cases r1;refine j4 ?_;obtain ⟨z,n,o,D⟩:=I1.list sq;refine z73 j o.isList (by simpa using z35 n) (N5 hl (by decide)) λ d b C g v r=>j4 ?_;obtain ⟨f,B,t,k,_,m,nd,w,c,_⟩:=g;have l:f.size=(ns.foldl addI []).length:=by rw [<-v.length_eq,zbu m,C0,W0]
 have y:(ns.foldl addI []).length < 100:=by have:=z2s ns [];rw [B4,M5] at this;omega
 refine call_len_set (s:={ i with heap:=d,toks:=b }) k ⟨rfl,rfl,rfl⟩ rfl c (by omega) ?_;rw [l];exact ⟨.int ((ns.foldl addI []).length:Nat),H1,(I1.kept (t':=b + 1 + 1) r),⟨_,rfl⟩,q⟩
end
theorem z0o {K:c0} {a:Addr} {xs:List V} {tl te:TE} {tc:TT} {g:TG} {m:Nat} {fr:List (Nat×Str)} {σ:L2.St} {H H1:Hp} {Q:VK} (p:Nat->Bool) (R:Nat->V->Hp->Prop) (hR :∀i y H H',Same H H'->R i y H->R i y H') (htl :∀R:VK,R (.ref a) H1->tl σ H R) (hq:SqL K H1 a xs) (hn:xs.length<=sizeLine)
  (body :∀i,i < xs.length->∀v H,Same H1 H->xs[i]? = some v->∀(KT:VK) (KF:Hp->Prop),(p i=true->∀y H',Same H H'->R i y H'->KT y H')->(p i=false->∀H',Same H H'->KF H')->
   g v (cStG σ fr (V2 m none)) H λ σ6 H6=>∃us,us.length=m/\σ6=cStG σ fr us/\tc (cStG σ fr us) H6 λ b H2=>if b=true then te (cStG σ fr us) H2 KT else KF H2)
  (hQ :∀l H' ys,Same H1 H'->H' l=none->All2 (λ i y=>R i y H') ((N1 xs.length).filter p) ys->Q (.ref l) (upd H' l (.lst ys))):tCompG (iList K tl) m fr g tc te σ H Q:=
 htl _ ⟨a,rfl,⟨xs,hq⟩,z32 (Same.refl _) (λ _ _ _ a b=>a.trans b) p R hR (zav (S:=Same) (λ _ _=>Same.refl _) λ H s=>s.seq hq) hn body hQ⟩
theorem zdi {K:c0} {a:Addr} {xs:List V} {ta:TA} {te:TE} {tc:TT} {g:TG} {m:Nat} {fr:List (Nat×Str)} {σ:L2.St} {H H1:Hp} {Q:VK} (p:Nat->Bool) (R:Nat->V->Hp->Prop) (hR :∀i y H H',Same H H'->R i y H->R i y H') (hta :∀T:List V->Hp->Prop,T [.ref a] H1->ta σ H T) (hq:SqL K H1 a xs) (hn:xs.length<=sizeLine)
  (body :∀i,i < xs.length->∀v H,Same H1 H->(∃x p,xs[i]? = some x/\v=.ref p/\H p=some (.tup [.int (i:Nat),x]))->∀(KT:VK) (KF:Hp->Prop),(p i=true->∀y H',Same H H'->R i y H'->KT y H')->(p i=false->∀H',Same H H'->KF H')->
   g v (cStG σ fr (V2 m none)) H λ σ6 H6=>∃us,us.length=m/\σ6=cStG σ fr us/\tc (cStG σ fr us) H6 λ b H2=>if b=true then te (cStG σ fr us) H2 KT else KF H2)
  (hQ :∀l H' ys,Same H1 H'->H' l=none->All2 (λ i y=>R i y H') ((N1 xs.length).filter p) ys->Q (.ref l) (upd H' l (.lst ys))):tCompG (ieL K ta) m fr g tc te σ H Q:=
 hta _ ⟨a,xs,rfl,hq,z32 (Same.refl _) (λ _ _ _ a b=>a.trans b) p R hR (z95 hq) hn body hQ⟩
theorem z8h {K:c0} {a:Addr} {xs:List V} {tl te:TE} {tc:TT} {g:TG} {m:Nat} {fr:List (Nat×Str)} {σ:L2.St} {H H1:Hp} {Q:VK} (p:Nat->Bool) (R:Nat->V->Hp->Prop) (hR :∀i y H H',Same H H'->R i y H->R i y H') (htl :∀R:VK,R (.ref a) H1->tl σ H R) (hq:SqT K H1 a xs) (hn:xs.length<=sizeLine)
  (body :∀i,i < xs.length->∀v H,Same H1 H->xs[i]? = some v->∀(KT:VK) (KF:Hp->Prop),(p i=true->∀y H',Same H H'->R i y H'->KT y H')->(p i=false->∀H',Same H H'->KF H')->
   g v (cStG σ fr (V2 m none)) H λ σ6 H6=>∃us,us.length=m/\σ6=cStG σ fr us/\tc (cStG σ fr us) H6 λ b H2=>if b=true then te (cStG σ fr us) H2 KT else KF H2)
  (hQ :∀l H' ys,Same H1 H'->H' l=none->All2 (λ i y=>R i y H') ((N1 xs.length).filter p) ys->Q (.ref l) (upd H' l (.lst ys))):tCompG (iTup K tl) m fr g tc te σ H Q:=
 htl _ ⟨a,rfl,⟨xs,hq⟩,z32 (Same.refl _) (λ _ _ _ a b=>a.trans b) p R hR (zdt (S:=Same) (λ _ _=>Same.refl _) λ H s=>s.seqT hq) hn body hQ⟩
theorem e_cb1 {f:List V->Hp->VK->Prop} {te:TE} {σ:L2.St} {H:Hp} {Q:VK} (h:te σ H λ x H1=>f [x] H1 Q):tCB f (tCons te tNil) σ H Q:=h
theorem t_test {r:R2} {ta tb:TE} {σ:L2.St} {H:Hp} {Q:Bool->Hp->Prop} (h:ta σ H λ x H1=>tb σ H1 λ y H2=>r x y H2 λ x H3=>∃c,x=.bl c/\Q c H3):tTest (tOp r ta tb) σ H Q:=h
theorem t_or {t u:TT} {σ:L2.St} {H:Hp} {Q:Bool->Hp->Prop} (h:t σ H λ c H1=>if c=true then Q true H1 else u σ H1 Q):tOr t u σ H Q:=h
theorem sq_if {c:TT} {a b rest:TS} {D:Ends} {σ:L2.St} {H:Hp} (h:c σ H λ k H1=>if k=true then a { D with nx:=rest D } σ H1 else b { D with nx:=rest D } σ H1):tSeq (tIfS c a b) rest D σ H:=h
theorem sq_ret {te:TE} {D:Ends} {σ:L2.St} {H:Hp} (h:te σ H D.rt):tRet te D σ H:=h
section
variable {X:Cx} {pins:List (Addr×Obj)} {σ:St} {H:Hp} {s:y0} {a:Addr} {u v:HO}
theorem Inv.retold (I:Inv X pins σ H s) (e:H a=some u) (nt :∀xs,u≠.tup xs) (nb :∀ps,u≠.tbl ps) (no :∀c,u≠.own c) (nf :∀o w,X.H₀ a≠some (.frz o w)) (ok:ObjOk X.prog X.w (upd H a v) s.heap a v):Inv X pins σ (upd H a v) s:=by
 have d :∀{b:Addr},H b=none->b≠a:=λ n z=>by rw [z,e] at n;cases n
 refine ⟨I.ok,I.os,I.bare,⟨I.base.keep,I.base.slot,λ b o q n i=>?_,I.base.there,λ b xs q=>?_,λ b o w q=>?_,λ b ps q=>?_⟩,I.loc,I.cell,?_,λ x c q=>?_,λ p h=>?_,λ b o q=>?_,I.len⟩
 ·have z:=I.base.free b o q n i;rw [upd_ne (d z)];exact z
 ·have z:=I.base.tups b xs q;rw [upd_ne (λ y=>by rw [y,e] at z;exact nt xs (D1 z))];exact z
 ·have z:=I.base.frzs b o w q;rw [upd_ne (λ y=>by rw [y] at q;exact nf o w q)];exact z
 ·obtain ⟨j,z⟩:=I.base.tbls b ps q;exact ⟨j,by rw [upd_ne (λ y=>by rw [y,e] at z;exact nb _ (D1 z))];exact z⟩
 ·rw [upd_ne (d I.free)];exact I.free
 ·rw [upd_ne (d (I.freeC x c q))];exact I.freeC x c q
 ·obtain ⟨g,f,k⟩:=I.pin p h;exact ⟨g,by rw [upd_ne (d f)];exact f,k⟩
 ·by_cases z:b=a
  ·subst z;rw [z01] at q;cases q;exact ok
  ·rw [upd_ne z] at q;refine (I.hok b o q).stay (λ _ _ _ y=>y) (λ c y=>?_) λ c xs y=>?_
   ·rw [upd_ne (λ x=>by rw [x,e] at y;exact no b (D1 y))];exact y
   ·rw [upd_ne (λ x=>by rw [x,e] at y;exact nt xs (D1 y))];exact y
theorem Inv.noFrz {kvs:List (Key×V)} (I:Inv X pins σ H s) (e:H a=some (.dK kvs)) :∀o w,X.H₀ a≠some (.frz o w):=λ o w q=>by have z:=I.base.frzs a o w q;rw [e] at z;cases z
theorem Inv.freeze {kvs:List (Key×V)} {ob:Obj} (I:Inv X pins σ H s) (e:H a=some (.dK kvs)) (ho:s.heap.get? a=some ob):Inv X pins σ (upd H a (.frz ob (.dK kvs))) s:=
 I.retold e (λ _ z=>by cases z) (λ _ z=>by cases z) (λ _ z=>by cases z) (I.noFrz e) ⟨ho,(show ObjOk X.prog X.w H s.heap a (.dK kvs) from I.hok a _ e)⟩
end
theorem z5o {α β:Type} {F:α->β->Prop} :∀{l:List α} {m:List β} {i:Nat} {x:α},g7 F l m->l[i]? = some x->∃y,m[i]? = some y/\F x y
 | _,_,i,x,.nil,e=>by simp at e
 | _,_,0,x,.cons a _,e=>by rw [V1] at e;cases e;exact ⟨_,V1,a⟩
 | _,_,i + 1,x,.cons _ r,e=>by rw [E1] at e;obtain ⟨y,b,c⟩:=z5o r e;exact ⟨y,by rw [E1];exact b,c⟩
theorem frz_at {X:Cx} {pins:List (Addr×Obj)} {σ:St} {H:Hp} {s:y0} {a:Addr} {ob:Obj} {kvs:List (Key×V)} {es:Array DictEntry} {ep:Nat} (I:Inv X pins σ H s) (hob:ob.data=.dict es ep) (e:H a=some (.frz ob (.dK kvs))) :
  ∃vs,KV kvs vs/\vs.length=kvs.length/\s.heap.DictAt (z0f X.prog X.w) a vs ep:=by
 obtain ⟨g,_,_,vs,d,h⟩:=(show ObjOk X.prog X.w H s.heap a (.frz ob (.dK kvs)) from I.hok a _ e)
 obtain ⟨j,c⟩:=h.dictAt;refine ⟨vs,d,d.length.symm,?_⟩;obtain ⟨o,k,b,i,f,l⟩:=id c;rw [g] at b;cases b;rw [hob] at f;cases f;exact c
noncomputable def addT (ns:List Str) (v:Str):List Str:=if v∈ns then ns else ns++[v]
theorem z72 (ns:List Str) (v:Str):(addT ns v).length=if v∈ns then ns.length else ns.length + 1:=by
 unfold addT;by_cases z:v∈ns
 ·rw [if_pos z,if_pos z]
 ·rw [if_neg z,if_neg z,L0];rfl
theorem zf3 (ns:List Str) (v k:Str):(decide (k∈ns) || decide (k=v))=decide (k∈addT ns v):=by
 unfold addT;by_cases z:v∈ns
 ·rw [if_pos z];by_cases y:k=v
  ·rw [y,decide_eq_true z];rfl
  ·rw [decide_eq_false y,Z7]
 ·rw [if_neg z];by_cases y:k=v
  ·rw [decide_eq_true y,Bool.or_true,decide_eq_true (by rw [y];exact List.mem_append.mpr (.inr (List.mem_singleton.mpr rfl)))]
  ·rw [decide_eq_false y,Z7];by_cases x:k∈ns
   ·rw [decide_eq_true x,decide_eq_true (List.mem_append.mpr (.inl x))]
   ·rw [decide_eq_false x,decide_eq_false (λ w=>(List.mem_append.mp w).elim x λ u=>y (List.mem_singleton.mp u))]
section
variable {prog:Program} {w:O0} {A:Z1} {E:Value->y0->Prop} {s:y0}
theorem z6l {h h':Heap} {a:Addr} {M:Str->Bool} {n:Nat} (k :∀o,h.get? a=some o->h'.get? a=some o) (x:r6 (k4 prog w) h a M n):r6 (k4 prog w) h' a M n:=by obtain ⟨o,c,b,t,e,r⟩:=x;exact ⟨o,c,b,t,k _ e,r⟩
theorem zfh {h:Heap} {a:Addr} (e:h.get? a=some (set0 w)):r6 (k4 prog w) h a (λ k=>decide (k∈([]:List Str))) ([]:List Str).length:=
 ⟨_,#[],0,_,e,⟨rfl,rfl,rfl⟩,rfl,λ x b=>by simp at b,λ k=>⟨λ z=>absurd (of_decide_eq_true z) B0,λ ⟨e,he,_⟩=>by simp at he⟩,by decide,by rfl,rfl⟩
theorem zbf {S it l:Addr} {items:Array Value} (nsi:S≠it) (nsl:S≠l) (nil':it≠l) :∀(ms:List Str) (i:Nat) (ns:List Str) (A:Z1) (R:Result->y0->Prop) (s:y0),A.handled=none->s.heap.IsListIter it l i->s.heap.IsList l items->
  StrsAre (items.toList.drop i) ms->r6 (k4 prog w) s.heap S (λ k=>decide (k∈ns)) ns.length->ns.length + ms.length < scanBound->
  (∀h' tk ns',r6 (k4 prog w) h' S (λ k=>decide (k∈ns')) ns'.length->ns'=ms.foldl addT ns->(∀c o,c≠S->c≠it->s.heap.get? c=some o->h'.get? c=some o)->R (.ok (.ret .none)) { s with heap:=h',toks:=tk })->
  C5 (Y0 prog w) A (W6 "set.update.loop" { pos:=[.ref S,.ref it],kw:=[] }) R s
 | [],i,ns,A,R,s,hh,si,sl,al,dd,hz,q=>by
  have M:items[i]? = none:=by
   cases hd:items.toList.drop i with
   | nil=>have:=List.drop_eq_nil_iff.mp hd;rw [W0] at this;exact B5 this
   | cons u us=>rw [hd] at al;cases al
  refine o4 J5 ?_;show R0 _ _ (D8 (.ref it) >>= _) _ _ s;refine v0 (U7 (show (A.under _).handled=none from hh) si sl M λ h' t=>?_);exact D0 (q h' s.toks ns (z6l (λ o e=>t S o nsi e) dd) rfl λ c o _ I e=>t c o I e)
 | m :: ms,i,ns,A,R,s,hh,si,sl,al,dd,hz,q=>by
  cases hd:items.toList.drop i with
  | nil=>rw [hd] at al;cases al
  | cons u us=>
   rw [hd] at al;cases al with
   | cons _ tk al=>
    have D:items.toList[i]? = some (.str m tk):=by have:=congrArg (λ l=>l[0]?) hd;simpa using this
    have x:items[i]? = some (.str m tk):=by simpa using D
    have B:items.toList.drop (i + 1)=us:=by have:=congrArg List.tail hd;simpa using this
    refine o4 J5 ?_;show R0 _ _ (D8 (.ref it) >>= _) _ _ s;refine v0 (J7 si sl x λ p y g=>?_);have E:p.IsList l items:=by obtain ⟨o,a,b⟩:=sl;exact ⟨o,(g.2 l (F3 nil')).trans a,b⟩
    have F:=z6l (prog:=prog) (w:=w) (λ o e=>(g.2 S nsi).trans e) dd;rw [A1] at hz;refine v0 (G2 (show R0 _ _ (setAdd S (.str m tk)) _ _ _ from ?_));unfold setAdd;have v:(k4 prog w).is m (.str m tk)=true:=PySem.strKind_is prog w m tk;refine G2 (v0 ((k4 prog w).pyHash (k:=m) v ?_));refine wpAny_setAddHashed_of (s:={ s with heap:=p,toks:=s.toks + 1 }) v rfl F (J1 (by omega) hz) λ f h d=>?_;refine D0 ⟨z8q _,?_⟩;have H:r6 (k4 prog w) f S (λ k=>decide (k∈addT ns m)) (addT ns m).length:=by
     rw [z72];have a:(λ r=>decide (r∈ns) || decide (r=m))=λ k=>decide (k∈addT ns m):=funext λ k=>zf3 ns m k;rw [a] at d;by_cases z:m∈ns
     ·rw [if_pos z];rw [if_pos (decide_eq_true z)] at d;exact d
     ·rw [if_neg z];rw [if_neg (by rw [decide_eq_false z];decide)] at d;exact d
    have K:f.IsListIter it l (i + 1):=by obtain ⟨o,a,b⟩:=y;exact ⟨o,(h.2 it (F3 nsi)).trans a,b⟩
    have C:f.IsList l items:=by obtain ⟨o,a,b⟩:=E;exact ⟨o,(h.2 l (F3 nsl)).trans a,b⟩
    have O:(addT ns m).length<=ns.length + 1:=by rw [z72];split<;>omega
    refine zbf nsi nsl nil' ms (i + 1) (addT ns m) A R { s with heap:=f,toks:=s.toks + 1 } hh K C (by rw [B];exact al) H (by omega) λ h' N ns' G J L=>q h' N ns' G J λ c o j n e=>L c o j n ((h.2 c j).trans ((g.2 c n).trans e))
theorem z5w {l:Addr} {items:Array Value} {ns:List Str} {Q:Value->y0->Prop} (hh:A.handled=none) (ht:s.heap.IsList l items) (hi:StrsAre items.toList ns) (hb:ns.length < scanBound)
  (h :∀h' tk ns',r6 (k4 prog w) h' s.heap.objs.size (λ k=>decide (k∈ns')) ns'.length->ns'=ns.foldl addT []->(∀b o,s.heap.get? b=some o->h'.get? b=some o)->Q (.ref s.heap.objs.size) { s with heap:=h',toks:=tk }) :
  R0 (Y0 prog w) A (call (.type "set") [.ref l]) Q E s:=by
 obtain ⟨c,X,M⟩:=F.called_set.mro;have P:=F.called_set.made;have a0:=F.called_set.sub;refine C8 (codeAny_of_tree (show R0 _ _ (callAny (.type "set") _) _ _ _ from D0 ⟨Code.quiet_builtin _ (by decide +kernel),o4 F.entry_type_call ?_⟩));rw [j08 (weight_type_call_type "set" [.ref l] []) rfl];have O:=F.called_set.notType;have L:=F.called_set.canCreate;have K:=F.typeCall_set_1 (.ref l)
 (repeat (any_goals (first|assumption|wp_step)));refine F4 (zec (.ref l) (E:=E) (Q₁:=λ j t=>j=.ref s.heap.objs.size/\t={ s with heap:=s.heap.push (set0 w) }) ⟨rfl,rfl⟩) λ r t a=>?_
 cases r with
 | error e=>exact a
 | ok fl=>
  cases fl with
  | next=>exact a.elim
  | brk=>exact a.elim
  | cont=>exact a.elim
  | ret j=>
   obtain ⟨rfl,rfl⟩:=a;have g:(s.heap.push (set0 w)).get? s.heap.objs.size=some (set0 w):=I0 _ rfl;have B:M7 { s with heap:=s.heap.push (set0 w) } (.ref s.heap.objs.size) "set":=⟨_,g,rfl⟩
   have V:=F.called_set.init.lookup;have W:=F.called_set.init.bind (.ref s.heap.objs.size)
   (repeat (any_goals (first|assumption|wp_step)))
   have y:C5 (Y0 prog w) A.in1 (.call (.builtin "set.__init__") ⟨[.ref s.heap.objs.size,.ref l],[]⟩) (wants (λ r p=>r=.none/\Q (.ref s.heap.objs.size) p) E) { s with heap:=s.heap.push (set0 w) }:=by
    refine b8 F.called_set.init.plain F.entry_set_init (check_set_init_1 B ?_);obtain ⟨o,i,q,n,hd⟩:=ht;obtain ⟨U,J,R,v⟩:=o;dsimp only at q hd;subst q hd;have z:(s.heap.push (set0 w)).get? l=some { cls:=.type "list",dict:=J,data:=.seq items n,slots:=v }:=x0 _ i;have Y:=z6y;have N:=z49;have T:(O4 "list" == O4 "dict")=false:=by decide
    have Z:(s.heap.push (set0 w)).get? s.heap.objs.size=some { cls:=.type "set",dict:=none,data:=.set #[] 0 (.fresh 0 0 (!w.params.followText "set-order")),slots:=#[] }:=g;have D:(s.heap.push (set0 w)).IsList l items:=⟨_,z,rfl,n,rfl⟩
    have m:l < s.heap.objs.size:=G0 i;unfold X6.«set.__init__» noKeywords m7;generalize hPI:pyIter=PI
    wp_walk
    subst hPI;refine T5 D (v0 (wpAny_runValue ?_));have u :∀b o,s.heap.get? b=some o->((s.heap.push (set0 w)).push { cls:=.type "list_iterator",data:=.fields #[.ref l,.int 0 0] }).get? b=some o:=λ b o e=>x0 _ (x0 _ e);have f:(s.heap.push (set0 w)).objs.size=s.heap.objs.size + 1:=Y3 _ _;refine zbf (S:=s.heap.objs.size) (it:=(s.heap.push (set0 w)).objs.size) (l:=l) (items:=items) (by rw [f];exact Q0 (D2 _)) (A2 m) (by rw [f];exact A2 (i1 m)) ns 0 [] _ _ _ (by simp [hh]) ⟨_,I0 _ rfl,rfl,rfl⟩ ⟨_,u _ _ i,rfl,n,rfl⟩ (by rw [G5];exact hi) (zfh (x0 _ g)) (by simpa using hb) λ h' tk ns' C G H=>?_;refine D0 (D0 ⟨rfl,h h' tk ns' C G λ b o e=>H b o (Q0 (G0 e)) (by rw [f];exact Q0 (i1 (G0 e))) (u b o e)⟩)
   refine F4 y λ I p d=>?_;cases I with
   | error e=>exact d
   | ok f2=>
    cases f2 with
    | next=>exact d.elim
    | brk=>exact d.elim
    | cont=>exact d.elim
    | ret r=>obtain ⟨rfl,x⟩:=d;exact D0 (D0 x)
end
section
variable {X:Cx}
noncomputable def tLSetS (K:c0) (te:TE):TE:=λ σ H Q=>te σ H λ x H1=>∃(a:Addr) (ns:List Str),x=.ref a/\SqL K H1 a (ns.map V.str)/\ns.length < 100/\Q (.int ((ns.foldl addT []).length:Nat)) H1
theorem z2v :∀(vs ns:List Str),(vs.foldl addT ns).length<=ns.length + vs.length
 | [],ns=>A0 _
 | v :: vs,ns=>by
  have a:=z2v vs (addT ns v);have b:(addT ns v).length<=ns.length + 1:=by rw [z72];split<;>omega
  show (vs.foldl addT (addT ns v)).length<=_;rw [A1];omega
theorem z6w :∀{ns:List Str} {us:List Value},Vals (ns.map V.str) us->StrsAre us ns
 | [],_,.nil=>.nil
 | n :: ns,_,.cons a r=>by obtain ⟨t,rfl⟩:=a;exact .cons n t (z6w r)
theorem zbl {e:Expr} {te:TE} {p1 p2 c1 c2:Pos} (hcalm:X.calm=true) (g1:Gl X "len") (m1:X.mg "len" = none) (g2:Gl X "set") (m2:X.mg "set" = none) (b1:v4 "len" = some (.builtin "len")) (b2:v4 "set" = some (.type "set")) (ha:PE X e te)
  (he:G1 [e] X.env=[(false,W3 e X.env)]:=by rfl):PE X (.Call (.Name "len" p1) [.Call (.Name "set" p2) [e] [] c2] [] c1) (tLSetS X.K te):=by
 intro n s σ H Q I h;have i:X.A.handled=none:=I.ok.hd hcalm;refine E3 (ld_blt I g1 m1 b1 ?_ (by decide) (by decide));refine m5 ?_ rfl rfl;refine (show R0 _ _ (G9 ((false,W3 (.Call (.Name "set" p2) [e] [] c2) X.env) :: [])) _ _ s from Q3 ?_);refine E3 (ld_blt I g2 m2 b2 ?_ (by decide) (by decide));refine n3 ?_ he rfl;rw [he];refine (show R0 _ _ (G9 ((false,W3 e X.env) :: [])) _ _ s from Q3 (thn (ha n s σ H _ I h) λ u g ⟨x,H1,I1,r1,a,ns,ex,sq,hl,q⟩=>?_));subst ex;cases r1;refine j4 ?_;obtain ⟨B,l,m,E⟩:=I1.list sq;refine z5w i m.isList (by simpa using z6w l) (N5 hl (by decide)) λ d b D f v p=>j4 ?_;subst v;obtain ⟨o,z,C,t,j,k,hd,_,_,w,c,r⟩:=f;have y:(ns.foldl addT []).length < 100:=by have:=z2v ns [];rw [B4,M5] at this;omega
 refine call_len_set (s:={ g with heap:=d,toks:=b }) j k hd c (by omega) ?_;rw [r];exact ⟨.int ((ns.foldl addT []).length:Nat),H1,(I1.kept (t':=b + 1 + 1) p),⟨_,rfl⟩,q⟩
end
noncomputable def Itc (x:Str):It:=⟨λ i _=>i < x.cps.size,λ i H v H'=>H'=H/\∃c,x.cps[i]? = some c/\v=.str ⟨#[c]⟩,λ i _=>x.cps.size<=i⟩
theorem zej {P:Program} {w:O0} {K:c0} {tg:Expr} {x:Str} {it:Addr} {t:Tok}:Turn P w K tg (Itc x) [it] it (λ i h=>h.IsStrIter it "str_ascii_iterator" x t i) where
 mem:=by simp
 obj:=λ i h a b f=>by
  obtain rfl:b=it:=by simpa using f
  obtain ⟨o,e,c,d⟩:=a;exact ⟨o,e,λ v z=>by rw [d] at z;cases z⟩
 keep:=λ i h j a k=>by obtain ⟨o,e,r⟩:=a;exact ⟨o,k it (by simp) o e,r⟩
 item:=by intro X u q l F i D s σ H E I g a p;subst u q l;obtain ⟨n,m,M,B,y,A⟩:=g it (by simp);have G:x.cps[i]? = some x.cps[i]:=Y4 p;refine wpAny_pyNext_ascii_item a G λ j C sb=>?_;have L:Inv X D σ H { s with heap:=j,toks:=s.toks + 1 }:=I.turned (t':=s.toks + 1) (λ b o f e=>(sb.2 b f).trans e) n m B y A;obtain ⟨o,e,c,d⟩:=id C;exact ⟨_,rfl,go_of (s:={ s with heap:=j,toks:=s.toks + 1 }) e c d (by decide) ⟨.str ⟨#[x.cps[i]]⟩,H,L,⟨_,rfl⟩,⟨rfl,_,G,rfl⟩,C,λ b f=>(g b f).1⟩⟩
 done:=by intro X u q l F i D s σ H E I g a p;subst u q l;obtain ⟨n,m,M,B,y,A⟩:=g it (by simp);exact wpAny_pyNext_ascii_end (I.ok.hd F) a (B5 p) λ j J=>⟨rfl,I.turned (t':=s.toks) (λ b o f e=>J b o f e) n m B y A⟩
 self:=λ _ _ _ _ _ a h=>wpAny_pyIter_striter_ascii a h
noncomputable def iStr (tl:TE):TI:=λ σ H R=>tl σ H λ v H1=>∃x:Str,v=.str x/\x.cps.all (· < 128)=true/\R (Itc x) H1
theorem pi_str {X:Cx} {tg l:Expr} {tl:TE} (hl:PE X l tl):PI X tg l (iStr tl):=by
 intro d s σ H R I h;refine thn (hl d s σ H _ I h) λ v a ⟨y,H1,I1,r1,x,e,ha,q⟩=>?_;subst e;obtain ⟨t,rfl⟩:=r1;refine wpAny_pyIter_ascii ha ?_;refine ⟨a.heap.objs.size,[a.heap.objs.size],_,_,H1,rfl,I1.kept (t':=a.toks) λ b o e=>x0 _ e,zej,⟨_,I0 _ rfl,rfl,rfl⟩,λ b c=>?_,q⟩;obtain rfl:b=a.heap.objs.size:=by simpa using c
 exact I1.fpOk (A0 _) (I1.hok.fresh (A0 _))
theorem zd7 {x:Str} {H1:Hp}:RunsR Same (Itc x) H1 x.cps.size (λ i v _=>∃c,x.cps[i]? = some c/\v=.str ⟨#[c]⟩):=
 ⟨λ i a H s=>a,λ H s=>A0 _,λ i a H v b s y=>by obtain ⟨e,y⟩:=y;subst e;exact ⟨Same.refl _,y⟩⟩
theorem tcompS {x:Str} {tl te:TE} {tc:TT} {g:TG} {m:Nat} {fr:List (Nat×Str)} {σ:L2.St} {H H1:Hp} {Q:VK} (p:Nat->Bool) (R:Nat->V->Hp->Prop) (hR :∀i y H H',Same H H'->R i y H->R i y H') (htl :∀R:VK,R (.str x) H1->tl σ H R) (ha:x.cps.all (· < 128)=true) (hn:x.cps.size<=sizeLine)
  (body :∀i,i < x.cps.size->∀v H,Same H1 H->(∃c,x.cps[i]? = some c/\v=.str ⟨#[c]⟩)->∀(KT:VK) (KF:Hp->Prop),(p i=true->∀y H',Same H H'->R i y H'->KT y H')->(p i=false->∀H',Same H H'->KF H')->
   g v (cStG σ fr (V2 m none)) H λ σ6 H6=>∃us,us.length=m/\σ6=cStG σ fr us/\tc (cStG σ fr us) H6 λ b H2=>if b=true then te (cStG σ fr us) H2 KT else KF H2)
  (hQ :∀l H' ys,Same H1 H'->H' l=none->All2 (λ i y=>R i y H') ((N1 x.cps.size).filter p) ys->Q (.ref l) (upd H' l (.lst ys))):tCompG (iStr tl) m fr g tc te σ H Q:=
 htl _ ⟨x,rfl,ha,z32 (Same.refl _) (λ _ _ _ a b=>a.trans b) p R hR zd7 hn body hQ⟩
theorem zfy {K:c0} {te:TE} {σ:L2.St} {H:Hp} {Q:VK} (h:te σ H λ x H1=>∃(a:Addr) (ns:List Str),x=.ref a/\SqL K H1 a (ns.map V.str)/\ns.length < 100/\Q (.int ((ns.foldl addT []).length:Nat)) H1):tLSetS K te σ H Q:=h
theorem tB_not {te:TE} {σ:L2.St} {H:Hp} {Q:Bool->Hp->Prop} (h:te σ H λ x H1=>∃c,x=.bl c/\Q (!c) H1):tNot (tB te) σ H Q:=h
end L2
set_option maxHeartbeats 400000
namespace L2
open PySem PySem.Spec PyProof.Rows
end L2
set_option maxHeartbeats 1000000
namespace L2
open PySem PySem.Spec PyProof.Rows
section
variable {X:Cx}
noncomputable def rNeL0 (K:c0):R2:=λ x y H Q=>∃a b xs,x=.ref a/\y=.ref b/\SqL K H a xs/\SqL K H b []/\Q (.bl (decide (xs≠[]))) H
theorem z88 {k:Nat} (hr:Room k X.A):OpR X (N2 .NotEq) (rNeL0 X.K):=by
 intro C s σ H x y v u Q I r t h;obtain ⟨a,b,p,rfl,rfl,n,i,q⟩:=h;cases r;cases t;obtain ⟨B,g,f,_⟩:=I.list n;obtain ⟨D,l,d,_⟩:=I.list i;cases l;have c:X.A.units < cLine:=Nat.lt_of_succ_lt (hu_of hr);have o:=g.length;cases p with
 | nil=>cases g;exact SeqAt.RcNeAt.lists (e:=λ _=>true) f.isList d.isList rfl c (λ j m _=>absurd m (B3 _)) X.prog X.w _ _ ⟨.bl _,H,I,rfl,q⟩
 | cons z zs=>refine SeqAt.RcNeAt.lists_lengths f.isList d.isList ?_ c X.prog X.w _ _ ⟨.bl _,H,I,rfl,q⟩;rw [N0,<-o];rfl
end
structure ZLAt (h:Heap) (z T U i j a b:Addr) (n:Nat) (f:Value):Prop where
 z:IsZip h z T U f
 t:IsPair h T (.ref i) (.ref j)
 u :∃p q,IsPair h U p q
 i:h.IsListIter i a n
 j:h.IsListIter j b n
end L2
namespace L2
open PySem PySem.Spec PyProof.Rows PySem.NumText
end L2
namespace L2
open PySem PySem.Spec PyProof.Rows
end L2
open PySem PySem.W PyProof.Rows
set_option maxHeartbeats 4000000
namespace TJ
section
variable (p:Program) (w:O0) (n₀:Nat) (ann:Option Value) (code:Code) (q:Pos)
theorem zcm {n m:Nat} :∀{s s' s'':y0} {t t' t'':W9},segGo C3 p w n₀ ann 1 n s t=some (s',t')->segGo C3 p w n₀ ann 1 m s' t'=some (s'',t'')->
  segGo C3 p w n₀ ann 1 (n + m) s t=some (s'',t''):=by
 induction n with
 | zero=>
  intro s s' s'' t t' t'' h k;obtain ⟨rfl,rfl⟩:s=s'/\t=t':=by simpa [segGo] using h
  rw [M5];exact k
 | succ n ih=>
  intro s s' s'' t t' t'' h k;rw [show n + 1 + m=n + m + 1 by omega];unfold segGo at h⊢;cases he:endAt 1 t with
  | some f=>rw [he] at h;cases h
  | none=>
   rw [he] at h;cases hk:stepOk n₀ ann t with
   | false=>rw [hk] at h;cases h
   | true=>
    rw [hk] at h;cases hs:step (denote C3) p w s t with
    | halt o s₂=>rw [hs] at h;cases h
    | go s₂ t₂=>rw [hs] at h;exact ih h k
def Steps (c:Nat) (s:y0) (t:W9) (s':y0) (t':W9):Prop:=∃n,n<=c/\segGo C3 p w n₀ ann 1 n s t=some (s',t')
def Goes {α:Type} (c:Nat) (x:Sem α) (s:y0) (pos:Pos) (a:α) (s':y0) (pos':Pos):Prop:=
 ∀(K:α->Sem Fin) (H:Value->Sem Fin) (gd:Bool->Bool) (lv:List Value->List Value),
  Steps p w n₀ ann c s ⟨x.wrap K H gd lv,code,pos,[topFrame q]⟩ s' ⟨K a,code,pos',[topFrame q]⟩
end
section
variable {p:Program} {w:O0} {n₀:Nat} {ann:Option Value} {code:Code} {q:Pos}
theorem Steps.trans {c d:Nat} {s s' s'':y0} {t t' t'':W9} (h:Steps p w n₀ ann c s t s' t') (k:Steps p w n₀ ann d s' t' s'' t''):Steps p w n₀ ann (c + d) s t s'' t'':=by obtain ⟨n,b,h⟩:=h;obtain ⟨m,a,k⟩:=k;exact ⟨n + m,by omega,zcm p w n₀ ann h k⟩
theorem Steps.refl {s:y0} {t:W9}:Steps p w n₀ ann 0 s t s t:=⟨0,A0 _,rfl⟩
theorem Steps.le {c d:Nat} {s s':y0} {t t':W9} (h:Steps p w n₀ ann c s t s' t') (l:c<=d):Steps p w n₀ ann d s t s' t':=let ⟨n,a,b⟩:=h;⟨n,F0 a l,b⟩
theorem Steps.one {s s':y0} {t t':W9} (he:endAt 1 t=none) (hk:stepOk n₀ ann t=true) (hs:step (denote C3) p w s t=.go s' t'):Steps p w n₀ ann 1 s t s' t':=by refine ⟨1,A0 _,?_⟩;unfold segGo;rw [he,hk,hs];rfl
variable {α β:Type} {s s' s'':y0} {pos pos' pos'':Pos} {a:α} {b:β} {c d:Nat}
theorem Goes.pure:Goes p w n₀ ann code q 0 (E9 a:Sem α) s pos a s pos:=λ _ _ _ _=>.refl
theorem Goes.le {x:Sem α} (h:Goes p w n₀ ann code q c x s pos a s' pos') (l:c<=d):Goes p w n₀ ann code q d x s pos a s' pos':=λ K H b e=>(h K H b e).le l
theorem Goes.bind {x:Sem α} {f:α->Sem β} (h:Goes p w n₀ ann code q c x s pos a s' pos') (k:Goes p w n₀ ann code q d (f a) s' pos' b s'' pos''):Goes p w n₀ ann code q (c + d) (x >>= f) s pos b s'' pos'':=by
 intro K H i g;have e:(x >>= f).wrap K H i g=x.wrap (λ a=>(f a).wrap K H i g) H i g:=by rw [Sem.bind_eq_wrap',Sem.wrap_wrap];rfl
 rw [e];exact (h _ H i g).trans (k K H i g)
theorem Goes.keep {x:Sem α} {vs:List Value} (h:Goes p w n₀ ann code q c x s pos a s' pos'):Goes p w n₀ ann code q c (x.keep vs) s pos a s' pos':=by intro K H b d;rw [Sem.keep_eq_wrap,Sem.wrap_wrap];exact h K H _ _
theorem Goes.holding {x:Sem α} {vs:List Value} (h:Goes p w n₀ ann code q c x s pos a s' pos'):Goes p w n₀ ann code q c (J9 vs x) s pos a s' pos':=by rw [holding_eq_keep];exact h.keep
theorem Goes.rule {tag:String}:Goes p w n₀ ann code q 1 (PySem.rule tag) s pos () s pos:=λ _ _ _ _=>.one rfl rfl rfl
theorem Goes.at' {pos₁:Pos}:Goes p w n₀ ann code q 1 (standAt pos₁) s pos () s pos₁:=λ _ _ _ _=>.one rfl rfl rfl
theorem Goes.loadPart {A:Addr} {o:Obj} {part:Option Value} (ho:s.heap.get? A=some o):Goes p w n₀ ann code q 1 (loadPart A part) s pos o s pos:=λ K H d a=>.one rfl rfl (by obtain ⟨heap,f,e,b,c⟩:=s;show (match heap.get? A with|some o=>Step.go _ _|none=>_)=_;have ho:heap.get? A=some o:=ho;rw [ho];rfl)
theorem Goes.updatePart {A:Addr} {o:Obj} {f:Obj->Obj} {part:Option Value} (ho:s.heap.get? A=some o) (hn:Nat.ble n₀ A=true):Goes p w n₀ ann code q 1 (updatePart A part f) s pos () { s with heap:=s.heap.update A f } pos:=λ K H d a=>
 .one rfl (by
  show (_ && (Nat.ble n₀ A || _ || _ || _))=true;rw [hn];rfl) (by
  obtain ⟨heap,g,e,b,c⟩:=s;have ho:heap.get? A=some o:=ho;show (if (heap.get? A).isSome=true then Step.go _ _ else _)=_;rw [ho];rfl)
theorem Goes.leaf {x:Sem α} {sT sT':SharedT} (n:Nat) (h :∀K H gd lv,segGoT C3 p w n₀ ann 1 n sT ⟨x.wrap K H gd lv,code,pos,[topFrame q]⟩=some (sT',⟨K a,code,pos',[topFrame q]⟩)) :
  Goes p w n₀ ann code q n x sT.abs pos a sT'.abs pos':=λ K H gd lv=>⟨n,A0 _,segGo_of (h K H gd lv)⟩
end
end TJ
open PySem PySem.W PyProof.Rows
namespace TJ
section
variable {p:Program} {w:O0} {n₀:Nat} {ann:Option Value} {code:Code} {q:Pos} {s:y0} {pos:Pos}
theorem Goes.forIn {γ β:Type} {c:Nat} {f:γ->β->Sem (ForInStep β)} {b:β} :∀{l:List γ},(∀x∈l,Goes p w n₀ ann code q c (f x b) s pos (.yield b) s pos)->Goes p w n₀ ann code q (l.length * c) (ForIn.forIn l b f) s pos b s pos
 | [],_=>by rw [g9];exact Goes.pure.le (P1 _)
 | x :: l,h=>by rw [P8];have k:=Goes.forIn (l:=l) λ y a=>h y (P2 _ a);have e:=Goes.bind (f:=λ r=>match r with | .done b=>(E9 b:Sem β) | .yield b=>ForIn.forIn l b f) (h x Y1) k;exact e.le (by rw [A1,Nat.add_mul];omega)
theorem Goes.entries {d:Addr} {o:Obj} {es:Array DictEntry} {ep:Nat} {part:Option Value} (ho:s.heap.get? d=some o) (hd:o.data=.dict es ep):Goes p w n₀ ann code q 1 (dictEntries d part) s pos es s pos:=by unfold dictEntries;refine (Goes.bind (d:=0) (Goes.loadPart ho) ?_);rw [hd];exact Goes.pure
theorem Goes.epoch {d:Addr} {o:Obj} {es:Array DictEntry} {ep:Nat} {part:Option Value} (ho:s.heap.get? d=some o) (hd:o.data=.dict es ep):Goes p w n₀ ann code q 1 (dictEpoch d part) s pos ep s pos:=by unfold dictEpoch;refine (Goes.bind (d:=0) (Goes.loadPart ho) ?_);rw [hd];exact Goes.pure
theorem Goes.mayTell {a:Addr} {stored:List Value} {cq:Nat} (hq:Goes p w n₀ ann code q cq (Q5 8 (.ref a)) s pos true s pos) (hs :∀v∈stored,Goes p w n₀ ann code q cq (Q5 8 v) s pos true s pos) :
  Goes p w n₀ ann code q (cq + stored.length * cq) (tableMayTell (.ref a) stored) s pos false s pos:=by
 unfold tableMayTell;split
 ·exact Goes.pure.le (P1 _)
 ·refine Goes.bind hq ?_;simp only [Bool.not_true,w6,if_false];refine (Goes.bind (a:=(none,())) (d:=0) (Goes.forIn λ v b=>?_) ?_).le (A0 _)
  ·refine (Goes.bind (d:=0) (hs v b) ?_).le (A0 _);simp only [Bool.not_true,w6,if_false];exact Goes.pure
  ·exact Goes.pure
theorem Goes.find_none {d a:Addr} {o:Obj} {es:Array DictEntry} {ep:Nat} {h:Int} {cq ce:Nat} (ho:s.heap.get? d=some o) (hd:o.data=.dict es ep)
  (hq:Goes p w n₀ ann code q cq (Q5 8 (.ref a)) s pos true s pos)
  (hk :∀e∈es.toList,∃b,e.key=.ref b/\b≠a/\Goes p w n₀ ann code q cq (Q5 8 (.ref b)) s pos true s pos/\Goes p w n₀ ann code q ce (eqBool (.ref b) (.ref a)) s pos false s pos) :
  Goes p w n₀ ann code q (2 + cq + es.size * (cq + ce + 10)) (dictFind d (.ref a) h) s pos none s pos:=by
 have m :∀(i:Nat) (e:DictEntry),es[i]? = some e->e∈es.toList:=λ i e r=>Array.mem_toList_iff.mpr (M9 r);have A:¬ (es.any λ e=>e.key == F1 a && e.hash != h)=true:=by rw [<-Array.any_toList,List.any_eq_true];rintro ⟨e,hin,hc⟩;obtain ⟨b,f,g,_⟩:=hk e hin;simp only [f,V3,beq_iff_eq,Value.ref.injEq] at hc;exact g hc.1
 have l :∀v∈(U5 es.size (λ i=>es[i]?.map (·.hash)) h).filterMap (λ i=>es[i]?.map (·.key)),∃b,v=.ref b/\b≠a/\Goes p w n₀ ann code q cq (Q5 8 v) s pos true s pos:=by
  intro v k;obtain ⟨i,_,j⟩:=List.mem_filterMap.mp k;cases hei:es[i]? with
  | none=>rw [hei] at j;cases j
  | some e=>
   rw [hei] at j;obtain rfl:e.key=v:=by simpa using j
   obtain ⟨b,f,g,x,_⟩:=hk e (m i e hei);exact ⟨b,f,g,f ▸ x⟩
 have n:(U5 es.size (λ i=>es[i]?.map (·.hash)) h).length<=es.size:=by unfold U5;exact F0 (Z0 _ _) (by rw [E5];exact A0 _)
 have u:((U5 es.size (λ i=>es[i]?.map (·.hash)) h).filterMap (λ i=>es[i]?.map (·.key))).length<=es.size:=F0 (List.length_filterMap_le _ _) n;unfold dictFind;refine Goes.holding ?_;refine (Goes.bind (d:=1 + cq + es.size * (cq + ce + 10)) (Goes.entries ho hd) ?_).le (by omega);dsimp only;rw [if_neg (show ¬ ((F1 a :: (U5 es.size (λ i=>es[i]?.map (·.hash)) h).filterMap (λ i=>es[i]?.map (·.key))).all carriedByValue)=true by simp [carriedByValue])];rw [if_neg A];have t:¬ (((U5 es.size (λ i=>es[i]?.map (·.hash)) h).filterMap (λ i=>es[i]?.map (·.key))) == [F1 a])=true:=by intro e;have e:=eq_of_beq e;obtain ⟨b,f,g,_⟩:=l (.ref a) (by rw [e];exact List.mem_singleton.mpr rfl);exact g (by injection f with f;exact f.symm)
 rw [if_neg t];refine (Goes.bind (d:=1 + es.size * (ce + 10)) (Goes.mayTell hq λ v k=>(let ⟨_,_,_,z⟩:=l v k;z)) ?_).le ?_
 ·rw [if_neg (by simp)];refine (Goes.bind (a:=(none,none)) (d:=0) (Goes.forIn (c:=ce + 10) λ i j=>?_) ?_).le ?_
  ·cases hei:es[i]? with
   | none=>exact Goes.pure.le (P1 _)
   | some e=>
    dsimp only;split
    ·obtain ⟨b,f,g,_,y⟩:=hk e (m i e hei);rw [f];refine (Goes.bind (d:=ce + 2) (Goes.epoch ho hd) (Goes.bind (d:=2) y (Goes.bind (d:=1) (Goes.epoch ho hd) ?_))).le (by omega);rw [if_neg (by simp)];rw [if_neg (by simp)];refine Goes.bind (d:=0) Goes.rule ?_;rw [if_neg (by simp)];exact Goes.pure
    ·exact Goes.pure.le (P1 _)
  ·exact Goes.pure
  ·have:=O7 (ce + 10) n;omega
 ·have:=O7 cq u;have B:es.size * (cq + ce + 10)=es.size * cq + es.size * (ce + 10):=by rw [<-Nat.mul_add,Nat.add_assoc]
  rw [B];omega
end
end TJ
open PySem PySem.W PyProof.Rows
namespace TJ
noncomputable abbrev dObj (es:Array DictEntry) (ep:Nat):Obj:={ cls:=.type "dict",data:=.dict es ep }
noncomputable abbrev KV3:=Addr×Value×Int
noncomputable def ent (x:KV3):DictEntry:=⟨x.2.2,.ref x.1,x.2.1⟩
noncomputable def unh (a:Addr):Sem Value:=do rule "hash.unhashable";raiseError "TypeError" s!"unhashable type: '{← typeNameOf (.ref a)}'"
noncomputable def z8r (d:Addr) (vs:List (Value×Value)):Sem PUnit:=forIn vs W7 λ (x:Value×Value) (_:PUnit)=>(do dictSet d x.1 x.2;S3 (U3 W7):Sem (ForInStep PUnit))
section
variable {p:Program} {w:O0} {n₀:Nat} {ann:Option Value} {code:Code} {q:Pos} {pos:Pos} {F:Obj->Nat->SharedT} {d:Addr}
structure Fam (n₀:Nat) (d:Addr) (F:Obj->Nat->SharedT):Prop where
 le:Nat.ble n₀ d=true
 get :∀es ep tk,(F (dObj es ep) tk).abs.heap.get? d=some (dObj es ep)
 upd :∀es ep tk (e:DictEntry),({ (F (dObj es ep) tk).abs with heap:=(F (dObj es ep) tk).abs.heap.update d (p7 (·.push e)) }:y0)=(F (dObj (es.push e) (ep + 1)) tk).abs
theorem Goes.updKeys (Z:Fam n₀ d F) {es:Array DictEntry} {ep tk:Nat} {e:DictEntry} {part:Option Value} (hsz:es.size < sizeLine) :
  Goes p w n₀ ann code q 3 (updateDictKeys d (·.push e) part) (F (dObj es ep) tk).abs pos () (F (dObj (es.push e) (ep + 1)) tk).abs pos:=by
 unfold updateDictKeys;refine (Goes.bind (d:=2) (Goes.loadPart (Z.get es ep tk)) ?_);dsimp only;have u:=Goes.updatePart (p:=p) (w:=w) (ann:=ann) (code:=code) (q:=q) (pos:=pos) (part:=part) (f:=p7 (·.push e)) (Z.get es ep tk) Z.le;rw [Z.upd es ep tk e] at u;refine Goes.bind (d:=1) u ?_;unfold lookBehind;refine Goes.bind (d:=0) (Goes.loadPart (Z.get _ _ tk)) ?_;have a:(dObj (es.push e) (ep + 1)).data.pastItsLine=none:=by unfold Data.pastItsLine;dsimp only;rw [if_neg (by rw [Array.size_push];omega)]
 rw [a];exact Goes.pure
theorem Goes.set (Z:Fam n₀ d F) {a:Addr} {v:Value} {es:Array DictEntry} {ep tk k cp cq ce:Nat} {hsh:Int} (hsz:es.size < sizeLine)
  (hpy:Goes p w n₀ ann code q cp (pyHash (.ref a)) (F (dObj es ep) tk).abs pos hsh (F (dObj es ep) (tk + k)).abs pos)
  (hq:Goes p w n₀ ann code q cq (Q5 8 (.ref a)) (F (dObj es ep) (tk + k)).abs pos true (F (dObj es ep) (tk + k)).abs pos)
  (hk :∀e∈es.toList,∃b,e.key=.ref b/\b≠a/\Goes p w n₀ ann code q cq (Q5 8 (.ref b)) (F (dObj es ep) (tk + k)).abs pos true (F (dObj es ep) (tk + k)).abs pos/\
   Goes p w n₀ ann code q ce (eqBool (.ref b) (.ref a)) (F (dObj es ep) (tk + k)).abs pos false (F (dObj es ep) (tk + k)).abs pos) :
  Goes p w n₀ ann code q (cp + (2 + cq + es.size * (cq + ce + 10)) + 4) (dictSet d (.ref a) v) (F (dObj es ep) tk).abs pos () (F (dObj (es.push ⟨hsh,.ref a,v⟩) (ep + 1)) (tk + k)).abs pos:=by
 unfold dictSet;refine Goes.holding ?_;refine (Goes.bind (d:=(2 + cq + es.size * (cq + ce + 10)) + 4) hpy ?_).le (by omega);unfold dictSetHashed;refine Goes.holding ?_;refine Goes.bind (d:=4) (Goes.find_none (h:=hsh) (Z.get es ep (tk + k)) rfl hq hk) ?_;exact Goes.bind (d:=3) Goes.rule (Goes.updKeys Z hsz)
theorem zg7 {γ β:Type} {f:γ->β->Sem (ForInStep β)} {x:γ} {xs:List γ} {b b' b'':β} {c c':Nat} {s s' s'':y0} (h:Goes p w n₀ ann code q c (f x b) s pos (.yield b') s' pos) (k:Goes p w n₀ ann code q c' (forIn xs b' f) s' pos b'' s'' pos) :
  Goes p w n₀ ann code q (c + c') (forIn (x :: xs) b f) s pos b'' s'' pos:=by
 rw [P8];exact Goes.bind (f:=λ r=>match r with | .done b=>(E9 b:Sem β) | .yield b=>forIn xs b f) h k
theorem Goes.loop (Z:Fam n₀ d F) {cp cq ce N:Nat} (all:List KV3) (hN:all.length<=N) (hN':N < sizeLine) (hnd:(all.map (·.1)).Nodup)
  (hQ :∀x∈all,∀oD tk,Goes p w n₀ ann code q cq (Q5 8 (.ref x.1)) (F oD tk).abs pos true (F oD tk).abs pos)
  (hE:all.Pairwise λ x y=>∀oD tk,Goes p w n₀ ann code q ce (eqBool (.ref x.1) (.ref y.1)) (F oD tk).abs pos false (F oD tk).abs pos)
  (hH :∀x∈all,∀oD tk,Goes p w n₀ ann code q cp (pyHash (.ref x.1)) (F oD tk).abs pos x.2.2 (F oD (tk + 3)).abs pos) :
  ∀(todo done:List KV3) (tk:Nat),all=done++todo->
   Goes p w n₀ ann code q (todo.length * (cp + (2 + cq + N * (cq + ce + 10)) + 4)) (z8r d (todo.map λ x=>(F1 x.1,x.2.1)))
    (F (dObj (done.map ent).toArray done.length) tk).abs pos () (F (dObj (all.map ent).toArray all.length) (tk + 3 * todo.length)).abs pos:=by
 intro todo;induction todo with
 | nil=>intro done tk e;rw [C2] at e;subst e;unfold z8r;rw [U6,g9];exact Goes.pure.le (P1 _)
 | cons x todo ih=>
  intro done tk e;have f:x∈all:=by rw [e];exact P0 _ Y1
  have g:=ih (done++[x]) (tk + 3) (by rw [e,List.append_assoc];rfl);unfold z8r at g⊢;rw [U0];have c:(done.map ent).toArray.size<=N:=by rw [N0,C0];rw [e,L0] at hN;omega
  have h:=Goes.set (p:=p) (w:=w) (ann:=ann) (code:=code) (q:=q) (pos:=pos) (v:=x.2.1) (ep:=done.length) Z (J1 c hN') (hH x f _ tk) (hQ x f _ _) (es:=(done.map ent).toArray) (ce:=ce) (by
   intro s l;obtain ⟨y,a,rfl⟩:=List.mem_map.mp l;have j:y∈all:=by rw [e];exact Q4 _ a
   have m:y.1≠x.1:=by rw [e,O2,U0] at hnd;intro q;exact (List.nodup_append.mp hnd).2.2 y.1 (List.mem_map.mpr ⟨y,a,rfl⟩) x.1 Y1 q
   rw [e] at hE;exact ⟨y.1,rfl,m,hQ y j _ _,(List.pairwise_append.mp hE).2.2 y a x Y1 _ _⟩)
  have n:((done.map ent).toArray.push ⟨x.2.2,.ref x.1,x.2.1⟩)=((done++[x]).map ent).toArray:=by rw [List.push_toArray,O2];rfl
  have k:done.length + 1=(done++[x]).length:=by rw [L0];rfl
  rw [n,k] at h;have i:tk + 3 * (x :: todo).length=(tk + 3) + 3 * todo.length:=by rw [A1];omega
  rw [i];have o:Goes p w n₀ ann code q (_ + 0) (do dictSet d (F1 x.1,x.2.1).1 (F1 x.1,x.2.1).2;E9 (U3 W7):Sem (ForInStep PUnit)) _ pos (U3 W7) _ pos:=Goes.bind h Goes.pure;have r:=zg7 (b:=W7) (xs:=todo.map λ x=>(F1 x.1,x.2.1)) o g;refine r.le ?_;rw [A1,Nat.add_mul];have:=O7 (cq + ce + 10) c;omega
noncomputable def z7d (acc:Nat):Int:=if acc == 2 ^ 64 - 1 then 1546275796 else if acc < 2 ^ 63 then acc else (acc:Int) - (2 ^ 64:Nat)
theorem z58 (acc:Nat) (h:acc < 2 ^ 64):-(2:Int) ^ 63<=z7d acc/\z7d acc < 2 ^ 63:=by
 unfold z7d;split
 ·constructor<;>decide
 ·split
  ·constructor<;>omega
  ·constructor<;>omega
theorem z3z (hs:List Int):-(2:Int) ^ 63<=o0 hs/\o0 hs < 2 ^ 63:=
 z58 _ (Nat.mod_lt _ (by decide))
theorem Goes.pyHashT {a:Addr} {s s':y0} {hs:List Int} {tok:Tok} (h1:Goes p w n₀ ann code q 1 (cRoomFor "hash" [.ref a]) s pos () s pos)
  (h2:Goes p w n₀ ann code q 1 (specialOf (.ref a) "__hash__") s pos (some (.builtin "tuple.__hash__")) s pos)
  (h3:Goes p w n₀ ann code q 22 (k6 (.ref a) "__hash__" (unh a)) s pos (some (.int (o0 hs) tok)) s' pos) :
  Goes p w n₀ ann code q 25 (pyHash (.ref a)) s pos (X0 (o0 hs)) s' pos:=by
 have e:pyHash (.ref a)=pyHashByItsType (.ref a):=rfl;rw [e];unfold pyHashByItsType;refine Goes.bind (d:=24) h1 ?_;refine Goes.bind (d:=23) h2 ?_;rw [if_neg (by rw [beq_builtin_none];exact M0)];refine Goes.bind (d:=22) h2 ?_;show Goes p w n₀ ann code q 22 (k6 (.ref a) "__hash__" (unh a) >>= _) s pos _ s' pos;refine Goes.bind (d:=0) h3 ?_;have r:(decide (-(2:Int) ^ 63<=o0 hs) && decide (o0 hs < 2 ^ 63))=true:=by have r:=z3z hs;rw [decide_eq_true r.1,decide_eq_true r.2];rfl
 show Goes p w n₀ ann code q 0 (if (decide (-(2:Int) ^ 63<=o0 hs) && decide (o0 hs < 2 ^ 63))=true then _ else _) s' pos _ s' pos;have b:X0 (o0 hs)=(if (o0 hs == -1)=true then -2 else o0 hs):=by unfold X0;rw [if_pos r]
 rw [if_pos r,b];exact Goes.pure
theorem Goes.subDict {pairs:List (Sem Value×Sem Value)} {s s₁ s':y0} {vs:List (Value×Value)} {c c':Nat} {d:Addr} (hlen:pairs.length<=15) (hd:s.heap.objs.size=d)
  (h1:Goes p w n₀ ann code q c (evalPairs pairs) { s with heap:=s.heap.push { cls:=.type "dict",data:=.dict #[] } } pos vs s₁ pos)
  (h2:Goes p w n₀ ann code q c' (z8r d vs) s₁ pos () s' pos):Goes p w n₀ ann code q (1 + (c + c')) (subDict pairs) s pos d s' pos:=by
 subst hd;unfold PySem.subDict;refine Goes.bind (a:=s.heap.objs.size) (λ _ _ _ _=>.one rfl rfl rfl) ?_;refine (Goes.bind (d:=0) (a:=()) (Goes.holding ?_) Goes.pure);rw [if_pos hlen];refine Goes.bind h1 ?_;exact Goes.holding (Goes.bind (d:=0) h2 Goes.pure)
theorem Goes.execs1 {st:Stmt} {env:Env} {s s':y0} {pos':Pos} {c:Nat} (h:Goes p w n₀ ann code q c (exec st env) s pos .next s' pos'):Goes p w n₀ ann code q c (execs [st] env) s pos .next s' pos':=by rw [execs_cons];exact Goes.bind (d:=0) h Goes.pure
theorem Goes.seg {l:List Stmt} {env:Env} {s s':y0} {pos':Pos} {c:Nat} (h:Goes p w n₀ ann code q c (execs l env) s pos .next s' pos') :∃n,n<=c + 1/\segRun C3 p w n₀ ann 1 n s (piecesOf l env code pos [topFrame q])=some (.next,s',code,pos'):=by obtain ⟨n,a,h⟩:=h doneF deadEnd id id;exact ⟨n + 1,by omega,seg_go h rfl⟩
end
theorem zev {p q:Program} {loose:List Str} {Xt:y0->Bool} {α:Type} {Yf:y0->α} {Ya:O0->α} {N:Nat} {H₀:S0->Heap} {gs₀:Array GenState} {d₀:Drawn} {k₀ m₀:Nat} {ann:Option Value} {S:O0->T2->y0}
  (opens :∀w:O0,(fencedOpening C3 p w N).map (λ s=>(s.heap,s.gens,s.drawn,s.toks))=some (H₀ w.params,gs₀,d₀,k₀))
  (sizes :∀w:O0,(((H₀ w.params).isNs U1 && gs₀.size == 0),(H₀ w.params).objs.size,(H₀ w.params).nsMap U1 "__annotations__")=(true,m₀,ann))
  (runs :∀(w:O0) (os:T2),∃M,M<=N/\topRun C3 p w m₀ ann M ⟨H₀ w.params,gs₀,d₀,k₀,os⟩ (topStub p)=some (S w os))
  (looks1 :∀(w:O0) (os:T2),(staticsOk (z6 p.main.body) (H₀ w.params) (S w os).heap && namesBound p (S w os).heap && gensDone (S w os) && laidKept (H₀ w.params) (S w os).heap)=true)
  (looks2 :∀(w:O0) (os:T2),openSeen q loose (z6 p.main.body) Xt true (S w os)=openGood q loose) (looks3 :∀(w:O0) (os:T2),Yf (S w os)=Ya w):LeftO p q loose Xt Yf Ya N:=by
 intro w;obtain ⟨⟨h,d,f,k,os⟩,e,a⟩:=Option.map_eq_some_iff.mp (opens w);simp only [Prod.mk.injEq] at a;obtain ⟨rfl,rfl,rfl,rfl⟩:=a;have z:=sizes w;simp only [Prod.mk.injEq] at z;obtain ⟨c,i,g⟩:=z;obtain ⟨M,b,r⟩:=runs w os;have r:=topRun_mono (N - M) _ _ _ _ r;rw [Nat.add_sub_cancel' b] at r;have t:topFrom C3 p w N ⟨H₀ w.params,d,f,k,os⟩=some (S w os):=by unfold topFrom;dsimp only;rw [c,i,g,r];show (match (staticsOk (z6 p.main.body) (H₀ w.params) (S w os).heap && namesBound p (S w os).heap && gensDone (S w os) && laidKept (H₀ w.params) (S w os).heap) with|true=>some (S w os)|false=>none)=_;rw [looks1 w os]
 unfold openEnds;rw [e];show (topFrom C3 p w N _).map _=_;rw [t];show some (_,_)=some (_,_);rw [looks2 w os,looks3 w os]
theorem za6 {p:Program} {w:O0} {n₀:Nat} {ann:Option Value} {env:Env} {q:Pos} {c N:Nat} {s s' r:y0} {l rest:List Stmt} {b:Code} {pos pos':Pos} (h:Goes p w n₀ ann b q c (execs l env) s pos .next s' pos')
  (k:topRun C3 p w n₀ ann N s' (restOf rest env b pos' [topFrame q])=some r) :∃M,M<=c + 1 + N/\topRun C3 p w n₀ ann M s (restOf (l++rest) env b pos [topFrame q])=some r:=by
 obtain ⟨n,a,g⟩:=Goes.seg h;exact ⟨n + N,by omega,piece_app g k⟩
end TJ
open PySem PySem.Spec PyProof.Rows
namespace L2
noncomputable abbrev fnX (x q:Str) (s:Stmt) (m:Str) (k c:Nat):FuncData:=o5 x q (z6j s) (z3p s) (z07 s) .none .none .none (.str m k) none (.ref c) .none
noncomputable abbrev fY (x q:Str) (s:Stmt):=fnX x q s "law_talejudge_k14_collisions_told" 658
noncomputable abbrev fO (x q:Str) (s:Stmt) (m:Str) (k c:Nat):Obj:=⟨.type "function",none,.func (fnX x q s m k c),#[]⟩
noncomputable abbrev fL (x q:Str) (s:Stmt):=fO x q s "law_talejudge_k14_collisions_told" 658
noncomputable abbrev cO (x q:Str) (i l n a j:Nat):Obj:=
 ⟨.type "code",none,.fields #[.str x i,.str q (i + 1),.str "/claim/cut.py" (i + 2),.int l 0,.int n 0,.int 0 0,.int 0 0,.int 3 0,.ref a,.bool true,.int 181 0,.ref (a + 1),.none,.ref (a + 2),.ref (a + 3),.ref (a + 4),.int j 0,.int l 0,.str "/claim/cut.py" (j + 1)],#[]⟩
noncomputable abbrev cP (x q:Str) (i l n a j:Nat):Obj:=
 ⟨.type "code",none,.fields #[.str x i,.str q (i + 1),.str "/claim/cut.py" (i + 2),.int l 0,.int n 0,.int 0 0,.int 0 0,.int 3 0,.ref a,.bool true,.int 181 0,.ref (a + 1),.none,.none,.none,.ref (a + 2),.int j 0,.int l 0,.str "/claim/cut.py" (j + 1)],#[]⟩
noncomputable abbrev kR (P:S0) (x:Str) (i a:Nat):DictEntry:=⟨b0 P x,.str x i,.ref a⟩
section
variable {P:Program} {w:O0} {K:c0} {mg:Str->Option Value} {base:Heap} {x q:Str} {st:Stmt} {f:Addr} {fd:FuncData} {k:Nat} {ps:List Str} {sp:Sp}
theorem z0e {m:Str} {i c:Nat} (l:K.lookup f=some (fO x q st m i c):=by kernel_rfl) (hc:d7 K (.ref c) q=true:=by kernel_rfl) (hk:n4 K (.ref f)=true:=by kernel_rfl):Fun K x q st f (fnX x q st m i c):=fun_mk l hc hk
theorem cal_mk (T:TX K mg) (F:Fun K x q st f fd) (g:P3 K U1 x=some (some (.ref f))) (b:Binds K fd ps []) (G:FnOk P w K mg base CX0 k f fd ps sp):Cal P w K mg base x ps k sp:=⟨⟨f,fd,G,T.of g,F.kp,b⟩⟩
end
section
variable {p:List Value->Prop}
theorem us1 (h :∀a,p [a]) :∀us:List Value,us.length=1->p us | [a],_=>h a
theorem us2 (h :∀a b,p [a,b]) :∀us:List Value,us.length=2->p us | [a,b],_=>h a b
theorem us3 (h :∀a b c,p [a,b,c]) :∀us:List Value,us.length=3->p us | [a,b,c],_=>h a b c
theorem us5 (h :∀a b c d e,p [a,b,c,d,e]) :∀us:List Value,us.length=5->p us | [a,b,c,d,e],_=>h a b c d e
end
end L2
set_option maxHeartbeats 1000000
namespace L2
open PySem PySem.Spec PyProof.Rows
section
variable {prog:Program} {w:O0} {A:Z1} {E:Value->y0->Prop} {s:y0}
theorem sort1 {a:Addr} {v:Value} {n0:Nat} {P:F7->y0->Prop} (ho:s.heap.get? a=some (Q2 "list" #[v] n0))
  (h :∀(h':Heap) (e:Nat),(∀b o,b≠a->s.heap.get? b=some o->h'.get? b=some o)->h'.get? a=some (Q2 "list" #[v] e)->P (.done (.ret .none)) { s with heap:=h' }) :
  R0 (Y0 prog w) A (X6.«list.sort» ⟨[.ref a],[]⟩) P E s:=by
 obtain ⟨f,g⟩ :∃f,(s.heap.update a (L1 λ _=>(#[]:Array Value))).get? a=some (Q2 "list" #[] f):=⟨_,A6 ho λ _=>#[]⟩
 rw [list_sort_plain];refine v0 (listItems_at ho rfl (v0 (c6 ho rfl (v0 (p9 g rfl (v0 (wpAny_newTuple (v0 (o8 (G2 ?_) (P1 _))) (show 1<=sizeLine by decide))))) (show 1<=_ by decide) (P1 _))));dsimp only;generalize hh3:((s.heap.update a (L1 λ _=>(#[]:Array Value))).push (Q2 "tuple" #[v] 0)).push (Q2 "list" #[] 0)=h3;have l:=X2 s.heap a (L1 λ _=>(#[]:Array Value));have j :∀b o,b≠a->s.heap.get? b=some o->h3.get? b=some o:=λ b o n e=>by rw [<-hh3];exact x0 _ (x0 _ ((l.2 b n).trans e))
 have c:h3.get? a=some (Q2 "list" #[] f):=by rw [<-hh3];exact x0 _ (x0 _ g)
 rw [if_pos (show (#[v]:Array Value).size < 2 by simp)];refine v0 (D0 ?_);rw [if_pos (show (#[v]:Array Value).size < 2 by simp)];refine (show R0 _ _ (S3 ((),N8 general' ((#[v]:Array Value).zip #[v]) #[] 7 none) >>= _) _ _ _ from v0 (D0 ?_));dsimp only;have i:Array.map (λ x=>x.snd) (t8 (N8 general' ((#[v]:Array Value).zip #[v]) #[] 7 none)) = #[v]:=by show Array.map (λ x=>x.snd) ((#[v]:Array Value).zip #[v]) = #[v];simp
 refine v0 (p9 c rfl (v0 (c6 c rfl ?_ (P1 _) ?_)))
 ·simp only [bne_self_eq_false,w6,if_false];rw [i];obtain ⟨d,k⟩ :∃d,(h3.update a (L1 λ _=>(#[v]:Array Value))).get? a=some (Q2 "list" #[v] d):=⟨_,A6 c λ _=>#[v]⟩
  exact D0 (h _ d (λ b o n e=>(V6 _ _ (F3 n)).trans (j b o n e)) k)
 ·rw [i];exact (show 1<=_ by decide)
end
section
variable {X:Cx}
theorem z70:CallR X (.builtin "sorted") (λ xs H Q=>∃(a:Addr) (y:V),xs=[.ref a]/\SqL X.K H a [y]/\∀l,H l=none->Q (.ref l) (upd H l (.lst [y]))):=by intro w s σ H xs F Q I p h;obtain ⟨a,y,rfl,t,q⟩:=h;obtain ⟨u,rfl,D⟩:=vals1 p;cases D;obtain ⟨E,d,r,G⟩:=I.list t;obtain ⟨v,rfl,J⟩:=vals1 d;refine Calls.call_function_entry kind_sorted plain_sorted entry_sorted (args_sorted1 _) ?_;unfold X6.«sorted»;obtain ⟨o,k,x,n,hd⟩:=r.isList;refine v0 (m:=checkCount "sorted" 1 1 _) (D0 (v0 (wpAny_collect_seq a (.inl rfl) k x hd (λ c C=>?_) (show 1<=_ by decide))));have f:(c.push (Q2 "list" #[v] 0)).get? c.objs.size=some (Q2 "list" #[v] 0):=I0 _ rfl;have g:Inv X w σ H { s with heap:=c }:=I.kept (t':=s.toks) C;refine v0 (o8 (v0 (G2 (B7 slot_list_sort ⟨_,f,rfl⟩ entry_list_sort (sort1 (s:={ s with heap:=c.push (Q2 "list" #[v] 0) }) f λ i e B j=>⟨_,rfl,?_⟩) (args_list_sort _)))) (show 1<=_ by decide));have A :∀b o,c.get? b=some o->i.get? b=some o:=λ b o z=>B b o (Q0 (G0 z)) (x0 _ z);exact D0 ⟨_,rfl,.ref c.objs.size,_,g.laid (t':=s.toks) (o:=.lst [y]) A (A0 _) ⟨(show 1<=sizeLine by decide),_,e,d,j⟩,rfl,q _ (g.hok.fresh (A0 _))⟩
end
variable {X:Cx}
def rDictT (K:c0):List V->Hp->VK->Prop:=λ xs H Q=>∃a ys kvs,xs=[.ref a]/\H a=some (.tup ys)/\All2 (λ (p:Key×V) y=>∃b,y=.ref b/\SqT K H b [kV p.1,p.2]) kvs ys/\∀p,H p=none->Q (.ref p) (upd H p (.dK (mergeK [] kvs)))
theorem z9z (hc:X.calm=true):CallR X (.type "dict") (rDictT X.K):=by
 intro R s σ H xs us Q I r h;obtain ⟨a,M,d,rfl,N,p,q⟩:=h;obtain ⟨u,rfl,P⟩:=vals1 r;cases (show u=F1 a from P);have m:X.A.handled=none:=I.ok.hd hc;have G:H s.heap.objs.size=none:=I.hok.fresh (A0 _);have big:=I.big;have fin :∀(f:List (Key×Value)) (h':Heap) (c:Nat),KV d f->d.length<=sizeLine->z5 (z0f X.prog X.w) h' s.heap.objs.size (merged [] f)->(∀b o,b≠s.heap.objs.size->(s.heap.push { cls:=.type "dict",data:=.dict #[] }).get? b=some o->h'.get? b=some o)->
   EP X R σ Q (.ref s.heap.objs.size) { s with heap:=h',toks:=c }:=λ f h' c g T i j=>by
  refine ⟨.ref s.heap.objs.size,_,I.laid (a:=s.heap.objs.size) (o:=.dK (mergeK [] d)) (h':=h') (t':=c) (λ b o e=>j b o (Q0 (G0 e)) (x0 _ e)) (A0 _) ?_,rfl,q _ G⟩;exact dk_new (F0 (z5x [] d) (by simpa using T)) (beq_eq_false_iff_ne.mpr (F3 (Q0 big))) (KV.merge g .nil) i
 have k:M.length=d.length:=z04 p;obtain ⟨z,Y,O,⟨o,D,t,n,v⟩,Z,C,E⟩:=I.hok a _ N;rw [D] at C;cases C;obtain ⟨f,g,S⟩:=zbr I p O;obtain ⟨W,od,V,U⟩:=o;dsimp only at t v E;subst t v E;refine callType_codes F.kt_called_dict (F.kt_typeCall_dict_1 _) F.entry_dict_init (kt_code_dict_new _ (Q₁:=λ l B=>l=.ref s.heap.objs.size/\B={ s with heap:=s.heap.push { cls:=.type "dict",data:=.dict #[] } }) ⟨rfl,rfl⟩) ?_;rintro l B ⟨rfl,rfl⟩;refine ⟨⟨_,I0 _ rfl,rfl⟩,F.args_dict_init_2 _ _,?_⟩;refine z45 (s:={ s with heap:=s.heap.push { cls:=.type "dict",data:=.dict #[] } }) (I0 _ rfl) (x0 _ D) m m (by simpa using z02 (λ x y z=>PairOf.kept (L:=[]) (λ b o _ e=>x0 _ e) (λ b J=>absurd J B0) z) S) (by rw [<-N7 g,<-k];exact z) λ h' c i j=>fin f h' c g (by rw [<-k];exact z) i j
variable {X:Cx}
theorem z80 (hc:X.calm=true):CallR X (.builtin "max") (λ xs H Q=>∃(p:Addr) (ns:List Int),xs=[.ref p]/\SqL X.K H p (ns.map V.int)/\ns≠[]/\∀M,M∈ns->(∀a∈ns,a<=M)->Q (.int M) H):=by
 intro E s σ H xs F Q I r h;obtain ⟨p,ns,rfl,k,l,q⟩:=h;obtain ⟨u,rfl,A⟩:=vals1 r;cases A;obtain ⟨w,m,n,G⟩:=I.list k;have d:N3 w ns:=z35 m;obtain ⟨xs,e⟩:=d.allInts.items;have b:ns=xs.toList.map (·.1):=by rw [<-d.numsOf,<-nums_intItems,<-e]
 have y:0 < xs.size:=by have g:=List.length_pos_iff.mpr l;rw [b,C0,W0] at g;exact g
 have f:=n.isList;rw [e] at f;refine max_intList (I.ok.hd hc) f y λ v C B o x=>?_;obtain ⟨t,rfl⟩:=intItems_at o;obtain ⟨D,i⟩:=argBest_gt (numAt xs) (xs.size - 1);refine ⟨.int _,H,I.kept x,⟨_,rfl⟩,q _ ?_ λ a c=>?_⟩
 ·rw [b,numAt_eq];exact getD_mem (by rw [C0,W0];omega)
 ·rw [b] at c;obtain ⟨j,z,rfl⟩:=mem_getD c;rw [C0,W0] at z;rw [<-numAt_eq];exact i j (by omega)
theorem z31 (hc:X.calm=true):CallR X (.builtin "min") (λ xs H Q=>∃(p:Addr) (ns:List Int),xs=[.ref p]/\SqL X.K H p (ns.map V.int)/\ns≠[]/\∀M,M∈ns->(∀a∈ns,M<=a)->Q (.int M) H):=by
 intro E s σ H xs F Q I r h;obtain ⟨p,ns,rfl,k,l,q⟩:=h;obtain ⟨u,rfl,A⟩:=vals1 r;cases A;obtain ⟨w,m,n,G⟩:=I.list k;have d:N3 w ns:=z35 m;obtain ⟨xs,e⟩:=d.allInts.items;have b:ns=xs.toList.map (·.1):=by rw [<-d.numsOf,<-nums_intItems,<-e]
 have y:0 < xs.size:=by have g:=List.length_pos_iff.mpr l;rw [b,C0,W0] at g;exact g
 have f:=n.isList;rw [e] at f;refine min_intList (I.ok.hd hc) f y λ v C B o x=>?_;obtain ⟨t,rfl⟩:=intItems_at o;obtain ⟨D,i⟩:=argBest_lt (numAt xs) (xs.size - 1);refine ⟨.int _,H,I.kept x,⟨_,rfl⟩,q _ ?_ λ a c=>?_⟩
 ·rw [b,numAt_eq];exact getD_mem (by rw [C0,W0];omega)
 ·rw [b] at c;obtain ⟨j,z,rfl⟩:=mem_getD c;rw [C0,W0] at z;rw [<-numAt_eq];exact i j (by omega)
end L2
set_option maxHeartbeats 4000000
namespace L2
open PySem PySem.Spec PyProof.Rows
noncomputable def Itms (a:Addr) (ob:Obj) (kvs:List (Key×V)):It:=
 ⟨λ i H=>H a=some (.frz ob (.dK kvs))/\i < kvs.length,λ i H x H'=>∃p k v,H p=none/\x=.ref p/\kvs[i]? = some (k,v)/\H'=upd H p (.tup [kV k,v]),λ i H=>H a=some (.frz ob (.dK kvs))/\kvs.length<=i⟩
theorem zcg {P:Program} {w:O0} {K:c0} {elts:List Expr} {x1:Nat} {pos:Pos} {a it:Addr} {ob:Obj} {kvs:List (Key×V)} {es:Array DictEntry} {ep:Nat} (hob:ob.data=.dict es ep):Turn P w K (.Tuple elts x1 pos) (Itms a ob kvs) [it] it (λ i h=>∃ok ov,IsItemIter h it a i kvs.length ep ok ov) where
 mem:=by simp
 obj:=λ i h d b f=>by
  obtain rfl:b=it:=by simpa using f
  obtain ⟨ok,ov,e⟩:=d;exact ⟨_,e,λ v z=>by cases (show M8 _=F9 v from z)⟩
 keep:=λ i h G d k=>by obtain ⟨ok,ov,e⟩:=d;exact ⟨ok,ov,k it (by simp) _ e⟩
 item:=by
  intro X A y m g i a1 s σ H E I j d r;subst A y m;obtain ⟨B,J⟩:=r;obtain ⟨S,F,l,q⟩:=frz_at I hob B;have N:kvs[i]? = some kvs[i]:=J0 J;obtain ⟨⟨Y,u⟩,R,p,ru⟩:=z5o F N;obtain ⟨ok,ov,d⟩:=d;rw [<-l] at d;have a2:it < s.heap.objs.size:=G0 d;have L:s.heap.objs.size≠it:=A2 a2;refine wpAny_pyNext_items_item d q R λ M G a0 U T hz kk=>?_;refine ⟨_,rfl,wpAny_letOwnedTupleGo_items U λ Q D sb=>?_⟩;have Z:RelV (kV kvs[i].1) M:=by
   have p:kvs[i].1=Y:=p;rw [p];rcases z0k a0 with ⟨i,t,C,n⟩|⟨x,t,C,n⟩
   ·rw [C,n];exact ⟨t,rfl⟩
   ·rw [C,n];exact ⟨t,rfl⟩
  have k2 :∀b o,b∉[it]->s.heap.get? b=some o->Q.get? b=some o:=λ b o f z=>by have f:b≠it:=λ z=>f (List.mem_singleton.mpr z);exact (sb.2 b f).trans (kk b o f z)
  have O:=(sb.2 _ L).trans T;have fr:H s.heap.objs.size=none:=I.hok.fresh (A0 _);rw [l] at D;refine ⟨.ref s.heap.objs.size,upd H s.heap.objs.size (.tup [kV kvs[i].1,kvs[i].2]),I.turnedLaid (t':=s.toks) k2 j (A0 _) ⟨w_2,[M,u],.cons Z (.cons ru .nil),⟨_,O,rfl,_,rfl⟩,_,O,rfl⟩,rfl,⟨_,_,_,fr,rfl,N,rfl⟩,⟨_,_,D⟩,λ c g=>?_⟩;rw [upd_ne (λ (z:c=s.heap.objs.size)=>L (z ▸ List.mem_singleton.mp g))];exact (j c g).1
 done:=by intro X A y m g i a1 s σ H E I j d r;subst A y m;obtain ⟨B,J⟩:=r;obtain ⟨S,F,l,q⟩:=frz_at I hob B;obtain ⟨f0,f1,f2,f3,f4,f5⟩:=j it (by simp);obtain ⟨ok,ov,d⟩:=d;rw [<-l] at d;exact wpAny_pyNext_items_end (I.ok.hd g) d q (by rw [Z3];omega) λ G eb=>⟨rfl,I.turned (t':=s.toks) (λ b o f e=>eb b o f e) f0 f1 f3 f4 f5⟩
 self:=λ _ _ _ _ _ d h=>by obtain ⟨ok,ov,d⟩:=d;exact PySem.W.kcp_self d h
noncomputable def iItems (td:TE):TI:=λ σ H R=>td σ H λ x H1=>∃a kvs,x=.ref a/\H1 a=some (.dK kvs)/\∀ob,R (Itms a ob kvs) (upd H1 a (.frz ob (.dK kvs)))
section
variable {X:Cx}
theorem zfa {elts:List Expr} {x1:Nat} {tpos:Pos} {o:Expr} {to:TE} {apos cpos:Pos} (ho:PE X o to) (hbase:a7 o "items" X.env (W3 o X.env)=W3 o X.env:=by rfl) (hline:(apos.endLine == cpos.line)=true:=by rfl):PI X (.Tuple elts x1 tpos) (.Call (.Attribute o "items" apos) [] [] cpos) (iItems to):=by
 intro m s σ H R I h;refine wpAny_Call_method0_late hbase hline (thn (ho m s σ H _ I h) λ v c ⟨x,H1,I1,r1,a,kvs,ex,ea,q⟩=>?_);subst ex;cases r1;obtain ⟨k,u,hd⟩:=isD_at I1 (.inl ⟨_,.inl ea⟩);obtain ⟨_,_,i,y,j⟩:=dk_of I1.hok ea;obtain ⟨B,l⟩:=j.dictAt;obtain ⟨f,g,ho,D,C,_⟩:=id l;refine ⟨"dict","dict.items",F6,c9,PySem.F.type_dict_items,k,u,A5 rfl (PySem.evalArgs_none ?_)⟩;refine V8 c9 k PySem.F.entry_dict_items (PySem.F.args_dict_items_1 _) (meets_dict_items (z0f X.prog X.w) a hd) ⟨⟨_,j⟩,?_⟩;have p :∀b o,c.heap.get? b=some o->(c.heap.push { cls:=.type "dict_items",data:=.fields #[.ref a] }).get? b=some o:=λ b o e=>x0 _ e;have d:Inv X m σ (upd H1 a (.frz f (.dK kvs))) { c with heap:=c.heap.push { cls:=.type "dict_items",data:=.fields #[.ref a] } }:=(I1.freeze ea ho).kept (t':=c.toks) p;have n:(c.heap.push { cls:=.type "dict_items",data:=.fields #[.ref a] }).DictAt (z0f X.prog X.w) a i B:=by obtain ⟨o,g,z,r⟩:=l;exact ⟨o,g,p _ _ z,r⟩
 refine wpAny_pyIter_items (s:={ c with heap:=c.heap.push { cls:=.type "dict_items",data:=.fields #[.ref a] } }) ⟨_,I0 _ rfl,rfl,rfl⟩ n ?_;have A:i.length=kvs.length:=y.length.symm;generalize hh2:c.heap.push { cls:=.type "dict_items",data:=.fields #[.ref a] }=h2 at d n;refine ⟨h2.objs.size,[h2.objs.size],_,_,_,rfl,d.kept (t':=c.toks) λ b o e=>x0 _ e,zcg C,⟨_,_,by rw [<-A];exact I0 _ rfl⟩,λ b t=>?_,q f⟩;obtain rfl:b=h2.objs.size:=by simpa using t
 exact d.fpOk (A0 _) (d.hok.fresh (A0 _))
end
theorem zds {a:Addr} {ob:Obj} {kvs:List (Key×V)} {g:TG} {tb:TS} {D:Ends} {σ:St} {H:Hp} (Pv:Nat->St->Hp->Prop) (h0:Pv 0 σ H) (fr :∀i σ H,Pv i σ H->H a=some (.frz ob (.dK kvs)))
  (hs :∀i k v σ H p,kvs[i]? = some (k,v)->Pv i σ H->H p=none->g (.ref p) σ (upd H p (.tup [kV k,v])) λ σ2 H2=>tb { D with nx:=Pv (i + 1),ct:=Pv (i + 1),bk:=D.nx } σ2 H2) (hd :∀σ H,Pv kvs.length σ H->D.nx σ H) :
  ∃W:Nat->Nat->St->Hp->Prop,(∃m,W 0 m σ H)/\∀i m σ H,W i m σ H->
   ((Itms a ob kvs).stop i H/\D.nx σ H)\/((Itms a ob kvs).go i H/\∃N:St->Hp->Prop,(∀σ' H',N σ' H'->∃m',m' < m/\W (i + 1) m' σ' H')/\∀x H',(Itms a ob kvs).yld i H x H'->g x σ H' λ σ2 H2=>tb { D with nx:=N,ct:=N,bk:=D.nx } σ2 H2):=by
 refine ⟨λ i m σ H=>m=kvs.length - i/\i<=kvs.length/\Pv i σ H,⟨kvs.length,by simp,P1 _,h0⟩,?_⟩;rintro i m σ H ⟨rfl,hi,p⟩;by_cases hlt:i < kvs.length
 ·refine .inr ⟨⟨fr _ _ _ p,hlt⟩,Pv (i + 1),λ σ' H' q=>⟨kvs.length - (i + 1),by omega,rfl,hlt,q⟩,λ x H' y=>?_⟩;obtain ⟨b,k,v,d,rfl,c,rfl⟩:=y;exact hs i k v σ H b c p d
 ·obtain rfl:i=kvs.length:=by omega
  exact .inl ⟨⟨fr _ _ _ p,A0 _⟩,hd σ H p⟩
end L2
set_option maxHeartbeats 1000000
namespace L2
open PySem PySem.Spec PyProof.Rows
theorem z8d {α β:Type} {g:α->β} {l m:List β} (h:l.Perm m) :∀zs:List α,m=zs.map g->∃zs':List α,zs'.Perm zs/\l=zs'.map g:=by
 induction h with
 | nil=>intro zs e;exact ⟨zs,.refl _,e⟩
 | cons x _ ih=>
  intro zs e;cases zs with
  | nil=>cases e
  | cons z zs=>injection e with e1 e2;obtain ⟨zs',a,b⟩:=ih zs e2;exact ⟨z :: zs',a.cons z,by rw [U0,<-e1,<-b]⟩
 | swap x y l=>
  intro zs e;cases zs with
  | nil=>cases e
  | cons z zs=>
   cases zs with
   | nil=>injection e with _ e;cases e
   | cons z' zs=>injection e with e1 e2;injection e2 with e2 e3;exact ⟨z' :: z :: zs,.swap _ _ _,by rw [U0,U0,<-e1,<-e2,<-e3]⟩
 | trans _ _ ih1 ih2=>intro zs e;obtain ⟨f,a,b⟩:=ih2 zs e;obtain ⟨c,d,i⟩:=ih1 f b;exact ⟨c,d.trans a,i⟩
def KeyOut (kz:List Int) (ys out:List V):Prop:=∃ps:List (Int×V),ps.Perm (kz.zip ys)/\out=ps.map Prod.snd/\ps.Pairwise λ p q=>p.1<=q.1
theorem zg2 {kz:List Int} {ys:List V} {vs out:List Value} (hv:Vals ys vs) (hl:kz.length=ys.length) (h:KskOut false kz vs out) :∃zs,Vals zs out/\KeyOut kz ys zs/\zs.length=ys.length:=by
 obtain ⟨n,a,rfl,b⟩:=h;have f:=hv.length;have e:kz.zip vs=(kz.zip (ys.zip vs)).map λ p=>(p.1,p.2.2):=by
  clear a b hl;induction hv generalizing kz with
  | nil=>rw [o6,List.zip_nil_left,o6];rfl
  | cons r t ih=>
   cases kz with
   | nil=>rfl
   | cons k kz=>have:=ih (kz:=kz) (by have:=f;simpa using this);show (k,_) :: kz.zip _=_ :: _;rw [this];rfl
 obtain ⟨zs,d,g⟩:=z8d a _ e;have i :∀p∈kz.zip (ys.zip vs),RelV p.2.1 p.2.2:=λ p a=>by
  have:=(Z5 a).2;have l :∀{ys:List V} {vs:List Value},Vals ys vs->∀q∈ys.zip vs,RelV q.1 q.2:=by
   intro ys vs h;induction h with
   | nil=>exact λ q c=>absurd c B0
   | cons r t ih=>
    intro q c;rcases List.mem_cons.mp c with rfl|c
    ·exact r
    ·exact ih q c
  exact l hv _ this
 have j :∀zs:List (Int×V×Value),(∀p∈zs,RelV p.2.1 p.2.2)->Vals (zs.map λ p=>p.2.1) (zs.map λ p=>p.2.2):=by
  intro zs;induction zs with
  | nil=>exact λ _=>.nil
  | cons z zs ih=>exact λ h=>.cons (h z (.head _)) (ih λ p a=>h p (.tail _ a))
 have m:kz.zip ys=(kz.zip (ys.zip vs)).map λ p=>(p.1,p.2.1):=by
  clear a b hl d g i e;induction hv generalizing kz with
  | nil=>rw [o6,List.zip_nil_left,o6];rfl
  | cons r t ih=>
   cases kz with
   | nil=>rfl
   | cons k kz=>have:=ih (kz:=kz) (by have:=f;simpa using this);show (k,_) :: kz.zip _=_ :: _;rw [this];rfl
 refine ⟨zs.map λ p=>p.2.1,?_,⟨zs.map λ p=>(p.1,p.2.1),?_,?_,?_⟩,?_⟩
 ·rw [g,A3];exact j zs λ p a=>i p (d.mem_iff.mp a)
 ·rw [m];exact d.map _
 ·rw [A3];rfl
 ·rw [g] at b;rw [D5] at b⊢;exact b.imp λ h=>h
 ·rw [C0,d.length_eq,List.length_zip,List.length_zip,hl,<-f,X9,X9]
section
variable {X:Cx} {pins:List (Addr×Obj)} {σ:St} {H:Hp} {s:y0}
theorem Inv.track {a:Addr} {o:HO} (I:Inv X pins σ H s) (hf:FpOk X pins H a) (new:ObjOk X.prog X.w (upd H a o) s.heap a o):Inv X pins σ (upd H a o) s:=by
 have h:=hf.1;have f :∀b u,H b=some u->upd H a o b=some u:=λ b u e=>by rw [upd_ne (z0g e h)];exact e
 refine I.step (h':=s.heap) (t':=s.toks) (g':=s.gens) (d':=s.drawn) (ch:=[a]) (λ b d=>?_) (λ b o _ _ _ e _=>e) (λ b o _ _ _ e _=>⟨o.slots,e⟩) (λ b u d e n=>?_) (λ b o _ e=>⟨o,e⟩) (λ _ _ e=>f _ _ e) (λ _ _ _ e=>f _ _ e) (λ b i e=>⟨#[],by rw [f _ _ e];simp⟩) (λ m g=>g) (λ b u e=>?_) I.bare
 ·cases List.mem_singleton.mp d;exact ⟨hf.2.2.2.1,hf.2.1,hf.2.2.2.2.1,hf.2.2.2.2.2⟩
 ·rw [upd_ne λ z=>d (List.mem_singleton.mpr z)];exact n
 ·by_cases d:b=a
  ·subst d;rw [z01] at e;cases e;exact new
  ·rw [upd_ne d] at e;exact (I.hok b u e).stay (λ c v _ q=>q) (λ c q=>f _ _ q) λ c j q=>f _ _ q
theorem zfl {A:Z1} {E:Value->y0->Prop} {P:F7->y0->Prop} {a kS:Addr} {vs:List Value} {kz:List Int} {keys:Array Value} {e e1:Nat}
  (I:Inv X pins σ H s) (fa:FpOk X pins H a) (fk:FpOk X pins H kS) (hka:kS≠a) (ek:s.heap.get? kS=some (Q2 "list" keys e)) (ea:s.heap.get? a=some (Q2 "list" #[] e1))
  (hk:N3 keys.toList kz) (hlen:kz.length=vs.length) (h64:vs.length < 64)
  (h :∀h' tk out c,Inv X pins σ H { s with heap:=h',toks:=tk }->h'.get? a=some (Q2 "list" out c)->KskOut false kz vs out.toList->P (.done (.ret .none)) { s with heap:=h',toks:=tk }) :
  R0 (Y0 X.prog X.w) A (ksk_end a false vs.toArray e1 (.ref kS) keys) P E s:=by
 have n:keys.size=vs.length:=by have x:=hk.length;rw [W0] at x;omega
 have k:(keys.zip vs.toArray).size=vs.length:=by rw [Array.size_zip,n,N0,X9]
 have r :∀st:SortSt,(t8 st).Perm (keys.zip vs.toArray)->SortedTo (t8 st) (t8 st).size->failedOf st=none->R0 (Y0 X.prog X.w) A (ksk_tail a false e1 (.ref kS) st) P E s:=by
  intro st g l F;have y:(t8 st).size=vs.length:=by rw [g.size_eq,k]
  have t:=X2 s.heap kS (L1 λ _=>(#[]:Array Value));have m:(s.heap.update kS (L1 λ _=>(#[]:Array Value))).get? a=some (Q2 "list" #[] e1):=(t.2 a hka.symm).trans ea;have G:=X2 (s.heap.update kS (L1 λ _=>(#[]:Array Value))) a (L1 λ _=>(t8 st).map (·.2));obtain ⟨p,u⟩ :∃p,((s.heap.update kS (L1 λ _=>(#[]:Array Value))).update a (L1 λ _=>(t8 st).map (·.2))).get? a=some (Q2 "list" ((t8 st).map (·.2)) p):=
   ⟨_,A6 m λ _=>(t8 st).map (·.2)⟩
  unfold ksk_tail
  try dsimp only
  refine v0 (c6 ek rfl ?_ (by rw [n,P5];omega) (P1 _));refine v0 (wpAny_letGo ?_);refine v0 (p9 m rfl ?_);refine v0 (c6 m rfl ?_ (P1 _) (F0 (j7 ((Array.size_map ..).trans y)) (by rw [P5];omega)));rw [F];simp only [bne_self_eq_false,w6,if_false];have J:=I.turnedL (fp:=[kS,a]) (h':=(s.heap.update kS (L1 λ _=>(#[]:Array Value))).update a (L1 λ _=>(t8 st).map (·.2))) (t':=s.toks) (λ b o d q=>(G.2 b λ z=>d (z ▸ .tail _ (.head _))).trans ((t.2 b λ z=>d (z ▸ .head _)).trans q)) (λ b d=>by
   rcases List.mem_cons.mp d with rfl|d
   ·exact fk
   ·rw [List.mem_singleton.mp d];exact fa)
  exact D0 (h _ _ _ p J u (ksk_out (b:=false) hk g l))
 unfold ksk_end
 try dsimp only
 rw [if_neg M0];by_cases h2:vs.toArray.size < 2
 ·rw [if_pos h2,if_pos h2];refine v0 (D0 ?_);rw [StateT.run_pure];refine v0 (D0 ?_)
  try dsimp only
  refine r (N8 general' (if false=true then (keys.zip vs.toArray).reverse else keys.zip vs.toArray) #[] 7 none) (j00 _) ?_ rfl;intro i j L K;have D:j < (keys.zip vs.toArray).size:=K;rw [k] at D;rw [N0] at h2;have:i=j:=by omega
  subst this;exact S8 _
 ·rw [if_neg h2,if_neg h2];rw [N0] at h2;rw [ksk_kind hk (by rw [n];omega)];refine v0 (D0 ?_);refine v0 (L3 (wpS_sortRuns (a₀:=keys.zip vs.toArray) (st:=N8 oneType' (if false=true then (keys.zip vs.toArray).reverse else keys.zip vs.toArray) #[] 7 none)
   (Q:=λ _ f=>(t8 f).Perm (keys.zip vs.toArray)/\failedOf f=none/\SortedTo (t8 f) (keys.zip vs.toArray).size)
   (ksk_intKeys hk) ⟨j00 _,rfl,rfl,rfl⟩ (by rw [k];omega) (by rw [k];exact h64) λ f B C v=>⟨B,C,v⟩) ?_ λ _ _ e=>e)
  rintro ⟨⟨⟩,f⟩ M ⟨rfl,g,hf,l⟩
  try dsimp only
  exact r f g (by rw [g.size_eq];exact l) hf
theorem zez {A:Z1} {E:Value->y0->Prop} {P:F7->y0->Prop} {a:Addr} {vs:List Value} {kz:List Int} {f:Value} {n:Nat}
  (I:Inv X pins σ H s) (fa:FpOk X pins H a) (ea:s.heap.get? a=some (Q2 "list" vs.toArray n)) (hlen:kz.length=vs.length) (h64:vs.length < 64)
  (turn :∀(i:Nat) (v:Value) (k:Int),vs[i]? = some v->kz[i]? = some k->∀(pins':List (Addr×Obj)) (s1:y0),Inv X (pins++pins') σ H s1->R0 (Y0 X.prog X.w) A (call f [v]) (λ u s2=>∃t,u=.int k t/\Inv X (pins++pins') σ H s2) (λ _ _=>False) s1)
  (h :∀s' out c,Inv X pins σ H s'->s'.heap.get? a=some (Q2 "list" out c)->KskOut false kz vs out.toList->P (.done (.ret .none)) s') :
  R0 (Y0 X.prog X.w) A (ksk_tree a f false) P E s:=by
 have T:a < s.heap.objs.size:=G0 ea;have s1:=X2 s.heap a (L1 λ _=>(#[]:Array Value));obtain ⟨l,G⟩ :∃l,(s.heap.update a (L1 λ _=>(#[]:Array Value))).get? a=some (Q2 "list" #[] l):=⟨_,A6 ea λ _=>#[]⟩
 have D:((s.heap.update a (L1 λ _=>(#[]:Array Value))).push (Q2 "tuple" vs.toArray 0)).objs.size=s.heap.objs.size + 1:=by rw [size_push',Heap.size_update]
 unfold ksk_tree;refine v0 (listItems_at ea rfl ?_);refine v0 (c6 ea rfl ?_ (by rw [N0,P5];omega) (P1 _));refine v0 (p9 G rfl ?_);refine v0 (wpAny_newTuple ?_ (by show vs.length<=_;rw [P5];omega));refine v0 (o8 ?_ (P1 _));refine G2 ?_;have p:(((s.heap.update a (L1 λ _=>(#[]:Array Value))).push (Q2 "tuple" vs.toArray 0)).push (Q2 "list" #[] 0)).get? ((s.heap.update a (L1 λ _=>(#[]:Array Value))).push (Q2 "tuple" vs.toArray 0)).objs.size=some (Q2 "list" #[] 0):=I0 _ rfl;have F:(((s.heap.update a (L1 λ _=>(#[]:Array Value))).push (Q2 "tuple" vs.toArray 0)).push (Q2 "list" #[] 0)).get? a=some (Q2 "list" #[] l):=x0 _ (x0 _ G);have J:Inv X pins σ H { s with heap:=((s.heap.update a (L1 λ _=>(#[]:Array Value))).push (Q2 "tuple" vs.toArray 0)).push (Q2 "list" #[] 0),toks:=s.toks }:=I.turnedL (fp:=[a]) (λ b o d q=>x0 _ (x0 _ ((s1.2 b λ z=>d (z ▸ .head _)).trans q))) (λ b d=>by rw [List.mem_singleton.mp d];exact fa);have m:FpOk X pins H ((s.heap.update a (L1 λ _=>(#[]:Array Value))).push (Q2 "tuple" vs.toArray 0)).objs.size:=I.fpOk (by rw [D];omega) (I.hok.fresh (by rw [D];omega));have y:((s.heap.update a (L1 λ _=>(#[]:Array Value))).push (Q2 "tuple" vs.toArray 0)).objs.size≠a:=by rw [D];exact A2 (i1 T)
 generalize ((s.heap.update a (L1 λ _=>(#[]:Array Value))).push (Q2 "tuple" vs.toArray 0)).objs.size=kS at p m y⊢;generalize ((s.heap.update a (L1 λ _=>(#[]:Array Value))).push (Q2 "tuple" vs.toArray 0)).push (Q2 "list" #[] 0)=h3 at p F J⊢;unfold ksk_rest;refine v0 (B8 ?_);first
  | rw [List.forIn_toArray]
  | (rw [<-Array.forIn_toList];simp only [List.toList_toArray])
  | rw [<-Array.forIn_toList]
 refine v0 (ksk_fold (λ i s'=>∃kA e,Inv X pins σ H s'/\s'.heap.get? kS=some (Q2 "list" kA e)/\s'.heap.get? a=some (Q2 "list" #[] l)/\N3 kA.toList (kz.take i)) vs 0 _
  ⟨#[],0,J,p,F,by simpa using IntsAre.nil⟩ ?step ?done)
 case step=>
  rintro j x s' M ⟨kA,e,J',ek,ea',hk⟩;simp only [M5] at hk⊢;have hj:j < vs.length:=(List.getElem?_eq_some_iff.mp M).1;obtain ⟨k,L⟩ :∃k,kz[j]? = some k:=⟨_,J0 (by omega)⟩
  have hz:kA.size<=vs.length:=by have S:=hk.length;rw [W0,i3] at S;omega
  have Jp:=J'.pinned (fp:=[kS,a]) (λ b d=>by
   rcases List.mem_cons.mp d with rfl|d
   ·exact m
   ·rw [List.mem_singleton.mp d];exact fa) (λ b d=>by
   rcases List.mem_cons.mp d with rfl|d
   ·exact ⟨_,ek,λ v z=>by cases z⟩
   ·rw [List.mem_singleton.mp d];exact ⟨_,ea',λ v z=>by cases z⟩)
  refine v0 (wpAny_attempt (L3 (turn j x k M L _ s' Jp) (λ v C U=>?_) λ _ _ W=>W.elim));obtain ⟨g,rfl,r⟩:=U
  try dsimp only
  have K:=r.pin (kS,Q2 "list" kA e) (P0 _ (P0 _ (z10 (.head _) ek)));have pa:=r.pin (a,Q2 "list" #[] l) (P0 _ (P0 _ (z10 (.tail _ (.head _)) ea')));have Z:=r.unpinned;have s1:=X2 C.heap kS (L1 (·.push (.int k g)));obtain ⟨B,Q⟩ :∃B,(C.heap.update kS (L1 (·.push (.int k g)))).get? kS=some (Q2 "list" (kA.push (.int k g)) B):=⟨_,A6 K.1 (·.push (.int k g))⟩
  have N:kz.take (j + 1)=kz.take j++[k]:=by rw [List.take_add_one,L];simp
  have R:(kA.push (R5 k g)).toList=kA.toList++[R5 k g]:=by simp
  refine v0 (c6 K.1 rfl ?_ (by rw [P5];omega) (F0 (j7 (Array.size_push ..)) (by rw [P5];omega)));refine D0 ⟨rfl,kA.push (.int k g),B,Z.turnedL (fp:=[kS]) (t':=C.toks) (λ b o d q=>(s1.2 b λ z=>d (z ▸ .head _)).trans q) (λ b d=>by rw [List.mem_singleton.mp d];exact m),Q,(s1.2 a y.symm).trans pa.1,by rw [R,N];exact ksk_snoc hk⟩
 case done=>
  rintro s' ⟨kA,e,J',ek,ea',hk⟩;have a0:N3 kA.toList kz:=by have e3:kz.take (0 + vs.length)=kz:=S6 (by omega);rw [e3] at hk;exact hk
  try dsimp only
  refine v0 (listItems_at ek rfl ?_);exact zfl J' fa m y ek ea' a0 hlen h64 λ h' tk out c V Y O=>h _ out c V Y O
theorem z6o {l q:Addr} {ys:List V} {kz:List Int} {Q:Value->y0->Prop} {E:Value->y0->Prop} (I:Inv X pins σ H s) (sq:SqL X.K H l ys) (hlen:kz.length=ys.length) (h64:ys.length < 64)
  (turn :∀(i:Nat) (y:V) (u:Value) (k:Int),ys[i]? = some y->kz[i]? = some k->RelV y u->∀(pins':List (Addr×Obj)) (s1:y0),Inv X (pins++pins') σ H s1->R0 (Y0 X.prog X.w) X.A.in1.in1 (call (.ref q) [u]) (λ v s2=>∃t,v=.int k t/\Inv X (pins++pins') σ H s2) (λ _ _=>False) s1)
  (h :∀(D:Addr) (out:List V) (s':y0),H D=none->KeyOut kz ys out->Inv X pins σ (upd H D (.lst out)) s'->Q (.ref D) s') :
  R0 (Y0 X.prog X.w) X.A (call (.builtin "sorted") [.ref l] [(T3 "key",.ref q)]) Q E s:=by
 obtain ⟨d,f,O,C⟩:=I.list sq;have B:d.length=ys.length:=f.length.symm;refine call_function_entry_kw kind_sorted plain_sorted entry_sorted (ksk_s1 _ _) ?_;unfold X6.«sorted»;obtain ⟨o,N,R,n,hd⟩:=O.isList;refine v0 (m:=checkCount "sorted" 1 1 _) (D0 (v0 (wpAny_collect_seq l (.inl rfl) N R hd (λ a T=>?_) (by rw [N0,B];exact C))));have r:(a.push (Q2 "list" d.toArray 0)).get? a.objs.size=some (Q2 "list" d.toArray 0):=I0 _ rfl;have g:Inv X pins σ H { s with heap:=a }:=I.kept (t':=s.toks) T;have U:Inv X pins σ H { s with heap:=a.push (Q2 "list" d.toArray 0) }:=g.kept (t':=s.toks) λ b o e=>x0 _ e;have j:FpOk X pins H a.objs.size:=g.fpOk (A0 _) (g.hok.fresh (A0 _));refine v0 (o8 (v0 (G2 (wpAny_call_entry_kw slot_list_sort ⟨_,r,rfl⟩ entry_list_sort ?body (ksk_l1 _ _)))) (by show d.length<=_;rw [B];exact C))
 case body=>
  show R0 (Y0 X.prog X.w) X.A.in1.in1 (X6.«list.sort» ⟨[.ref a.objs.size],[(T3 "key",.ref q)]⟩) _ _ _;rw [ksk_t1];refine zez (kz:=kz) U j r (by omega) (by omega) (λ i v k z S pins' s1 J=>?_) λ s' out c J e M=>⟨_,rfl,?_⟩
  ·have x:i < ys.length:=by have:=(List.getElem?_eq_some_iff.mp z).1;omega
   obtain ⟨u,p,P⟩:=f.get (J0 x);rw [z] at p;cases p;exact turn i _ v k (J0 x) S P pins' s1 J
  obtain ⟨L,G,F,W⟩:=zg2 f hlen M;exact D0 ⟨_,rfl,h _ L s' j.1 F (J.track j ⟨by omega,out.toList,c,G,by simpa using e⟩)⟩
noncomputable def tSortD (K:c0) (sp:Sp) (ta:TA):TE:=λ σ H Q=>ta σ H λ vs H1=>∃(l:Addr) (ys:List V) (kz:List Int),vs=[.ref l]/\SqL K H1 l ys/\kz.length=ys.length/\ys.length < 64/\(∀(i:Nat) (y:V) (k:Int),ys[i]? = some y->kz[i]? = some k->sp [y] H1 (λ v H2=>v=.int k/\H2=H1) E0)/\∀D out,H1 D=none->KeyOut kz ys out->Q (.ref D) (upd H1 D (.lst out))
theorem zbw {e:Expr} {ta:TA} {p pos fp kp:Pos} {fx:Str} {ps:List Str} {k:Nat} {sp:Sp} (c:Cal X.prog X.w X.K X.mg X.base fx ps k sp) (hr:Room (k + 2) X.A) (hg:Gl X "sorted") (hm:X.mg "sorted" = none) (hgf:Gl X fx) (ha:PA X [e] ta) (hdb:(fx == ("__debug__" : Str))=false:=by decide)
  (he:G4 pos (G1 [e] X.env)=(false,W3 e X.env) :: G4 pos (G1 [] X.env):=by rfl) (hpl:(G4 pos (G1 [e] X.env)).any (·.1)=false:=by rfl) :
  PE X (.Call (.Name "sorted" p) [e] [⟨some "key",.Name fx fp,kp⟩] pos) (tSortD X.K sp ta):=by
 obtain ⟨f,S,F,P,b,n⟩:=c.ex;intro N s σ H Q I h;refine E3 (ld_blt I hg hm boot_sorted (callWith_kw (thn (ha pos N s σ H _ I h) λ W U ⟨vs,H1,I1,r,q⟩=>kws_cons (zb6 I1 hgf P (kws_nil ?_) hdb)) he hpl));obtain ⟨l,T,V,rfl,L,G,C,j,q⟩:=q;obtain ⟨u,rfl,R⟩:=vals1 r;cases R;refine z6o I1 L G C (λ i y u k d b M Y g J=>?_) λ D x O o z J=>⟨.ref D,_,J,rfl,q D x o z⟩
 have B:[u].length=ps.length:=(by have:=F.len _ _ _ _ (j i y k d b);simpa using this)
 refine C8 (F4 (F.run X.A.in1.in1 X.stack g H1 ⟨[u],[]⟩ [u] [y] _ E0 hr.in1.in1 J.env0.in1.in1 (by have:=n g [u] J.kIn (by simpa using B);simpa using this) (.cons M .nil) (j i y k d b)) λ r O a=>?_);cases r with
 | error e=>exact a.elim
 | ok fl=>
  cases fl with
  | ret u=>obtain ⟨v,Z,m,E,rfl,rfl⟩:=J.after a;obtain ⟨t,rfl⟩:=E;exact ⟨t,rfl,m⟩
  | next=>exact X3 a
  | brk=>exact X3 a
  | cont=>exact X3 a
end
theorem zfx {P:Program} {w:O0} {K:c0} {mg:Str->Option Value} {base:Heap} {k:Nat} {f c':Addr} {name qual:Str} {params:Arguments} {body:Expr} {scope:Scope} {pm ctv:Value} {N ps:List Str} {A:Z1} {outer:List Env} {s:y0} {H:Hp} {us:List Value} {vs:List V} {Q:VK} {t:TE}
  (hr:Room (k + 1) A) (e0:Env0 P w K mg base A outer s H) (ho:s.heap.get? f=some (c5 name qual params body scope [] pm c' ctv)) (hcd:s.heap.CodeRec (.ref c') qual) (S:FnScope N ps scope)
  (hb:bindArgs (PySem.W.kla_fn name qual params body scope [] pm (.ref c') ctv) ⟨us,[]⟩=S3 (ps.zip us)) (hl:vs.length=ps.length) (r:Vals vs us)
  (ht:PE (cxOf CX0 P w K mg base N qual scope f (.ref c') A outer s H E0).nox body t) (hq:t (start N vs) H Q) :
  C5 (Y0 P w) A (.call (.ref f) ⟨us,[]⟩) (λ r s'=>∃u,r=.ok (.ret u)/\CE outer P w H s Q u s') s:=by
 have h:s.heap.NoLimit:=e0.mod.nolimit.keeps λ b o e=>(e0.bs b o e).1;have g :∀y∈ps.zip us,scope.names.lookup y.1=some .local\/(scope.names.lookup y.1=some .cell/\((cellsFrom (s.heap.objs.size + 1) scope.names []).lookup y.1).isSome=true):=λ ⟨n,v⟩ hy=>by
  rcases S.par n (Z5 hy).1 with q|q
  ·exact .inl q
  ·exact .inr ⟨q,L6 _ _ _ (.inl q)⟩
 refine PySem.W.kla_callFunE hr.depth ho rfl S.co S.gen rfl hcd ?_;rw [hb];refine D0 (O9 S.kind g λ l d c x=>?_);subst d;refine ⟨h.keeps x.toInCall.keep,PySem.W.kla_codeExpr ?_⟩;have I:Inv (cxOf CX0 P w K mg base N qual scope f (.ref c') A outer s H E0) [] (start N vs) H c:=z7y S hr.hd e0 hl r x;refine L3 (ht [] c (start N vs) H _ (I.wish _) hq) (λ u s' a=>?_) λ e s' a=>a.elim;obtain ⟨v,j,J,i,q⟩:=a;exact ⟨u,rfl,v,j,J.os,J.bare,J.base,J.hok,i,q⟩
def CodeK (K:c0) (c T:Addr):Prop:=
 ∃o vs file tf flags tg inF text tt,K.lookup c=some o/\o.cls=.type "code"/\o.data=.fields vs/\vs[11]? = some (.ref T)/\vs.getD 11 .none=.ref T/\vs.getD 18 .none=.str file tf/\
  vs.getD 7 .none=.int flags tg/\vs.getD 9 .none=.bool inF/\vs.getD 10 .none=.int text tt/\c≠T
theorem CodeK.hd {K:c0} {c T:Addr} {h:Heap} (x:CodeK K c T) (k:K.In h):f7 h c T:=
 let ⟨o,vs,file,tf,flags,tg,inF,text,tt,e,r⟩:=x;⟨o,vs,file,tf,flags,tg,inF,text,tt,k _ _ e,r⟩
noncomputable def CodeO (c:Addr) (qual:Str):HO:=.ext λ h=>h.CodeRec (.ref c) qual
def LamT (T:Addr) (pos:Pos) (qual:Str) (H:Hp):Prop:=H T=some (.tbl #[])\/∃c',H T=some (.tbl #[S4 pos.line,S4 pos.col,.ref c'])/\H c'=some (CodeO c' qual)
def SameB (T:Addr) (H H':Hp):Prop:=∀b o,b≠T->H b=some o->H' b=some o
def BtMain (h:Heap) (mg:Str->Option Value):Prop:=∃bm o,mg "__builtins__" = some (.ref bm)/\bm≠E8/\bm≠U1/\h.get? bm=some o/\o.cls=.type "module"/\o.dict=some E8/\o.data=.plain
section
variable {X:Cx} {pins:List (Addr×Obj)} {σ:St} {H:Hp} {s:y0} {T:Addr} {lpos:Pos} {params:Arguments} {body:Expr} {scope:Scope}
theorem zer {P:Program} {w:O0} {H:Hp} {h:Heap} {c:Addr} {qual:Str} (x:h.CodeRec (.ref c) qual):ObjOk P w H h c (CodeO c qual):=by
 refine ⟨x,?_,λ g i y k=>?_⟩
 ·obtain ⟨f,d,b,t,e,a,_⟩:=x;cases e;exact ⟨_,a⟩
 ·obtain ⟨f,d,b,t,e,a,r⟩:=y;cases e;exact ⟨c,d,b,t,rfl,k _ a,r⟩
theorem zfc {c:Addr} {Q:Value->y0->Prop} {E:Value->y0->Prop} (I:Inv X pins σ H s) (B:BtMain X.base X.mg) (hcode:X.env.code=.ref c) (C:f7 X.base c T) (hT:LamT T lpos (X.env.qual++"<lambda>") H)
  (hcl:R9 scope X.env=S3 []) (hdef:defaultsOf params X.env=([],[]))
  (h :∀f c' ctv pm H' s',SameB T H H'->LamT T lpos (X.env.qual++"<lambda>") H'->Inv X pins σ H' s'->FpOk X pins H' f->s'.heap.get? f=some (c5 "<lambda>" (X.env.qual++"<lambda>") params body scope [] pm c' ctv)->H' c'=some (CodeO c' (X.env.qual++"<lambda>"))->Q (.ref f) s') :
  R0 (Y0 X.prog X.w) X.A (W3 (.Lambda params body scope lpos) X.env) Q E s:=by
 have x:s.heap.Ns U1 X.mg:=by obtain ⟨o,y,O,e,r⟩:=I.ok.mod.glob;exact ⟨o,y,O,I.bk _ _ e,r⟩
 have L:f7 s.heap c T:=C.keeps I.bk;have p :∀{a:Array Value},H T=some (.tbl a)->s.heap.get? T=some (c7 a):=λ e=>I.hok T _ e;have N :∀{b:Addr} {o:Obj} {a:Array Value},X.base.get? b=some o->H T=some (.tbl a)->b≠T:=λ {b o a} e z q=>by have:=(I.bs b o e).2;rw [q,z] at this;cases this
 have P :∀{a:Array Value},H T=some (.tbl a)->s.heap.BuiltinsAt X.mg T:=λ z=>by obtain ⟨S,o,U,b2,b3,M,Y⟩:=B;exact ⟨S,o,U,b2,b3,N M z,I.bk _ _ M,Y⟩
 have gT :∀{a:Array Value},H T=some (.tbl a)->U1≠T:=λ z=>by obtain ⟨o,y,O,e,r⟩:=I.ok.mod.glob;exact N e z
 refine PySem.W.kla_eval hdef ?_;rcases hT with z|⟨c',z,zc⟩
 ·refine PySem.W.kla_makeFunction hcl I.ok.glob x hcode L (p z) trivial rfl (gT z) (P z) λ c' ctv h' l hx j G a0 Z=>?_;have cn:H c'=none:=I.hok.fresh j;have K:T < s.heap.objs.size:=G0 (p z);have R:c'≠T:=λ q=>Y2 _ (V0 (q ▸ K) j);have k :∀b o,b≠T->s.heap.get? b=some o->(h'.push (c5 "<lambda>" (X.env.qual++"<lambda>") params body scope [] ((X.mg "__name__").getD .none) c' ctv)).get? b=some o:=λ b o n e=>x0 _ (hx b o n e);have F:upd (upd H T (.tbl #[S4 lpos.line,S4 lpos.col,.ref c'])) c' (CodeO c' (X.env.qual++"<lambda>")) T=some (.tbl #[S4 lpos.line,S4 lpos.col,.ref c']):=by rw [upd_ne R.symm];exact z01
  have d :∀b u,b≠T->H b=some u->upd (upd H T (.tbl #[S4 lpos.line,S4 lpos.col,.ref c'])) c' (CodeO c' (X.env.qual++"<lambda>")) b=some u:=λ b u n e=>by rw [upd_ne (z0g e cn),upd_ne n];exact e
  have m :∀{b:Addr},H b=none->b≠T:=λ e q=>by rw [q,z] at e;cases e
  have i :∀{b:Addr} {u:HO},H b=some u->(∀a,u≠.tbl a)->b≠T:=λ e n q=>by rw [q,z] at e;exact n _ (D1 e).symm
  have D:(h'.push (c5 "<lambda>" (X.env.qual++"<lambda>") params body scope [] ((X.mg "__name__").getD .none) c' ctv)).get? T=some { cls:=.none,data:=.fields #[S4 lpos.line,S4 lpos.col,.ref c'] }:=x0 _ Z;have g:s.heap.objs.size<=h'.objs.size:=F0 j (i7 G);have J:=I.un (h':=h'.push (c5 "<lambda>" (X.env.qual++"<lambda>") params body scope [] ((X.mg "__name__").getD .none) c' ctv)) (t':=l) (H':=upd (upd H T (.tbl #[S4 lpos.line,S4 lpos.col,.ref c'])) c' (CodeO c' (X.env.qual++"<lambda>"))) ⟨λ b o e n _ _=>k b o (m n) e,λ b o e n _ _=>⟨o.slots,k b o (m n) e⟩,λ b o e n _=>by
    rw [upd_ne (show b≠c' from Q0 (V0 (G0 e) j)),upd_ne (m n)];exact n,λ b o e _=>by
    by_cases q:b=T
    ·exact ⟨_,q ▸ D⟩
    ·exact ⟨_,k b o q e⟩,λ b xs e=>d _ _ (i e λ _ q=>by cases q) e,λ b o u e=>d _ _ (i e λ _ q=>by cases q) e,λ b a e=>by
    by_cases q:b=T
    ·subst q;rw [z] at e;cases e;exact ⟨#[S4 lpos.line,S4 lpos.col,.ref c'],by rw [F];simp⟩
    ·exact ⟨#[],by rw [d _ _ q e];simp⟩⟩ λ b u e=>by
    by_cases q1:b=c'
    ·subst q1;rw [z01] at e;cases e;refine zer ?_;obtain ⟨c2,oc,V,t,e2,ho,r⟩:=a0;exact ⟨c2,oc,V,t,e2,x0 _ ho,r⟩
    ·rw [upd_ne q1] at e;by_cases q2:b=T
     ·subst q2;rw [z01] at e;cases e;exact D
     ·rw [upd_ne q2] at e;exact (I.hok b u e).stay (λ c v hc q=>k c v (hc.elim (λ w=>w ▸ q2) λ w=>i w λ _ q=>by cases q) q) (λ c q=>d _ _ (i q λ _ q=>by cases q) q) λ c xs q=>d _ _ (i q λ _ q=>by cases q) q
  refine h h'.objs.size c' ctv _ _ _ (λ b o n e=>d b o n e) (.inr ⟨c',F,z01⟩) J (I.fpOk g ?_) (I0 _ rfl) z01;rw [upd_ne (A2 G),upd_ne (A2 (V0 K g))];exact I.hok.fresh g
 ·refine PySem.W.kla_makeFunctionHit (cv:=.ref c') hcl I.ok.glob x hcode L (p z) trivial (by simp [codeAmong,S4]) (P z) λ ctv h' l hk g=>?_;have J:=I.kept (h':=h'.push (c5 "<lambda>" (X.env.qual++"<lambda>") params body scope [] ((X.mg "__name__").getD .none) c' ctv)) (t':=l) λ b o e=>x0 _ (hk b o e);exact h h'.objs.size c' ctv _ _ _ (λ b o n e=>e) (.inr ⟨c',z,zc⟩) J (I.fpOk g (I.hok.fresh g)) (I0 _ rfl) zc
noncomputable def tSortL (K:c0) (T:Addr) (lpos:Pos) (qual:Str) (N:List Str) (tb:TE) (ta:TA):TE:=λ σ H Q=>ta σ H λ vs H1=>∃(l:Addr) (ys:List V) (kz:List Int),vs=[.ref l]/\SqL K H1 l ys/\kz.length=ys.length/\ys.length < 64/\LamT T lpos qual H1/\
 ∀H2,SameB T H1 H2->LamT T lpos qual H2->(∀(i:Nat) (y:V) (k:Int),ys[i]? = some y->kz[i]? = some k->tb (start N [y]) H2 λ v H3=>v=.int k/\H3=H2)/\∀D out,H2 D=none->KeyOut kz ys out->Q (.ref D) (upd H2 D (.lst out))
theorem SameB.seqL {K:c0} {H H':Hp} {a:Addr} {xs:List V} (s:SameB T H H') (hT :∃ps,H T=some (.tbl ps)) (h:SqL K H a xs):SqL K H' a xs:=by
 obtain ⟨ps,z⟩:=hT;rcases h with e|e
 ·refine .inl ?_;rcases e with e|⟨o,e⟩
  ·exact .inl (s _ _ (λ q=>by rw [q,z] at e;cases e) e)
  ·exact .inr ⟨o,s _ _ (λ q=>by rw [q,z] at e;cases e) e⟩
 ·exact .inr e
theorem LamT.tb {qual:Str} (h:LamT T lpos qual H) :∃ps,H T=some (.tbl ps):=by
 rcases h with z|⟨_,z,_⟩
 ·exact ⟨_,z⟩
 ·exact ⟨_,z⟩
theorem zb4 {e:Expr} {ta:TA} {p pos kp:Pos} {c:Addr} {k:Nat} {N:List Str} {px:Str} {tb:TE} (B:BtMain X.base X.mg) (hcode:X.env.code=.ref c) (C:CodeK X.K c T) (hr:Room (k + 3) X.A) (hg:Gl X "sorted") (hm:X.mg "sorted" = none) (ha:PA X [e] ta)
  (S:FnScope N [px] scope)
  (hbind :∀(pm ctv:Value) (c':Addr) (u:Value),bindArgs (PySem.W.kla_fn "<lambda>" (X.env.qual++"<lambda>") params body scope [] pm (.ref c') ctv) ⟨[u],[]⟩=S3 [(px,u)])
  (hbody :∀(f c':Addr) (s:y0) (H:Hp),PE (cxOf CX0 X.prog X.w X.K X.mg X.base N (X.env.qual++"<lambda>") scope f (.ref c') X.A.in1.in1 X.stack s H E0).nox body tb)
  (hcl:R9 scope X.env=S3 []:=by rfl) (hdef:defaultsOf params X.env=([],[]):=by rfl)
  (he:G4 pos (G1 [e] X.env)=(false,W3 e X.env) :: G4 pos (G1 [] X.env):=by rfl) (hpl:(G4 pos (G1 [e] X.env)).any (·.1)=false:=by rfl) :
  PE X (.Call (.Name "sorted" p) [e] [⟨some "key",.Lambda params body scope lpos,kp⟩] pos) (tSortL X.K T lpos (X.env.qual++"<lambda>") N tb ta):=by
 intro a1 s σ H Q I h;refine E3 (ld_blt I hg hm boot_sorted (callWith_kw (thn (ha pos a1 s σ H _ I h) λ us s1 ⟨vs,H1,I1,r,q⟩=>?_) he hpl));obtain ⟨l,ys,kz,rfl,Z,V,O,g,q⟩:=q;obtain ⟨u,rfl,rx⟩:=vals1 r;cases rx;refine kws_cons (zfc I1 B hcode (C.hd I1.ok.mod.kin) g hcl hdef λ f c' ctv pm m s2 sb a2 I2 ff j x=>kws_nil ?_);obtain ⟨qb,L⟩:=q m sb a2;have a0:=sb.seqL g.tb Z;have P:=I2.pinned (fp:=[f]) (λ b a=>by rw [List.mem_singleton.mp a];exact ff) (λ b a=>by rw [List.mem_singleton.mp a];exact ⟨_,j,λ v z=>by cases z⟩);refine z6o P a0 V O (λ i y u k Y hk ru a3 n J=>?_) λ D G s' F M J=>⟨.ref D,_,J.unpinned,rfl,L D G F M⟩
 have U:=J.pin (f,_) (P0 _ (Q4 _ (P0 _ (z10 (.head _) j))));have E:n.heap.CodeRec (.ref c') (X.env.qual++"<lambda>"):=(J.hok c' _ x).1;refine C8 (F4 (zfx hr.in1.in1 J.env0.in1.in1 U.1 E S (by exact hbind pm ctv c' u) rfl (.cons ru .nil) (hbody f c' n m) (qb i y k Y hk)) λ r s' d=>?_);obtain ⟨u',rfl,d⟩:=d;obtain ⟨v,H',o,R,rfl,rfl⟩:=J.after d;obtain ⟨t,rfl⟩:=R;exact ⟨t,rfl,o⟩
end
theorem zcn {P:Program} {w:O0} {K:c0} {mg mb:Str->Option Value} {CX:CXT} {k:Nat} {fa a:Addr} {fd:FuncData} {x:Str} {sp:Sp} {s₁:y0} {vs:List Value} {ns:List Int} {T c:Addr}
  (KX:K.In s₁.heap) (hns:s₁.heap.Ns U1 mg) (hb:s₁.heap.Ns E8 mb) (hbb :∀x:Str,x≠"__name__"->mb x=v4 x) (hlim:s₁.heap.NoLimit) (hg:s₁.gens = #[])
  (ha:s₁.heap.get? a=some { cls:=.type "list",data:=.seq vs.toArray }) (hi:N3 vs ns) (hl:ns.length<=sizeLine) (hr:Room k U8) (hT:s₁.heap.get? T=some (c7 #[])) (hKT:K.lookup T=none) (C:f7 s₁.heap c T) (hbm:BtMain s₁.heap mg)
  (F :∀base:Heap,K.In base->base.Ns U1 mg->BtMain base mg->FnOk P w K mg base CX k fa fd [x] sp) (hbind :∀(s:y0) (u:Value),BindsTo s fd ⟨[u],[]⟩ [(x,u)])
  (hsp :∀H:Hp,H T=some (.tbl #[])->SqL K H a (ns.map V.int)->sp [.ref a] H (λ v _=>v=.bl true) λ _ _ _=>False)
  (hCX :∀H e s',CX [] H s₁ (λ _ _ _=>False) e s'->False) :
  C5 (Y0 P w) U8 (.call (.ref fa) ⟨[.ref a],[]⟩) (λ r s'=>r=.ok (.ret (.bool true))/\OldK s₁.heap s'.heap/\s'.os=s₁.os/\Y6 s'.gens) s₁:=by
 have I:=z85 hi;have a1:=hi.length;have aT:a≠T:=λ q=>by rw [q,hT] at ha;cases ha
 have G :∀H:Hp,H T=some (.tbl #[])->SqL K H a (ns.map V.int)->HOk P w H s₁.heap->(∀b u,H b=some u->(b=a/\K.lookup a=none/\∃o i,u=.frz o (.lst i))\/(b=T/\u=.tbl #[]))->
   C5 (Y0 P w) U8 (.call (.ref fa) ⟨[.ref a],[]⟩) (λ r s'=>r=.ok (.ret (.bool true))/\OldK s₁.heap s'.heap/\s'.os=s₁.os/\Y6 s'.gens) s₁:=by
  intro H hO S A y;have t :∀{b:Addr} {o:Obj},s₁.heap.get? b=some o->H b=none->(hidT s₁.heap H).get? b=some o:=λ e n=>zf6 e n;have B :∀{b:Addr} {o:Obj},s₁.heap.get? b=some o->(∀i n,o.data≠.seq i n)->(∀vs,o.data≠.fields vs)->H b=none:=λ {b o} e d1 d2=>by
   cases q:H b with
   | none=>rfl
   | some u=>
    rcases y b u q with ⟨z,_⟩|⟨z,_⟩
    ·subst z;rw [ha] at e;cases e;exact absurd rfl (d1 _ _)
    ·subst z;rw [hT] at e;cases e;exact absurd rfl (d2 _)
  have g :∀{b:Addr} {m:Str->Option Value},s₁.heap.Ns b m->(hidT s₁.heap H).Ns b m:=λ {b m} ⟨o,es,ep,e,d,r⟩=>⟨o,es,ep,t e (B e (λ _ _ z=>by rw [d] at z;cases z) λ _ z=>by rw [d] at z;cases z),d,r⟩
  have D:K.In (hidT s₁.heap H):=λ b o e=>t (KX b o e) (by
   cases q:H b with
   | none=>rfl
   | some u=>
    rcases y b u q with ⟨z,W,_⟩|⟨z,_⟩
    ·rw [z,W] at e;cases e
    ·rw [z,hKT] at e;cases e)
  have Y:BtMain (hidT s₁.heap H) mg:=by obtain ⟨Q,o,R,Z,b3,L,U,X,j⟩:=hbm;exact ⟨Q,o,R,Z,b3,t L (B L (λ _ _ z=>by rw [j] at z;cases z) λ _ z=>by rw [j] at z;cases z),U,X,j⟩
  have N:Mod K mg (hidT s₁.heap H):=⟨D,g hns,⟨mb,g hb,hbb⟩,let ⟨mc,h1,h2⟩:=hlim;⟨mc,g h1,h2⟩⟩
  have e0:Env0 P w K mg (hidT s₁.heap H) U8 [] s₁ H:=⟨rfl,N,λ b o e=>zgb e,j7 (zdr _ _),trivial,λ b hb=>absurd (show b∈([]:List Addr) from hb) (by simp),A,.of_eq hg⟩
  refine F4 ((F _ D (g hns) Y).run U8 [] s₁ H ⟨[.ref a],[]⟩ [.ref a] [.ref a] _ _ hr e0 (hbind s₁ (.ref a)) (.cons rfl .nil) (hsp H hO S)) λ r s' h=>?_;cases r with
  | error e=>exact (hCX H e s' h).elim
  | ok fl=>
   cases fl with
   | next=>exact X3 h
   | brk=>exact X3 h
   | cont=>exact X3 h
   | ret u=>
    obtain ⟨v,H',os,a0,un,J,r',q⟩:=h;have q':v=.bl true:=q;subst q';obtain rfl:u=W8 true:=r';refine ⟨rfl,⟨λ b o e=>?_,λ b o e=>un.there b o e (by simp)⟩,os,a0⟩;cases q:H b with
    | none=>exact .inl (un.keep b o e q (by intro z;exact absurd (show b∈([]:List Addr) from z) (by simp)) (by simp))
    | some u=>
     rcases y b u q with ⟨_,_,O,i,rfl⟩|⟨rfl,rfl⟩
     ·have l:=un.frzs b O _ q;obtain ⟨M,_⟩:=A b _ q;obtain ⟨p,_⟩:=J b _ l;rw [e] at M;cases M;exact .inl p
     ·obtain ⟨E,l⟩:=un.tbls b _ q;have p:s'.heap.get? b=some { cls:=.none,data:=.fields (#[]++E) }:=J b _ l;rw [hT] at e;cases e;exact .inr (.inl ⟨(C.tab hT).isCodeTable,rfl,#[],E,rfl,p⟩)
 cases hk:K.lookup a with
 | some o=>
  have e:=KX a o hk;rw [ha] at e;cases e;refine G (λ b=>if b=T then some (.tbl #[]) else none) (if_pos rfl) (.inr ⟨_,vs.toArray,_,hk,rfl,rfl,rfl,by rw [N0,a1];exact hl,by simpa using I⟩) (λ b u z=>?_) (λ b u z=>?_)
  ·by_cases hb:b=T
   ·have f:=(if_pos hb).symm.trans z;cases f;subst hb;exact hT
   ·have f:=(if_neg hb).symm.trans z;cases f
  ·by_cases hb:b=T
   ·have f:=(if_pos hb).symm.trans z;cases f;exact .inr ⟨hb,rfl⟩
   ·have f:=(if_neg hb).symm.trans z;cases f
 | none=>
  refine G (λ b=>if b=T then some (.tbl #[]) else if b=a then some (.frz { cls:=.type "list",data:=.seq vs.toArray } (.lst (ns.map V.int))) else none) (if_pos rfl) (.inl (.inr ⟨{ cls:=.type "list",data:=.seq vs.toArray },(if_neg aT).trans (if_pos rfl)⟩)) (λ b u z=>?_) (λ b u z=>?_)
  ·by_cases hb:b=T
   ·have f:=(if_pos hb).symm.trans z;cases f;subst hb;exact hT
   ·by_cases hc:b=a
    ·have f:=((if_neg hb).trans (if_pos hc)).symm.trans z;cases f;subst hc;exact ⟨ha,by rw [C0];exact hl,vs,_,I,ha⟩
    ·have f:=((if_neg hb).trans (if_neg hc)).symm.trans z;cases f
  ·by_cases hb:b=T
   ·have f:=(if_pos hb).symm.trans z;cases f;exact .inr ⟨hb,rfl⟩
   ·by_cases hc:b=a
    ·have f:=((if_neg hb).trans (if_pos hc)).symm.trans z;cases f;exact .inl ⟨hc,hk,_,_,rfl⟩
    ·have f:=((if_neg hb).trans (if_neg hc)).symm.trans z;cases f
theorem walk_ofT {l:PySem.W.OpenLaw} {n k:Nat} {q:Program} {loose:List Str} {XP:(Str->Option Value)->Heap->Prop} {YP:O0->Heap->Prop} {d:DefRec} {K:S0->c0} {CX:O0->CXT} {sp:O0->Sp} {x:Str} {T c:Addr}
  (hn:l.most=some n) (hn2:n<=sizeLine) (hdf:d.params.defaults=[]) (hr:Room k U8)
  (hY :∀(w:O0) (h:Heap),YP w h->(K w.params).In h/\h.get? T=some (c7 #[])) (hKT :∀P,(K P).lookup T=none) (hC :∀P,CodeK (K P) c T)
  (F :∀(w:O0) (mg:Str->Option Value) (fa:Addr) (h:Heap),(K w.params).In h->h.Ns U1 mg->mg d.name=some (.ref fa)->
   ∃fd:FuncData,(∀(s:y0) (u:Value),BindsTo s fd ⟨[u],[]⟩ [(x,u)])/\
    ∀base:Heap,(K w.params).In base->base.Ns U1 mg->BtMain base mg->FnOk l.prog w (K w.params) mg base (CX w) k fa fd [x] (sp w))
  (hsp :∀(w:O0) (H:Hp) (a:Addr) (ns:List Int),ns.length<=n->H T=some (.tbl #[])->SqL (K w.params) H a (ns.map V.int)->sp w [.ref a] H (λ v _=>v=.bl true) λ _ _ _=>False)
  (hCX :∀(w:O0) (H:Hp) (s:y0) (e:Value) (s':y0),CX w [] H s (λ _ _ _=>False) e s'->False) :
  PySem.W.WalkO q loose XP YP l.row.toRowW d [] (λ f vs=>PySem.call f vs):=by
 refine Att.attach_call hn hdf λ w X r mg Z fa o pm cd a0 a vs ns G Y U hd R M N E p L=>?_;obtain ⟨KX,D⟩:=hY w _ Y;obtain ⟨fd,t,I⟩:=F w mg fa _ KX G.T.g M;have i:BtMain r.heap mg:=by obtain ⟨i,y,A,J,m,O,C,j⟩:=G.T.bmain;refine ⟨i,y,A,J,λ z=>?_,m,O,C,j⟩;obtain ⟨o,S,ep,e,hd,_⟩:=G.T.g;rw [z,e] at m;cases m;rw [hd] at j;cases j
 exact zcn KX G.T.g G.T.b G.T.builtins G.T.nolimit L N E (F0 p hn2) hr D (hKT _) ((hC _).hd KX) i I t (λ H Q B=>hsp w H a ns p Q B) λ H e s'=>hCX w H r e s'
theorem Fun.okC {P:Program} {w:O0} {K:c0} {mg:Str->Option Value} {base:Heap} {x qual:Str} {st:Stmt} {f c:Addr} {fd:FuncData} {N ps:List Str} {k:Nat} {sp:Sp} (F:Fun K x qual st f fd) (hc:fd.code=.ref c) (S:FnScope N ps (z07 st)) (len :∀vs H Q E,sp vs H Q E->vs.length=ps.length)
  (hbody :∀(A:Z1) (outer:List Env) (s:y0) (H:Hp) (vs:List V) (Q:VK) (E:XK),Room k (A.deeper (a8 qual (z07 st) s.heap.objs.size f (.ref c)))->sp vs H Q E->
   ∃t,PSs (cxOf CX0 P w K mg base N qual (z07 st) f (.ref c) A outer s H E).nox (z3p st) t/\t { nx:=λ _ H'=>Q .non H',rt:=Q } (start N vs) H):FnOk P w K mg base CX0 (k + 1) f fd ps sp:=by
 obtain ⟨p,m,kV,o,n,i,g,l,j,rfl,e,a⟩:=F.ex;obtain rfl:g=.ref c:=hc;refine fn_of e a S len λ A outer s H vs Q E d b=>?_;obtain ⟨t,h,q⟩:=hbody A outer s H vs Q E d b;exact ⟨t,h.nox,q⟩
end L2
set_option maxHeartbeats 4000000
namespace L2
open PySem PySem.Spec PyProof.Rows
noncomputable def Itk (a:Addr) (ob:Obj) (kvs:List (Key×V)):It:=
 ⟨λ i H=>H a=some (.frz ob (.dK kvs))/\i < kvs.length,λ i H x H'=>H'=H/\∃k u,kvs[i]? = some (k,u)/\x=kV k,λ i H=>H a=some (.frz ob (.dK kvs))/\kvs.length<=i⟩
theorem zdz {P:Program} {w:O0} {K:c0} {tg:Expr} {a it:Addr} {ob:Obj} {kvs:List (Key×V)} {es:Array DictEntry} {ep:Nat} (hob:ob.data=.dict es ep):Turn P w K tg (Itk a ob kvs) [it] it (λ i h=>h.IsKeyIter it a i kvs.length ep) where
 mem:=by simp
 obj:=λ i h f b g=>by
  obtain rfl:b=it:=by simpa using g
  obtain ⟨o,e,c,d⟩:=f;exact ⟨o,e,λ v z=>by rw [d] at z;cases z⟩
 keep:=λ i h l f k=>by obtain ⟨o,e,r⟩:=f;exact ⟨o,k it (by simp) o e,r⟩
 item:=by
  intro X G F n U i T s σ H E I j f D;subst G F n;obtain ⟨L,R⟩:=D;obtain ⟨Z,Q,m,B⟩:=frz_at I hob L;obtain ⟨q,p,f2,N,J,M⟩:=j it (by simp);have W:kvs[i]? = some kvs[i]:=J0 R;obtain ⟨⟨k',u⟩,Y,A,ru⟩:=z5o Q W;rw [<-m] at f;refine wpAny_pyNext_dict_item f B Y λ S l a0 C sb=>?_;have I1:Inv X T σ H { s with heap:=l }:=I.turned (t':=s.toks) (λ b o g e=>(sb.2 b g).trans e) q p N J M;obtain ⟨o,e,c,d⟩:=id C;rw [m] at C;have rk:L2.RelV (kV kvs[i].1) S:=by
   have A:kvs[i].1=k':=A;rw [A];rcases z0k a0 with ⟨i,t,O,y⟩|⟨x,t,O,y⟩
   ·rw [O,y];exact ⟨t,rfl⟩
   ·rw [O,y];exact ⟨t,rfl⟩
  exact ⟨S,rfl,go_of (s:={ s with heap:=l }) e c d (by decide) ⟨kV kvs[i].1,H,I1,rk,⟨rfl,kvs[i].1,kvs[i].2,W,rfl⟩,C,λ b g=>(j b g).1⟩⟩
 done:=by intro X G F n U i T s σ H E I j f D;subst G F n;obtain ⟨L,R⟩:=D;obtain ⟨Z,Q,m,B⟩:=frz_at I hob L;obtain ⟨q,p,f2,N,J,M⟩:=j it (by simp);rw [<-m] at f;exact wpAny_pyNext_dict_end (I.ok.hd U) f B (by rw [Z3];omega) λ l eb=>⟨rfl,I.turned (t':=s.toks) (λ b o g e=>eb b o g e) q p N J M⟩
 self:=λ _ _ _ _ _ f h=>wpAny_pyIter_keyiter f h
noncomputable def iKeys (td:TE):TI:=λ σ H R=>td σ H λ x H1=>∃a kvs,x=.ref a/\H1 a=some (.dK kvs)/\∀ob,R (Itk a ob kvs) (upd H1 a (.frz ob (.dK kvs)))
theorem zgc {X:Cx} {tg o:Expr} {to:TE} (ho:PE X o to):PI X tg o (iKeys to):=by
 intro i s σ H R I h;refine thn (ho i s σ H _ I h) λ v c ⟨x,H1,I1,r1,a,kvs,ex,ea,q⟩=>?_;subst ex;cases r1;obtain ⟨u,r,hd⟩:=isD_at I1 (.inl ⟨_,.inl ea⟩);obtain ⟨_,_,k,l,m⟩:=dk_of I1.hok ea;obtain ⟨y,g⟩:=m.dictAt;obtain ⟨f,t,ho,w,p,_⟩:=id g;have d:Inv X i σ (upd H1 a (.frz f (.dK kvs))) c:=I1.freeze ea ho;refine wpAny_pyIter_dict hd g ?_;have n:k.length=kvs.length:=l.length.symm;refine ⟨c.heap.objs.size,[c.heap.objs.size],_,_,_,rfl,d.kept (t':=c.toks) λ b o e=>x0 _ e,zdz p,⟨_,I0 _ rfl,rfl,by rw [n];rfl⟩,λ b j=>?_,q f⟩;obtain rfl:b=c.heap.objs.size:=by simpa using j
 exact d.fpOk (A0 _) (d.hok.fresh (A0 _))
end L2
set_option maxHeartbeats 0
namespace K14
open PySem PySem.W PyProof.Rows TJ L2
noncomputable abbrev PX:Program:=PySem.Challenge.pw_talejudge_k14_collisions_told
noncomputable abbrev annX:Option Value:=some (.ref 6)
noncomputable def tp (a b:Str) (t:Nat):Obj:={ cls:=.type "tuple",data:=.seq #[.str a t,.str b (t + 1)] 0 }
noncomputable def tups:List Obj:=[tp "register" "read" 394,tp "register" "write" 396,tp "counter" "read" 398,tp "counter" "add" 400,tp "queue" "put" 402,tp "queue" "take" 404,tp "set" "put" 406,tp "set" "cut" 408,tp "set" "has" 410,tp "cell" "read" 412,tp "cell" "write" 414,tp "cell" "swap" 416]
noncomputable def insAll:List Obj->Nat->BT->BT
 | [],_,t=>t
 | x :: r,n,t=>insAll r (n + 1) (t.ins n x)
noncomputable def treeD (P:S0) (oD:Obj):BT:=insAll tups 151 ((K14.pre.tree_167 P).ins 150 oD)
noncomputable def FX (w:O0) (os:T2) (oD:Obj) (tk:Nat):SharedT:=⟨treeD w.params oD,163,{},⟨[]⟩,{},tk,os⟩
noncomputable abbrev cdX:Code:=.body (behindTheImports PX) K14.pre.env_1
noncomputable abbrev qX:Pos:=⟨0,0,0,0⟩
noncomputable abbrev BX:List Frame:=[topFrame qX]
noncomputable abbrev GX {α:Type} (w:O0) (c:Nat) (x:Sem α) (s:y0) (pos:Pos) (a:α) (s':y0) (pos':Pos):Prop:=Goes PX w 11 annX cdX qX c x s pos a s' pos'
def LX (n:Nat) {α:Type} (x:Sem α) (w:O0) (pos:Pos) (s:T2->Obj->Nat->SharedT) (a:Nat->α) (s':T2->Obj->Nat->SharedT) (pos':Pos):Prop:=
 ∀(os:T2) (oD:Obj) (tk:Nat) (K:α->Sem F7) (H:Value->Sem F7) (gd:Bool->Bool) (lv:List Value->List Value),
  PySem.W.Fast.tw10295753902157049106 N6 PX w 11 annX 1 n (s os oD tk) ⟨x.wrap K H gd lv,cdX,pos,BX⟩=some (s' os oD tk,⟨K (a tk),cdX,pos',BX⟩)
theorem LX.goes {n:Nat} {α:Type} {x:Sem α} {w:O0} {pos pos':Pos} {s s':T2->Obj->Nat->SharedT} {a:Nat->α} (h:LX n x w pos s a s' pos') (os:T2) (oD:Obj) (tk:Nat):GX w n x (s os oD tk).abs pos (a tk) (s' os oD tk).abs pos':=by refine Goes.leaf n λ K H c b=>?_;have e:=h os oD tk K H c b;rw [<-PySem.W.Fast.te10295753902157049106,<-N4] at e;exact e
noncomputable abbrev stay (w:O0):T2->Obj->Nat->SharedT:=FX w
noncomputable abbrev plus3 (w:O0):T2->Obj->Nat->SharedT:=λ os oD tk=>FX w os oD (tk + 3)
theorem qtH (a:Addr) (h :∀(w:O0) (pos:Pos),LX 3 (PySem.W.Fast.tw13066428366354244818 8 (.ref a)) w pos (stay w) (λ _=>true) (stay w) pos:=by intro w pos os oD tk K H gd lv;kernel_rfl) (w:O0) (pos:Pos):LX 3 (Q5 8 (.ref a)) w pos (stay w) (λ _=>true) (stay w) pos:=by rw [PySem.W.Fast.te13066428366354244818];exact h w pos
noncomputable def qt0:=qtH 151
noncomputable def qt1:=qtH 152
noncomputable def qt2:=qtH 153
noncomputable def qt3:=qtH 154
noncomputable def qt4:=qtH 155
noncomputable def qt5:=qtH 156
noncomputable def qt6:=qtH 157
noncomputable def qt7:=qtH 158
noncomputable def qt8:=qtH 159
noncomputable def qt9:=qtH 160
noncomputable def qt10:=qtH 161
noncomputable def qt11:=qtH 162
theorem eqH (n:Nat) (a b:Addr) (hf :∀(w:O0) (pos:Pos),LX n (L4 (.ref a) (.ref b)) (w.withFollow "special-get-raises" false) pos (stay (w.withFollow "special-get-raises" false)) (λ _=>false) (stay (w.withFollow "special-get-raises" false)) pos:=by intro w pos os oD tk K H gd lv;kernel_rfl) (ht :∀(w:O0) (pos:Pos),LX n (L4 (.ref a) (.ref b)) (w.withFollow "special-get-raises" true) pos (stay (w.withFollow "special-get-raises" true)) (λ _=>false) (stay (w.withFollow "special-get-raises" true)) pos:=by intro w pos os oD tk K H gd lv;kernel_rfl) (w:O0) (pos:Pos):LX n (eqBool (.ref a) (.ref b)) w pos (stay w) (λ _=>false) (stay w) pos:=by rw [PySem.W.Fast.te13926502685295537346];exact byRow2 "special-get-raises" (P:=λ w=>LX n (L4 (.ref a) (.ref b)) w pos (stay w) (λ _=>false) (stay w) pos) (λ w=>hf w pos) (λ w=>ht w pos) w
noncomputable def eq0_1:=eqH 20 151 152
noncomputable def eq0_2:=eqH 16 151 153
noncomputable def eq0_3:=eqH 16 151 154
noncomputable def eq0_4:=eqH 16 151 155
noncomputable def eq0_5:=eqH 16 151 156
noncomputable def eq0_6:=eqH 16 151 157
noncomputable def eq0_7:=eqH 16 151 158
noncomputable def eq0_8:=eqH 16 151 159
noncomputable def eq0_9:=eqH 16 151 160
noncomputable def eq0_10:=eqH 16 151 161
noncomputable def eq0_11:=eqH 16 151 162
noncomputable def eq1_2:=eqH 16 152 153
noncomputable def eq1_3:=eqH 16 152 154
noncomputable def eq1_4:=eqH 16 152 155
noncomputable def eq1_5:=eqH 16 152 156
noncomputable def eq1_6:=eqH 16 152 157
noncomputable def eq1_7:=eqH 16 152 158
noncomputable def eq1_8:=eqH 16 152 159
noncomputable def eq1_9:=eqH 16 152 160
noncomputable def eq1_10:=eqH 16 152 161
noncomputable def eq1_11:=eqH 16 152 162
noncomputable def eq2_3:=eqH 20 153 154
noncomputable def eq2_4:=eqH 16 153 155
noncomputable def eq2_5:=eqH 16 153 156
noncomputable def eq2_6:=eqH 16 153 157
noncomputable def eq2_7:=eqH 16 153 158
noncomputable def eq2_8:=eqH 16 153 159
noncomputable def eq2_9:=eqH 16 153 160
noncomputable def eq2_10:=eqH 16 153 161
noncomputable def eq2_11:=eqH 16 153 162
noncomputable def eq3_4:=eqH 16 154 155
noncomputable def eq3_5:=eqH 16 154 156
noncomputable def eq3_6:=eqH 16 154 157
noncomputable def eq3_7:=eqH 16 154 158
noncomputable def eq3_8:=eqH 16 154 159
noncomputable def eq3_9:=eqH 16 154 160
noncomputable def eq3_10:=eqH 16 154 161
noncomputable def eq3_11:=eqH 16 154 162
noncomputable def eq4_5:=eqH 20 155 156
noncomputable def eq4_6:=eqH 16 155 157
noncomputable def eq4_7:=eqH 16 155 158
noncomputable def eq4_8:=eqH 16 155 159
noncomputable def eq4_9:=eqH 16 155 160
noncomputable def eq4_10:=eqH 16 155 161
noncomputable def eq4_11:=eqH 16 155 162
noncomputable def eq5_6:=eqH 16 156 157
noncomputable def eq5_7:=eqH 16 156 158
noncomputable def eq5_8:=eqH 16 156 159
noncomputable def eq5_9:=eqH 16 156 160
noncomputable def eq5_10:=eqH 16 156 161
noncomputable def eq5_11:=eqH 16 156 162
noncomputable def eq6_7:=eqH 20 157 158
noncomputable def eq6_8:=eqH 20 157 159
noncomputable def eq6_9:=eqH 16 157 160
noncomputable def eq6_10:=eqH 16 157 161
noncomputable def eq6_11:=eqH 16 157 162
noncomputable def eq7_8:=eqH 20 158 159
noncomputable def eq7_9:=eqH 16 158 160
noncomputable def eq7_10:=eqH 16 158 161
noncomputable def eq7_11:=eqH 16 158 162
noncomputable def eq8_9:=eqH 16 159 160
noncomputable def eq8_10:=eqH 16 159 161
noncomputable def eq8_11:=eqH 16 159 162
noncomputable def eq9_10:=eqH 20 160 161
noncomputable def eq9_11:=eqH 20 160 162
noncomputable def zfn:=eqH 20 161 162
theorem crH (a:Addr) (hf :∀(w:O0) (pos:Pos),LX 1 (M4 "hash" [.ref a]) (w.withFollow "special-get-raises" false) pos (stay (w.withFollow "special-get-raises" false)) (λ _=>()) (stay (w.withFollow "special-get-raises" false)) pos:=by intro w pos os oD tk K H gd lv;kernel_rfl) (ht :∀(w:O0) (pos:Pos),LX 1 (M4 "hash" [.ref a]) (w.withFollow "special-get-raises" true) pos (stay (w.withFollow "special-get-raises" true)) (λ _=>()) (stay (w.withFollow "special-get-raises" true)) pos:=by intro w pos os oD tk K H gd lv;kernel_rfl) (w:O0) (pos:Pos):LX 1 (cRoomFor "hash" [.ref a]) w pos (stay w) (λ _=>()) (stay w) pos:=by rw [PySem.W.Fast.te13383273872528276517];exact byRow2 "special-get-raises" (P:=λ w=>LX 1 (M4 "hash" [.ref a]) w pos (stay w) (λ _=>()) (stay w) pos) (λ w=>hf w pos) (λ w=>ht w pos) w
theorem soH (a:Addr) (hf :∀(w:O0) (pos:Pos),LX 1 (P4 (.ref a) "__hash__") (w.withFollow "special-get-raises" false) pos (stay (w.withFollow "special-get-raises" false)) (λ _=>some (.builtin "tuple.__hash__")) (stay (w.withFollow "special-get-raises" false)) pos:=by intro w pos os oD tk K H gd lv;kernel_rfl) (ht :∀(w:O0) (pos:Pos),LX 1 (P4 (.ref a) "__hash__") (w.withFollow "special-get-raises" true) pos (stay (w.withFollow "special-get-raises" true)) (λ _=>some (.builtin "tuple.__hash__")) (stay (w.withFollow "special-get-raises" true)) pos:=by intro w pos os oD tk K H gd lv;kernel_rfl) (w:O0) (pos:Pos):LX 1 (specialOf (.ref a) "__hash__") w pos (stay w) (λ _=>some (.builtin "tuple.__hash__")) (stay w) pos:=by rw [PySem.W.Fast.te4214721358667687652];exact byRow2 "special-get-raises" (P:=λ w=>LX 1 (P4 (.ref a) "__hash__") w pos (stay w) (λ _=>some (.builtin "tuple.__hash__")) (stay w) pos) (λ w=>hf w pos) (λ w=>ht w pos) w
theorem csH (a:Addr) (k l:Str) (hf :∀(w:O0) (pos:Pos),LX 22 (K4 (.ref a) "__hash__" (unh a)) (w.withFollow "special-get-raises" false) pos (stay (w.withFollow "special-get-raises" false)) (λ tk=>some (.int (o0 [b0 (w.withFollow "special-get-raises" false).params k,b0 (w.withFollow "special-get-raises" false).params l]) (tk + 2))) (plus3 (w.withFollow "special-get-raises" false)) pos:=by intro w pos os oD tk K H gd lv;kernel_rfl) (ht :∀(w:O0) (pos:Pos),LX 22 (K4 (.ref a) "__hash__" (unh a)) (w.withFollow "special-get-raises" true) pos (stay (w.withFollow "special-get-raises" true)) (λ tk=>some (.int (o0 [b0 (w.withFollow "special-get-raises" true).params k,b0 (w.withFollow "special-get-raises" true).params l]) (tk + 2))) (plus3 (w.withFollow "special-get-raises" true)) pos:=by intro w pos os oD tk K H gd lv;kernel_rfl) (w:O0) (pos:Pos):LX 22 (k6 (.ref a) "__hash__" (unh a)) w pos (stay w) (λ tk=>some (.int (o0 [b0 w.params k,b0 w.params l]) (tk + 2))) (plus3 w) pos:=by rw [PySem.W.Fast.te16697807410369149715];exact byRow2 "special-get-raises" (P:=λ w=>LX 22 (K4 (.ref a) "__hash__" (unh a)) w pos (stay w) (λ tk=>some (.int (o0 [b0 w.params k,b0 w.params l]) (tk + 2))) (plus3 w) pos) (λ w=>hf w pos) (λ w=>ht w pos) w
noncomputable def cr0:=crH 151
noncomputable def so0:=soH 151
noncomputable def cs0:=csH 151 "register" "read"
noncomputable def cr1:=crH 152
noncomputable def so1:=soH 152
noncomputable def cs1:=csH 152 "register" "write"
noncomputable def cr2:=crH 153
noncomputable def so2:=soH 153
noncomputable def cs2:=csH 153 "counter" "read"
noncomputable def cr3:=crH 154
noncomputable def so3:=soH 154
noncomputable def cs3:=csH 154 "counter" "add"
noncomputable def cr4:=crH 155
noncomputable def so4:=soH 155
noncomputable def cs4:=csH 155 "queue" "put"
noncomputable def cr5:=crH 156
noncomputable def so5:=soH 156
noncomputable def cs5:=csH 156 "queue" "take"
noncomputable def cr6:=crH 157
noncomputable def so6:=soH 157
noncomputable def cs6:=csH 157 "set" "put"
noncomputable def cr7:=crH 158
noncomputable def so7:=soH 158
noncomputable def cs7:=csH 158 "set" "cut"
noncomputable def cr8:=crH 159
noncomputable def so8:=soH 159
noncomputable def cs8:=csH 159 "set" "has"
noncomputable def cr9:=crH 160
noncomputable def so9:=soH 160
noncomputable def cs9:=csH 160 "cell" "read"
noncomputable def cr10:=crH 161
noncomputable def so10:=soH 161
noncomputable def cs10:=csH 161 "cell" "write"
noncomputable def cr11:=crH 162
noncomputable def so11:=soH 162
noncomputable def cs11:=csH 162 "cell" "swap"
noncomputable def allX (P:S0):List KV3:=[(151,(.ref 95),(X0 (o0 [b0 P "register",b0 P "read"]))),(152,(.ref 102),(X0 (o0 [b0 P "register",b0 P "write"]))),(153,(.ref 95),(X0 (o0 [b0 P "counter",b0 P "read"]))),(154,(.ref 109),(X0 (o0 [b0 P "counter",b0 P "add"]))),(155,(.ref 116),(X0 (o0 [b0 P "queue",b0 P "put"]))),(156,(.ref 123),(X0 (o0 [b0 P "queue",b0 P "take"]))),(157,(.ref 130),(X0 (o0 [b0 P "set",b0 P "put"]))),(158,(.ref 135),(X0 (o0 [b0 P "set",b0 P "cut"]))),(159,(.ref 142),(X0 (o0 [b0 P "set",b0 P "has"]))),(160,(.ref 95),(X0 (o0 [b0 P "cell",b0 P "read"]))),(161,(.ref 102),(X0 (o0 [b0 P "cell",b0 P "write"]))),(162,(.ref 149),(X0 (o0 [b0 P "cell",b0 P "swap"])))]
theorem zgl (w:O0) (os:T2) (pos:Pos):(allX w.params).Pairwise λ x y=>∀oD tk,GX w 20 (eqBool (.ref x.1) (.ref y.1)) (FX w os oD tk).abs pos false (FX w os oD tk).abs pos:=by
 unfold allX;refine
 .cons (λ y a oD tk=>(by
  revert y;simp only [O1,B0,false_implies,implies_true,and_true];exact ⟨(eq0_1 w pos).goes os oD tk |>.le (by decide),(eq0_2 w pos).goes os oD tk |>.le (by decide),(eq0_3 w pos).goes os oD tk |>.le (by decide),(eq0_4 w pos).goes os oD tk |>.le (by decide),(eq0_5 w pos).goes os oD tk |>.le (by decide),(eq0_6 w pos).goes os oD tk |>.le (by decide),(eq0_7 w pos).goes os oD tk |>.le (by decide),(eq0_8 w pos).goes os oD tk |>.le (by decide),(eq0_9 w pos).goes os oD tk |>.le (by decide),(eq0_10 w pos).goes os oD tk |>.le (by decide),(eq0_11 w pos).goes os oD tk |>.le (by decide)⟩))
  (.cons (λ y a oD tk=>(by
  revert y;simp only [O1,B0,false_implies,implies_true,and_true];exact ⟨(eq1_2 w pos).goes os oD tk |>.le (by decide),(eq1_3 w pos).goes os oD tk |>.le (by decide),(eq1_4 w pos).goes os oD tk |>.le (by decide),(eq1_5 w pos).goes os oD tk |>.le (by decide),(eq1_6 w pos).goes os oD tk |>.le (by decide),(eq1_7 w pos).goes os oD tk |>.le (by decide),(eq1_8 w pos).goes os oD tk |>.le (by decide),(eq1_9 w pos).goes os oD tk |>.le (by decide),(eq1_10 w pos).goes os oD tk |>.le (by decide),(eq1_11 w pos).goes os oD tk |>.le (by decide)⟩))
  (.cons (λ y a oD tk=>(by
  revert y;simp only [O1,B0,false_implies,implies_true,and_true];exact ⟨(eq2_3 w pos).goes os oD tk |>.le (by decide),(eq2_4 w pos).goes os oD tk |>.le (by decide),(eq2_5 w pos).goes os oD tk |>.le (by decide),(eq2_6 w pos).goes os oD tk |>.le (by decide),(eq2_7 w pos).goes os oD tk |>.le (by decide),(eq2_8 w pos).goes os oD tk |>.le (by decide),(eq2_9 w pos).goes os oD tk |>.le (by decide),(eq2_10 w pos).goes os oD tk |>.le (by decide),(eq2_11 w pos).goes os oD tk |>.le (by decide)⟩))
  (.cons (λ y a oD tk=>(by
  revert y;simp only [O1,B0,false_implies,implies_true,and_true];exact ⟨(eq3_4 w pos).goes os oD tk |>.le (by decide),(eq3_5 w pos).goes os oD tk |>.le (by decide),(eq3_6 w pos).goes os oD tk |>.le (by decide),(eq3_7 w pos).goes os oD tk |>.le (by decide),(eq3_8 w pos).goes os oD tk |>.le (by decide),(eq3_9 w pos).goes os oD tk |>.le (by decide),(eq3_10 w pos).goes os oD tk |>.le (by decide),(eq3_11 w pos).goes os oD tk |>.le (by decide)⟩))
  (.cons (λ y a oD tk=>(by
  revert y;simp only [O1,B0,false_implies,implies_true,and_true];exact ⟨(eq4_5 w pos).goes os oD tk |>.le (by decide),(eq4_6 w pos).goes os oD tk |>.le (by decide),(eq4_7 w pos).goes os oD tk |>.le (by decide),(eq4_8 w pos).goes os oD tk |>.le (by decide),(eq4_9 w pos).goes os oD tk |>.le (by decide),(eq4_10 w pos).goes os oD tk |>.le (by decide),(eq4_11 w pos).goes os oD tk |>.le (by decide)⟩))
  (.cons (λ y a oD tk=>(by
  revert y;simp only [O1,B0,false_implies,implies_true,and_true];exact ⟨(eq5_6 w pos).goes os oD tk |>.le (by decide),(eq5_7 w pos).goes os oD tk |>.le (by decide),(eq5_8 w pos).goes os oD tk |>.le (by decide),(eq5_9 w pos).goes os oD tk |>.le (by decide),(eq5_10 w pos).goes os oD tk |>.le (by decide),(eq5_11 w pos).goes os oD tk |>.le (by decide)⟩))
  (.cons (λ y a oD tk=>(by
  revert y;simp only [O1,B0,false_implies,implies_true,and_true];exact ⟨(eq6_7 w pos).goes os oD tk |>.le (by decide),(eq6_8 w pos).goes os oD tk |>.le (by decide),(eq6_9 w pos).goes os oD tk |>.le (by decide),(eq6_10 w pos).goes os oD tk |>.le (by decide),(eq6_11 w pos).goes os oD tk |>.le (by decide)⟩))
  (.cons (λ y a oD tk=>(by
  revert y;simp only [O1,B0,false_implies,implies_true,and_true];exact ⟨(eq7_8 w pos).goes os oD tk |>.le (by decide),(eq7_9 w pos).goes os oD tk |>.le (by decide),(eq7_10 w pos).goes os oD tk |>.le (by decide),(eq7_11 w pos).goes os oD tk |>.le (by decide)⟩))
  (.cons (λ y a oD tk=>(by
  revert y;simp only [O1,B0,false_implies,implies_true,and_true];exact ⟨(eq8_9 w pos).goes os oD tk |>.le (by decide),(eq8_10 w pos).goes os oD tk |>.le (by decide),(eq8_11 w pos).goes os oD tk |>.le (by decide)⟩))
  (.cons (λ y a oD tk=>(by
  revert y;simp only [O1,B0,false_implies,implies_true,and_true];exact ⟨(eq9_10 w pos).goes os oD tk |>.le (by decide),(eq9_11 w pos).goes os oD tk |>.le (by decide)⟩))
  (.cons (λ y a oD tk=>(by
  revert y;simp only [O1,B0,false_implies,implies_true,and_true];exact (zfn w pos).goes os oD tk |>.le (by decide)))
  (.cons (λ y a=>nomatch a)
  (k7))))))))))))
theorem allX_q (w:O0) (os:T2) (pos:Pos) :∀x∈allX w.params,∀oD tk,GX w 3 (Q5 8 (.ref x.1)) (FX w os oD tk).abs pos true (FX w os oD tk).abs pos:=by unfold allX;simp only [O1,B0,false_implies,implies_true,and_true];exact ⟨λ oD tk=>(qt0 w pos).goes os oD tk,λ oD tk=>(qt1 w pos).goes os oD tk,λ oD tk=>(qt2 w pos).goes os oD tk,λ oD tk=>(qt3 w pos).goes os oD tk,λ oD tk=>(qt4 w pos).goes os oD tk,λ oD tk=>(qt5 w pos).goes os oD tk,λ oD tk=>(qt6 w pos).goes os oD tk,λ oD tk=>(qt7 w pos).goes os oD tk,λ oD tk=>(qt8 w pos).goes os oD tk,λ oD tk=>(qt9 w pos).goes os oD tk,λ oD tk=>(qt10 w pos).goes os oD tk,λ oD tk=>(qt11 w pos).goes os oD tk⟩
theorem allX_h (w:O0) (os:T2) (pos:Pos) :∀x∈allX w.params,∀oD tk,GX w 25 (pyHash (.ref x.1)) (FX w os oD tk).abs pos x.2.2 (FX w os oD (tk + 3)).abs pos:=by unfold allX;simp only [O1,B0,false_implies,implies_true,and_true];exact ⟨λ oD tk=>Goes.pyHashT ((cr0 w pos).goes os oD tk) ((so0 w pos).goes os oD tk) ((cs0 w pos).goes os oD tk),λ oD tk=>Goes.pyHashT ((cr1 w pos).goes os oD tk) ((so1 w pos).goes os oD tk) ((cs1 w pos).goes os oD tk),λ oD tk=>Goes.pyHashT ((cr2 w pos).goes os oD tk) ((so2 w pos).goes os oD tk) ((cs2 w pos).goes os oD tk),λ oD tk=>Goes.pyHashT ((cr3 w pos).goes os oD tk) ((so3 w pos).goes os oD tk) ((cs3 w pos).goes os oD tk),λ oD tk=>Goes.pyHashT ((cr4 w pos).goes os oD tk) ((so4 w pos).goes os oD tk) ((cs4 w pos).goes os oD tk),λ oD tk=>Goes.pyHashT ((cr5 w pos).goes os oD tk) ((so5 w pos).goes os oD tk) ((cs5 w pos).goes os oD tk),λ oD tk=>Goes.pyHashT ((cr6 w pos).goes os oD tk) ((so6 w pos).goes os oD tk) ((cs6 w pos).goes os oD tk),λ oD tk=>Goes.pyHashT ((cr7 w pos).goes os oD tk) ((so7 w pos).goes os oD tk) ((cs7 w pos).goes os oD tk),λ oD tk=>Goes.pyHashT ((cr8 w pos).goes os oD tk) ((so8 w pos).goes os oD tk) ((cs8 w pos).goes os oD tk),λ oD tk=>Goes.pyHashT ((cr9 w pos).goes os oD tk) ((so9 w pos).goes os oD tk) ((cs9 w pos).goes os oD tk),λ oD tk=>Goes.pyHashT ((cr10 w pos).goes os oD tk) ((so10 w pos).goes os oD tk) ((cs10 w pos).goes os oD tk),λ oD tk=>Goes.pyHashT ((cr11 w pos).goes os oD tk) ((so11 w pos).goes os oD tk) ((cs11 w pos).goes os oD tk)⟩
theorem famX (w:O0) (os:T2):Fam 11 150 (FX w os):=by
 have g :∀c,(treeD w.params c).get 150=some c:=λ c=>by kernel_rfl
 refine ⟨by decide,λ b a d=>abs_get (show 150 < 163 by decide) (g _),λ b a d e=>?_⟩;have u:(absHeap (treeD w.params (dObj b a)) 163 {}).update 150 (p7 (·.push e))=absHeap (treeD w.params (dObj (b.push e) (a + 1))) 163 {}:=by
  rw [<-absHeap_set (g _)];have v:(treeD w.params (dObj b a)).set 150 (p7 (·.push e))=treeD w.params (dObj (b.push e) (a + 1)):=by kernel_rfl
  rw [v]
 exact congrArg (λ h=>(⟨h,⟨[]⟩,{},d,os⟩:y0)) u
noncomputable def stD:Stmt:=(behindTheImports PX).getD 25 (.Pass ⟨0,0,0,0⟩)
noncomputable def sufX:List Stmt:=(behindTheImports PX).drop 26
theorem bodyX:behindTheImports PX=K14.pre.sts_7++(K14.pre.sts_59++(K14.pre.sts_78++(K14.pre.sts_102++([stD]++sufX)))):=by kernel_rfl
noncomputable def dKeys:Stmt->List (Option Expr)
 | .Assign _ (.Dict ks _ _) _=>ks
 | _=>[]
noncomputable def dVals:Stmt->List Expr
 | .Assign _ (.Dict _ vs _) _=>vs
 | _=>[]
noncomputable def dPos:Stmt->Pos
 | .Assign _ (.Dict _ _ p) _=>p
 | _=>⟨0,0,0,0⟩
noncomputable def sPos:Stmt->Pos
 | .Assign _ _ p=>p
 | _=>⟨0,0,0,0⟩
noncomputable abbrev p1X:Pos:=sPos stD
noncomputable abbrev p2X:Pos:=dPos stD
noncomputable abbrev p3X:Pos:=⟨53,0,53,5⟩
noncomputable def runX:List (Sem Value×Sem Value):=(((evalEachOpt (dKeys stD) K14.pre.env_1).zip ((evalEach (dVals stD) K14.pre.env_1).map λ v=>do let x <-v;standAt p2X;S3 x))).filterMap λ x=>x.1.map (·,x.2)
theorem stD_eq:stD=.Assign [.Name "DOERS" p3X] (.Dict (dKeys stD) (dVals stD) p2X) p1X:=by kernel_rfl
theorem evD:W3 (.Dict (dKeys stD) (dVals stD) p2X) K14.pre.env_1=(do standAt p2X;let r <-(do let x <-subDict runX;S3 (some x));match r with|some x=>S3 (F1 x)|none=>newDict):=by kernel_rfl
theorem swD:e8 (.Dict (dKeys stD) (dVals stD) p2X) (some (.Name "DOERS" p3X)) p1X.line K14.pre.env_1=S3 false:=by kernel_rfl
noncomputable def F0X (w:O0) (os:T2):SharedT:=⟨K14.pre.tree_167 w.params,150,{},⟨[]⟩,{},394,os⟩
noncomputable def F1X (w:O0) (os:T2):SharedT:=⟨(K14.pre.tree_167 w.params).ins 150 (dObj #[] 0),151,{},⟨[]⟩,{},394,os⟩
noncomputable def vsX:List (Value×Value):=[(.ref 151,(.ref 95)),(.ref 152,(.ref 102)),(.ref 153,(.ref 95)),(.ref 154,(.ref 109)),(.ref 155,(.ref 116)),(.ref 156,(.ref 123)),(.ref 157,(.ref 130)),(.ref 158,(.ref 135)),(.ref 159,(.ref 142)),(.ref 160,(.ref 95)),(.ref 161,(.ref 102)),(.ref 162,(.ref 149))]
theorem zae (w:O0):LX 84 (evalPairs runX) w p2X (λ os _ _=>F1X w os) (λ _=>vsX) (λ os _ _=>FX w os (dObj #[] 0) 418) p2X:=by rw [PySem.W.Fast.te1788576489739465902];exact λ os b d K H c a=>by kernel_rfl
noncomputable def F2X (w:O0) (os:T2) (oD:Obj) (tk:Nat):SharedT:=⟨(treeD w.params oD).set 3 (Obj.putName "DOERS" (b0 w.params "DOERS") (.str "DOERS" tk) (.ref 150)),163,{},⟨[]⟩,{},tk + 1,os⟩
theorem zdc (w:O0) (pos:Pos):LX 6 (bindName K14.pre.env_1 "DOERS" (.ref 150)) w pos (stay w) (λ _=>()) (λ os oD tk=>F2X w os oD tk) pos:=by
 rw [PySem.W.Fast.te7536695828754713326];exact byRow2 "special-get-raises" (P:=λ w=>LX 6 (PySem.W.Fast.tw7536695828754713326 K14.pre.env_1 "DOERS" (.ref 150)) w pos (stay w) (λ _=>()) (λ os oD tk=>F2X w os oD tk) pos)
  (λ w os oD tk K H a b=>by kernel_rfl) (λ w os oD tk K H a b=>by kernel_rfl) w
noncomputable abbrev oDX (P:S0):Obj:=dObj ((allX P).map ent).toArray 12
noncomputable abbrev S2X (w:O0) (os:T2):SharedT:=F2X w os (oDX w.params) 454
theorem stD_go (w:O0) (os:T2) (pos:Pos):GX w 100000 (exec stD K14.pre.env_1) (F0X w os).abs pos .next (S2X w os).abs p3X:=by
 rw [stD_eq,exec_Assign_Name _ _ _ _ _ swD];have l:=Goes.loop (p:=PX) (w:=w) (ann:=annX) (code:=cdX) (q:=qX) (pos:=p2X) (famX w os) (N:=12) (allX w.params) (show 12<=12 by decide) (by decide) (show ([151,152,153,154,155,156,157,158,159,160,161,162]:List Nat).Nodup by decide) (allX_q w os p2X) (zgl w os p2X) (allX_h w os p2X) (allX w.params) [] 418 rfl;have b:=(zae w).goes os (dObj #[] 0) 0;have d:GX w _ (subDict runX) (F0X w os).abs p2X 150 (FX w os (oDX w.params) 454).abs p2X:=
  Goes.subDict (by decide +kernel) (absHeap_size _ _ _) (show GX w _ (evalPairs runX) _ p2X vsX _ p2X from by
   have e:({ (F0X w os).abs with heap:=(F0X w os).abs.heap.push { cls:=.type "dict",data:=.dict #[] } }:y0)=(F1X w os).abs:=by have i:=absHeap_ins (t:=K14.pre.tree_167 w.params) (n:=150) (life:={}) (o:=dObj #[] 0) (by kernel_rfl);exact congrArg (λ h=>(⟨h,⟨[]⟩,{},394,os⟩:y0)) i.symm
   rw [e];exact b) l
 refine (Goes.bind Goes.at' (Goes.bind (a:=F1 150) (pos':=p2X) ?_ (Goes.bind Goes.at' (Goes.bind (f:=λ _=>S3 Flow.next) ((zdc w p3X).goes os (oDX w.params) 454) Goes.pure)))).le (c:=1 + (((1 + ((1 + (84 + 12 * (25 + (2 + 3 + 12 * (3 + 20 + 10)) + 4))) + 0 + 0)) + (1 + (6 + 0))))) (by decide);rw [evD];exact Goes.bind Goes.at' (Goes.bind (Goes.bind d Goes.pure) Goes.pure)
noncomputable abbrev pLX:Pos:=⟨280,0,283,79⟩
noncomputable def R3X (w:O0) (os:T2):Option (Flow×SharedT×Code×Pos):=PySem.W.Fast.tw10110043849684766642 N6 PX w 11 annX 1 1117 (S2X w os) ⟨(PySem.W.Fast.tw12563942051412417395 sufX K14.pre.env_1).wrap doneF deadEnd id id,cdX,p3X,BX⟩
noncomputable def S3X (w:O0) (os:T2):SharedT:=match R3X w os with|some r=>r.2.1|none=>S2X w os
theorem R3X_eq (w:O0) (os:T2):R3X w os=some (.next,S3X w os,cdX,pLX):=by kernel_rfl
theorem zg6 (w:O0) (os:T2):segRun C3 PX w 11 annX 1 1117 (S2X w os).abs (piecesOf sufX K14.pre.env_1 cdX p3X BX)=some (.next,(S3X w os).abs,cdX,pLX):=by have e:=R3X_eq w os;unfold R3X at e;rw [<-PySem.W.Fast.te10110043849684766642,<-N4,<-PySem.W.Fast.te12563942051412417395] at e;exact segRun_of e
noncomputable def S0X (w:O0) (os:T2):SharedT:=⟨K14.pre.tree_6 w.params,15,{},⟨[]⟩,{},187,os⟩
theorem pre_go (w:O0) (os:T2):topGo C3 PX w 11 annX 12 ⟨boot_heap w.params,Array.mk [],boot_drawn,boot_toks,os⟩ (topStub PX)=some ((S0X w os).abs,⟨denote C3 cdX,cdX,qX,BX⟩):=by rw [PySem.W.Fast.te15667345088766844465,N4,PySem.W.Fast.te11892475500146522536];kernel_rfl
theorem zes (w:O0) (os:T2) :∃M,M<=200000/\topRun C3 PX w 11 annX M ⟨boot_heap w.params,Array.mk [],boot_drawn,boot_toks,os⟩ (topStub PX)=some (S3X w os).abs:=by have f:topRun C3 PX w 11 annX 2 (S3X w os).abs (restOf [] K14.pre.env_1 cdX pLX BX)=some (S3X w os).abs:=rfl;have a:=piece_app (zg6 w os) f;rw [C2] at a;obtain ⟨M,h,d⟩:=za6 (Goes.execs1 (stD_go w os ⟨49,0,52,21⟩)) a;have b:=K14.pre.chain PX (behindTheImports PX) w os _ M _ d;rw [<-bodyX] at b;have e:segRun C3 PX w 11 annX 1 1 (S0X w os).abs (blockOf (behindTheImports PX) K14.pre.env_1 cdX qX BX)=some (.next,(S0X w os).abs,cdX,qX):=rfl;have c:=piece_block e b;have g:=go_top (pre_go w os) c;refine ⟨_,?_,g⟩;simp only [Nat.add_eq];omega
noncomputable def looseX:List Str:=[("GREATEST_WORTH" : Str),("LONGEST_NAME" : Str),("SMALL_LETTERS" : Str),("is_whole" : Str),("is_within" : Str),("is_worth" : Str),("is_name" : Str),("is_tuple_of" : Str),("TaleError" : Str),("NoTale" : Str),("NotPlain" : Str),("FIRST_STATES" : Str),("WORTHS_OF_VERBS" : Str),("read_state" : Str),("write_state" : Str),("add_to_number" : Str),("put_behind" : Str),("take_first" : Str),("put_into_set" : Str),("cut_from_set" : Str),("has_in_set" : Str),("swap_state" : Str),("DOERS" : Str),("is_kind" : Str),("is_deed" : Str),("MOST_THINGS" : Str),("MOST_BEGINS" : Str),("LAST_HAND" : Str),("GREATEST_ANSWER" : Str),("ANSWER_WORDS" : Str),("make_tale" : Str),("make_things" : Str),("is_thing" : Str),("make_events" : Str),("is_begin" : Str),("is_end" : Str),("is_event" : Str),("is_hand" : Str),("is_answer" : Str),("go_by_turns" : Str),("deeds" : Str),("FIRST_WRITE" : Str),("plain_deeds" : Str),("are_plain" : Str),("is_answered" : Str),("writers" : Str),("ended_reads" : Str),("zones" : Str),("zone_of" : Str),("collision" : Str),("first_pair" : Str),("of_kind" : Str),("collide" : Str),("_law_cell_at" : Str),("_law_row" : Str),("_law_take" : Str),("_law_answer" : Str),("_law_exchanged" : Str),("_law_made" : Str),("_law_zones" : Str),("_law_low" : Str),("_law_due" : Str)]
noncomputable def viewX:Program:={ PX with main:={ PX.main with body:=(PX.main.body[68]?).toList } }
noncomputable def top (i:Nat):Stmt:=PX.main.body.getD i (.Pass ⟨0,0,0,0⟩)
noncomputable def asX:List Addr:=[3,20,21,27,28,34,35,39,40,46,47,48,50,55,56,57,61,63,68,69,70,73,75,80,81,82,85,86,87,88,150,151,152,153,154,155,156,157,158,159,160,161,162,168,169,173,174,175,181,182,186,187,193,194,198,199,205,206,212,213,219,220,226,227,233,234,240,241,247,248,249,253,254,258,259,265,266,272,273,277,278,282,283,287,288,294,295,301,302,306,307,313,314,320,321,327,328,334,335,339,340,344,345,351,352,356,357,363,364,370,371,377,378]
noncomputable def KX (P:S0):Frag:=[
 (3,⟨(.type "dict"),none,(.dict #[⟨(b0 P "__name__"),(.str "__name__" 165),(.str "law_talejudge_k14_collisions_told" 658)⟩,⟨(b0 P "__doc__"),(.str "__doc__" 166),.none⟩,⟨(b0 P "__package__"),(.str "__package__" 167),.none⟩,⟨(b0 P "__loader__"),(.str "__loader__" 168),(.builtin "__main__.__loader__#opaque")⟩,⟨(b0 P "__spec__"),(.str "__spec__" 169),.none⟩,kR P "__annotations__" 170 6,kR P "__builtins__" 171 4,⟨(b0 P "__file__"),(.str "__file__" 173),(.str "/claim/cut.py" 172)⟩,⟨(b0 P "__cached__"),(.str "__cached__" 174),.none⟩,⟨(b0 P "GREATEST_WORTH"),(.str "GREATEST_WORTH" 190),(.int (1000000000) 189)⟩,⟨(b0 P "LONGEST_NAME"),(.str "LONGEST_NAME" 192),(.int (8) 191)⟩,⟨(b0 P "SMALL_LETTERS"),(.str "SMALL_LETTERS" 194),(.str "abcdefghijklmnopqrstuvwxyz" 193)⟩,kR P "is_whole" 201 21,kR P "is_within" 209 28,kR P "is_worth" 216 35,kR P "is_name" 222 40,kR P "is_tuple_of" 230 47,kR P "TaleError" 250 57,kR P "NoTale" 266 70,kR P "NotPlain" 282 82,kR P "FIRST_STATES" 298 85,kR P "WORTHS_OF_VERBS" 323 88,kR P "read_state" 331 95,kR P "write_state" 339 102,kR P "add_to_number" 347 109,kR P "put_behind" 355 116,kR P "take_first" 363 123,kR P "put_into_set" 371 130,kR P "cut_from_set" 377 135,kR P "has_in_set" 385 142,kR P "swap_state" 393 149,kR P "DOERS" 454 150,kR P "is_kind" 461 169,kR P "is_deed" 467 174,⟨(b0 P "MOST_THINGS"),(.str "MOST_THINGS" 471),(.int (6) 470)⟩,⟨(b0 P "MOST_BEGINS"),(.str "MOST_BEGINS" 473),(.int (24) 472)⟩,⟨(b0 P "LAST_HAND"),(.str "LAST_HAND" 475),(.int (5) 474)⟩,⟨(b0 P "GREATEST_ANSWER"),(.str "GREATEST_ANSWER" 477),(.int (1000000000000) 476)⟩,kR P "ANSWER_WORDS" 480 175,kR P "make_tale" 489 182,kR P "make_things" 495 187,kR P "is_thing" 502 194,kR P "make_events" 508 199,kR P "is_begin" 516 206,kR P "is_end" 523 213,kR P "is_event" 532 220,kR P "is_hand" 539 227,kR P "is_answer" 546 234,kR P "go_by_turns" 556 241,kR P "deeds" 569 248,kR P "FIRST_WRITE" 576 249,kR P "plain_deeds" 582 254,kR P "are_plain" 588 259,kR P "is_answered" 595 266,kR P "writers" 604 273,kR P "ended_reads" 610 278,kR P "zones" 616 283,kR P "zone_of" 622 288,kR P "collision" 633 295,kR P "first_pair" 643 302,kR P "of_kind" 649 307,kR P "collide" 657 314,kR P "_law_cell_at" 667 321,kR P "_law_row" 674 328,kR P "_law_take" 683 335,kR P "_law_answer" 689 340,kR P "_law_exchanged" 695 345,kR P "_law_made" 715 352,kR P "_law_zones" 721 357,kR P "_law_low" 728 364,kR P "_law_due" 742 371,kR P "law" 752 378] 72),#[]⟩),
 (20,cO "is_whole" "is_whole" 195 5 1 15 199),
 (21,fO "is_whole" "is_whole" (top 4) "talejudge.basics" 187 20),
 (27,cO "is_within" "is_within" 202 7 2 22 207),
 (28,fO "is_within" "is_within" (top 5) "talejudge.basics" 187 27),
 (34,cO "is_worth" "is_worth" 210 9 1 29 214),
 (35,fO "is_worth" "is_worth" (top 6) "talejudge.basics" 187 34),
 (39,cP "is_name" "is_name" 217 11 1 36 220),
 (40,fO "is_name" "is_name" (top 7) "talejudge.basics" 187 39),
 (46,cO "is_tuple_of" "is_tuple_of" 223 15 2 41 228),
 (47,fO "is_tuple_of" "is_tuple_of" (top 8) "talejudge.basics" 187 46),
 (48,⟨(.type "tuple"),none,(.seq #[(.type "ValueError")] 0),#[]⟩),
 (50,⟨(.type "dict"),none,(.dict #[⟨(b0 P "__module__"),(.str "__module__" 240),(.str "talejudge.errors" 231)⟩,⟨(b0 P "__qualname__"),(.str "__qualname__" 242),(.str "TaleError" 241)⟩,⟨(b0 P "__firstlineno__"),(.str "__firstlineno__" 244),(.int (18) 243)⟩,kR P "__static_attributes__" 245 55] 4),#[]⟩),
 (55,⟨(.type "tuple"),none,(.seq #[] 0),#[]⟩),
 (56,⟨(.type "dict"),none,(.dict #[⟨(b0 P "__module__"),(.str "__module__" 240),(.str "talejudge.errors" 231)⟩,⟨(b0 P "__firstlineno__"),(.str "__firstlineno__" 244),(.int (18) 243)⟩,kR P "__static_attributes__" 245 55,kR P "__weakref__" 247 58,⟨(b0 P "__doc__"),(.str "__doc__" 248),.none⟩] 3),#[]⟩),
 (57,⟨(.type "type"),none,(.cls ⟨"TaleError",[(.type "ValueError")],[(.ref 57),(.type "ValueError"),(.type "Exception"),(.type "BaseException"),(.type "object")],56,"TaleError",true,[],[(.ref 70),(.ref 82)],false,none,false⟩),#[some (.ref 48),none,some (.str "TaleError" 233),some (.str "TaleError" 241),some (.builtin "ValueError.__new__"),some (.bool true)]⟩),
 (61,⟨(.type "tuple"),none,(.seq #[(.ref 57)] 0),#[]⟩),
 (63,⟨(.type "dict"),none,(.dict #[⟨(b0 P "__module__"),(.str "__module__" 258),(.str "talejudge.errors" 231)⟩,⟨(b0 P "__qualname__"),(.str "__qualname__" 260),(.str "NoTale" 259)⟩,⟨(b0 P "__firstlineno__"),(.str "__firstlineno__" 262),(.int (20) 261)⟩,kR P "__static_attributes__" 263 68] 4),#[]⟩),
 (68,⟨(.type "tuple"),none,(.seq #[] 0),#[]⟩),
 (69,⟨(.type "dict"),none,(.dict #[⟨(b0 P "__module__"),(.str "__module__" 258),(.str "talejudge.errors" 231)⟩,⟨(b0 P "__firstlineno__"),(.str "__firstlineno__" 262),(.int (20) 261)⟩,kR P "__static_attributes__" 263 68,⟨(b0 P "__doc__"),(.str "__doc__" 264),.none⟩] 2),#[]⟩),
 (70,⟨(.type "type"),none,(.cls ⟨"NoTale",[(.ref 57)],[(.ref 70),(.ref 57),(.type "ValueError"),(.type "Exception"),(.type "BaseException"),(.type "object")],69,"NoTale",true,[],[],false,none,false⟩),#[some (.ref 61),none,some (.str "NoTale" 251),some (.str "NoTale" 259),some (.builtin "ValueError.__new__"),some (.bool true)]⟩),
 (73,⟨(.type "tuple"),none,(.seq #[(.ref 57)] 0),#[]⟩),
 (75,⟨(.type "dict"),none,(.dict #[⟨(b0 P "__module__"),(.str "__module__" 274),(.str "talejudge.errors" 231)⟩,⟨(b0 P "__qualname__"),(.str "__qualname__" 276),(.str "NotPlain" 275)⟩,⟨(b0 P "__firstlineno__"),(.str "__firstlineno__" 278),(.int (22) 277)⟩,kR P "__static_attributes__" 279 80] 4),#[]⟩),
 (80,⟨(.type "tuple"),none,(.seq #[] 0),#[]⟩),
 (81,⟨(.type "dict"),none,(.dict #[⟨(b0 P "__module__"),(.str "__module__" 274),(.str "talejudge.errors" 231)⟩,⟨(b0 P "__firstlineno__"),(.str "__firstlineno__" 278),(.int (22) 277)⟩,kR P "__static_attributes__" 279 80,⟨(b0 P "__doc__"),(.str "__doc__" 280),.none⟩] 2),#[]⟩),
 (82,⟨(.type "type"),none,(.cls ⟨"NotPlain",[(.ref 57)],[(.ref 82),(.ref 57),(.type "ValueError"),(.type "Exception"),(.type "BaseException"),(.type "object")],81,"NotPlain",true,[],[],false,none,false⟩),#[some (.ref 73),none,some (.str "NotPlain" 267),some (.str "NotPlain" 275),some (.builtin "ValueError.__new__"),some (.bool true)]⟩),
 (85,⟨(.type "dict"),none,(.dict #[⟨(b0 P "register"),(.str "register" 285),(.int (0) 286)⟩,⟨(b0 P "counter"),(.str "counter" 287),(.int (0) 288)⟩,kR P "queue" 289 86,kR P "set" 290 87,⟨(b0 P "cell"),(.str "cell" 291),(.int (0) 292)⟩] 5),#[]⟩),
 (86,⟨(.type "tuple"),none,(.seq #[] 0),#[]⟩),
 (87,⟨(.type "tuple"),none,(.seq #[] 0),#[]⟩),
 (88,⟨(.type "dict"),none,(.dict #[⟨(b0 P "read"),(.str "read" 299),(.int (0) 300)⟩,⟨(b0 P "take"),(.str "take" 301),(.int (0) 302)⟩,⟨(b0 P "write"),(.str "write" 303),(.int (1) 304)⟩,⟨(b0 P "add"),(.str "add" 305),(.int (1) 306)⟩,⟨(b0 P "put"),(.str "put" 307),(.int (1) 308)⟩,⟨(b0 P "cut"),(.str "cut" 309),(.int (1) 310)⟩,⟨(b0 P "has"),(.str "has" 311),(.int (1) 312)⟩,⟨(b0 P "swap"),(.str "swap" 313),(.int (2) 314)⟩] 8),#[]⟩),
 (150,⟨(.type "dict"),none,(.dict #[⟨(X0 (o0 [b0 P "register",b0 P "read"])),(.ref 151),(.ref 95)⟩,⟨(X0 (o0 [b0 P "register",b0 P "write"])),(.ref 152),(.ref 102)⟩,⟨(X0 (o0 [b0 P "counter",b0 P "read"])),(.ref 153),(.ref 95)⟩,⟨(X0 (o0 [b0 P "counter",b0 P "add"])),(.ref 154),(.ref 109)⟩,⟨(X0 (o0 [b0 P "queue",b0 P "put"])),(.ref 155),(.ref 116)⟩,⟨(X0 (o0 [b0 P "queue",b0 P "take"])),(.ref 156),(.ref 123)⟩,⟨(X0 (o0 [b0 P "set",b0 P "put"])),(.ref 157),(.ref 130)⟩,⟨(X0 (o0 [b0 P "set",b0 P "cut"])),(.ref 158),(.ref 135)⟩,⟨(X0 (o0 [b0 P "set",b0 P "has"])),(.ref 159),(.ref 142)⟩,⟨(X0 (o0 [b0 P "cell",b0 P "read"])),(.ref 160),(.ref 95)⟩,⟨(X0 (o0 [b0 P "cell",b0 P "write"])),(.ref 161),(.ref 102)⟩,⟨(X0 (o0 [b0 P "cell",b0 P "swap"])),(.ref 162),(.ref 149)⟩] 12),#[]⟩),
 (151,⟨(.type "tuple"),none,(.seq #[(.str "register" 394),(.str "read" 395)] 0),#[]⟩),
 (152,⟨(.type "tuple"),none,(.seq #[(.str "register" 396),(.str "write" 397)] 0),#[]⟩),
 (153,⟨(.type "tuple"),none,(.seq #[(.str "counter" 398),(.str "read" 399)] 0),#[]⟩),
 (154,⟨(.type "tuple"),none,(.seq #[(.str "counter" 400),(.str "add" 401)] 0),#[]⟩),
 (155,⟨(.type "tuple"),none,(.seq #[(.str "queue" 402),(.str "put" 403)] 0),#[]⟩),
 (156,⟨(.type "tuple"),none,(.seq #[(.str "queue" 404),(.str "take" 405)] 0),#[]⟩),
 (157,⟨(.type "tuple"),none,(.seq #[(.str "set" 406),(.str "put" 407)] 0),#[]⟩),
 (158,⟨(.type "tuple"),none,(.seq #[(.str "set" 408),(.str "cut" 409)] 0),#[]⟩),
 (159,⟨(.type "tuple"),none,(.seq #[(.str "set" 410),(.str "has" 411)] 0),#[]⟩),
 (160,⟨(.type "tuple"),none,(.seq #[(.str "cell" 412),(.str "read" 413)] 0),#[]⟩),
 (161,⟨(.type "tuple"),none,(.seq #[(.str "cell" 414),(.str "write" 415)] 0),#[]⟩),
 (162,⟨(.type "tuple"),none,(.seq #[(.str "cell" 416),(.str "swap" 417)] 0),#[]⟩),
 (168,cO "is_kind" "is_kind" 455 54 1 163 459),
 (169,fO "is_kind" "is_kind" (top 26) "talejudge.store" 283 168),
 (173,cP "is_deed" "is_deed" 462 56 3 170 465),
 (174,fO "is_deed" "is_deed" (top 27) "talejudge.store" 283 173),
 (175,⟨(.type "tuple"),none,(.seq #[(.str "ok" 478),(.str "none" 479)] 0),#[]⟩),
 (181,cO "make_tale" "make_tale" 481 71 2 176 487),
 (182,fO "make_tale" "make_tale" (top 34) "talejudge.tales" 468 181),
 (186,cP "make_things" "make_things" 490 74 1 183 493),
 (187,fO "make_things" "make_things" (top 35) "talejudge.tales" 468 186),
 (193,cO "is_thing" "is_thing" 496 82 1 188 500),
 (194,fO "is_thing" "is_thing" (top 36) "talejudge.tales" 468 193),
 (198,cP "make_events" "make_events" 503 84 2 195 506),
 (199,fO "make_events" "make_events" (top 37) "talejudge.tales" 468 198),
 (205,cO "is_begin" "is_begin" 509 92 2 200 514),
 (206,fO "is_begin" "is_begin" (top 38) "talejudge.tales" 468 205),
 (212,cO "is_end" "is_end" 517 96 1 207 521),
 (213,fO "is_end" "is_end" (top 39) "talejudge.tales" 468 212),
 (219,cO "is_event" "is_event" 524 98 3 214 530),
 (220,fO "is_event" "is_event" (top 40) "talejudge.tales" 468 219),
 (226,cO "is_hand" "is_hand" 533 100 1 221 537),
 (227,fO "is_hand" "is_hand" (top 41) "talejudge.tales" 468 226),
 (233,cO "is_answer" "is_answer" 540 102 1 228 544),
 (234,fO "is_answer" "is_answer" (top 42) "talejudge.tales" 468 233),
 (240,cO "go_by_turns" "go_by_turns" 547 106 1 235 554),
 (241,fO "go_by_turns" "go_by_turns" (top 43) "talejudge.tales" 468 240),
 (247,cO "deeds" "deeds" 557 114 1 242 567),
 (248,fO "deeds" "deeds" (top 44) "talejudge.tales" 468 247),
 (249,⟨(.type "tuple"),none,(.seq #[(.int (-2) 573),(.int (-1) 575)] 0),#[]⟩),
 (253,cP "plain_deeds" "plain_deeds" 577 128 1 250 580),
 (254,fO "plain_deeds" "plain_deeds" (top 47) "talejudge.zones" 570 253),
 (258,cP "are_plain" "are_plain" 583 133 1 255 586),
 (259,fO "are_plain" "are_plain" (top 48) "talejudge.zones" 570 258),
 (265,cO "is_answered" "is_answered" 589 138 1 260 593),
 (266,fO "is_answered" "is_answered" (top 49) "talejudge.zones" 570 265),
 (272,cO "writers" "writers" 596 142 1 267 602),
 (273,fO "writers" "writers" (top 50) "talejudge.zones" 570 272),
 (277,cP "ended_reads" "ended_reads" 605 148 1 274 608),
 (278,fO "ended_reads" "ended_reads" (top 51) "talejudge.zones" 570 277),
 (282,cP "zones" "zones" 611 150 1 279 614),
 (283,fO "zones" "zones" (top 52) "talejudge.zones" 570 282),
 (287,cP "zone_of" "zone_of" 617 158 2 284 620),
 (288,fO "zone_of" "zone_of" (top 53) "talejudge.zones" 570 287),
 (294,cO "collision" "collision" 623 164 1 289 631),
 (295,fO "collision" "collision" (top 54) "talejudge.zones" 570 294),
 (301,cO "first_pair" "first_pair" 634 171 1 296 641),
 (302,fO "first_pair" "first_pair" (top 55) "talejudge.zones" 570 301),
 (306,cP "of_kind" "of_kind" 644 178 2 303 647),
 (307,fO "of_kind" "of_kind" (top 56) "talejudge.zones" 570 306),
 (313,cO "collide" "collide" 650 180 2 308 655),
 (314,fO "collide" "collide" (top 57) "talejudge.zones" 570 313),
 (320,cO "_law_cell_at" "_law_cell_at" 660 185 2 315 665),
 (321,fL "_law_cell_at" "_law_cell_at" (top 59) 320),
 (327,cO "_law_row" "_law_row" 668 189 1 322 672),
 (328,fL "_law_row" "_law_row" (top 60) 327),
 (334,cO "_law_take" "_law_take" 675 191 2 329 681),
 (335,fL "_law_take" "_law_take" (top 61) 334),
 (339,cP "_law_answer" "_law_answer" 684 198 5 336 687),
 (340,fL "_law_answer" "_law_answer" (top 62) 339),
 (344,cP "_law_exchanged" "_law_exchanged" 690 205 3 341 693),
 (345,fL "_law_exchanged" "_law_exchanged" (top 63) 344),
 (351,cO "_law_made" "_law_made" 696 212 3 346 713),
 (352,fL "_law_made" "_law_made" (top 64) 351),
 (356,cP "_law_zones" "_law_zones" 716 242 1 353 719),
 (357,fL "_law_zones" "_law_zones" (top 65) 356),
 (363,cO "_law_low" "_law_low" 722 259 1 358 726),
 (364,fL "_law_low" "_law_low" (top 66) 363),
 (370,cO "_law_due" "_law_due" 729 261 1 365 740),
 (371,fL "_law_due" "_law_due" (top 67) 370),
 (377,cO "law" "law" 743 280 1 372 750),
 (378,fL "law" "law" (top 68) 377)]
noncomputable def asY:List Addr:=280 :: asX
noncomputable def KY (P:S0):Frag:=(280,⟨.none,none,.fields #[],#[]⟩) :: KX P
noncomputable abbrev cdT:Addr:=282
noncomputable abbrev tbT:Addr:=280
noncomputable def HX:Hook:=kHook KY asY (λ _=>by kernel_rfl)
noncomputable abbrev XtX:y0->Bool:=λ s=>xlAt viewX [] s && recOk (RowW.records (OpenRow.toRowW PySem.Challenge.rw_talejudge_k14_collisions_told.row)) s
theorem look1 (w:O0) (os:T2):(staticsOk (z6 PX.main.body) (boot_heap w.params) (S3X w os).abs.heap && namesBound PX (S3X w os).abs.heap && gensDone (S3X w os).abs && laidKept (boot_heap w.params) (S3X w os).abs.heap)=true:=by kernel_rfl
theorem look2 (w:O0) (os:T2):openSeen viewX looseX (z6 PX.main.body) XtX true (S3X w os).abs=openGood viewX looseX:=by rw [PySem.W.Fast.te4187177175401517315];kernel_rfl
theorem look3 (w:O0) (os:T2):Hook.obs HX (S3X w os).abs=Hook.val HX w:=by kernel_rfl
theorem leftX:LeftO PX viewX looseX XtX (Hook.obs HX) (Hook.val HX) 200000:=
 zev (H₀:=boot_heap) (gs₀:=Array.mk []) (boot_open (by kernel_rfl) (by decide) (λ s=>rfl)) (λ w=>by kernel_rfl) zes look1 look2 look3
end K14
set_option maxHeartbeats 4000000
namespace L2
open PySem PySem.Spec PyProof.Rows
theorem FnScope.k {N P:List Str} {sc:Scope} (a:sc.kind=.function:=by exact rfl) (b:sc.isCoroutine=false:=by exact rfl) (c:sc.isGenerator=false:=by exact rfl) (d:N.Nodup:=by decide +kernel) (e:N.take P.length=P:=by exact rfl) (f :∀x∈P,sc.names.lookup x=some .local\/sc.names.lookup x=some .cell:=by decide +kernel) (g :∀y∈sc.names,y.2≠.free:=by decide +kernel):FnScope N P sc:=⟨a,b,c,d,e,f,g⟩
theorem newA {H:Hp} {p:Addr} (o:HO) (h:H p=none) :∃H',H'=upd H p o/\Same H H'/\H' p=some o:=⟨_,rfl,Same.upd h,z01⟩
theorem iteK {c A B:Prop} [Decidable c] (h:B) (hc:¬ c:=by decide +kernel):if c then A else B:=iteN hc h
theorem pg_cn {X:Cx} {scope:Scope} {cl:List (Str×Addr)} {N:List Str} {C:Addr} {s₂:y0} {H₂:Hp} {fp:List Addr} {x:Str} {px:Pos} (i:Nat) (hN:N.Nodup:=by decide +kernel) (hi:N[i]? = some x:=by exact rfl) (hx:scope.names.lookup x=some .local:=by exact rfl):PG (cxComp X scope cl N C s₂ H₂ fp) (.Name x px) (gName i):=zfg i hN hi hx
theorem pe_cg {X:Cx} {xs:List Str} {tg:Expr} {g:TG} {pos:Pos} {elt iter:Expr} {ifs:List Expr} {scope:Scope} {fr:List (Nat×Str)} {wi:TI} {tc:TT} {te:TE} (hi:PI X tg iter wi)
  (hg :∀cl C s₂ H₂ fp,PG (cxComp X scope cl (xs++fr.map (·.2)) C s₂ H₂ fp) tg g)
  (ht :∀cl C s₂ H₂ fp,PF (cxComp X scope cl (xs++fr.map (·.2)) C s₂ H₂ fp) ifs tc) (he :∀cl C s₂ H₂ fp,PE (cxComp X scope cl (xs++fr.map (·.2)) C s₂ H₂ fp) elt te) (hcalm:X.calm=true:=by exact rfl)
  (hfr :∀p∈fr,X.N[p.1]? = some p.2/\(X.env.kindOf p.2=some .cell\/X.env.kindOf p.2=some .free):=by first|exact λ _ z=>absurd z B0|(intro p hp;obtain rfl:=List.mem_singleton.mp hp;first|exact ⟨rfl,.inl rfl⟩|exact ⟨rfl,.inr rfl⟩))
  (hin:(scope.names.all λ y=>y.2 != R1 || fr.any λ p=>p.2 == y.1)=true:=by decide +kernel)
  (hfs :∀p∈fr,(p.2,R1)∈scope.names/\((R6 scope X.env).names.lookup p.2=some .cell\/(R6 scope X.env).names.lookup p.2=some .free):=by first|exact λ _ z=>absurd z B0|(intro p hp;obtain rfl:=List.mem_singleton.mp hp;exact ⟨by decide +kernel,by first|exact .inl rfl|exact .inr rfl⟩))
  (hcell :∀y∈scope.names,y.2≠NameKind.cell:=by decide +kernel) (hkind:scope.kind=.function:=by exact rfl) (hnames :∀y∈scope.names,y.2=NameKind.local->scope.names.lookup y.1=some .local:=by decide +kernel)
  (hs :∀x,V4 iter X.env x=S3 x:=by intro _;rfl):PE X (.ListComp elt [⟨tg,iter,ifs,0⟩] scope pos) (tCompG wi xs.length fr g tc te):=
 zf0 hcalm hi hfr (λ y a e=>by
  have h:=List.all_eq_true.mp hin y a;rw [e] at h;obtain ⟨p,hp,z⟩:=List.any_eq_true.mp (show fr.any (λ p=>p.2 == y.1)=true from h);have:=(hfr p hp).2
  rwa [eq_of_beq z] at this) hfs hcell hkind hnames hg ht he hs
end L2
namespace K14
open PySem PySem.Spec PyProof.Rows TJ L2
abbrev Gg (n:Str) (a:Addr):Prop:=∀P,P3 (KX P) U1 n=some (some (.ref a))
abbrev Gn (n:Str):Prop:=∀P,P3 (KX P) U1 n=some none
noncomputable abbrev kx (w:O0):=KX w.params
noncomputable abbrev Ca (P:Program) (w:O0) (mg:Str->Option Value) (base:Heap):=Cal P w (KX w.params) mg base
noncomputable abbrev CaE (P:Program) (w:O0) (mg:Str->Option Value) (base:Heap):=CalE P w (KX w.params) mg base
noncomputable abbrev Fo (P:Program) (w:O0) (mg:Str->Option Value) (base:Heap):=FnOk P w (KX w.params) mg base
theorem z0h:Gn "isinstance":=λ _=>by kernel_rfl
theorem n_len:Gn "len":=λ _=>by kernel_rfl
theorem n_all:Gn "all":=λ _=>by kernel_rfl
theorem n_max:Gn "max":=λ _=>by kernel_rfl
theorem n_min:Gn "min":=λ _=>by kernel_rfl
theorem n_int:Gn "int":=λ _=>by kernel_rfl
theorem n_str:Gn "str":=λ _=>by kernel_rfl
theorem n_bool:Gn "bool":=λ _=>by kernel_rfl
theorem z8j:Gn "tuple":=λ _=>by kernel_rfl
theorem n_list:Gn "list":=λ _=>by kernel_rfl
theorem zeg:Gn "range":=λ _=>by kernel_rfl
theorem z7n:Gn "sorted":=λ _=>by kernel_rfl
theorem n_sum:Gn "sum":=λ _=>by kernel_rfl
theorem n_dict:Gn "dict":=λ _=>by kernel_rfl
theorem n_set:Gn "set":=λ _=>by kernel_rfl
theorem z4i:Gn "enumerate":=λ _=>by kernel_rfl
theorem z3i (P:S0):P3 (KX P) U1 "GREATEST_WORTH" = some (some (.int (1000000000) 189)):=by kernel_rfl
theorem z5g (P:S0):P3 (KX P) U1 "LONGEST_NAME" = some (some (.int (8) 191)):=by kernel_rfl
theorem z41 (P:S0):P3 (KX P) U1 "SMALL_LETTERS" = some (some (.str "abcdefghijklmnopqrstuvwxyz" 193)):=by kernel_rfl
theorem zc7:Gg "is_whole" 21:=λ _=>by kernel_rfl
theorem z9s:Gg "is_within" 28:=λ _=>by kernel_rfl
theorem zam:Gg "is_worth" 35:=λ _=>by kernel_rfl
theorem zdg:Gg "is_name" 40:=λ _=>by kernel_rfl
theorem z6v:Gg "is_tuple_of" 47:=λ _=>by kernel_rfl
theorem z5m:Gg "FIRST_STATES" 85:=λ _=>by kernel_rfl
theorem z2y:Gg "WORTHS_OF_VERBS" 88:=λ _=>by kernel_rfl
theorem zgd:Gg "DOERS" 150:=λ _=>by kernel_rfl
theorem ze1:Gg "is_kind" 169:=λ _=>by kernel_rfl
theorem zdo:Gg "is_deed" 174:=λ _=>by kernel_rfl
theorem z6f (P:S0):P3 (KX P) U1 "MOST_THINGS" = some (some (.int (6) 470)):=by kernel_rfl
theorem z6a (P:S0):P3 (KX P) U1 "MOST_BEGINS" = some (some (.int (24) 472)):=by kernel_rfl
theorem z93 (P:S0):P3 (KX P) U1 "LAST_HAND" = some (some (.int (5) 474)):=by kernel_rfl
theorem z2x (P:S0):P3 (KX P) U1 "GREATEST_ANSWER" = some (some (.int (1000000000000) 476)):=by kernel_rfl
theorem z5c:Gg "ANSWER_WORDS" 175:=λ _=>by kernel_rfl
theorem z8y:Gg "make_tale" 182:=λ _=>by kernel_rfl
theorem z65:Gg "make_things" 187:=λ _=>by kernel_rfl
theorem zc6:Gg "is_thing" 194:=λ _=>by kernel_rfl
theorem z5z:Gg "make_events" 199:=λ _=>by kernel_rfl
theorem zb2:Gg "is_begin" 206:=λ _=>by kernel_rfl
theorem zek:Gg "is_end" 213:=λ _=>by kernel_rfl
theorem zag:Gg "is_event" 220:=λ _=>by kernel_rfl
theorem zde:Gg "is_hand" 227:=λ _=>by kernel_rfl
theorem z92:Gg "is_answer" 234:=λ _=>by kernel_rfl
theorem z6p:Gg "go_by_turns" 241:=λ _=>by kernel_rfl
theorem zgk:Gg "deeds" 248:=λ _=>by kernel_rfl
theorem z6k:Gg "FIRST_WRITE" 249:=λ _=>by kernel_rfl
theorem z6z:Gg "plain_deeds" 254:=λ _=>by kernel_rfl
theorem z9o:Gg "are_plain" 259:=λ _=>by kernel_rfl
theorem z6i:Gg "is_answered" 266:=λ _=>by kernel_rfl
theorem zct:Gg "writers" 273:=λ _=>by kernel_rfl
theorem z5u:Gg "ended_reads" 278:=λ _=>by kernel_rfl
theorem zg3:Gg "zones" 283:=λ _=>by kernel_rfl
theorem zdk:Gg "zone_of" 288:=λ _=>by kernel_rfl
theorem z94:Gg "collision" 295:=λ _=>by kernel_rfl
theorem z71:Gg "first_pair" 302:=λ _=>by kernel_rfl
theorem zcp:Gg "of_kind" 307:=λ _=>by kernel_rfl
theorem zdd:Gg "collide" 314:=λ _=>by kernel_rfl
theorem z4t:Gg "_law_cell_at" 321:=λ _=>by kernel_rfl
theorem zaw:Gg "_law_row" 328:=λ _=>by kernel_rfl
theorem z9h:Gg "_law_take" 335:=λ _=>by kernel_rfl
theorem z5y:Gg "_law_answer" 340:=λ _=>by kernel_rfl
theorem z3q:Gg "_law_exchanged" 345:=λ _=>by kernel_rfl
theorem z9c:Gg "_law_made" 352:=λ _=>by kernel_rfl
theorem z7q:Gg "_law_zones" 357:=λ _=>by kernel_rfl
theorem zap:Gg "_law_low" 364:=λ _=>by kernel_rfl
theorem za0:Gg "_law_due" 371:=λ _=>by kernel_rfl
theorem g_law:Gg "law" 378:=λ _=>by kernel_rfl
noncomputable def kl_FIRST_STATES:List (Str×V):=[("register",.int (0)),("counter",.int (0)),("queue",.ref 86),("set",.ref 87),("cell",.int (0))]
theorem z40 (P:S0):KDict (KX P) P 85 kl_FIRST_STATES:=⟨⟨#[⟨(b0 P "register"),(.str "register" 285),(.int (0) 286)⟩,⟨(b0 P "counter"),(.str "counter" 287),(.int (0) 288)⟩,⟨(b0 P "queue"),(.str "queue" 289),(.ref 86)⟩,⟨(b0 P "set"),(.str "set" 290),(.ref 87)⟩,⟨(b0 P "cell"),(.str "cell" 291),(.int (0) 292)⟩],5,by kernel_rfl,(.cons ⟨⟨_,rfl⟩,rfl,⟨_,rfl⟩⟩ (.cons ⟨⟨_,rfl⟩,rfl,⟨_,rfl⟩⟩ (.cons ⟨⟨_,rfl⟩,rfl,rfl⟩ (.cons ⟨⟨_,rfl⟩,rfl,rfl⟩ (.cons ⟨⟨_,rfl⟩,rfl,⟨_,rfl⟩⟩ .nil)))))⟩,by decide⟩
noncomputable def kl_WORTHS_OF_VERBS:List (Str×V):=[("read",.int (0)),("take",.int (0)),("write",.int (1)),("add",.int (1)),("put",.int (1)),("cut",.int (1)),("has",.int (1)),("swap",.int (2))]
theorem z2e (P:S0):KDict (KX P) P 88 kl_WORTHS_OF_VERBS:=⟨⟨#[⟨(b0 P "read"),(.str "read" 299),(.int (0) 300)⟩,⟨(b0 P "take"),(.str "take" 301),(.int (0) 302)⟩,⟨(b0 P "write"),(.str "write" 303),(.int (1) 304)⟩,⟨(b0 P "add"),(.str "add" 305),(.int (1) 306)⟩,⟨(b0 P "put"),(.str "put" 307),(.int (1) 308)⟩,⟨(b0 P "cut"),(.str "cut" 309),(.int (1) 310)⟩,⟨(b0 P "has"),(.str "has" 311),(.int (1) 312)⟩,⟨(b0 P "swap"),(.str "swap" 313),(.int (2) 314)⟩],8,by kernel_rfl,(.cons ⟨⟨_,rfl⟩,rfl,⟨_,rfl⟩⟩ (.cons ⟨⟨_,rfl⟩,rfl,⟨_,rfl⟩⟩ (.cons ⟨⟨_,rfl⟩,rfl,⟨_,rfl⟩⟩ (.cons ⟨⟨_,rfl⟩,rfl,⟨_,rfl⟩⟩ (.cons ⟨⟨_,rfl⟩,rfl,⟨_,rfl⟩⟩ (.cons ⟨⟨_,rfl⟩,rfl,⟨_,rfl⟩⟩ (.cons ⟨⟨_,rfl⟩,rfl,⟨_,rfl⟩⟩ (.cons ⟨⟨_,rfl⟩,rfl,⟨_,rfl⟩⟩ .nil))))))))⟩,by decide⟩
noncomputable def kl_DOERS:List ((Str×Str)×V):=[(("register","read"),.ref 95),(("register","write"),.ref 102),(("counter","read"),.ref 95),(("counter","add"),.ref 109),(("queue","put"),.ref 116),(("queue","take"),.ref 123),(("set","put"),.ref 130),(("set","cut"),.ref 135),(("set","has"),.ref 142),(("cell","read"),.ref 95),(("cell","write"),.ref 102),(("cell","swap"),.ref 149)]
theorem zep (P:S0):KDictT (KX P) P 150 kl_DOERS:=⟨⟨#[⟨(X0 (o0 [b0 P "register",b0 P "read"])),(.ref 151),(.ref 95)⟩,⟨(X0 (o0 [b0 P "register",b0 P "write"])),(.ref 152),(.ref 102)⟩,⟨(X0 (o0 [b0 P "counter",b0 P "read"])),(.ref 153),(.ref 95)⟩,⟨(X0 (o0 [b0 P "counter",b0 P "add"])),(.ref 154),(.ref 109)⟩,⟨(X0 (o0 [b0 P "queue",b0 P "put"])),(.ref 155),(.ref 116)⟩,⟨(X0 (o0 [b0 P "queue",b0 P "take"])),(.ref 156),(.ref 123)⟩,⟨(X0 (o0 [b0 P "set",b0 P "put"])),(.ref 157),(.ref 130)⟩,⟨(X0 (o0 [b0 P "set",b0 P "cut"])),(.ref 158),(.ref 135)⟩,⟨(X0 (o0 [b0 P "set",b0 P "has"])),(.ref 159),(.ref 142)⟩,⟨(X0 (o0 [b0 P "cell",b0 P "read"])),(.ref 160),(.ref 95)⟩,⟨(X0 (o0 [b0 P "cell",b0 P "write"])),(.ref 161),(.ref 102)⟩,⟨(X0 (o0 [b0 P "cell",b0 P "swap"])),(.ref 162),(.ref 149)⟩],12,by kernel_rfl,(.cons ⟨⟨151,394,395,0,rfl,by kernel_rfl⟩,rfl,rfl⟩ (.cons ⟨⟨152,396,397,0,rfl,by kernel_rfl⟩,rfl,rfl⟩ (.cons ⟨⟨153,398,399,0,rfl,by kernel_rfl⟩,rfl,rfl⟩ (.cons ⟨⟨154,400,401,0,rfl,by kernel_rfl⟩,rfl,rfl⟩ (.cons ⟨⟨155,402,403,0,rfl,by kernel_rfl⟩,rfl,rfl⟩ (.cons ⟨⟨156,404,405,0,rfl,by kernel_rfl⟩,rfl,rfl⟩ (.cons ⟨⟨157,406,407,0,rfl,by kernel_rfl⟩,rfl,rfl⟩ (.cons ⟨⟨158,408,409,0,rfl,by kernel_rfl⟩,rfl,rfl⟩ (.cons ⟨⟨159,410,411,0,rfl,by kernel_rfl⟩,rfl,rfl⟩ (.cons ⟨⟨160,412,413,0,rfl,by kernel_rfl⟩,rfl,rfl⟩ (.cons ⟨⟨161,414,415,0,rfl,by kernel_rfl⟩,rfl,rfl⟩ (.cons ⟨⟨162,416,417,0,rfl,by kernel_rfl⟩,rfl,rfl⟩ .nil))))))))))))⟩,by decide +kernel,by decide⟩
noncomputable abbrev y1j:Stmt:=top 4
noncomputable abbrev y0l:FuncData:=fnX "is_whole" "is_whole" (top 4) "talejudge.basics" 187 20
theorem z3b (P:S0):Fun (KX P) "is_whole" "is_whole" y1j 21 y0l:=z0e
theorem zaf (P:S0):Binds (KX P) y0l ["value"] []:=(z3b P).binds λ _ _ _ _ _ _=>us1 λ _=>rfl
theorem z9r:FnScope ["value"] ["value"] (z07 y1j):=.k
noncomputable abbrev y1b:Stmt:=top 5
noncomputable abbrev y0d:FuncData:=fnX "is_within" "is_within" (top 5) "talejudge.basics" 187 27
theorem z2o (P:S0):Fun (KX P) "is_within" "is_within" y1b 28 y0d:=z0e
theorem z9l (P:S0):Binds (KX P) y0d ["value","greatest"] []:=(z2o P).binds λ _ _ _ _ _ _=>us2 λ _ _=>rfl
theorem z7r:FnScope ["value","greatest"] ["value","greatest"] (z07 y1b):=.k
noncomputable abbrev y1k:Stmt:=top 6
noncomputable abbrev y0m:FuncData:=fnX "is_worth" "is_worth" (top 6) "talejudge.basics" 187 34
theorem z3h (P:S0):Fun (KX P) "is_worth" "is_worth" y1k 35 y0m:=z0e
theorem zc4 (P:S0):Binds (KX P) y0m ["value"] []:=(z3h P).binds λ _ _ _ _ _ _=>us1 λ _=>rfl
theorem z96:FnScope ["value"] ["value"] (z07 y1k):=.k
noncomputable abbrev y1t:Stmt:=top 7
noncomputable abbrev y11:FuncData:=fnX "is_name" "is_name" (top 7) "talejudge.basics" 187 39
theorem z54 (P:S0):Fun (KX P) "is_name" "is_name" y1t 40 y11:=z0e
theorem zcv (P:S0):Binds (KX P) y11 ["value"] []:=(z54 P).binds λ _ _ _ _ _ _=>us1 λ _=>rfl
theorem zc9:FnScope ["value"] ["value"] (z07 y1t):=.k
noncomputable abbrev y0t:Stmt:=top 8
noncomputable abbrev y02:FuncData:=fnX "is_tuple_of" "is_tuple_of" (top 8) "talejudge.basics" 187 46
theorem z1f (P:S0):Fun (KX P) "is_tuple_of" "is_tuple_of" y0t 47 y02:=z0e
theorem z62 (P:S0):Binds (KX P) y02 ["value","many"] []:=(z1f P).binds λ _ _ _ _ _ _=>us2 λ _ _=>rfl
theorem z5a:FnScope ["value","many"] ["value","many"] (z07 y0t):=.k
noncomputable abbrev y1u:Stmt:=top 26
noncomputable abbrev y12:FuncData:=fnX "is_kind" "is_kind" (top 26) "talejudge.store" 283 168
theorem z53 (P:S0):Fun (KX P) "is_kind" "is_kind" y1u 169 y12:=z0e
theorem zd6 (P:S0):Binds (KX P) y12 ["kind"] []:=(z53 P).binds λ _ _ _ _ _ _=>us1 λ _=>rfl
theorem zbc:FnScope ["kind"] ["kind"] (z07 y1u):=.k
noncomputable abbrev y1v:Stmt:=top 27
noncomputable abbrev y13:FuncData:=fnX "is_deed" "is_deed" (top 27) "talejudge.store" 283 173
theorem z56 (P:S0):Fun (KX P) "is_deed" "is_deed" y1v 174 y13:=z0e
theorem zdy (P:S0):Binds (KX P) y13 ["kind","verb","worth"] []:=(z56 P).binds λ _ _ _ _ _ _=>us3 λ _ _ _=>rfl
theorem sc_is_deed:FnScope ["kind","verb","worth","many"] ["kind","verb","worth"] (z07 y1v):=.k
noncomputable abbrev y1c:Stmt:=top 34
noncomputable abbrev y0e:FuncData:=fnX "make_tale" "make_tale" (top 34) "talejudge.tales" 468 181
theorem z2j (P:S0):Fun (KX P) "make_tale" "make_tale" y1c 182 y0e:=z0e
theorem z90 (P:S0):Binds (KX P) y0e ["things","events"] []:=(z2j P).binds λ _ _ _ _ _ _=>us2 λ _ _=>rfl
theorem sc_make_tale:FnScope ["things","events","own_things"] ["things","events"] (z07 y1c):=.k
noncomputable abbrev y0u:Stmt:=top 35
noncomputable abbrev y03:FuncData:=fnX "make_things" "make_things" (top 35) "talejudge.tales" 468 186
theorem z1e (P:S0):Fun (KX P) "make_things" "make_things" y0u 187 y03:=z0e
theorem z6m (P:S0):Binds (KX P) y03 ["things"] []:=(z1e P).binds λ _ _ _ _ _ _=>us1 λ _=>rfl
theorem z55:FnScope ["things"] ["things"] (z07 y0u):=.k
noncomputable abbrev y1l:Stmt:=top 36
noncomputable abbrev y0n:FuncData:=fnX "is_thing" "is_thing" (top 36) "talejudge.tales" 468 193
theorem z3s (P:S0):Fun (KX P) "is_thing" "is_thing" y1l 194 y0n:=z0e
theorem zan (P:S0):Binds (KX P) y0n ["thing"] []:=(z3s P).binds λ _ _ _ _ _ _=>us1 λ _=>rfl
theorem z9p:FnScope ["thing"] ["thing"] (z07 y1l):=.k
noncomputable abbrev y0v:Stmt:=top 37
noncomputable abbrev y04:FuncData:=fnX "make_events" "make_events" (top 37) "talejudge.tales" 468 198
theorem z1g (P:S0):Fun (KX P) "make_events" "make_events" y0v 199 y04:=z0e
theorem z6h (P:S0):Binds (KX P) y04 ["events","kinds"] []:=(z1g P).binds λ _ _ _ _ _ _=>us2 λ _ _=>rfl
theorem z5j:FnScope ["events","kinds"] ["events","kinds"] (z07 y0v):=.k
noncomputable abbrev y1m:Stmt:=top 38
noncomputable abbrev y0o:FuncData:=fnX "is_begin" "is_begin" (top 38) "talejudge.tales" 468 205
theorem z3a (P:S0):Fun (KX P) "is_begin" "is_begin" y1m 206 y0o:=z0e
theorem zaz (P:S0):Binds (KX P) y0o ["event","kinds"] []:=(z3a P).binds λ _ _ _ _ _ _=>us2 λ _ _=>rfl
theorem z97:FnScope ["event","kinds"] ["event","kinds"] (z07 y1m):=.k
noncomputable abbrev y21:Stmt:=top 39
noncomputable abbrev y1d:FuncData:=fnX "is_end" "is_end" (top 39) "talejudge.tales" 468 212
theorem z7p (P:S0):Fun (KX P) "is_end" "is_end" y21 213 y1d:=z0e
theorem zey (P:S0):Binds (KX P) y1d ["event"] []:=(z7p P).binds λ _ _ _ _ _ _=>us1 λ _=>rfl
theorem zd3:FnScope ["event"] ["event"] (z07 y21):=.k
noncomputable abbrev y1n:Stmt:=top 40
noncomputable abbrev y0p:FuncData:=fnX "is_event" "is_event" (top 40) "talejudge.tales" 468 219
theorem z3n (P:S0):Fun (KX P) "is_event" "is_event" y1n 220 y0p:=z0e
theorem zaq (P:S0):Binds (KX P) y0p ["event","word","many"] []:=(z3n P).binds λ _ _ _ _ _ _=>us3 λ _ _ _=>rfl
theorem z9n:FnScope ["event","word","many"] ["event","word","many"] (z07 y1n):=.k
noncomputable abbrev y1w:Stmt:=top 41
noncomputable abbrev y14:FuncData:=fnX "is_hand" "is_hand" (top 41) "talejudge.tales" 468 226
theorem z52 (P:S0):Fun (KX P) "is_hand" "is_hand" y1w 227 y14:=z0e
theorem zd2 (P:S0):Binds (KX P) y14 ["hand"] []:=(z52 P).binds λ _ _ _ _ _ _=>us1 λ _=>rfl
theorem zc2:FnScope ["hand"] ["hand"] (z07 y1w):=.k
noncomputable abbrev y1e:Stmt:=top 42
noncomputable abbrev y0f:FuncData:=fnX "is_answer" "is_answer" (top 42) "talejudge.tales" 468 233
theorem z2f (P:S0):Fun (KX P) "is_answer" "is_answer" y1e 234 y0f:=z0e
theorem z9b (P:S0):Binds (KX P) y0f ["answer"] []:=(z2f P).binds λ _ _ _ _ _ _=>us1 λ _=>rfl
theorem z7s:FnScope ["answer"] ["answer"] (z07 y1e):=.k
noncomputable abbrev y0w:Stmt:=top 43
noncomputable abbrev y05:FuncData:=fnX "go_by_turns" "go_by_turns" (top 43) "talejudge.tales" 468 240
theorem z1d (P:S0):Fun (KX P) "go_by_turns" "go_by_turns" y0w 241 y05:=z0e
theorem z6n (P:S0):Binds (KX P) y05 ["events"] []:=(z1d P).binds λ _ _ _ _ _ _=>us1 λ _=>rfl
theorem sc_go_by_turns:FnScope ["events","busy","event","begins"] ["events"] (z07 y0w):=.k
noncomputable abbrev y22:Stmt:=top 44
noncomputable abbrev y1r:FuncData:=fnX "deeds" "deeds" (top 44) "talejudge.tales" 468 247
theorem zc1 (P:S0):Fun (KX P) "deeds" "deeds" y22 248 y1r:=z0e
theorem zg1 (P:S0):Binds (KX P) y1r ["tale"] []:=(zc1 P).binds λ _ _ _ _ _ _=>us1 λ _=>rfl
theorem sc_deeds:FnScope ["tale","told","numbers","place","event","number","begun"] ["tale"] (z07 y22):=.k
noncomputable abbrev y0x:Stmt:=top 47
noncomputable abbrev y06:FuncData:=fnX "plain_deeds" "plain_deeds" (top 47) "talejudge.zones" 570 253
theorem z1i (P:S0):Fun (KX P) "plain_deeds" "plain_deeds" y0x 254 y06:=z0e
theorem z67 (P:S0):Binds (KX P) y06 ["tale"] []:=(z1i P).binds λ _ _ _ _ _ _=>us1 λ _=>rfl
theorem sc_plain_deeds:FnScope ["tale","told"] ["tale"] (z07 y0x):=.k
noncomputable abbrev y1f:Stmt:=top 48
noncomputable abbrev y0g:FuncData:=fnX "are_plain" "are_plain" (top 48) "talejudge.zones" 570 258
theorem z2h (P:S0):Fun (KX P) "are_plain" "are_plain" y1f 259 y0g:=z0e
theorem z9u (P:S0):Binds (KX P) y0g ["told"] []:=(z2h P).binds λ _ _ _ _ _ _=>us1 λ _=>rfl
theorem sc_are_plain:FnScope ["told","worths"] ["told"] (z07 y1f):=.k
noncomputable abbrev y0y:Stmt:=top 49
noncomputable abbrev y07:FuncData:=fnX "is_answered" "is_answered" (top 49) "talejudge.zones" 570 265
theorem z1l (P:S0):Fun (KX P) "is_answered" "is_answered" y0y 266 y07:=z0e
theorem z64 (P:S0):Binds (KX P) y07 ["deed"] []:=(z1l P).binds λ _ _ _ _ _ _=>us1 λ _=>rfl
theorem z5d:FnScope ["deed"] ["deed"] (z07 y0y):=.k
noncomputable abbrev y1x:Stmt:=top 50
noncomputable abbrev y15:FuncData:=fnX "writers" "writers" (top 50) "talejudge.zones" 570 272
theorem z4x (P:S0):Fun (KX P) "writers" "writers" y1x 273 y15:=z0e
theorem zd5 (P:S0):Binds (KX P) y15 ["told"] []:=(z4x P).binds λ _ _ _ _ _ _=>us1 λ _=>rfl
theorem sc_writers:FnScope ["told","found","deed"] ["told"] (z07 y1x):=.k
noncomputable abbrev y0z:Stmt:=top 51
noncomputable abbrev y08:FuncData:=fnX "ended_reads" "ended_reads" (top 51) "talejudge.zones" 570 277
theorem z1j (P:S0):Fun (KX P) "ended_reads" "ended_reads" y0z 278 y08:=z0e
theorem z60 (P:S0):Binds (KX P) y08 ["told"] []:=(z1j P).binds λ _ _ _ _ _ _=>us1 λ _=>rfl
theorem z59:FnScope ["told"] ["told"] (z07 y0z):=.k
noncomputable abbrev y23:Stmt:=top 52
noncomputable abbrev y1s:FuncData:=fnX "zones" "zones" (top 52) "talejudge.zones" 570 282
theorem zbj (P:S0):Fun (KX P) "zones" "zones" y23 283 y1s:=z0e
theorem zgi (P:S0):Binds (KX P) y1s ["tale"] []:=(zbj P).binds λ _ _ _ _ _ _=>us1 λ _=>rfl
theorem sc_zones:FnScope ["tale","told","found","worth","write","spans"] ["tale"] (z07 y23):=.k
noncomputable abbrev y1y:Stmt:=top 53
noncomputable abbrev y16:FuncData:=fnX "zone_of" "zone_of" (top 53) "talejudge.zones" 570 287
theorem z4o (P:S0):Fun (KX P) "zone_of" "zone_of" y1y 288 y16:=z0e
theorem zd8 (P:S0):Binds (KX P) y16 ["worth","spans"] []:=(z4o P).binds λ _ _ _ _ _ _=>us2 λ _ _=>rfl
theorem sc_zone_of:FnScope ["worth","spans","least","greatest"] ["worth","spans"] (z07 y1y):=.k
noncomputable abbrev y1g:Stmt:=top 54
noncomputable abbrev y0h:FuncData:=fnX "collision" "collision" (top 54) "talejudge.zones" 570 294
theorem z2d (P:S0):Fun (KX P) "collision" "collision" y1g 295 y0h:=z0e
theorem z8x (P:S0):Binds (KX P) y0h ["tale"] []:=(z2d P).binds λ _ _ _ _ _ _=>us1 λ _=>rfl
theorem sc_collision:FnScope ["tale","told","written","number","read"] ["tale"] (z07 y1g):=.k
noncomputable abbrev y19:Stmt:=top 55
noncomputable abbrev y0a:FuncData:=fnX "first_pair" "first_pair" (top 55) "talejudge.zones" 570 301
theorem z1z (P:S0):Fun (KX P) "first_pair" "first_pair" y19 302 y0a:=z0e
theorem z74 (P:S0):Binds (KX P) y0a ["found"] []:=(z1z P).binds λ _ _ _ _ _ _=>us1 λ _=>rfl
theorem sc_first_pair:FnScope ["found","kind","zone","other"] ["found"] (z07 y19):=.k
noncomputable abbrev y1z:Stmt:=top 56
noncomputable abbrev y17:FuncData:=fnX "of_kind" "of_kind" (top 56) "talejudge.zones" 570 306
theorem z4r (P:S0):Fun (KX P) "of_kind" "of_kind" y1z 307 y17:=z0e
theorem zdb (P:S0):Binds (KX P) y17 ["found","kind"] []:=(z4r P).binds λ _ _ _ _ _ _=>us2 λ _ _=>rfl
theorem zbo:FnScope ["found","kind"] ["found","kind"] (z07 y1z):=.k
noncomputable abbrev y20:Stmt:=top 57
noncomputable abbrev y18:FuncData:=fnX "collide" "collide" (top 57) "talejudge.zones" 570 313
theorem z5q (P:S0):Fun (KX P) "collide" "collide" y20 314 y18:=z0e
theorem zco (P:S0):Binds (KX P) y18 ["zone","other"] []:=(z5q P).binds λ _ _ _ _ _ _=>us2 λ _ _=>rfl
theorem zc8:FnScope ["zone","other"] ["zone","other"] (z07 y20):=.k
noncomputable abbrev y0k:Stmt:=top 59
noncomputable abbrev y01:FuncData:=fY "_law_cell_at" "_law_cell_at" (top 59) 320
theorem z19 (P:S0):Fun (KX P) "_law_cell_at" "_law_cell_at" y0k 321 y01:=z0e
theorem z5l (P:S0):Binds (KX P) y01 ["script","k"] []:=(z19 P).binds λ _ _ _ _ _ _=>us2 λ _ _=>rfl
theorem z44:FnScope ["script","k"] ["script","k"] (z07 y0k):=.k
noncomputable abbrev y1o:Stmt:=top 60
noncomputable abbrev y0q:FuncData:=fY "_law_row" "_law_row" (top 60) 327
theorem z3j (P:S0):Fun (KX P) "_law_row" "_law_row" y1o 328 y0q:=z0e
theorem za4 (P:S0):Binds (KX P) y0q ["cell"] []:=(z3j P).binds λ _ _ _ _ _ _=>us1 λ _=>rfl
theorem z9j:FnScope ["cell"] ["cell"] (z07 y1o):=.k
noncomputable abbrev y1h:Stmt:=top 61
noncomputable abbrev y0i:FuncData:=fY "_law_take" "_law_take" (top 61) 334
theorem z2n (P:S0):Fun (KX P) "_law_take" "_law_take" y1h 335 y0i:=z0e
theorem z9v (P:S0):Binds (KX P) y0i ["row","many"] []:=(z2n P).binds λ _ _ _ _ _ _=>us2 λ _ _=>rfl
theorem sc__law_take:FnScope ["row","many","told"] ["row","many"] (z07 y1h):=.k
noncomputable abbrev y10:Stmt:=top 62
noncomputable abbrev y09:FuncData:=fY "_law_answer" "_law_answer" (top 62) 339
theorem z1k (P:S0):Fun (KX P) "_law_answer" "_law_answer" y10 340 y09:=z0e
theorem z6s (P:S0):Binds (KX P) y09 ["row","deed","now","rows","spoilt"] []:=(z1k P).binds λ _ _ _ _ _ _=>us5 λ _ _ _ _ _=>rfl
theorem sc__law_answer:FnScope ["row","deed","now","rows","spoilt","worths"] ["row","deed","now","rows","spoilt"] (z07 y10):=.k
noncomputable abbrev y0c:Stmt:=top 63
noncomputable abbrev y00:FuncData:=fY "_law_exchanged" "_law_exchanged" (top 63) 344
theorem z0y (P:S0):Fun (KX P) "_law_exchanged" "_law_exchanged" y0c 345 y00:=z0e
theorem z33 (P:S0):Binds (KX P) y00 ["row","rows","events"] []:=(z0y P).binds λ _ _ _ _ _ _=>us3 λ _ _ _=>rfl
theorem sc__law_exchanged:FnScope ["row","rows","events","reads","writes","one"] ["row","rows","events"] (z07 y0c):=.k
noncomputable abbrev y1i:Stmt:=top 64
noncomputable abbrev y0j:FuncData:=fY "_law_made" "_law_made" (top 64) 351
theorem z2l (P:S0):Fun (KX P) "_law_made" "_law_made" y1i 352 y0j:=z0e
theorem z91 (P:S0):Binds (KX P) y0j ["cells","most","spoilt"] []:=(z2l P).binds λ _ _ _ _ _ _=>us3 λ _ _ _=>rfl
theorem sc__law_made:FnScope ["cells","most","spoilt","rows","events","held","now","cell","row","hand","deed","verb","worth","late"] ["cells","most","spoilt"] (z07 y1i):=.k
noncomputable abbrev y1a:Stmt:=top 65
noncomputable abbrev y0b:FuncData:=fY "_law_zones" "_law_zones" (top 65) 356
theorem z1u (P:S0):Fun (KX P) "_law_zones" "_law_zones" y1a 357 y0b:=z0e
theorem z7v (P:S0):Binds (KX P) y0b ["rows"] []:=(z1u P).binds λ _ _ _ _ _ _=>us1 λ _=>rfl
theorem sc__law_zones:FnScope ["rows","writes","one","told","worth","reads","ends","greatest"] ["rows"] (z07 y1a):=.k
noncomputable abbrev y1p:Stmt:=top 66
noncomputable abbrev y0r:FuncData:=fY "_law_low" "_law_low" (top 66) 363
theorem z3w (P:S0):Fun (KX P) "_law_low" "_law_low" y1p 364 y0r:=z0e
theorem zbm (P:S0):Binds (KX P) y0r ["zone"] []:=(z3w P).binds λ _ _ _ _ _ _=>us1 λ _=>rfl
theorem z9e:FnScope ["zone"] ["zone"] (z07 y1p):=.k
noncomputable abbrev y1q:Stmt:=top 67
noncomputable abbrev y0s:FuncData:=fY "_law_due" "_law_due" (top 67) 370
theorem z3o (P:S0):Fun (KX P) "_law_due" "_law_due" y1q 371 y0s:=z0e
theorem zbd (P:S0):Binds (KX P) y0s ["rows"] []:=(z3o P).binds λ _ _ _ _ _ _=>us1 λ _=>rfl
theorem sc__law_due:FnScope ["rows","begun","one","number","told","k","other","zone"] ["rows"] (z07 y1q):=.k
noncomputable abbrev y24:Stmt:=top 68
noncomputable abbrev fd_law:FuncData:=fY "law" "law" (top 68) 377
theorem F_law (P:S0):Fun (KX P) "law" "law" y24 378 fd_law:=z0e
theorem sc_law:FnScope ["script","tale","rows","told"] ["script"] (z07 y24):=.k
section
variable {P:Program} {w:O0} {mg:Str->Option Value} {base:Heap}
def z1p:Sp:=λ vs H Q _=>∃x T,vs=[x]/\TagOf H x T/\Q (.bl (decide (T = "int"))) H
theorem z8z (T:TX (kx w) mg):Fo P w mg base CX0 1 21 y0l ["value"] z1p:=by
 refine (z3b w.params).ok z9r (λ b H Q E h=>?_) (λ d A e s H b Q E c h=>?_)
 ·obtain ⟨x,t,rfl,_⟩:=h;rfl
 ·obtain ⟨x,t,rfl,a,q⟩:=h;refine ⟨_,(z05 (ps_ret (pe_and (z0a z0j rfl (T.no (z0h _)) D3 (z00 (pv 0) (z00 (z1h (v:=.ty "int") rfl (T.no (n_int _)) boot_int rfl) pa_nil))) (pe_one (pe_not (z0a z0j rfl (T.no (z0h _)) D3 (z00 (pv 0) (z00 (z1h (v:=.ty "bool") rfl (T.no (n_bool _)) boot_bool rfl) pa_nil)))))))),?_⟩;refine ⟨_,rfl,_,_,_,rfl,a,by decide,_,rfl,?_⟩;by_cases h1:instB t "int" = true
  ·rw [if_pos h1];refine ⟨_,rfl,_,_,_,rfl,a,by decide,_,rfl,?_⟩;rw [z51 a (by decide)];have:(!decide (t = "bool"))=decide (t = "int"):=by rcases a.one with rfl|rfl|rfl|rfl|rfl|rfl|rfl<;>revert h1<;>decide
   rw [this];exact q
  ·rw [if_neg h1];have:decide (t = "int")=false:=by rcases a.one with rfl|rfl|rfl|rfl|rfl|rfl|rfl<;>revert h1<;>decide
   rw [this] at q;exact q
def z1x:Sp:=λ vs H Q _=>∃x T g,vs=[x,.int g]/\TagOf H x T/\Q (.bl (z0t x g)) H
theorem z7c (T:TX (kx w) mg) (c0:Ca P w mg base "is_whole" ["value"] 1 z1p):Fo P w mg base CX0 2 28 y0d ["value","greatest"] z1x:=by
 refine (z2o w.params).ok z7r (λ c H Q E h=>?_) (λ d A e s H c Q E b h=>?_)
 ·obtain ⟨x,t,g,rfl,_⟩:=h;rfl
 ·obtain ⟨x,t,g,rfl,a,q⟩:=h;refine ⟨_,(z05 (ps_ret (pe_and (pe_cal c0 (b.mono (by decide)) rfl (z00 (pv 0) pa_nil)) (pe_one (z7o op_le op_le (pe_un un_neg (pv 1)) (pv 0) (pv 1)))))),?_⟩;refine ⟨_,rfl,x,t,rfl,a,_,rfl,?_⟩;by_cases h1:t = "int"
  ·subst h1;obtain ⟨i,rfl⟩:=a.int;refine iteT ?_;refine ⟨_,rfl,_,rfl,_,rfl,_,_,rfl,rfl,_,rfl,?_⟩;unfold z0t at q;dsimp only at q;by_cases h2:-g<=i
   ·rw [decide_eq_true h2] at q⊢;refine iteT ⟨_,rfl,_,_,rfl,rfl,?_⟩;rw [i5] at q;exact q
   ·rw [decide_eq_false h2] at q⊢;refine iteF ?_;rw [K5] at q;exact q
  ·rw [decide_eq_false h1];refine iteF ?_;rw [noInt a h1] at q;exact q
def z4e:Sp:=λ vs H Q _=>∃x T,vs=[x]/\TagOf H x T/\Q (.bl (z0t x 1000000000)) H
theorem z9k (T:TX (kx w) mg) (c0:Ca P w mg base "is_within" ["value","greatest"] 2 z1x):Fo P w mg base CX0 3 35 y0m ["value"] z4e:=by
 refine (z3h w.params).ok z96 (λ b H Q E h=>?_) (λ d A e s H b Q E a h=>?_)
 ·obtain ⟨x,t,rfl,_⟩:=h;rfl
 ·obtain ⟨x,t,rfl,c,q⟩:=h;refine ⟨_,(z05 (ps_ret (pe_cal c0 (a.mono (by decide)) rfl (z00 (pv 0) (z00 (z1a (v:=.int (1000000000)) rfl (T.of (z3i _)) ⟨_,rfl⟩) pa_nil))))),?_⟩;exact ⟨_,rfl,x,t,1000000000,rfl,c,q⟩
def z0w:Sp:=λ vs H Q _=>∃x T m,vs=[x,.int m]/\TagOf H x T/\Q (.bl (match tupOf H x with|some xs=>decide ((xs.length:Int)=m)|none=>false)) H
theorem z5k (T:TX (kx w) mg):Fo P w mg base CX0 1 47 y02 ["value","many"] z0w:=by
 refine (z1f w.params).ok z5a (λ f H Q E h=>?_) (λ j A l s H f Q E k h=>?_)
 ·obtain ⟨x,t,g,rfl,_⟩:=h;rfl
 ·obtain ⟨x,t,g,rfl,b,q⟩:=h;refine ⟨_,(z05 (ps_ret (pe_and (z0a z0j rfl (T.no (z0h _)) D3 (z00 (pv 0) (z00 (z1h (v:=.ty "tuple") rfl (T.no (z8j _)) S9 rfl) pa_nil))) (pe_one (z13 opEq (z0a z0r rfl (T.no (n_len _)) M3 (z00 (pv 0) pa_nil)) (pv 1) (nomark _)))))),?_⟩;refine ⟨_,rfl,_,_,_,rfl,b,by decide,_,rfl,?_⟩;rw [z51 b (by decide)];by_cases h1:t = "tuple"
  ·subst h1;obtain ⟨a,c,rfl,d⟩:=b.tuple;refine iteT ⟨_,rfl,.inl ⟨a,c,rfl,.inr (SqT.of d),_,rfl,rfl,?_⟩⟩;have e:tupOf H (.ref a)=some c:=by unfold tupOf;dsimp only;rw [d]
   rw [e] at q;have i:decide (V.int (c.length:Int)=V.int g)=decide ((c.length:Int)=g):=by simp
   rw [i];exact q
  ·rw [decide_eq_false h1];refine iteF ?_;rw [noTup b h1] at q;exact q
noncomputable def kindB (x:V):Bool:=match x with
 | .str z=>(kl_FIRST_STATES.lookup z).isSome
 | _=>false
def z3g:Sp:=λ vs H Q _=>∃x T,vs=[x]/\TagOf H x T/\Q (.bl (kindB x)) H
theorem zb3 (T:TX (kx w) mg):Fo P w mg base CX0 1 169 y12 ["kind"] z3g:=by
 refine (z53 w.params).ok zbc (λ b H Q E h=>?_) (λ d A e s H b Q E c h=>?_)
 ·obtain ⟨x,t,rfl,_⟩:=h;rfl
 ·obtain ⟨x,t,rfl,a,q⟩:=h;refine ⟨_,(z05 (ps_ret (pe_and (z0a z0j rfl (T.no (z0h _)) D3 (z00 (pv 0) (z00 (z1h (v:=.ty "str") rfl (T.no (n_str _)) T9 rfl) pa_nil))) (pe_one (z13 (zf7 (z40 _)) (pv 0) (z1a (v:=.ref 85) rfl (T.of (z5m _)) rfl) (by with_unfolding_all rfl)))))),?_⟩;refine ⟨_,rfl,_,_,_,rfl,a,by decide,_,rfl,?_⟩;rw [z51 a (by decide)];by_cases h1:t = "str"
  ·subst h1;obtain ⟨z,rfl⟩:=a.str;exact iteT ⟨_,rfl,z,rfl,rfl,q⟩
  ·rw [decide_eq_false h1];refine iteF ?_;cases x with
   | str z=>exact absurd a h1
   | _=>exact q
noncomputable def formOf (k v:Str):Int:=match kl_DOERS.lookup (k,v) with
 | none=>-1
 | some _=>(match kl_WORTHS_OF_VERBS.lookup v with|some (.int i)=>i|_=>-1)
noncomputable def deedB (H:Hp) (k v x:V):Bool:=match k,v with
 | .str a,.str b=>if formOf a b=0 then decide (x=.non) else if formOf a b=1 then z0t x 1000000000 else if formOf a b=2 then
   (match tupOf H x with|some xs=>decide (xs.length=2) && xs.all λ y=>z0t y 1000000000|none=>false) else false
 | _,_=>false
theorem z66 {a b:Str} {v:V} (h:kl_DOERS.lookup (a,b)=some v):(kl_FIRST_STATES.lookup a).isSome=true/\∃i,kl_WORTHS_OF_VERBS.lookup b=some (.int i)/\(i=0\/i=1\/i=2):=by
 have m:=z7i h;have all :∀p∈kl_DOERS,(kl_FIRST_STATES.lookup p.1.1).isSome=true/\(kl_WORTHS_OF_VERBS.lookup p.1.2=some (.int 0)\/kl_WORTHS_OF_VERBS.lookup p.1.2=some (.int 1)\/kl_WORTHS_OF_VERBS.lookup p.1.2=some (.int 2)):=by decide +kernel
 obtain ⟨d,c⟩:=all _ m;refine ⟨d,?_⟩;rcases c with c|c|c
 ·exact ⟨0,c,.inl rfl⟩
 ·exact ⟨1,c,.inr (.inl rfl)⟩
 ·exact ⟨2,c,.inr (.inr rfl)⟩
def z5v:Sp:=λ vs H Q _=>∃k v x Tk Tv Tx,vs=[k,v,x]/\TagOf H k Tk/\TagOf H v Tv/\TagOf H x Tx/\Flat H x/\∀H',Same H H'->Q (.bl (deedB H k v x)) H'
theorem zbk (T:TX (kx w) mg) (c0:Ca P w mg base "is_kind" ["kind"] 1 z3g) (c1:Ca P w mg base "is_worth" ["value"] 3 z4e) (c2:Ca P w mg base "is_tuple_of" ["value","many"] 1 z0w):Fo P w mg base CX0 4 174 y13 ["kind","verb","worth"] z5v:=by
 refine (z56 w.params).ok sc_is_deed (λ Y H Q E h=>?_) (λ a1 A a2 s H Y Q E n h=>?_)
 ·obtain ⟨k,v,x,S,G,B,rfl,_⟩:=h;rfl
 ·obtain ⟨k,v,x,S,G,B,rfl,hk,r,F,W,q⟩:=h;refine ⟨_,(z06 (ps_if (PW.pt (pw_or (pt_not (pt_val (pe_cal c0 (n.mono (by decide)) rfl (z00 (pv 0) pa_nil)) (λ _=>rfl))) (pw_or (pt_not (pt_val (z0a z0j rfl (T.no (z0h _)) D3 (z00 (pv 1) (z00 (z1h (v:=.ty "str") rfl (T.no (n_str _)) T9 rfl) pa_nil))) (λ _=>rfl))) (pw_or1 (z09 (z79 (hu_of n) (zep _)) (pe_tup (z00 (pv 0) (z00 (pv 1) pa_nil))) (z1a (v:=.ref 150) rfl (T.of (zgd _)) rfl) (by with_unfolding_all rfl))))))
   (z05 (ps_ret pe_bl))
   z0d)
   (z06 (ps_set (i:=3) sc_is_deed.nd rfl (C1 rfl) (pe_ix (ix_kd (z2e _)) (z1a (v:=.ref 88) rfl (T.of (z2y _)) rfl) (pv 1) (λ _ _=>rfl)))
   (z06 (ps_if (z09 opEq (pv 3) pe_int (nomark _))
   (z05 (ps_ret (z13 op_isN (pv 2) pe_non (nomark _))))
   z0d)
   (z06 (ps_if (z09 opEq (pv 3) pe_int (nomark _))
   (z05 (ps_ret (pe_cal c1 (n.mono (by decide)) rfl (z00 (pv 2) pa_nil))))
   z0d)
   (z05 (ps_ret (pe_and (pe_cal c2 (n.mono (by decide)) rfl (z00 (pv 2) (z00 (pv 3) pa_nil))) (pe_one (z0a (z23 rfl) rfl (T.no (n_all _)) U9 (z00 (pe_cg (xs:=["part"]) (g:=gName 0) (fr:=[]) (pi_tup (pv 2)) (λ _ _ _ _ _=>(pg_cn (N:=["part"]) 0)) (λ _ _ _ _ _=>pf_nil) (λ _ _ _ _ _=>(pe_cal c1 (n.mono (by decide)) rfl (z00 (pv 0) pa_nil)))) pa_nil)))))))))),?_⟩
  refine ⟨_,rfl,k,S,rfl,hk,_,rfl,?_⟩;have O:deedB H k v x=false->Q (.bl false) H:=λ e=>by have:=q H (Same.refl H);rw [e] at this;exact this
  by_cases j :∃a,k=.str a/\(kl_FIRST_STATES.lookup a).isSome=true
  ·obtain ⟨a,rfl,j⟩:=j;have Z:kindB (.str a)=true:=j;rw [Z];refine iteF ?_;refine ⟨_,rfl,_,_,_,rfl,r,by decide,_,rfl,?_⟩;rw [z51 r (by decide)];by_cases o:G = "str"
   ·subst o;obtain ⟨b,rfl⟩:=r.str;refine iteF ?_;refine ⟨_,rfl,_,rfl,?_⟩;refine ⟨w_2,λ p U=>⟨p,a,b,rfl,z01,rfl,_,rfl,?_⟩⟩;have d:Same H (upd H p (.tup [.str a,.str b])):=Same.upd U;cases h3:kl_DOERS.lookup (a,b) with
    | none=>
     refine iteT ?_;have:=q _ d;have e:deedB H (.str a) (.str b) x=false:=by unfold deedB formOf;dsimp only;rw [h3];rfl
     rw [e] at this;exact this
    | some z=>
     refine iteF ?_;obtain ⟨_,i,M,h5⟩:=z66 h3;have t:formOf a b=i:=by unfold formOf;rw [h3];dsimp only;rw [M]
     refine ⟨_,rfl,b,.int i,rfl,rfl,M,?_⟩;refine ⟨_,rfl,rfl,_,rfl,?_⟩;rcases h5 with rfl|rfl|rfl
     ·refine iteT ⟨_,rfl,rfl,?_⟩;have:=q _ d;have e:deedB H (.str a) (.str b) x=decide (x=.non):=by unfold deedB;dsimp only;rw [t];rfl
      rw [e] at this;exact this
     ·refine iteF ⟨_,rfl,rfl,_,rfl,?_⟩;refine iteT ⟨_,rfl,x,B,rfl,F.same d,?_⟩;have:=q _ d;have e:deedB H (.str a) (.str b) x=z0t x 1000000000:=by unfold deedB;dsimp only;rw [t];rfl
      rw [e] at this;exact this
     ·refine iteF ⟨_,rfl,rfl,_,rfl,?_⟩;refine iteF ⟨_,rfl,_,rfl,x,B,2,rfl,F.same d,_,rfl,?_⟩;rw [zcc F d];have e:deedB H (.str a) (.str b) x=(match tupOf H x with|some xs=>decide (xs.length=2) && xs.all λ y=>z0t y 1000000000|none=>false):=by unfold deedB;dsimp only;rw [t];rfl
      rw [e] at q;cases ht:tupOf H x with
      | none=>rw [ht] at q;exact iteF (q _ d)
      | some xs=>
       rw [ht] at q;dsimp only at q⊢;by_cases m:xs.length=2
       ·have u:((xs.length:Nat):Int)=2:=by omega
        rw [if_pos (decide_eq_true u)];rw [decide_eq_true m,i5] at q;obtain ⟨c,rfl,hc⟩:=za7 ht;have a0:xs.length<=sizeLine:=by rw [m];decide
        refine e_cb1 ?_;refine z8h (K:=KX w.params) (a:=c) (xs:=xs) (H1:=upd H p (.tup [.str a,.str b])) (λ _=>true) (λ i y _=>y=.bl (z0t (xs[i]?.getD .non) 1000000000)) (λ _ _ _ _ _ z=>z) (λ R h=>⟨_,rfl,h⟩) (SqT.of (d _ _ hc)) a0 ?_ ?_
        ·intro i L C H' D I KT KF k1 k2;obtain ⟨Ty,ty⟩:=(W xs ht).2 C (d0 I);refine ⟨[some C],rfl,rfl,iteT ?_⟩;exact ⟨_,rfl,C,Ty,rfl,(ty.same d).same D,k1 rfl _ _ (Same.refl _) (by rw [I];rfl)⟩
        ·intro l H' X D m J;rw [List.filter_eq_self.mpr (λ _ _=>rfl)] at J;have ey:X=xs.map λ y=>V.bl (z0t y 1000000000):=by
          rw [z16 (f:=λ i=>V.bl (z0t (xs[i]?.getD .non) 1000000000)) J];apply List.ext_getElem
          ·simp
          ·intro i j o;have L:i < xs.length:=by simpa using j
           simp [J0 L]
         subst ey;refine ⟨l,_,rfl,SqL.of z01,λ y hy=>?_,?_⟩
         ·obtain ⟨z,_,rfl⟩:=List.mem_map.mp hy;exact ⟨_,rfl⟩
         ·have e9:((xs.map λ y=>V.bl (z0t y 1000000000)).all λ y=>decide (y=V.bl true))=xs.all λ y=>z0t y 1000000000:=by rw [List.all_map];congr 1;funext y;simp
          rw [e9];exact q _ ((d.trans D).trans (Same.upd m))
       ·have u:¬ ((xs.length:Nat):Int)=2:=by omega
        rw [if_neg (by rw [decide_eq_false u];exact M0)];rw [decide_eq_false m,K5] at q;exact q _ d
   ·rw [decide_eq_false o];refine iteT ?_;exact O (by unfold deedB;cases v with|str z=>exact absurd r o|_=>rfl)
  ·have e1:kindB k=false:=by
    cases k with
    | str z=>exact Bool.eq_false_iff.mpr λ e=>j ⟨z,rfl,e⟩
    | _=>rfl
   rw [e1];refine iteT ?_;refine O ?_;cases k with
   | str a=>
    cases v with
    | str b=>
     unfold deedB formOf;dsimp only;cases h3:kl_DOERS.lookup (a,b) with
     | none=>rfl
     | some z=>exact absurd ⟨a,rfl,(z66 h3).1⟩ j
    | _=>rfl
   | _=>rfl
inductive Ev
 | beg (h:Int) (n v x:V)
 | fin (h:Int) (a:V)
noncomputable def EvAt (K:c0) (H:Hp):Ev->V->Prop
 | .beg h n v x,y=>∃p,y=.ref p/\SqT K H p [.str "begin",.int h,n,v,x]
 | .fin h a,y=>∃p,y=.ref p/\SqT K H p [.str "end",.int h,a]
structure Rc where
 h:Int
 n:V
 v:V
 x:V
 a:V
 b:Nat
 e:Option Nat
noncomputable def endV:Option Nat->V
 | none=>.non
 | some i=>.int i
def RcAt (K:c0) (H:Hp) (r:Rc) (y:V):Prop:=∃p,y=.ref p/\SqT K H p [.int r.h,r.n,r.v,r.x,r.a,.int r.b,endV r.e]
def Tups (K:c0) (H H':Hp):Prop:=∀a xs,SqT K H a xs->SqT K H' a xs
theorem Tups.of {K:c0} {H H':Hp} (s:Same H H'):Tups K H H':=λ _ _ q=>s.seqT q
theorem Tups.lst {K:c0} {H:Hp} {l:Addr} {o:HO} {zs:List V} (e:H l=some (.lst zs)):Tups K H (upd H l o):=λ _ _ q=>q.wrote e
theorem Tups.dict {K:c0} {H:Hp} {l:Addr} {o:HO} {kvs:List (Key×V)} (e:H l=some (.dK kvs)):Tups K H (upd H l o):=λ a b h=>by
 rcases h with (h|⟨ob,h⟩)|h
 ·exact .inl (.inl (by rw [upd_ne (ne_of h e (by intro z;cases z))];exact h))
 ·exact .inl (.inr ⟨ob,by rw [upd_ne (ne_of h e (by intro z;cases z))];exact h⟩)
 ·exact .inr h
theorem zeb {n j:Nat} (h:j < n):ixN n (j:Nat)=some j:=by unfold ixN;rw [if_pos (by omega),if_pos (by omega)];rfl
theorem Same.keep {H H':Hp} {l:Addr} {o:HO} (s:Same H H') (n:H l=none):Same H (upd H' l o):=λ a x e=>by rw [upd_ne (z0g e n)];exact s a x e
theorem z0n {α β:Type} {R:α->β->Prop} {x:α} {y:β} :∀{xs:List α} {ys:List β},All2 R xs ys->R x y->All2 R (xs++[x]) (ys++[y])
 | _,_,.nil,h=>.cons h .nil
 | _,_,.cons a r,h=>.cons a (z0n r h)
theorem zal {κ:Type} [DecidableEq κ] {kvs:List (κ×V)} {k:κ} {v:V}:(putK kvs k v).length<=kvs.length + 1:=by
 unfold putK;by_cases z:(kvs.any λ a=>decide (a.1=k))=true
 ·rw [if_pos z,C0];omega
 ·rw [if_neg z,L0];exact A0 _
noncomputable def lastI (h:Int) (hs:List Int):Option Nat:=(hs.foldl (λ (acc:Nat×Option Nat) k=>(acc.1 + 1,if k=h then some acc.1 else acc.2)) (0,none)).2
theorem lastF (h:Int) :∀hs:List Int,(hs.foldl (λ (acc:Nat×Option Nat) k=>(acc.1 + 1,if k=h then some acc.1 else acc.2)) (0,none)).1=hs.length:=by
 have b :∀(hs:List Int) (a:Nat×Option Nat),(hs.foldl (λ (acc:Nat×Option Nat) k=>(acc.1 + 1,if k=h then some acc.1 else acc.2)) a).1=a.1 + hs.length:=by
  intro hs;induction hs with
  | nil=>intro a;rfl
  | cons k hs ih=>intro a;rw [Q8,ih,A1];show a.1 + 1 + hs.length=_;omega
 intro hs;rw [b hs (0,none)];simp
theorem z27 (h k:Int) (hs:List Int):lastI h (hs++[k])=if k=h then some hs.length else lastI h hs:=by unfold lastI;rw [g8];show (if k=h then some _ else _)=_;rw [lastF]
theorem z7t {h:Int} {hs:List Int} {j:Nat} (e:lastI h hs=some j):j < hs.length:=by
 have c :∀(hs:List Int) (a:Nat×Option Nat),(∀j,a.2=some j->j < a.1)->∀j,(hs.foldl (λ (acc:Nat×Option Nat) k=>(acc.1 + 1,if k=h then some acc.1 else acc.2)) a).2=some j->j < a.1 + hs.length:=by
  intro hs;induction hs with
  | nil=>intro a b j e;exact b j e
  | cons k hs ih=>
   intro a b j e;rw [Q8] at e;have:=ih (a.1 + 1,if k=h then some a.1 else a.2) (λ j e=>by
    dsimp only at e⊢;by_cases z:k=h
    ·rw [if_pos z] at e;cases e;omega
    ·rw [if_neg z] at e;have:=b j e;omega) j e
   rw [A1];dsimp only at this;omega
 have:=c hs (0,none) (λ j e=>by cases e) j e;simpa using this
noncomputable def dstep (i:Nat) (rs:List Rc):Ev->List Rc
 | .beg h n v x=>rs++[⟨h,n,v,x,.non,i,none⟩]
 | .fin h a=>match lastI h (rs.map Rc.h) with|some j=>rs.modify j (λ r=>{ r with a:=a,e:=some i })|none=>rs
noncomputable def dAll:Nat->List Rc->List Ev->List Rc
 | _,rs,[]=>rs
 | i,rs,e :: es=>dAll (i + 1) (dstep i rs e) es
noncomputable def dWf:Nat->List Rc->List Ev->Prop
 | _,_,[]=>True
 | i,rs,e :: es=>(∀h a,e=.fin h a->(lastI h (rs.map Rc.h)).isSome=true)/\dWf (i + 1) (dstep i rs e) es
theorem RcAt.tups {K:c0} {H H':Hp} {r:Rc} {y:V} (t:Tups K H H') (h:RcAt K H r y):RcAt K H' r y:=h.elim λ p z=>⟨p,z.1,t _ _ z.2⟩
theorem EvAt.tups {K:c0} {H H':Hp} (t:Tups K H H') :∀{e:Ev} {y:V},EvAt K H e y->EvAt K H' e y
 | .beg h n v x,_,z=>z.elim λ p z=>⟨p,z.1,t _ _ z.2⟩
 | .fin h a,_,z=>z.elim λ p z=>⟨p,z.1,t _ _ z.2⟩
theorem z4h {α β:Type} {R:α->β->Prop} {f:α->α} {y:β} :∀{xs:List α} {ys:List β} {j:Nat} {x:α},All2 R xs ys->xs[j]? = some x->R (f x) y->All2 R (xs.modify j f) (ys.set j y)
 | _,_,_,_,.nil,e,_=>by simp at e
 | _,_,0,x,.cons a r,e,h=>by rw [V1] at e;cases e;exact .cons h r
 | _,_,j + 1,x,.cons a r,e,h=>by rw [E1] at e;exact .cons a (z4h r e h)
theorem z48 {α β:Type} {R:α->β->Prop} :∀{xs:List α} {ys:List β} {i:Nat} {x:α},All2 R xs ys->xs[i]? = some x->∃y,ys[i]? = some y/\R x y
 | _,_,i,x,.nil,e=>by simp at e
 | _,_,0,x,.cons a _,e=>by rw [V1] at e;cases e;exact ⟨_,V1,a⟩
 | _,_,i + 1,x,.cons _ r,e=>by rw [E1] at e;obtain ⟨y,b,c⟩:=z48 r e;exact ⟨y,by rw [E1];exact b,c⟩
def zb7 (K:c0):Sp:=λ vs H Q _=>∃(t te:Addr) (th:V) (ys:List V) (es:List Ev),vs=[.ref t]/\SqT K H t [th,.ref te]/\SqT K H te ys/\All2 (EvAt K H) es ys/\es.length<=100/\dWf 0 [] es/\
 ∀l zs H',Same H H'->H l=none->H' l=some (.lst zs)->All2 (RcAt K H') (dAll 0 [] es) zs->Q (.ref l) H'
theorem zfb (T:TX (kx w) mg):Fo P w mg base CX0 1 248 y1r ["tale"] (zb7 (kx w)):=by
 refine (zc1 w.params).ok sc_deeds (λ vs H Q E h=>?_) (λ c4 A c3 s H vs Q E hr h=>?_)
 ·obtain ⟨t,te,th,ys,C,rfl,_⟩:=h;rfl
 ·obtain ⟨t,te,th,ys,C,rfl,st,se,al,hl,wf,q⟩:=h;refine ⟨_,(z06 (ps_set (i:=1) sc_deeds.nd rfl (C1 rfl) (pe_lst pa_nil))
   (z06 (ps_set (i:=2) sc_deeds.nd rfl (C1 rfl) z7k)
   (z06 (ps_for Q1 rfl (zfj rfl (T.no (z4i _)) (z00 (pe_ix ix_seq (pv 0) pe_int (λ _ _=>rfl)) pa_nil)) (pg_tup rfl (z0l (z0m (i:=3) sc_deeds.nd rfl (C1 rfl)) (z0l (z0m (i:=4) sc_deeds.nd rfl (C1 rfl)) z2a)))
   (z05 (ps_if (z09 opEq (pe_ix ix_seq (pv 4) pe_int (λ _ _=>rfl)) pe_str (nomark _))
   (z06 (z4g (hu_of hr) (pv 2) (pe_ix ix_seq (pv 4) pe_int (λ _ _=>rfl)) (z0a z0r rfl (T.no (n_len _)) M3 (z00 (pv 1) pa_nil)) rfl)
   (z05 (z20 (z12 (pv 1) (z00 (pe_op opAdd (z2c slSeq (pv 4) (z34 pe_int) z6t) (pe_tup (z00 pe_non (z00 (pv 3) (z00 pe_non pa_nil))))) pa_nil)))))
   (z06 (ps_set (i:=5) sc_deeds.nd rfl (C1 rfl) (z3k (hu_of hr) (pv 2) (pe_ix ix_seq (pv 4) pe_int (λ _ _=>rfl)) (λ _ _=>rfl)))
   (z06 (ps_set (i:=6) sc_deeds.nd rfl (C1 rfl) (pe_ix ix_seq (pv 1) (pv 5) (λ _ _=>rfl)))
   (z05 (ps_asg (pe_op opAdd (z2c slSeq (pv 6) z6t (z34 pe_int)) (pe_tup (z00 (pe_ix ix_seq (pv 4) pe_int (λ _ _=>rfl)) (z00 (pe_ix ix_seq (pv 6) pe_int (λ _ _=>rfl)) (z00 (pv 3) pa_nil))))) (pg_sub (pv 1) (pv 5) z1w))))))))
   (z05 (ps_ret (pv 1)))))),?_⟩
  refine ⟨w_0,λ l a0=>?_⟩;intro d a2;have U:l≠d:=z0g z01 a2;have s0:upd H l (.lst []) d=none->H d=none:=λ z=>by rwa [upd_ne U.symm] at z
  have s2:Same H (upd (upd H l (.lst [])) d (.dK [])):=(Same.upd a0).trans (Same.upd a2);have e1:upd (upd H l (.lst [])) d (.dK []) l=some (.lst []):=by rw [upd_ne U];exact z01
  have e2:upd (upd H l (.lst [])) d (.dK []) d=some (.dK []):=z01;generalize upd (upd H l (.lst [])) d (.dK [])=H2 at s2 e1 e2⊢;have b6:=z04 al;refine ⟨_,rfl,.inr (.inl ⟨t,_,1,.ref te,rfl,rfl,s2.seqT st,z03 (j:=1) rfl,te,ys,rfl,s2.seqT se,?_⟩)⟩;refine zdj (K:=KX w.params) (a:=te) (xs:=ys) (λ i σ O=>∃c f g,O l=some (.lst f)/\All2 (RcAt (kx w) O) c f/\O d=some (.dK g)/\g.length<=i/\c.length<=i/\(∀h,valV g (.inl h)=(lastI h (c.map Rc.h)).map λ j=>V.int (j:Nat))/\dAll i c (C.drop i)=dAll 0 [] C/\dWf i c (C.drop i)/\Same H O/\∃x3 x4 x5 x6,σ=[some (.ref t),some (.ref l),some (.ref d),x3,x4,x5,x6])
   ⟨[],[],[],e1,.nil,e2,A0 _,A0 _,λ h=>rfl,by rw [G5],by rw [G5];exact wf,s2,_,_,_,_,rfl⟩ (λ i σ O h=>?_) ?_ ?_
  ·obtain ⟨c,f,g,_,_,_,_,_,_,_,_,s',_⟩:=h;exact s'.seqT se
  ·rintro i y σ Z p hy ⟨c,f,g,el,ar,ed,hk,hr',hv,D,dw,s3,x3,x4,x5,x6,rfl⟩ hp;obtain ⟨e,he,ev⟩:=z08 al hy;obtain ⟨hi,ee⟩:=List.getElem?_eq_some_iff.mp he;have dr:C.drop i=e :: C.drop (i + 1):=by rw [D6 hi,ee]
   rw [dr] at D dw;have s4:=s3.trans (Same.upd (o:=.tup [.int i,y]) hp);have Y:=(Same.upd (o:=.tup [.int i,y]) hp) _ _ el;have M:=(Same.upd (o:=.tup [.int i,y]) hp) _ _ ed;have N:=z02 (λ a b z=>RcAt.tups (.of (Same.upd (o:=.tup [.int i,y]) hp)) z) ar;have a9:upd Z p (.tup [.int i,y]) p=some (.tup [.int i,y]):=z01;generalize upd Z p (.tup [.int i,y])=H4 at s4 Y M N a9⊢;have b3:=EvAt.tups (.of s4) ev;refine ⟨p,_,rfl,SqT.of a9,rfl,.int i,_,rfl,y,_,rfl,rfl,?_⟩;have lz:f.length=c.length:=z04 N;have a8:100<=sizeLine:=by decide
   have b2:i < 100:=V0 hi hl;cases e with
   | beg h n v x=>
    obtain ⟨I,rfl,J⟩:=b3;refine ⟨_,rfl,.inr (.inl ⟨I,_,0,.str "begin",rfl,rfl,J,z03 (j:=0) rfl,rfl,_,rfl,iteP (decide_eq_true rfl) ?_⟩)⟩;refine ⟨_,rfl,.inl ⟨l,f,rfl,.inl (SqL.of Y),⟨_,rfl,⟨_,rfl,.inr (.inl ⟨I,_,1,.int h,rfl,rfl,J,z03 (j:=1) rfl,d,_,rfl,DPut.k (k:=.inl h) M (J1 hk (V0 b2 a8)),?_⟩)⟩⟩⟩⟩;have b8:H d=none:=s0 a2;have t5:Tups (kx w) H4 (upd H4 d (.dK (putK g (.inl h) (.int (f.length:Nat))))):=Tups.dict M;have s5:=Same.keep (o:=.dK (putK g (.inl h) (.int (f.length:Nat)))) s4 b8;have a4:upd H4 d (.dK (putK g (.inl h) (.int (f.length:Nat)))) l=some (.lst f):=by rw [upd_ne U];exact Y
    have b0:upd H4 d (.dK (putK g (.inl h) (.int (f.length:Nat)))) d=some (.dK (putK g (.inl h) (.int (f.length:Nat)))):=z01;generalize upd H4 d (.dK (putK g (.inl h) (.int (f.length:Nat))))=H5 at t5 s5 a4 b0⊢;have c0:=t5 _ _ J;have b5:=z02 (λ a b z=>RcAt.tups t5 z) N;refine ⟨_,rfl,.inl ⟨rfl,f,SqL.of a4⟩,⟨_,rfl,1,rfl,.inr (.inl ⟨I,_,rfl,c0,λ z=>absurd z.1 (show ¬ HT.sIx 5 0 (some 1)=0 by decide),λ F S=>?_⟩)⟩⟩;have c1:cutV [V.str "begin",.int h,n,v,x] (some 1) none=[.int h,n,v,x]:=rfl;rw [c1];refine ⟨_,rfl,w_3,λ G L=>.inr (.inr (.inr ⟨F,G,_,_,rfl,rfl,(Same.upd L).seqT (SqT.of z01),SqT.of z01,by simp,w_7,λ z=>(by cases z),λ _ u a3=>?_⟩))⟩;have B:Same H5 (upd (upd (upd H5 F (.tup [.int h,n,v,x])) G (.tup [.non,.int i,.non])) u (.tup ([.int h,n,v,x]++[.non,.int i,.non]))):=((Same.upd S).trans (Same.upd L)).trans (Same.upd a3);have W:upd (upd (upd H5 F (.tup [.int h,n,v,x])) G (.tup [.non,.int i,.non])) u (.tup ([.int h,n,v,x]++[.non,.int i,.non])) u=some (.tup ([.int h,n,v,x]++[.non,.int i,.non])):=z01;generalize upd (upd (upd H5 F (.tup [.int h,n,v,x])) G (.tup [.non,.int i,.non])) u (.tup ([.int h,n,v,x]++[.non,.int i,.non]))=H6 at B W⊢;have X:=B _ _ a4;have a5:=B _ _ b0;have a1:=z02 (λ a b z=>RcAt.tups (.of B) z) b5;have R:Tups (kx w) H6 (upd H6 l (.lst (f++[.ref u]))):=Tups.lst X;refine ⟨l,f,_,rfl,rfl,X,J1 (F0 (j7 lz) hr') (V0 b2 a8),?_⟩;refine ⟨c++[⟨h,n,v,x,.non,i,none⟩],f++[.ref u],putK g (.inl h) (.int (f.length:Nat)),z01,?_,?_,?_,?_,?_,(show dAll (i + 1) (dstep i c (.beg h n v x)) _=_ from D),dw.2,Same.keep (s5.trans B) a0,_,_,_,_,rfl⟩
    ·exact z0n (z02 (λ a b z=>RcAt.tups R z) a1) ⟨u,rfl,R _ _ (SqT.of W)⟩
    ·rw [upd_ne U.symm];exact a5
    ·exact F0 zal (by omega)
    ·rw [L0];show c.length + 1<=i + 1;omega
    ·intro k;rw [z75,O2];show _=Option.map _ (lastI k (c.map Rc.h++[h]));rw [z27,hv k,C0,lz];by_cases z:h=k
     ·rw [if_pos z,if_pos (by rw [z])];rfl
     ·rw [if_neg z,if_neg (λ y=>z (g4 y).symm)]
   | fin h a=>
    obtain ⟨I,rfl,J⟩:=b3;obtain ⟨j,hj⟩:=Option.isSome_iff_exists.mp (dw.1 h a rfl);have c2:valV g (.inl h)=some (.int (j:Nat)):=by rw [hv h,hj];rfl
    have a7:j < c.length:=by have:=z7t hj;rwa [C0] at this
    have a6:c[j]? = some c[j]:=J0 a7;obtain ⟨yj,b7,pj,rfl,sj⟩:=z48 N a6;have b9:DGet H4 d (.int h) (some (.int (j:Nat))):=c2 ▸ DGet.k (k:=.inl h) M;refine ⟨_,rfl,.inr (.inl ⟨I,_,0,.str "end",rfl,rfl,J,z03 (j:=0) rfl,rfl,_,rfl,iteK ?_⟩)⟩;refine ⟨_,rfl,⟨_,rfl,.inr (.inl ⟨I,_,1,.int h,rfl,rfl,J,z03 (j:=1) rfl,d,_,rfl,b9,?_⟩)⟩⟩;refine ⟨_,rfl,_,rfl,.inl ⟨l,f,j,.ref pj,rfl,rfl,SqL.of Y,z03 b7,?_⟩⟩;refine ⟨_,rfl,4,rfl,.inr (.inl ⟨pj,_,rfl,sj,λ z=>absurd z.2 (show ¬ HT.sIx 7 7 (some 4)=7 by decide),λ F S=>?_⟩)⟩;have c1:cutV [.int c[j].h,c[j].n,c[j].v,c[j].x,c[j].a,.int c[j].b,endV c[j].e] none (some 4)=[.int c[j].h,c[j].n,c[j].v,c[j].x]:=rfl;rw [c1];refine ⟨_,rfl,.inr (.inl ⟨I,_,2,a,rfl,rfl,(Same.upd S).seqT J,z03 (j:=2) rfl,?_⟩)⟩;refine ⟨_,rfl,.inr (.inl ⟨pj,_,5,.int c[j].b,rfl,rfl,(Same.upd S).seqT sj,z03 (j:=5) rfl,?_⟩)⟩;refine ⟨_,rfl,w_3,λ G L=>.inr (.inr (.inr ⟨F,G,_,_,rfl,rfl,(Same.upd L).seqT (SqT.of z01),SqT.of z01,by simp,w_7,λ z=>(by cases z),λ _ u a3=>?_⟩))⟩;have B:Same H4 _:=((Same.upd S).trans (Same.upd L)).trans (Same.upd (o:=.tup ([.int c[j].h,c[j].n,c[j].v,c[j].x]++[a,.int c[j].b,.int (i:Nat)])) a3);have W:upd (upd (upd H4 F (.tup [.int c[j].h,c[j].n,c[j].v,c[j].x])) G (.tup [a,.int c[j].b,.int (i:Nat)])) u (.tup ([.int c[j].h,c[j].n,c[j].v,c[j].x]++[a,.int c[j].b,.int (i:Nat)])) u=some (.tup ([.int c[j].h,c[j].n,c[j].v,c[j].x]++[a,.int c[j].b,.int (i:Nat)])):=z01;generalize upd (upd (upd H4 F (.tup [.int c[j].h,c[j].n,c[j].v,c[j].x])) G (.tup [a,.int c[j].b,.int (i:Nat)])) u (.tup ([.int c[j].h,c[j].n,c[j].v,c[j].x]++[a,.int c[j].b,.int (i:Nat)]))=H6 at B W⊢;have X:=B _ _ Y;have a5:=B _ _ M;have a1:=z02 (λ a b z=>RcAt.tups (.of B) z) N;have R:Tups (kx w) H6 (upd H6 l (.lst (f.set j (.ref u)))):=Tups.lst X;refine ⟨_,rfl,_,rfl,l,f,j,j,rfl,rfl,X,zeb (show j < f.length by rw [lz];exact a7),?_⟩;have dd:dstep i c (.fin h a)=c.modify j (λ r=>{ r with a:=a,e:=some i }):=by unfold dstep;dsimp only;rw [hj]
    have b4:dAll (i + 1) (dstep i c (.fin h a)) (List.drop (i + 1) C)=_:=D;have b1:=dw.2;rw [dd] at b4 b1;have mh:(c.modify j (λ r=>{ r with a:=a,e:=some i })).map Rc.h=c.map Rc.h:=by
     apply F5;intro m;rw [T0,T0,E2];cases c[m]? with
     | none=>rfl
     | some r=>
      show some (if j=m then _ else r).h=some r.h;by_cases z:j=m
      ·rw [if_pos z]
      ·rw [if_neg z]
    refine ⟨_,f.set j (.ref u),g,z01,?_,?_,?_,?_,?_,b4,b1,Same.keep (s4.trans B) a0,_,_,_,_,rfl⟩
    ·exact z4h (z02 (λ a b z=>RcAt.tups R z) a1) a6 ⟨u,rfl,R _ _ (SqT.of W)⟩
    ·rw [upd_ne U.symm];exact a5
    ·omega
    ·rw [n5];omega
    ·intro k;rw [mh];exact hv k
  ·rintro σ Z ⟨c,f,g,el,ar,ed,hk,hr',hv,D,dw,s3,x3,x4,x5,x6,rfl⟩;have:C.drop ys.length=[]:=by rw [b6];exact List.drop_length
   rw [this] at D;have D:c=dAll 0 [] C:=D;rw [<-D] at q;exact ⟨_,rfl,q l f Z s3 a0 el ar⟩
end
section
noncomputable def oStep (os:List Int):Ev->List Int
 | .beg h _ _ _=>os++[h]
 | .fin h _=>os.filter λ k=>decide (k≠h)
noncomputable def oOk (os:List Int):Ev->Prop
 | .beg h _ _ _=>h∉os
 | .fin h _=>h∈os
noncomputable def EWf:List Int->List Ev->Prop
 | _,[]=>True
 | os,e :: es=>oOk os e/\EWf (oStep os e) es
theorem EWf.snoc :∀{es:List Ev} {os:List Int} {e:Ev},EWf os es->oOk (es.foldl oStep os) e->EWf os (es++[e])
 | [],os,e,_,h=>⟨h,trivial⟩
 | x :: es,os,e,w,h=>⟨w.1,EWf.snoc w.2 h⟩
theorem z57 {h:Int} (hs:List Int) :∀{j:Nat},lastI h hs=some j->hs[j]? = some h/\∀k,j < k->hs[k]?≠some h:=by
 suffices key :∀n (hs:List Int),hs.length=n->∀{j:Nat},lastI h hs=some j->hs[j]? = some h/\∀k,j < k->hs[k]?≠some h from λ {j} a=>key _ hs rfl a;intro n;induction n with
 | zero=>intro hs e j a;have:=z7t a;omega
 | succ n ih=>
  intro hs e j a;have d:hs≠[]:=λ z=>by rw [z] at e;cases e
  obtain ⟨b,t,rfl⟩ :∃b t,hs=b++[t]:=⟨hs.dropLast,hs.getLast d,(R8 d).symm⟩
  rw [L0] at e;have e:b.length=n:=by simpa using e
  rw [z27] at a;by_cases z:t=h
  ·rw [if_pos z] at a;cases a;refine ⟨by simp [z],λ k c=>?_⟩;rw [Z3 (by rw [L0];show b.length + 1<=k;omega)];intro y;cases y
  ·rw [if_neg z] at a;obtain ⟨f,g⟩:=ih b e a;have lt:=z7t a;refine ⟨by rw [j3 lt];exact f,λ k c=>?_⟩;by_cases y:k < b.length
   ·rw [j3 y];exact g k c
   ·by_cases y2:k=b.length
    ·subst y2;rw [W2 (A0 _)];simp;exact z
    ·rw [Z3 (by rw [L0];show b.length + 1<=k;omega)];intro y;cases y
theorem zb5 {h:Int} (hs:List Int) (hm:h∈hs):(lastI h hs).isSome=true:=by
 suffices key :∀n (hs:List Int),hs.length=n->h∈hs->(lastI h hs).isSome=true from key _ hs rfl hm;intro n;induction n with
 | zero=>intro hs e hm;rw [List.length_eq_zero_iff.mp e] at hm;cases hm
 | succ n ih=>
  intro hs e hm;have b:hs≠[]:=λ z=>by rw [z] at e;cases e
  obtain ⟨a,t,rfl⟩ :∃a t,hs=a++[t]:=⟨hs.dropLast,hs.getLast b,(R8 b).symm⟩
  rw [L0] at e;rw [z27];by_cases z:t=h
  ·rw [if_pos z];rfl
  ·rw [if_neg z];refine ih a (by simpa using e) ?_;rcases List.mem_append.mp hm with y|y
   ·exact y
   ·exact absurd (List.mem_singleton.mp y).symm z
structure DInv (i:Nat) (rs:List Rc) (os:List Int):Prop where
 b :∀r∈rs,r.b < i
 e :∀r∈rs,∀e,r.e=some e->e < i
 p :∀(x y:Nat) (r q:Rc),x < y->rs[x]? = some r->rs[y]? = some q->r.b < q.b/\(r.h=q.h->∃e,r.e=some e/\e < q.b)
 o :∀r∈rs,r.h∉os->r.e.isSome=true
 m :∀h∈os,h∈rs.map Rc.h
theorem DInv.nil:DInv 0 [] []:=⟨λ _ h=>(by cases h),λ _ h=>(by cases h),λ x y r q _ h=>(by simp at h),λ _ h=>(by cases h),λ _ h=>(by cases h)⟩
theorem zad {rs:List Rc} {j:Nat} {f:Rc->Rc} (hf :∀r,(f r).h=r.h):(rs.modify j f).map Rc.h=rs.map Rc.h:=by
 apply F5;intro m;rw [T0,T0,E2];cases rs[m]? with
 | none=>rfl
 | some r=>
  show some (if j=m then f r else r).h=some r.h;by_cases z:j=m
  ·rw [if_pos z,hf]
  ·rw [if_neg z]
theorem DInv.step {i:Nat} {rs:List Rc} {os:List Int} (I:DInv i rs os) {e:Ev} (ok:oOk os e):DInv (i + 1) (dstep i rs e) (oStep os e)/\∀h a,e=.fin h a->(lastI h (rs.map Rc.h)).isSome=true:=by
 cases e with
 | beg h n v x=>
  have ok:h∉os:=ok;refine ⟨⟨λ r d=>?_,λ r d e c=>?_,λ u g r q E H D=>?_,λ r d B=>?_,λ k J=>?_⟩,λ h a e=>by cases e⟩
  ·rcases List.mem_append.mp d with z|z
   ·have:=I.b r z;omega
   ·rw [List.mem_singleton.mp z];exact D2 i
  ·rcases List.mem_append.mp d with z|z
   ·have:=I.e r z e c;omega
   ·rw [List.mem_singleton.mp z] at c;cases c
  ·have a0:g < (dstep i rs (.beg h n v x)).length:=(List.getElem?_eq_some_iff.mp D).1;have hl:(dstep i rs (.beg h n v x)).length=rs.length + 1:=by show (rs++[_]).length=_;rw [L0];rfl
   have X:rs[u]? = some r:=by
    have:(rs++[_])[u]? = some r:=H
    rwa [j3 (by omega)] at this
   by_cases z:g < rs.length
   ·have Y:rs[g]? = some q:=by
     have:(rs++[_])[g]? = some q:=D
     rwa [j3 z] at this
    exact I.p u g r q E X Y
   ·have N:(rs++[_])[g]? = some q:=D;have ey:g=rs.length:=by omega
    subst ey;rw [W2 (A0 _)] at N;simp at N;have M:=d0 X;rw [<-N];refine ⟨I.b r M,λ A=>?_⟩;have:r.e.isSome=true:=I.o r M (by rw [A];exact ok);obtain ⟨e,c⟩:=Option.isSome_iff_exists.mp this;exact ⟨e,c,I.e r M e c⟩
  ·rcases List.mem_append.mp d with z|z
   ·exact I.o r z λ y=>B (List.mem_append.mpr (.inl y))
   ·rw [List.mem_singleton.mp z] at B;exact absurd (List.mem_append.mpr (.inr (List.mem_singleton.mpr rfl))) B
  ·show k∈(rs++[_]).map Rc.h;rw [O2];rcases List.mem_append.mp J with z|z
   ·exact List.mem_append.mpr (.inl (I.m k z))
   ·rw [List.mem_singleton.mp z];exact List.mem_append.mpr (.inr (List.mem_singleton.mpr rfl))
 | fin h a=>
  have ok:h∈os:=ok;obtain ⟨j,O⟩:=Option.isSome_iff_exists.mp (zb5 _ (I.m h ok));refine ⟨?_,λ h' a' e=>by cases e;rw [O];rfl⟩;obtain ⟨U,W⟩:=z57 _ O;have hd:dstep i rs (.fin h a)=rs.modify j (λ r=>{ r with a:=a,e:=some i }):=by unfold dstep;dsimp only;rw [O]
  rw [hd];have Z:oStep os (.fin h a)=os.filter λ k=>decide (k≠h):=rfl;rw [Z];rw [T0] at U;obtain ⟨rj,P,S⟩:=Option.map_eq_some_iff.mp U;have get :∀m q,(rs.modify j (λ r=>{ r with a:=a,e:=some i }))[m]? = some q->∃r,rs[m]? = some r/\q.h=r.h/\q.b=r.b/\(m=j->q.e=some i)/\(m≠j->q=r):=λ m q Q=>by
   rw [E2] at Q;obtain ⟨r,d,e⟩:=Option.map_eq_some_iff.mp Q;refine ⟨r,d,?_⟩;by_cases z:j=m
   ·rw [if_pos z] at e;rw [<-e];exact ⟨rfl,rfl,λ _=>rfl,λ y=>absurd z.symm y⟩
   ·rw [if_neg z] at e;rw [<-e];exact ⟨rfl,rfl,λ y=>absurd y.symm z,λ _=>rfl⟩
  refine ⟨λ r d=>?_,λ r d e c=>?_,λ u g r q E H D=>?_,λ r d B=>?_,λ k J=>?_⟩
  ·obtain ⟨m,C⟩:=List.mem_iff_getElem?.mp d;obtain ⟨s,t,_,h3,_⟩:=get m r C;have:=I.b s (d0 t);omega
  ·obtain ⟨m,C⟩:=List.mem_iff_getElem?.mp d;obtain ⟨s,t,_,_,G,L⟩:=get m r C;by_cases z:m=j
   ·rw [G z] at c;cases c;exact D2 i
   ·rw [L z] at c;have:=I.e s (d0 t) e c;omega
  ·obtain ⟨s,F,r2,r3,r4,r5⟩:=get u r H;obtain ⟨V,T,R,q3,_⟩:=get g q D;obtain ⟨p1,K⟩:=I.p u g s V E F T;refine ⟨by omega,λ A=>?_⟩;by_cases z:u=j
   ·subst z;rw [P] at F;cases F;refine absurd ?_ (W g E);rw [T0,T];show some V.h=some h;rw [<-R,<-A,r2,S]
   ·rw [r5 z] at A⊢;rw [R] at A;obtain ⟨e,c,lt⟩:=K A;exact ⟨e,c,by omega⟩
  ·obtain ⟨m,C⟩:=List.mem_iff_getElem?.mp d;obtain ⟨s,t,h2,_,G,L⟩:=get m r C;by_cases z:m=j
   ·rw [G z];rfl
   ·rw [L z] at B⊢;by_cases y:s.h=h
    ·have lt:m < j:=by
      rcases Nat.lt_or_gt_of_ne z with l|l
      ·exact l
      ·exact absurd (by rw [T0,t];show some s.h=_;rw [y]) (W m l)
     obtain ⟨_,K⟩:=I.p m j s rj lt t P;obtain ⟨e,c,_⟩:=K (by rw [y,S]);rw [c];rfl
    ·exact I.o s (d0 t) λ w=>B (List.mem_filter.mpr ⟨w,decide_eq_true y⟩)
  ·rw [zad (f:=λ r=>{ r with a:=a,e:=some i }) (λ r=>rfl)];exact I.m k (List.mem_filter.mp J).1
theorem DInv.all :∀{es:List Ev} {i:Nat} {rs:List Rc} {os:List Int},DInv i rs os->EWf os es->dWf i rs es/\∃os',DInv (i + es.length) (dAll i rs es) os'
 | [],i,rs,os,I,_=>⟨trivial,os,I⟩
 | e :: es,i,rs,os,I,w=>by obtain ⟨b,a⟩:=I.step w.1;obtain ⟨d,os',c⟩:=DInv.all b w.2;refine ⟨⟨a,d⟩,os',?_⟩;rw [A1,show i + (es.length + 1)=i + 1 + es.length by omega];exact c
theorem z2k {kvs:List (Key×V)} {k:Key}:(valV kvs k).isSome=true↔k∈kvs.map (·.1):=by
 induction kvs with
 | nil=>simp [valV]
 | cons p r ih=>
  obtain ⟨a,pv⟩:=p;by_cases y:a=k
  ·subst y;rw [z0u rfl];simp
  ·rw [z0v y,ih,U0,G3];exact ⟨λ z=>.inr z,λ z=>z.resolve_left λ x=>y x.symm⟩
theorem z15 {kvs:List (Key×V)} {k:Key} {v:V} (h:k∉kvs.map (·.1)):putK kvs k v=kvs++[(k,v)]:=by unfold putK;rw [if_neg];intro z;obtain ⟨p,a,e⟩:=List.any_eq_true.mp z;exact h (List.mem_map.mpr ⟨p,a,of_decide_eq_true e⟩)
theorem z1q {α β:Type} {R:α->β->Prop} :∀{xs:List α} {ys:List β},ys.length=xs.length->(∀(k:Nat) a b,xs[k]? = some a->ys[k]? = some b->R a b)->All2 R xs ys
 | [],[],_,_=>.nil
 | [],y :: ys,h,_=>by cases h
 | x :: xs,[],h,_=>by cases h
 | x :: xs,y :: ys,h,f=>.cons (f 0 x y rfl rfl) (z1q (by simpa using h) λ k a b d c=>f (k + 1) a b (by rw [E1];exact d) (by rw [E1];exact c))
end
section
variable {P:Program} {w:O0} {mg:Str->Option Value} {base:Heap}
structure NameOk (z:Str):Prop where
 l1:1<=z.length
 l8:z.length<=8
 s :∀c∈z.cps.toList,97<=c/\c<=122
theorem NameOk.ascii {z:Str} (h:NameOk z):z.cps.all (· < 128)=true:=by rw [Array.all_eq_true_iff_forall_mem];intro c a;have:=h.s c (Array.mem_toList_iff.mpr a);exact decide_eq_true (by omega)
theorem ze0 :∀k:Fin 26,(m6 ("abcdefghijklmnopqrstuvwxyz" : Str) ⟨#[97 + k.val]⟩ 0 ("abcdefghijklmnopqrstuvwxyz" : Str).length 1).isEmpty=false:=by decide +kernel
theorem zdh {c:Nat} (h:97<=c/\c<=122):(m6 ("abcdefghijklmnopqrstuvwxyz" : Str) ⟨#[c]⟩ 0 ("abcdefghijklmnopqrstuvwxyz" : Str).length 1).isEmpty=false:=by have:=ze0 ⟨c - 97,by omega⟩;rw [show 97 + (c - 97)=c by omega] at this;exact this
def z3x:Sp:=λ vs H Q _=>∃z:Str,vs=[.str z]/\NameOk z/\∀H',Same H H'->Q (.bl true) H'
theorem za9 (T:TX (kx w) mg):Fo P w mg base CX0 1 40 y11 ["value"] z3x:=by
 refine (z54 w.params).ok zc9 (λ l H Q E h=>?_) (λ B A I s H l Q E F h=>?_)
 ·obtain ⟨z,rfl,_⟩:=h;rfl
 ·obtain ⟨z,rfl,b,q⟩:=h;refine ⟨_,(z06 (ps_if (PW.pt (pw_or (pt_not (pt_val (z0a z0j rfl (T.no (z0h _)) D3 (z00 (pv 0) (z00 (z1h (v:=.ty "str") rfl (T.no (n_str _)) T9 rfl) pa_nil))) (λ _=>rfl))) (pw_or1 (pt_not (zf8 op_le op_le pe_int (z0a z0r rfl (T.no (n_len _)) M3 (z00 (pv 0) pa_nil)) (z1a (v:=.int (8)) rfl (T.of (z5g _)) ⟨_,rfl⟩))))))
   (z05 (ps_ret pe_bl))
   z0d)
   (z05 (ps_ret (z0a (z23 rfl) rfl (T.no (n_all _)) U9 (z00 (pe_cg (xs:=["sign"]) (g:=gName 0) (fr:=[]) (pi_str (pv 0)) (λ _ _ _ _ _=>(pg_cn (N:=["sign"]) 0)) (λ _ _ _ _ _=>pf_nil) (λ _ _ _ _ _=>(z13 zd4 (pv 0) (z1a (v:=.str "abcdefghijklmnopqrstuvwxyz") rfl (T.of (z41 _)) ⟨_,rfl⟩) (by with_unfolding_all rfl)))) pa_nil))))),?_⟩
  have C:=b.l1;have e:=b.l8;refine sq_if (t_or ?_);refine ⟨_,rfl,_,_,"str",rfl,rfl,by decide,_,rfl,iteN (by decide) ?_⟩;refine ⟨_,rfl,.inr ⟨z,rfl,F0 e (by decide),_,_,rfl,rfl,_,rfl,?_⟩⟩;refine iteP (decide_eq_true (by omega)) ?_;refine ⟨_,_,rfl,rfl,_,rfl,iteN (by rw [decide_eq_true (show (z.length:Int)<=8 by omega)];decide) ?_⟩;refine t_nx (sq_ret (e_cb1 ?_));refine tcompS (x:=z) (H1:=H) (λ _=>true) (λ _ y _=>y=.bl true) (λ _ _ _ _ _ z=>z) (λ R h=>⟨_,rfl,h⟩) b.ascii (F0 (m:=8) e (by decide)) ?_ ?_
  ·intro i D v H1 f p KT G u J;obtain ⟨c,r,rfl⟩:=p;have t:c∈z.cps.toList:=Array.mem_toList_iff.mpr (M9 r);refine ⟨[some (.str ⟨#[c]⟩)],rfl,rfl,iteT ?_⟩;refine ⟨_,rfl,_,_,rfl,rfl,?_⟩;rw [zdh (b.s c t)];exact u rfl _ _ (Same.refl _) rfl
  intro k H1 bs f o n;have d :∀y∈bs,y=.bl true:=λ y a=>by obtain ⟨m,j⟩:=List.mem_iff_getElem?.mp a;obtain ⟨_,_,z⟩:=z08 n j;exact z
  refine ⟨k,bs,rfl,SqL.of z01,λ y a=>⟨true,d y a⟩,?_⟩;rw [List.all_eq_true.mpr (λ y a=>decide_eq_true (d y a))];exact q _ (f.trans (Same.upd o))
structure ThingOk (t:Str×Str):Prop where
 n:NameOk t.1
 k:kindB (.str t.2)=true
def ThV (H:Hp) (t:Str×Str) (y:V):Prop:=∃p,y=.ref p/\H p=some (.tup [.str t.1,.str t.2])
theorem ThV.same {H H':Hp} {t:Str×Str} {y:V} (s:Same H H') (h:ThV H t y):ThV H' t y:=h.elim λ p z=>⟨p,z.1,s _ _ z.2⟩
theorem z4y {H:Hp} {p:Addr} {xs:List V} (e:H p=some (.tup xs)):tupOf H (.ref p)=some xs:=by unfold tupOf;dsimp only;rw [e]
def z4d:Sp:=λ vs H Q _=>∃t y,vs=[y]/\ThV H t y/\ThingOk t/\∀H',Same H H'->Q (.bl true) H'
theorem z9m (T:TX (kx w) mg) (c0:Ca P w mg base "is_tuple_of" ["value","many"] 1 z0w) (c1:Ca P w mg base "is_name" ["value"] 1 z3x) (c2:Ca P w mg base "is_kind" ["kind"] 1 z3g):Fo P w mg base CX0 2 194 y0n ["thing"] z4d:=by
 refine (z3s w.params).ok z9p (λ d H Q E h=>?_) (λ f A g s H d Q E b h=>?_)
 ·obtain ⟨t,y,rfl,_⟩:=h;rfl
 ·obtain ⟨t,y,rfl,⟨p,rfl,a⟩,ok,q⟩:=h;refine ⟨_,(z05 (ps_ret (pe_and (pe_cal c0 (b.mono (by decide)) rfl (z00 (pv 0) (z00 pe_int pa_nil))) (pe_and (pe_cal c1 (b.mono (by decide)) rfl (z00 (pe_ix ix_seq (pv 0) pe_int (λ _ _=>rfl)) pa_nil)) (pe_one (pe_cal c2 (b.mono (by decide)) rfl (z00 (pe_ix ix_seq (pv 0) pe_int (λ _ _=>rfl)) pa_nil))))))),?_⟩;refine ⟨_,rfl,_,"tuple",2,rfl,.inr (.inl ⟨⟨_,a⟩,rfl⟩),?_⟩;rw [z4y a];refine ⟨_,rfl,iteP (by simp) ?_⟩;refine ⟨_,rfl,.inr (.inl ⟨p,_,0,.str t.1,rfl,rfl,SqT.of a,z03 (j:=0) rfl,t.1,rfl,ok.n,λ e c=>⟨true,rfl,iteP rfl ?_⟩⟩)⟩;refine ⟨_,rfl,.inr (.inl ⟨p,_,1,.str t.2,rfl,rfl,SqT.of (c _ _ a),z03 (j:=1) rfl,_,"str",rfl,rfl,?_⟩)⟩;rw [ok.k];exact q _ c
def z29 (K:c0):Sp:=λ vs H Q _=>∃(a p0:Addr) (t:Str×Str),vs=[.ref a]/\H a=some (.lst [.ref p0])/\ThV H t (.ref p0)/\ThingOk t/\∀c H',Same H H'->H' c=some (.tup [.ref p0])->Q (.ref c) H'
theorem z5r (T:TX (kx w) mg) (c0:Ca P w mg base "is_thing" ["thing"] 2 z4d):Fo P w mg base CX0 3 187 y03 ["things"] (z29 (kx w)):=by
 refine (z1e w.params).ok z55 (λ U H Q E h=>?_) (λ a4 A a5 s H U Q E hr h=>?_)
 ·obtain ⟨a,b,t,rfl,_⟩:=h;rfl
 ·obtain ⟨a,b,t,rfl,D,O,ok,q⟩:=h;refine ⟨_,(z06 (ps_if (PW.pt (pw_or (pt_not (pt_val (z0a z0j rfl (T.no (z0h _)) D3 (z00 (pv 0) (z00 (z1h (v:=.ty "list") rfl (T.no (n_list _)) boot_list rfl) pa_nil))) (λ _=>rfl))) (pw_or1 (pt_not (pt_val (z0a (z23 rfl) rfl (T.no (n_all _)) U9 (z00 (pe_cg (xs:=["thing"]) (g:=gName 0) (fr:=[]) (z0i (pv 0)) (λ _ _ _ _ _=>(pg_cn (N:=["thing"]) 0)) (λ _ _ _ _ _=>pf_nil) (λ _ _ _ _ _=>(pe_cal c0 (hr.mono (by decide)) rfl (z00 (pv 0) pa_nil)))) pa_nil)) (λ _=>rfl))))))
   (z05 z1v)
   z0d)
   (z06 (ps_if (z09 op_gt (z0a z0r rfl (T.no (n_len _)) M3 (z00 (pv 0) pa_nil)) (z1a (v:=.int (6)) rfl (T.of (z6f _)) ⟨_,rfl⟩) (nomark _))
   (z05 z1v)
   z0d)
   (z06 (ps_if (z09 op_lt (zbl rfl rfl (T.no (n_len _)) rfl (T.no (n_set _)) M3 boot_set (pe_cg (xs:=["thing"]) (g:=gName 0) (fr:=[]) (z0i (pv 0)) (λ _ _ _ _ _=>(pg_cn (N:=["thing"]) 0)) (λ _ _ _ _ _=>pf_nil) (λ _ _ _ _ _=>(pe_ix (z0q (K:=KX w.params) rfl) (pv 0) pe_int (λ _ _=>rfl))))) (z0a z0r rfl (T.no (n_len _)) M3 (z00 (pv 0) pa_nil)) (nomark _))
   (z05 z1v)
   z0d)
   (z05 (ps_ret (z50 z2u rfl (T.no (z8j _)) S9 (z00 (z0a z70 rfl (T.no (z7n _)) boot_sorted (z00 (pv 0) pa_nil)) pa_nil))))))),?_⟩
  refine sq_if (t_or ?_);refine ⟨_,rfl,_,_,"list",rfl,.inl ⟨⟨_,D⟩,rfl⟩,by decide,_,rfl,iteN (by decide) ?_⟩;refine tB_not (e_cb1 ?_);refine z0o (K:=KX w.params) (a:=a) (xs:=[.ref b]) (H1:=H) (λ _=>true) (λ _ y _=>y=.bl true) (λ _ _ _ _ _ z=>z) (λ R h=>⟨_,rfl,h⟩) (SqL.of D) w_1 ?_ ?_
  ·intro i Z v H1 u B KT KF F k2;cases List.mem_singleton.mp (d0 B);exact ⟨[some (.ref b)],rfl,rfl,iteT ⟨_,rfl,t,_,rfl,O.same u,ok,λ J d=>F rfl _ _ d rfl⟩⟩
  intro I H1 bs u a0 Y;have G :∀y∈bs,y=.bl true:=λ y f=>by obtain ⟨m,S⟩:=List.mem_iff_getElem?.mp f;obtain ⟨_,_,z⟩:=z08 Y S;exact z
  refine ⟨I,bs,rfl,SqL.of z01,λ y f=>⟨true,G y f⟩,?_⟩;rw [List.all_eq_true.mpr (λ y f=>decide_eq_true (G y f))];refine ⟨_,rfl,iteN (by decide) ?_⟩;have d:=u.trans (Same.upd (o:=.lst bs) a0);generalize upd H1 I (.lst bs)=J at d⊢;have n:=d _ _ D;refine t_nx (sq_if ?_);refine ⟨_,rfl,.inl ⟨a,_,rfl,.inl (SqL.of n),_,_,rfl,rfl,_,rfl,iteN (show ¬ decide ((6:Int) < ((1:Nat):Int))=true by decide) ?_⟩⟩;refine t_nx (sq_if (t_test (zfy ?_)));refine z0o (K:=KX w.params) (a:=a) (xs:=[.ref b]) (H1:=J) (λ _=>true) (λ i y _=>y=.str t.1) (λ _ _ _ _ _ z=>z) (λ R h=>⟨_,rfl,h⟩) (SqL.of n) w_1 ?_ ?_
  ·intro i Z v l C B KT KF F k2;cases List.mem_singleton.mp (d0 B);obtain ⟨p,e,ep⟩:=O.same (d.trans C);cases e;exact ⟨[some (.ref b)],rfl,rfl,iteT ⟨_,rfl,.inr (.inl ⟨b,_,0,.str t.1,rfl,rfl,SqT.of ep,z03 (j:=0) rfl,F rfl _ _ (Same.refl _) rfl⟩)⟩⟩
  intro k l X C a2 a3;have W:X=[V.str t.1]:=by
   cases a3 with
   | cons a r=>cases r;rw [a]
  subst W;have x:=C.trans (Same.upd (o:=.lst [V.str t.1]) a2);have L:upd l k (.lst [V.str t.1]) k=some (.lst ([t.1].map V.str)):=z01;generalize upd l k (.lst [V.str t.1])=H4 at x L⊢;have M:=x _ _ n;refine ⟨k,[t.1],rfl,SqL.of L,(show (1:Nat) < 100 by decide),_,rfl,.inl ⟨a,_,rfl,.inl (SqL.of M),_,_,rfl,rfl,_,rfl,iteN (λ e=>absurd (of_decide_eq_true e) (by show ¬ ((addT [] t.1).length:Int) < ((1:Nat):Int);unfold addT;rw [if_neg B0];exact (show ¬ ((1:Nat):Int) < ((1:Nat):Int) by decide))) ?_⟩⟩;refine t_nx (sq_ret ?_);refine ⟨_,rfl,a,_,rfl,SqL.of M,λ l5 a1=>?_⟩;have s5:=x.trans (Same.upd (o:=.lst [.ref b]) a1);exact ⟨l5,_,rfl,.inl ⟨SqL.of z01,λ c hc=>q c _ (d.trans (s5.trans (Same.upd hc))) z01⟩⟩
def z68:Sp:=λ vs H Q _=>∃h:Int,vs=[.int h]/\0<=h/\h<=5/\Q (.bl true) H
theorem zbs (T:TX (kx w) mg) (c0:Ca P w mg base "is_whole" ["value"] 1 z1p):Fo P w mg base CX0 2 227 y14 ["hand"] z68:=by
 refine (z52 w.params).ok zc2 (λ d H Q E h=>?_) (λ f A g s H d Q E c h=>?_)
 ·obtain ⟨h,rfl,_⟩:=h;rfl
 ·obtain ⟨h,rfl,a,b,q⟩:=h;refine ⟨_,(z05 (ps_ret (pe_and (pe_cal c0 (c.mono (by decide)) rfl (z00 (pv 0) pa_nil)) (pe_one (z7o op_le op_le pe_int (pv 0) (z1a (v:=.int (5)) rfl (T.of (z93 _)) ⟨_,rfl⟩)))))),?_⟩;refine ⟨_,rfl,_,"int",rfl,rfl,_,rfl,iteP (by decide) ?_⟩;refine ⟨_,rfl,_,_,rfl,rfl,_,rfl,?_⟩;rw [decide_eq_true a];refine iteT ⟨_,_,rfl,rfl,?_⟩;have e:decide (h<=5)=true:=decide_eq_true b;show Q (.bl (decide (h<=5))) H;rw [e];exact q
def z2i:Sp:=λ vs H Q _=>∃(p:Addr) (xs:List V) (z wd:Str) (h m:Int),vs=[.ref p,.str wd,.int m]/\H p=some (.tup (.str z :: .int h :: xs))/\0<=h/\h<=5/\Q (.bl (decide (((xs.length + 2:Nat):Int)=m) && decide (z=wd))) H
theorem z9f (T:TX (kx w) mg) (c0:Ca P w mg base "is_tuple_of" ["value","many"] 1 z0w) (c1:Ca P w mg base "is_hand" ["hand"] 2 z68):Fo P w mg base CX0 3 220 y0p ["event","word","many"] z2i:=by
 refine (z3n w.params).ok z9n (λ g H Q E h=>?_) (λ k A l s H g Q E b h=>?_)
 ·obtain ⟨p,c,z,d,h,m,rfl,_⟩:=h;rfl
 ·obtain ⟨p,c,z,d,h,m,rfl,a,f,i,q⟩:=h;refine ⟨_,(z05 (ps_ret (pe_and (pe_cal c0 (b.mono (by decide)) rfl (z00 (pv 0) (z00 (pv 2) pa_nil))) (pe_and (z0a z0j rfl (T.no (z0h _)) D3 (z00 (pe_ix ix_seq (pv 0) pe_int (λ _ _=>rfl)) (z00 (z1h (v:=.ty "str") rfl (T.no (n_str _)) T9 rfl) pa_nil))) (pe_and (z13 opEq (pe_ix ix_seq (pv 0) pe_int (λ _ _=>rfl)) (pv 1) (nomark _)) (pe_one (pe_cal c1 (b.mono (by decide)) rfl (z00 (pe_ix ix_seq (pv 0) pe_int (λ _ _=>rfl)) pa_nil)))))))),?_⟩;refine ⟨_,rfl,_,rfl,_,"tuple",m,rfl,.inr (.inl ⟨⟨_,a⟩,rfl⟩),?_⟩;rw [z4y a];refine ⟨_,rfl,?_⟩;by_cases hm:((c.length + 2:Nat):Int)=m;rotate_left
  ·rw [decide_eq_false hm,K5] at q;exact iteN (λ e=>hm (of_decide_eq_true e)) q
  rw [decide_eq_true hm,i5] at q;refine iteP (decide_eq_true hm) ?_;refine ⟨_,rfl,.inr (.inl ⟨p,_,0,.str z,rfl,rfl,SqT.of a,z03 (j:=0) rfl,_,_,"str",rfl,rfl,by decide,_,rfl,iteP (by decide) ?_⟩)⟩;refine ⟨_,rfl,.inr (.inl ⟨p,_,0,.str z,rfl,rfl,SqT.of a,z03 (j:=0) rfl,_,rfl,rfl,_,rfl,?_⟩)⟩;by_cases hz:z=d
  ·subst hz;refine iteP (decide_eq_true rfl) ?_;rw [decide_eq_true rfl] at q;exact ⟨_,rfl,.inr (.inl ⟨p,_,1,.int h,rfl,rfl,SqT.of a,z03 (j:=1) rfl,h,rfl,f,i,q⟩)⟩
  ·refine iteN (λ e=>hz (by have:=of_decide_eq_true e;injection this)) ?_;rw [decide_eq_false hz] at q;exact q
def AnsOk (a:V):Prop:=a=.str "ok"\/a=.str "none"\/∃i,a=.int i/\z0t (.int i) 1000000000000=true
theorem zbq {H:Hp}:SqT (kx w) H 175 [.str "ok",.str "none"]:=
 .inr ⟨⟨(.type "tuple"),none,(.seq #[(.str "ok" 478),(.str "none" 479)] 0),#[]⟩,#[(.str "ok" 478),(.str "none" 479)],0,by kernel_rfl,rfl,rfl,w_2,.cons ⟨_,rfl⟩ (.cons ⟨_,rfl⟩ .nil)⟩
def z3f:Sp:=λ vs H Q _=>∃a,vs=[a]/\AnsOk a/\Q (.bl true) H
theorem z7e (T:TX (kx w) mg) (c0:Ca P w mg base "is_within" ["value","greatest"] 2 z1x):Fo P w mg base CX0 3 234 y0f ["answer"] z3f:=by
 refine (z2f w.params).ok z7s (λ c H Q E h=>?_) (λ d A e s H c Q E b h=>?_)
 ·obtain ⟨a,rfl,_⟩:=h;rfl
 ·obtain ⟨a,rfl,ok,q⟩:=h;refine ⟨_,(z06 (ps_if (pt_val (z0a z0j rfl (T.no (z0h _)) D3 (z00 (pv 0) (z00 (z1h (v:=.ty "str") rfl (T.no (n_str _)) T9 rfl) pa_nil))) (λ _=>rfl))
   (z05 (ps_ret (z13 z86 (pv 0) (z1a (v:=.ref 175) rfl (T.of (z5c _)) rfl) (by with_unfolding_all rfl))))
   z0d)
   (z05 (ps_ret (pe_cal c0 (b.mono (by decide)) rfl (z00 (pv 0) (z00 (z1a (v:=.int (1000000000000)) rfl (T.of (z2x _)) ⟨_,rfl⟩) pa_nil)))))),?_⟩
  refine sq_if ?_;rcases ok with rfl|rfl|⟨i,rfl,hi⟩
  ·refine ⟨_,rfl,_,_,"str",rfl,rfl,by decide,_,rfl,iteP (by decide) ?_⟩;exact ⟨_,rfl,175,_,rfl,.inr zbq,rfl,rfl,q⟩
  ·refine ⟨_,rfl,_,_,"str",rfl,rfl,by decide,_,rfl,iteP (by decide) ?_⟩;exact ⟨_,rfl,175,_,rfl,.inr zbq,rfl,rfl,q⟩
  ·refine ⟨_,rfl,_,_,"int",rfl,rfl,by decide,_,rfl,iteN (by decide) ?_⟩;refine t_nx (sq_ret ?_);refine ⟨_,rfl,_,"int",_,rfl,rfl,?_⟩;rw [hi];exact q
inductive XOk (H:Hp):Str->Str->V->Prop
 | none {k v:Str}:formOf k v=0->XOk H k v .non
 | one {k v:Str} {i:Int}:formOf k v=1->z0t (.int i) 1000000000=true->XOk H k v (.int i)
 | two {k v:Str} {i j:Int} {p:Addr}:formOf k v=2->H p=some (.tup [.int i,.int j])->z0t (.int i) 1000000000=true->z0t (.int j) 1000000000=true->XOk H k v (.ref p)
theorem XOk.same {H H':Hp} {k v:Str} {x:V} (s:Same H H') (h:XOk H k v x):XOk H' k v x:=by
 cases h with
 | none e=>exact .none e
 | one e h=>exact .one e h
 | two e h1 h2 h3=>exact .two e (s _ _ h1) h2 h3
theorem XOk.deed {H:Hp} {k v:Str} {x:V} (h:XOk H k v x):deedB H (.str k) (.str v) x=true/\(∃T,TagOf H x T)/\Flat H x:=by
 cases h with
 | none e=>refine ⟨?_,⟨"NoneType",rfl⟩,λ a z=>by cases z⟩;unfold deedB;dsimp only;rw [e,if_pos rfl];rfl
 | one e h=>refine ⟨?_,⟨"int",rfl⟩,λ a z=>by cases z⟩;unfold deedB;dsimp only;rw [e,if_neg (by decide),if_pos rfl];exact h
 | two e h1 h2 h3=>
  rename_i i j p;refine ⟨?_,⟨"tuple",.inr (.inl ⟨⟨_,h1⟩,rfl⟩)⟩,λ a z=>?_⟩
  ·unfold deedB;dsimp only;rw [e,if_neg (by decide),if_neg (by decide),if_pos rfl,z4y h1];show (decide ([V.int i,V.int j].length=2) && (z0t (.int i) 1000000000 && (z0t (.int j) 1000000000 && true)))=true;rw [h2,h3];rfl
  ·rw [z4y h1] at z;cases z;refine ⟨(show (2:Nat)<=1000 by decide),λ y b=>?_⟩;simp only [G3,B0,or_false] at b;rcases b with rfl|rfl<;>exact ⟨"int",rfl⟩
noncomputable def EvT (H:Hp) (ts:List (Str×Str)):Ev->V->Prop
 | .beg h n v x,y=>∃p nm k vb,y=.ref p/\H p=some (.tup [.str "begin",.int h,n,v,x])/\0<=h/\h<=5/\n=.str nm/\v=.str vb/\(nm,k)∈ts/\NameOk nm/\XOk H k vb x
 | .fin h a,y=>∃p,y=.ref p/\H p=some (.tup [.str "end",.int h,a])/\0<=h/\h<=5/\AnsOk a
theorem EvT.same {H H':Hp} {ts:List (Str×Str)} (s:Same H H') :∀{e:Ev} {y:V},EvT H ts e y->EvT H' ts e y
 | .beg h n v x,_,⟨p,nm,k,vb,h1,h2,h3,h4,h5,h6,h7,h8,h9⟩=>⟨p,nm,k,vb,h1,s _ _ h2,h3,h4,h5,h6,h7,h8,h9.same s⟩
 | .fin h a,_,⟨p,h1,h2,h3⟩=>⟨p,h1,s _ _ h2,h3⟩
def KdAt (H:Hp) (d:Addr) (ts:List (Str×Str)):Prop:=∃kvs:List (Key×V),H d=some (.dK kvs)/\∀nm k,(nm,k)∈ts->valV kvs (.inr nm)=some (.str k)
theorem KdAt.same {H H':Hp} {d:Addr} {ts:List (Str×Str)} (s:Same H H') (h:KdAt H d ts):KdAt H' d ts:=h.elim λ a z=>⟨a,s _ _ z.1,z.2⟩
noncomputable def isBeg:Ev->Bool
 | .beg _ _ _ _=>true
 | .fin _ _=>false
def z4f:Sp:=λ vs H Q _=>∃e y d ts,vs=[y,.ref d]/\EvT H ts e y/\KdAt H d ts/\∀H',Same H H'->Q (.bl (isBeg e)) H'
theorem z9i (T:TX (kx w) mg) (c0:Ca P w mg base "is_event" ["event","word","many"] 3 z2i) (c1:Ca P w mg base "is_name" ["value"] 1 z3x) (c2:Ca P w mg base "is_deed" ["kind","verb","worth"] 4 z5v):Fo P w mg base CX0 5 206 y0o ["event","kinds"] z4f:=by
 refine (z3a w.params).ok z97 (λ u H Q E h=>?_) (λ S A U s H u Q E c h=>?_)
 ·obtain ⟨e,y,d,B,rfl,_⟩:=h;rfl
 ·obtain ⟨e,y,d,B,rfl,o,⟨R,I,L⟩,q⟩:=h;refine ⟨_,(z06 (ps_if (PW.pt (pw_or (pt_not (pt_val (pe_cal c0 (c.mono (by decide)) rfl (z00 (pv 0) (z00 pe_str (z00 pe_int pa_nil)))) (λ _=>rfl))) (pw_or (pt_not (pt_val (pe_cal c1 (c.mono (by decide)) rfl (z00 (pe_ix ix_seq (pv 0) pe_int (λ _ _=>rfl)) pa_nil)) (λ _=>rfl))) (pw_or1 (pt_cmp (z4n (hu_of c) (pe_ix ix_seq (pv 0) pe_int (λ _ _=>rfl)) (pv 1)) (by with_unfolding_all rfl))))))
   (z05 (ps_ret pe_bl))
   z0d)
   (z05 (ps_ret (pe_cal c2 (c.mono (by decide)) rfl (z00 (z3k (hu_of c) (pv 1) (pe_ix ix_seq (pv 0) pe_int (λ _ _=>rfl)) (λ _ _=>rfl)) (z00 (pe_ix ix_seq (pv 0) pe_int (λ _ _=>rfl)) (z00 (pe_ix ix_seq (pv 0) pe_int (λ _ _=>rfl)) pa_nil))))))),?_⟩
  refine sq_if ?_;cases e with
  | fin h a=>obtain ⟨p,rfl,f,l,m,_⟩:=o;refine ⟨_,rfl,p,[a],"end","begin",h,5,rfl,f,l,m,_,rfl,iteP (by rw [show decide (("end" : Str) = "begin")=false by decide +kernel,G7];rfl) ?_⟩;exact iteP rfl (q _ (Same.refl _))
  | beg h n v x=>obtain ⟨p,b,k,N,rfl,f,l,m,rfl,rfl,t,z,D⟩:=o;refine ⟨_,rfl,p,_,"begin","begin",h,5,rfl,f,l,m,_,rfl,iteN (by rw [show decide (("begin" : Str) = "begin")=true by decide +kernel];show ¬ (!(decide (((3 + 2:Nat):Int)=5) && true))=true;decide) ?_⟩;refine ⟨_,rfl,.inr (.inl ⟨p,_,2,.str b,rfl,rfl,SqT.of f,z03 (j:=2) rfl,b,rfl,z,λ J i=>⟨true,rfl,iteN (by decide) ?_⟩⟩)⟩;have C:=i _ _ I;have g:=i _ _ f;have r:DGet J d (.str b) (some (.str k)):=(L b k t) ▸ DGet.k (k:=.inr b) C;refine ⟨_,rfl,.inr (.inl ⟨p,_,2,.str b,rfl,rfl,SqT.of g,z03 (j:=2) rfl,?_⟩)⟩;refine ⟨_,rfl,d,_,rfl,r,_,rfl,iteN (by show ¬ (!true)=true;decide) ?_⟩;refine t_nx (sq_ret ?_);obtain ⟨F,⟨G,K⟩,O⟩:=(D.same i).deed;refine ⟨_,rfl,_,rfl,.inr (.inl ⟨p,_,2,.str b,rfl,rfl,SqT.of g,z03 (j:=2) rfl,d,_,rfl,r,?_⟩)⟩;refine ⟨_,rfl,.inr (.inl ⟨p,_,3,.str N,rfl,rfl,SqT.of g,z03 (j:=3) rfl,?_⟩)⟩;refine ⟨_,rfl,.inr (.inl ⟨p,_,4,x,rfl,rfl,SqT.of g,z03 (j:=4) rfl,_,_,_,"str","str",G,rfl,rfl,rfl,K,O,λ V M=>?_⟩)⟩;rw [F];exact q _ (i.trans M)
def z8b:Sp:=λ vs H Q _=>∃h a y ts,vs=[y]/\EvT H ts (.fin h a) y/\Q (.bl true) H
theorem zcq (T:TX (kx w) mg) (c0:Ca P w mg base "is_event" ["event","word","many"] 3 z2i) (c1:Ca P w mg base "is_answer" ["answer"] 3 z3f):Fo P w mg base CX0 4 213 y1d ["event"] z8b:=by
 refine (z7p w.params).ok zd3 (λ g H Q E h=>?_) (λ k A l s H g Q E c h=>?_)
 ·obtain ⟨h,a,y,d,rfl,_⟩:=h;rfl
 ·obtain ⟨h,a,y,d,rfl,⟨p,rfl,b,e,f,i⟩,q⟩:=h;refine ⟨_,(z05 (ps_ret (pe_and (pe_cal c0 (c.mono (by decide)) rfl (z00 (pv 0) (z00 pe_str (z00 pe_int pa_nil)))) (pe_one (pe_cal c1 (c.mono (by decide)) rfl (z00 (pe_ix ix_seq (pv 0) pe_int (λ _ _=>rfl)) pa_nil)))))),?_⟩;refine ⟨_,rfl,p,[a],"end","end",h,3,rfl,b,e,f,_,rfl,iteP (by rw [show decide (("end" : Str) = "end")=true by decide +kernel];rfl) ?_⟩;exact ⟨_,rfl,.inr (.inl ⟨p,_,2,a,rfl,rfl,SqT.of b,z03 (j:=2) rfl,a,rfl,i,q⟩)⟩
def z21 (K:c0):Sp:=λ vs H Q _=>∃a ys ts es,vs=[.ref a]/\SqL K H a ys/\All2 (EvT H ts) es ys/\es.length<=1000/\EWf [] es/\∀H',Same H H'->Q (.bl true) H'
theorem z4s (T:TX (kx w) mg):Fo P w mg base CX0 1 241 y05 ["events"] (z21 (kx w)):=by
 refine (z1d w.params).ok sc_go_by_turns (λ J H Q E h=>?_) (λ a0 A a1 s H J Q E t h=>?_)
 ·obtain ⟨a,l,M,f,rfl,_⟩:=h;rfl
 ·obtain ⟨a,l,M,f,rfl,D,r,ln,Z,q⟩:=h;refine ⟨_,(z06 (ps_set (i:=1) sc_go_by_turns.nd rfl (C1 rfl) z7k)
   (z06 (ps_for Q1 rfl (z0i (pv 0)) (z0m (i:=2) sc_go_by_turns.nd rfl (C1 rfl))
   (z06 (ps_set (i:=3) sc_go_by_turns.nd rfl (C1 rfl) (z13 opEq (pe_ix ix_seq (pv 2) pe_int (λ _ _=>rfl)) pe_str (nomark _)))
   (z06 (ps_if (z09 opEq (zel (hu_of t) (pv 1) (pe_ix ix_seq (pv 2) pe_int (λ _ _=>rfl)) pe_bl ⟨rfl,rfl,rfl,rfl⟩) (pv 3) (nomark _))
   (z05 (ps_ret pe_bl))
   z0d)
   (z05 (z4g (hu_of t) (pv 1) (pe_ix ix_seq (pv 2) pe_int (λ _ _=>rfl)) (pv 3) rfl)))))
   (z05 (ps_ret pe_bl)))),?_⟩
  have ly:l.length=f.length:=z04 r;refine z0c ?_;intro d hd;refine g_name ?_;obtain ⟨H0,U,F,e0⟩:=newA (.dK []) hd;rw [<-U];refine ⟨_,rfl,a,rfl,⟨_,F.seq D⟩,?_⟩;refine z0z (K:=KX w.params) (a:=a) (xs:=l) (λ i σ o=>Same H o/\(∃kvs os,o d=some (.dK kvs)/\kvs.length<=i/\EWf os (f.drop i)/\∀h:Int,(valV kvs (.inl h)).getD (.bl false)=.bl (decide (h∈os)))/\∃x2 x3,σ=[some (.ref a),some (.ref d),x2,x3])
   ⟨F,⟨[],[],e0,A0 _,by rw [G5];exact Z,λ h=>by rw [decide_eq_false B0];rfl⟩,_,_,rfl⟩ (λ _ σ o _ h=>h.1.seq D) ?_ ?_
  ·rintro i y σ B W ⟨s1,⟨kvs,os,ed,lk,wf1,kv⟩,x2,x3,rfl⟩;obtain ⟨e,N,O⟩:=z08 r W;obtain ⟨R,ee⟩:=List.getElem?_eq_some_iff.mp N;have I:f.drop i=e :: f.drop (i + 1):=by rw [D6 R,ee]
   rw [I] at wf1;have C:=EvT.same s1 O;refine g_name ?_;obtain ⟨p,xs,z,h,b,g,c,G,S,Y,L⟩ :∃(p:Addr) (xs:List V) (z:Str) (h:Int) (b:Bool),y=.ref p/\B p=some (.tup (.str z :: .int h :: xs))/\decide (z = "begin")=b/\decide (h∈os) = !b/\(∀k:Int,decide (k∈oStep os e)=if k=h then b else decide (k∈os))/\EWf (oStep os e) (f.drop (i + 1)):=by
    cases e with
    | beg h n v x=>
     obtain ⟨p,nm,k,vb,g,c,_⟩:=C;refine ⟨p,_,"begin",h,true,g,c,by decide +kernel,by rw [decide_eq_false (show h∉os from wf1.1)];rfl,λ k=>?_,wf1.2⟩;show decide (k∈os++[h])=_;by_cases z:k=h
     ·rw [if_pos z,decide_eq_true (List.mem_append.mpr (.inr (List.mem_singleton.mpr z)))]
     ·rw [if_neg z];by_cases y:k∈os
      ·rw [decide_eq_true y,decide_eq_true (List.mem_append.mpr (.inl y))]
      ·rw [decide_eq_false y,decide_eq_false (λ w=>(List.mem_append.mp w).elim y λ u=>z (List.mem_singleton.mp u))]
    | fin h a'=>
     obtain ⟨p,g,c,_⟩:=C;refine ⟨p,_,"end",h,false,g,c,by decide +kernel,by rw [decide_eq_true (show h∈os from wf1.1)];rfl,λ k=>?_,wf1.2⟩;show decide (k∈os.filter λ j=>decide (j≠h))=_;by_cases z:k=h
     ·rw [if_pos z,decide_eq_false (λ w=>(of_decide_eq_true (List.mem_filter.mp w).2) z)]
     ·rw [if_neg z];by_cases y:k∈os
      ·rw [decide_eq_true y,decide_eq_true (List.mem_filter.mpr ⟨y,decide_eq_true z⟩)]
      ·rw [decide_eq_false y,decide_eq_false (λ w=>y (List.mem_filter.mp w).1)]
   subst g;refine z0c ?_;refine ⟨_,rfl,.inr (.inl ⟨p,_,0,.str z,rfl,rfl,SqT.of c,z03 (j:=0) rfl,rfl,?_⟩)⟩;have X:decide (V.str z=V.str "begin")=b:=by
    rw [<-G];by_cases y:z = "begin"
    ·rw [y,decide_eq_true rfl,decide_eq_true rfl]
    ·rw [decide_eq_false y,decide_eq_false (λ e=>y (by injection e))]
   rw [X];refine g_name ?_;refine sq_if ?_;refine ⟨_,rfl,d,rfl,.inl ⟨_,.inl ed⟩,_,rfl,.inr (.inl ⟨p,_,1,.int h,rfl,rfl,SqT.of c,z03 (j:=1) rfl,_,DGet.k (k:=.inl h) ed,?_⟩)⟩;rw [kv h,S];refine ⟨_,rfl,rfl,_,rfl,iteN (by cases b<;>decide) ?_⟩;refine t_nx ?_;refine ⟨_,rfl,_,rfl,_,rfl,.inr (.inl ⟨p,_,1,.int h,rfl,rfl,SqT.of c,z03 (j:=1) rfl,d,_,rfl,DPut.k (k:=.inl h) ed (J1 (m:=1000) (by omega) (by decide)),?_⟩)⟩;refine ⟨Same.keep s1 hd,⟨_,oStep os e,z01,F0 zal (by omega),L,λ k=>?_⟩,_,_,rfl⟩;rw [z75,Y k];by_cases z:k=h
   ·rw [if_pos (by rw [z]),if_pos z];rfl
   ·rw [if_neg (λ e=>z (g4 e)),if_neg z];exact kv k
  ·rintro σ B ⟨s1,_,x2,x3,rfl⟩;exact q _ s1
theorem zgj {H:Hp} {ts:List (Str×Str)} {e:Ev} {y:V} (h:EvT H ts e y) :∃(p:Addr) (z:Str) (r:List V),y=.ref p/\H p=some (.tup (.str z :: r))/\decide (z = "begin")=isBeg e:=by
 cases e with
 | beg h n v x=>obtain ⟨p,d,k,f,b,c,_⟩:=h;exact ⟨p,_,_,b,c,(show decide (("begin" : Str) = "begin")=true by decide +kernel)⟩
 | fin h a=>obtain ⟨p,b,c,_⟩:=h;exact ⟨p,_,_,b,c,(show decide (("end" : Str) = "begin")=false by decide +kernel)⟩
theorem z8s {z y:Str}:decide (V.str z=V.str y)=decide (z=y):=by
 by_cases e:z=y
 ·rw [e,decide_eq_true rfl,decide_eq_true rfl]
 ·rw [decide_eq_false e,decide_eq_false (λ x=>e (by injection x))]
def z24 (K:c0):Sp:=λ vs H Q _=>∃a d ys ts es,vs=[.ref a,.ref d]/\H a=some (.lst ys)/\KdAt H d ts/\All2 (EvT H ts) es ys/\es.length<=1000/\(es.filter isBeg).length<=24/\EWf [] es/\∀c H',Same H H'->H' c=some (.tup ys)->Q (.ref c) H'
theorem z5i (T:TX (kx w) mg) (c0:Ca P w mg base "is_begin" ["event","kinds"] 5 z4f) (c1:Ca P w mg base "is_end" ["event"] 4 z8b) (c2:Ca P w mg base "go_by_turns" ["events"] 1 (z21 (kx w))):Fo P w mg base CX0 6 199 y04 ["events","kinds"] (z24 (kx w)):=by
 refine (z1g w.params).ok z5j (λ vs H Q E h=>?_) (λ a8 A a9 s H vs Q E I h=>?_)
 ·obtain ⟨a,d,k,B,f,rfl,_⟩:=h;rfl
 ·obtain ⟨a,d,k,B,f,rfl,O,kd,F,ln,a6,wf,q⟩:=h;refine ⟨_,(z06 (ps_if (PW.pt (pw_or (pt_not (pt_val (z0a z0j rfl (T.no (z0h _)) D3 (z00 (pv 0) (z00 (z1h (v:=.ty "list") rfl (T.no (n_list _)) boot_list rfl) pa_nil))) (λ _=>rfl))) (pw_or1 (pt_not (pt_val (z0a (z23 rfl) rfl (T.no (n_all _)) U9 (z00 (pe_cg (xs:=["event"]) (g:=gName 0) (fr:=[(1,"kinds")]) (z0i (pv 0)) (λ _ _ _ _ _=>(pg_cn (N:=["event","kinds"]) 0)) (λ _ _ _ _ _=>pf_nil) (λ _ _ _ _ _=>(pe_or (pe_cal c0 (I.mono (by decide)) rfl (z00 (pv 0) (z00 (pv 1) pa_nil))) (pe_one (pe_cal c1 (I.mono (by decide)) rfl (z00 (pv 0) pa_nil)))))) pa_nil)) (λ _=>rfl))))))
   (z05 z1v)
   z0d)
   (z06 (ps_if (z09 op_gt (z0a z0r rfl (T.no (n_len _)) M3 (z00 (pe_cg (xs:=["event"]) (g:=gName 0) (fr:=[]) (z0i (pv 0)) (λ _ _ _ _ _=>(pg_cn (N:=["event"]) 0)) (λ _ _ _ _ _=>(pf_one (z09 opEq (pe_ix (z0q (K:=KX w.params) rfl) (pv 0) pe_int (λ _ _=>rfl)) pe_str (nomark _)))) (λ _ _ _ _ _=>(pv 0))) pa_nil)) (z1a (v:=.int (24)) rfl (T.of (z6a _)) ⟨_,rfl⟩) (nomark _))
   (z05 z1v)
   z0d)
   (z06 (ps_if (pt_not (pt_val (pe_cal c2 (I.mono (by decide)) rfl (z00 (pv 0) pa_nil)) (λ _=>rfl)))
   (z05 z1v)
   z0d)
   (z05 (ps_ret (z50 z2u rfl (T.no (z8j _)) S9 (z00 (pv 0) pa_nil))))))),?_⟩
  have ly:k.length=f.length:=z04 F;refine sq_if (t_or ?_);refine ⟨_,rfl,_,_,"list",rfl,.inl ⟨⟨_,O⟩,rfl⟩,by decide,_,rfl,iteN (by decide) ?_⟩;refine tB_not (e_cb1 ?_);refine z0o (K:=KX w.params) (a:=a) (xs:=k) (H1:=H) (λ _=>true) (λ _ y _=>y=.bl true) (λ _ _ _ _ _ z=>z) (λ R h=>⟨_,rfl,h⟩) (SqL.of O) (F0 (m:=1000) (by omega) (by decide)) ?_ ?_
  ·intro i hi v H1 u J KT KF t L;obtain ⟨e,Z,G⟩:=z08 F J;have a0:=EvT.same u G;refine ⟨[some v],rfl,rfl,iteT ?_⟩;refine ⟨_,rfl,_,rfl,e,v,d,B,rfl,a0,kd.same u,λ H2 b=>⟨_,rfl,?_⟩⟩;cases e with
   | beg h n v' x=>exact iteP rfl (t rfl _ _ b rfl)
   | fin h a'=>exact iteN (λ z=>by cases z) ⟨_,rfl,h,a',v,B,rfl,EvT.same b a0,t rfl _ _ b rfl⟩
  intro V H1 bs u a4 a3;have U :∀y∈bs,y=.bl true:=λ y l=>by obtain ⟨m,hm⟩:=List.mem_iff_getElem?.mp l;obtain ⟨_,_,z⟩:=z08 a3 hm;exact z
  refine ⟨V,bs,rfl,SqL.of z01,λ y l=>⟨true,U y l⟩,?_⟩;rw [List.all_eq_true.mpr (λ y l=>decide_eq_true (U y l))];refine ⟨_,rfl,iteN (by decide) ?_⟩;have b:=u.trans (Same.upd (o:=.lst bs) a4);generalize upd H1 V (.lst bs)=H2 at b⊢;have Y:=b _ _ O;have S:=z02 (λ _ _ z=>EvT.same b z) F;refine t_nx (sq_if (zew ?_));refine z0o (K:=KX w.params) (a:=a) (xs:=k) (H1:=H2) (λ i=>isBeg (f[i]?.getD (.fin 0 .non))) (λ _ y _=>True) (λ _ _ _ _ _ z=>z) (λ R h=>⟨_,rfl,h⟩) (SqL.of Y) (F0 (m:=1000) (by omega) (by decide)) ?_ ?_
  ·intro i hi v X M J KT KF t L;obtain ⟨e,Z,G⟩:=z08 S J;rw [Z] at t L;obtain ⟨p,z,r,rfl,ep,hz⟩:=zgj (EvT.same M G);refine ⟨[some (.ref p)],rfl,rfl,?_⟩;refine ⟨_,rfl,.inr (.inl ⟨p,_,0,.str z,rfl,rfl,SqT.of ep,z03 (j:=0) rfl,rfl,_,rfl,?_⟩)⟩;rw [z8s,hz];cases hbe:isBeg e with
   | true=>exact iteP rfl ⟨_,rfl,t hbe _ _ (Same.refl _) trivial⟩
   | false=>exact iteN (by decide) (L hbe _ (Same.refl _))
  intro W X C M a5 a7;have lz:C.length<=24:=by rw [z04 a7,ly];have:=congrArg List.length (z0x isBeg (λ e=>e) (.fin 0 .non) f);rw [C0,C0] at this;rw [this];exact a6
  have D:=M.trans (Same.upd (o:=.lst C) a5);refine .inl ⟨W,C,rfl,.inl (SqL.of z01),?_⟩;generalize upd X W (.lst C)=H4 at D⊢;refine ⟨_,_,rfl,rfl,_,rfl,iteN (λ e=>absurd (of_decide_eq_true e) (by omega)) ?_⟩;refine t_nx (sq_if ?_);have a1:=D _ _ Y;have a2:=z02 (λ _ _ z=>EvT.same D z) S;refine ⟨_,rfl,a,k,B,f,rfl,SqL.of a1,a2,ln,wf,λ H5 s5=>⟨true,rfl,iteN (by decide) ?_⟩⟩;refine t_nx (sq_ret ?_);refine ⟨_,rfl,a,_,rfl,.inl ⟨SqL.of (s5 _ _ a1),λ c hc=>?_⟩⟩;exact q c _ (((b.trans D).trans s5).trans (Same.upd hc)) z01
theorem val_in :∀{kvs:List (Key×V)} {k:Key} {v:V},(kvs.map (·.1)).Nodup->(k,v)∈kvs->valV kvs k=some v
 | (k',v') :: kvs,k,v,nd,h=>by
  rw [U0,List.nodup_cons] at nd;rcases List.mem_cons.mp h with e|h
  ·cases e;exact z0u rfl
  ·rw [z0v (λ e=>nd.1 (by have e:k'=k:=e;subst e;exact List.mem_map.mpr ⟨_,h,rfl⟩))];exact val_in nd.2 h
def z37 (K:c0):Sp:=λ vs H Q _=>∃(a b p0:Addr) (t:Str×Str) (zs:List V) (es:List Ev),vs=[.ref a,.ref b]/\H a=some (.lst [.ref p0])/\ThV H t (.ref p0)/\ThingOk t/\H b=some (.lst zs)/\All2 (EvT H [t]) es zs/\es.length<=1000/\(es.filter isBeg).length<=24/\EWf [] es/\
 ∀tt c e H',Same H H'->H' tt=some (.tup [.ref c,.ref e])->H' c=some (.tup [.ref p0])->H' e=some (.tup zs)->Q (.ref tt) H'
theorem z77 (T:TX (kx w) mg) (c0:Ca P w mg base "make_things" ["things"] 3 (z29 (kx w))) (c1:Ca P w mg base "make_events" ["events","kinds"] 6 (z24 (kx w))):Fo P w mg base CX0 7 182 y0e ["things","events"] (z37 (kx w)):=by
 refine (z2j w.params).ok sc_make_tale (λ G H Q E h=>?_) (λ W A Y s H G Q E u h=>?_)
 ·obtain ⟨a,b,j,t,r,m,rfl,_⟩:=h;rfl
 ·obtain ⟨a,b,j,t,r,m,rfl,N,D,ok,K,L,I,S,O,q⟩:=h;refine ⟨_,(z06 (ps_set (i:=2) sc_make_tale.nd rfl (C1 rfl) (pe_cal c0 (u.mono (by decide)) rfl (z00 (pv 0) pa_nil)))
   (z05 (ps_ret (pe_tup (z00 (pv 2) (z00 (pe_cal c1 (u.mono (by decide)) rfl (z00 (pv 1) (z00 (z50 (z9z rfl) rfl (T.no (n_dict _)) boot_dict (z00 (pv 2) pa_nil)) pa_nil))) pa_nil)))))),?_⟩
  refine z0c ⟨_,rfl,a,j,t,rfl,N,D,ok,λ c v n l=>g_name ?_⟩;obtain ⟨p,e,R⟩:=D.same n;cases e;refine ⟨_,rfl,_,rfl,_,rfl,c,_,[(.inr t.1,.str t.2)],rfl,l,.cons ⟨j,rfl,SqT.of R⟩ .nil,λ d hd=>?_⟩;have f:=n.trans (Same.upd (o:=.dK (mergeK [] [(.inr t.1,.str t.2)])) hd);have y:KdAt (upd v d (.dK (mergeK [] [(.inr t.1,.str t.2)]))) d [t]:=⟨_,z01,λ x k F=>by cases List.mem_singleton.mp F;show valV (putK ([]:List (Key×V)) (.inr x:Key) (.str k)) (.inr x:Key)=_;rw [z75,if_pos rfl]⟩
  have C:=(Same.upd (o:=.dK (mergeK [] [(.inr t.1,.str t.2)])) hd) _ _ l;generalize upd v d (.dK (mergeK [] [(.inr t.1,.str t.2)]))=H2 at f y C⊢;refine ⟨b,d,r,[t],m,rfl,f _ _ K,y,z02 (λ _ _ z=>EvT.same f z) L,I,S,O,λ e X B U=>⟨w_2,λ M J=>?_⟩⟩;have g:=Same.upd (o:=.tup [.ref c,.ref e]) J;exact q M c e _ ((f.trans B).trans g) z01 (g _ _ (B _ _ C)) (g _ _ U)
end
section
mutual
noncomputable def HPd (H:Hp):w5->V->Prop
 | .none,v=>v=.non
 | .bool b,v=>v=.bl b
 | .int i,v=>v=.int i
 | .str z,v=>v=.str z
 | .list ds,v=>∃a xs,v=.ref a/\H a=some (.lst xs)/\HPds H ds xs
 | .tuple ds,v=>∃a xs,v=.ref a/\H a=some (.tup xs)/\HPds H ds xs
 | .dict kvs,v=>kvs=[]/\∃a,v=.ref a/\H a=some (.dK [])
noncomputable def HPds (H:Hp):List w5->List V->Prop
 | [],xs=>xs=[]
 | d :: ds,xs=>∃x r,xs=x :: r/\HPd H d x/\HPds H ds r
end
theorem HPds.all {H:Hp} :∀{ds:List w5} {xs:List V},HPds H ds xs->All2 (HPd H) ds xs
 | [],_,h=>by cases (show _=[] from h);exact .nil
 | d :: ds,xs,h=>by obtain ⟨x,r,rfl,a,b⟩:=h;exact .cons a (HPds.all b)
noncomputable def dif (B H:Hp):Hp:=λ p=>if B p=none then H p else none
noncomputable def tDat (P:L2.St->Prop) (d:w5):TE:=λ σ H Q=>P σ/\∀v H',Same H H'->HPd (dif H H') d v->Q v H'
noncomputable def tDats (P:L2.St->Prop) (ds:List w5):TA:=λ σ H Q=>P σ/\∀xs H',Same H H'->HPds (dif H H') ds xs->Q xs H'
variable {X:Cx} {pos:Pos} {P:L2.St->Prop}
structure QD (X:Cx) (P:L2.St->Prop) (e:Expr) (d:w5):Prop where
 run:PE X e (tDat P d)
structure QDs (X:Cx) (P:L2.St->Prop) (es:List Expr) (ds:List w5):Prop where
 run:PA X es (tDats P ds)
theorem HPds.length {H:Hp} {ds:List w5} {xs:List V} (h:HPds H ds xs):xs.length=ds.length:=z04 h.all
theorem z84 {P P':Program} {w w':O0} {h:Heap} {a:Addr} (d:h.DictOf (z0f P w) a []):h.DictOf (z0f P' w') a []:=by
 obtain ⟨o,j,g,i,f,hd,k,c,nd⟩:=d;have b:j = #[]:=by have:=c.length;exact Array.eq_empty_of_size_eq_zero (by simpa using this)
 subst b;exact ⟨o,#[],g,i,f,hd,(λ e b=>by simp at b),.nil,nd⟩
theorem zat (n:Nat):(N1 n).all (λ _=>true)=true:=List.all_eq_true.mpr λ _ _=>rfl
mutual
theorem zga {pins:List (Addr×Obj)} {σ:L2.St} {H:Hp} {s:y0} (I:Inv X pins σ H s) :∀(d:w5) (A:Z1) (x y:V) (u v:Value),HPd H d x->HPd H d y->RelV x u->RelV y v->A.units + d.depth + 1 < cLine->Y8 A s u v true
 | .none,A,x,y,u,v,hx,hy,rx,ry,hu=>by cases (show x=.non from hx);cases (show y=.non from hy);cases (show u=.none from rx);cases (show v=.none from ry);exact T4 _
 | .bool b,A,x,y,u,v,hx,hy,rx,ry,hu=>by cases (show x=.bl b from hx);cases (show y=.bl b from hy);cases (show u=.bool b from rx);cases (show v=.bool b from ry);exact T4 _
 | .int i,A,x,y,u,v,hx,hy,rx,ry,hu=>by
  cases (show x=.int i from hx);cases (show y=.int i from hy);obtain ⟨t,rfl⟩:=rx;obtain ⟨C,rfl⟩:=ry;have:=y9 (A:=A) (s:=s) i t i C
  rwa [beq_self_eq_true] at this
 | .str i,A,x,y,u,v,hx,hy,rx,ry,hu=>by
  cases (show x=.str i from hx);cases (show y=.str i from hy);obtain ⟨t,rfl⟩:=rx;obtain ⟨C,rfl⟩:=ry;have:=r9 (A:=A) (s:=s) i t i C
  rwa [beq_self_eq_true] at this
 | .list ds,A,x,y,u,v,hx,hy,rx,ry,hu=>by
  obtain ⟨a,F,rfl,h,f⟩:=hx;obtain ⟨b,p,rfl,g,k⟩:=hy;cases (show u=.ref a from rx);cases (show v=.ref b from ry);obtain ⟨m,c,B,_⟩:=I.list (SqL.of h);obtain ⟨n,l,o,_⟩:=I.list (SqL.of g);have hd:A.units + (K3 ds + 1) + 1 < cLine:=hu;have G:=c.length;have R:=l.length;have J:=f.length;have M:=k.length;by_cases hll:a=b
  ·subst hll;exact T4 _
  ·refine o7 hll ?_;have:=SeqAt.RcAt.lists (A:=A) (e:=λ _=>true) B.isList o.isList (by simp;omega) (by omega) (λ j D z=>?_)
   ·rwa [zat] at this
   ·have:=z4z I ds A.in1 F p m n f k c l (show A.units + 1 + K3 ds + 1 < cLine by omega) j (by simpa using D) (by simpa using z);simpa using this
 | .tuple ds,A,x,y,u,v,hx,hy,rx,ry,hu=>by
  obtain ⟨a,F,rfl,h,f⟩:=hx;obtain ⟨b,p,rfl,g,k⟩:=hy;cases (show u=.ref a from rx);cases (show v=.ref b from ry);obtain ⟨m,c,B,_⟩:=I.tuple (SqT.of h);obtain ⟨n,l,o,_⟩:=I.tuple (SqT.of g);have hd:A.units + (K3 ds + 1) + 1 < cLine:=hu;have G:=c.length;have R:=l.length;have J:=f.length;have M:=k.length;by_cases hll:a=b
  ·subst hll;exact T4 _
  ·refine o7 hll ?_;have:=D9 (A:=A) (e:=λ _=>true) B o (by omega) (λ j D z=>?_)
   ·rw [zat,i5] at this
    rwa [show (m.toArray.size == n.toArray.size)=true by simp;omega] at this
   ·have:=z4z I ds A.in1 F p m n f k c l (show A.units + 1 + K3 ds + 1 < cLine by omega) j (by simpa using D) (by simpa using z);simpa using this
 | .dict kvs,A,x,y,u,v,hx,hy,rx,ry,hu=>by
  obtain ⟨rfl,a,rfl,h⟩:=hx;obtain ⟨_,b,rfl,g⟩:=hy;cases (show u=.ref a from rx);cases (show v=.ref b from ry);by_cases hll:a=b
  ·subst hll;exact T4 _
  ·refine o7 hll λ T w E Q q=>?_;obtain ⟨_,L,S,c,N⟩:=dk_of I.hok h;obtain ⟨_,K,U,O,P⟩:=dk_of I.hok g;cases c;cases O;exact PySem.W.keq_eq (r:=true) L K (z84 N) (z84 P) (by omega) (λ _=>.nil) q
theorem z4z {pins:List (Addr×Obj)} {σ:L2.St} {H:Hp} {s:y0} (I:Inv X pins σ H s) :∀(ds:List w5) (A:Z1) (xs ys:List V) (us vs:List Value),HPds H ds xs->HPds H ds ys->Vals xs us->Vals ys vs->A.units + K3 ds + 1 < cLine->∀j (h1:j < us.length) (h2:j < vs.length),Y8 A s us[j] vs[j] true
 | [],A,xs,ys,us,vs,hx,hy,rx,ry,hu,j,h1,h2=>by cases (show xs=[] from hx);cases rx;exact absurd h1 (B3 _)
 | d :: ds,A,xs,ys,us,vs,hx,hy,rx,ry,hu,j,h1,h2=>by
  obtain ⟨x,b,rfl,a,g⟩:=hx;obtain ⟨y,f,rfl,c,e⟩:=hy;cases rx with
  | cons r1 r2=>
   cases ry with
   | cons q1 q2=>
    have hd:A.units + max d.depth (K3 ds) + 1 < cLine:=hu;cases j with
    | zero=>exact zga I d A x y _ _ a c r1 q1 (by omega)
    | succ j=>exact z4z I ds A b f _ _ g e r2 q2 (by omega) j (Y9 h1) (Y9 h2)
end
end
section
theorem z0s {α:Type} {l:List α} {i:Nat} {x:α} (h:l[i]? = some x):i < l.length:=(List.getElem?_eq_some_iff.mp h).1
theorem z7x :∀{es:List Ev} {i:Nat} {rs:List Rc} {e:Ev},dAll i rs (es++[e])=dstep (i + es.length) (dAll i rs es) e
 | [],i,rs,e=>rfl
 | x :: es,i,rs,e=>by show dAll (i + 1) (dstep i rs x) (es++[e])=dstep (i + (es.length + 1)) (dAll (i + 1) (dstep i rs x) es) e;rw [z7x,show i + (es.length + 1)=i + 1 + es.length by omega]
noncomputable def isW (r:Rc):Bool:=decide (r.v=.str "write")
noncomputable def intV:V->Int
 | .int i=>i
 | _=>0
def RdG (r:Rc):Prop:=r.v=.str "read"/\r.x=.non/\∀e,r.e=some e->r.a=.int (intV r.a)
def WrG (_:Int) (r:Rc):Prop:=r.v=.str "write"/\True/\r.x=.int (intV r.x)/\∀e,r.e=some e->r.a=.str "ok"
theorem z14:(V.str "read")≠.str "write":=by decide +kernel
theorem WrG.w {wr:Int} {r:Rc} (h:WrG wr r):isW r=true:=decide_eq_true h.1
theorem RdG.w {r:Rc} (h:RdG r):isW r=false:=decide_eq_false λ e=>z14 (h.1.symm.trans e)
theorem z1o {rs:List Rc} {i:Nat} {r:Rc} (h:rs[i]? = some r):rs.take (i + 1)=rs.take i++[r]:=by rw [p6,h];rfl
theorem z6e :∀(us ns:List Int),us.Nodup->(∀u∈us,u∉ns)->(us.foldl addI ns).length=ns.length + us.length
 | [],ns,_,_=>rfl
 | u :: us,ns,nd,h=>by
  rw [List.nodup_cons] at nd;have e:addI ns u=ns++[u]:=by unfold addI;rw [if_neg (h u (.head _))]
  rw [Q8,e,z6e us (ns++[u]) nd.2 λ v a z=>?_]
  ·simp only [L0,A1,B4];omega
  ·rcases List.mem_append.mp z with z|z
   ·exact h v (.tail _ a) z
   ·rw [List.mem_singleton.mp z] at a;exact nd.1 a
structure TwG (es:List Ev):Prop where
 wf:dWf 0 [] es
 g :∀wr:Int,∀r∈dAll 0 [] es,RdG r\/WrG wr r
 nd:(((dAll 0 [] es).filter isW).map (λ r=>intV r.x)).Nodup
 n0:(0:Int)∉((dAll 0 [] es).filter isW).map (λ r=>intV r.x)
structure PosI (n:Nat) (rs:List Rc):Prop where
 b :∀r∈rs,r.b < n
 e :∀r∈rs,∀e,r.e=some e->e < n
 bb :∀(i j:Nat) (r q:Rc),rs[i]? = some r->rs[j]? = some q->r.b=q.b->i=j
 ee :∀(i j:Nat) (r q:Rc) (e:Nat),rs[i]? = some r->rs[j]? = some q->r.e=some e->q.e=some e->i=j
 be :∀r∈rs,∀q∈rs,∀e,q.e=some e->r.b≠e
theorem PosI.step {n:Nat} {rs:List Rc} (p:PosI n rs) (e:Ev):PosI (n + 1) (dstep n rs e):=by
 cases e with
 | beg h nm v x=>
  have g :∀{i:Nat} {r:Rc},(rs++[(⟨h,nm,v,x,.non,n,none⟩:Rc)])[i]? = some r->rs[i]? = some r\/(i=rs.length/\r=⟨h,nm,v,x,.non,n,none⟩):=λ {i r} q=>by
   rw [j07] at q;split at q
   ·exact .inl q
   ·rename_i z;obtain ⟨y,_⟩:=List.getElem?_eq_some_iff.mp q;rw [y7] at y;have:i - rs.length=0:=by omega
    rw [this] at q;cases q;exact .inr ⟨by omega,rfl⟩
  show PosI (n + 1) (rs++[_]);refine ⟨λ r f=>?_,λ r f e c=>?_,λ i j r q k m z=>?_,λ i j r q e k m s o=>?_,λ r f q D e c=>?_⟩
  ·rcases List.mem_append.mp f with z|z
   ·exact i1 (p.b r z)
   ·rw [List.mem_singleton.mp z];exact D2 n
  ·rcases List.mem_append.mp f with z|z
   ·exact i1 (p.e r z e c)
   ·rw [List.mem_singleton.mp z] at c;cases c
  ·rcases g k with a|⟨a,rfl⟩
   ·rcases g m with b|⟨b,rfl⟩
    ·exact p.bb i j r q a b z
    ·have:=p.b r (d0 a);exact absurd z (Q0 this)
   ·rcases g m with b|⟨b,rfl⟩
    ·have:=p.b q (d0 b);exact absurd z.symm (Q0 this)
    ·omega
  ·rcases g k with a|⟨a,rfl⟩
   ·rcases g m with b|⟨b,rfl⟩
    ·exact p.ee i j r q e a b s o
    ·cases o
   ·cases s
  ·rcases List.mem_append.mp D with b|b
   ·rcases List.mem_append.mp f with a|a
    ·exact p.be r a q b e c
    ·rw [List.mem_singleton.mp a];exact A2 (p.e q b e c)
   ·rw [List.mem_singleton.mp b] at c;cases c
 | fin h a=>
  unfold dstep;dsimp only;cases lastI h (rs.map Rc.h) with
  | none=>exact ⟨λ r f=>i1 (p.b r f),λ r f e c=>i1 (p.e r f e c),p.bb,p.ee,p.be⟩
  | some j0=>
   dsimp only;have g :∀{i:Nat} {r:Rc},(rs.modify j0 λ r=>{ r with a:=a,e:=some n })[i]? = some r->∃d,rs[i]? = some d/\r.b=d.b/\((i=j0/\r.e=some n)\/r.e=d.e):=λ {i r} q=>by
    rw [E2] at q;cases z:rs[i]? with
    | none=>rw [z] at q;cases q
    | some d=>
     rw [z] at q;have q:some (if j0=i then { d with a:=a,e:=some n } else d)=some r:=q;by_cases y:j0=i
     ·rw [if_pos y] at q;cases q;exact ⟨d,rfl,rfl,.inl ⟨y.symm,rfl⟩⟩
     ·rw [if_neg y] at q;cases q;exact ⟨_,rfl,rfl,.inr rfl⟩
   have B :∀{r:Rc},r∈(rs.modify j0 λ r=>{ r with a:=a,e:=some n })->∃i,(rs.modify j0 λ r=>{ r with a:=a,e:=some n })[i]? = some r:=λ h=>List.mem_iff_getElem?.mp h;refine ⟨λ r f=>?_,λ r f e c=>?_,λ i j r q k m z=>?_,λ i j r q e k m s o=>?_,λ r f q D e c=>?_⟩
   ·obtain ⟨i,k⟩:=B f;obtain ⟨d,l,A,_⟩:=g k;rw [A];exact i1 (p.b d (d0 l))
   ·obtain ⟨i,k⟩:=B f;obtain ⟨d,l,_,⟨_,z⟩|z⟩:=g k
    ·rw [z] at c;cases c;exact D2 n
    ·rw [z] at c;exact i1 (p.e d (d0 l) e c)
   ·obtain ⟨d,l,A,_⟩:=g k;obtain ⟨u,t,H,_⟩:=g m;exact p.bb i j d u l t (by rw [<-A,<-H];exact z)
   ·obtain ⟨d,l,_,⟨F,G⟩|y⟩:=g k
    ·obtain ⟨u,t,_,⟨E,C⟩|w⟩:=g m
     ·rw [F,E]
     ·rw [G] at s;cases s;rw [w] at o;exact absurd (p.e u (d0 t) _ o) (Y2 _)
    ·obtain ⟨u,t,_,⟨E,C⟩|w⟩:=g m
     ·rw [C] at o;cases o;rw [y] at s;exact absurd (p.e d (d0 l) _ s) (Y2 _)
     ·exact p.ee i j d u e l t (by rw [<-y];exact s) (by rw [<-w];exact o)
   ·obtain ⟨i,k⟩:=B f;obtain ⟨j,m⟩:=B D;obtain ⟨d,l,A,_⟩:=g k;obtain ⟨u,t,_,⟨E,C⟩|w⟩:=g m
    ·rw [C] at c;cases c;rw [A];exact Q0 (p.b d (d0 l))
    ·rw [A];exact p.be d (d0 l) u (d0 t) e (by rw [<-w];exact c)
theorem PosI.all :∀(es:List Ev) {n:Nat} {rs:List Rc},PosI n rs->PosI (n + es.length) (dAll n rs es)
 | [],_,_,p=>p
 | e :: es,n,rs,p=>by have:=PosI.all es (p.step e);rw [show n + (e :: es).length=n + 1 + es.length by rw [A1];omega];exact this
theorem PosI.nil:PosI 0 []:=⟨λ _ h=>absurd h B0,λ _ h=>absurd h B0,λ i j r q h=>by simp at h,λ i j r q e h=>by simp at h,λ _ h=>absurd h B0⟩
theorem z3t {α β:Type} {R:α->β->Prop} :∀{xs:List α} {x:α} {ys:List β},All2 R (xs++[x]) ys->∃ys' y,ys=ys'++[y]/\All2 R xs ys'/\R x y
 | [],x,_,.cons a .nil=>⟨[],_,rfl,.nil,a⟩
 | z :: xs,x,_,.cons a r=>by obtain ⟨ys',y,rfl,b,c⟩:=z3t r;exact ⟨_ :: ys',y,rfl,.cons a b,c⟩
theorem z2b {α β:Type} {S:α->β->Prop} {q:α->Bool} {es:List α} :∀(n:Nat),n<=es.length->∀{ws:List β},All2 (λ i y=>∀e,es[i]? = some e->S e y) ((N1 n).filter λ i=>(es[i]?.map q).getD false) ws->All2 S ((es.take n).filter q) ws
 | 0,_,ws,h=>by cases h;exact .nil
 | n + 1,hn,ws,h=>by
  have e:es[n]? = some es[n]:=J0 hn;rw [O8,F2] at h;rw [p6,e,F2];by_cases z:q es[n]=true
  ·rw [W1 (by rw [e];exact z)] at h;obtain ⟨c,y,rfl,a,b⟩:=z3t h;show All2 S (_++[es[n]].filter q) _;rw [W1 z];exact z0n (z2b n (by omega) a) (b _ e)
  ·rw [X1 (by rw [e];exact z)] at h;show All2 S (_++[es[n]].filter q) _;rw [X1 z,k5,C2];rw [k5,C2] at h;exact z2b n (by omega) h
end
section
variable {P:Program} {w:O0} {mg:Str->Option Value} {base:Heap}
def z25 (K:c0):Sp:=λ vs H Q _=>∃y r wr e,vs=[y]/\RcAt K H r y/\(RdG r\/WrG wr r)/\r.e=some e/\Q (.bl true) H
theorem z5h (T:TX (kx w) mg) (c0:Ca P w mg base "is_whole" ["value"] 1 z1p):Fo P w mg base CX0 2 266 y07 ["deed"] (z25 (kx w)):=by
 refine (z1l w.params).ok z5d (λ d H Q E h=>?_) (λ k A l s H d Q E f h=>?_)
 ·obtain ⟨y,r,i,e,rfl,_⟩:=h;rfl
 ·obtain ⟨y,r,i,e,rfl,⟨p,rfl,b⟩,g,c,q⟩:=h;refine ⟨_,(z06 (ps_if (z09 opEq (pe_ix ix_seq (pv 0) pe_int (λ _ _=>rfl)) pe_str (nomark _))
   (z05 (ps_ret (z13 opEq (pe_ix ix_seq (pv 0) pe_int (λ _ _=>rfl)) pe_str (nomark _))))
   z0d)
   (z05 (ps_ret (pe_cal c0 (f.mono (by decide)) rfl (z00 (pe_ix ix_seq (pv 0) pe_int (λ _ _=>rfl)) pa_nil))))),?_⟩
  rcases g with g|g
  ·refine ⟨_,rfl,.inr (.inl ⟨p,_,2,.str "read",rfl,rfl,b,by rw [g.1];exact z03 (j:=2) rfl,rfl,_,rfl,iteK ?_⟩)⟩;exact ⟨_,rfl,.inr (.inl ⟨p,_,4,.int (intV r.a),rfl,rfl,b,by rw [g.2.2 e c];exact z03 (j:=4) rfl,_,"int",rfl,rfl,by rw [show decide (("int" : String) = "int")=true by decide];exact q⟩)⟩
  ·refine ⟨_,rfl,.inr (.inl ⟨p,_,2,.str "write",rfl,rfl,b,by rw [g.1];exact z03 (j:=2) rfl,rfl,_,rfl,iteP (by decide +kernel) ?_⟩)⟩;exact ⟨_,rfl,.inr (.inl ⟨p,_,4,.str "ok",rfl,rfl,b,by rw [g.2.2.2 e c];exact z03 (j:=4) rfl,rfl,q⟩)⟩
structure ToldAt (K:c0) (H:Hp) (l:Addr) (wr:Int) (rs:List Rc) (zs:List V):Prop where
 l:H l=some (.lst zs)
 a:All2 (RcAt K H) rs zs
 g :∀r∈rs,RdG r\/WrG wr r
 n:rs.length<=63
theorem ToldAt.same {K:c0} {H H':Hp} {l:Addr} {wr:Int} {rs:List Rc} {zs:List V} (s:Same H H') (h:ToldAt K H l wr rs zs):ToldAt K H' l wr rs zs:=⟨s _ _ h.l,z02 (λ _ _ z=>RcAt.tups (.of s) z) h.a,h.g,h.n⟩
noncomputable def r00:Rc:=⟨0,.non,.non,.non,.non,0,none⟩
theorem getD_some {rs:List Rc} {i:Nat} {r:Rc} (h:rs[i]? = some r):rs[i]?.getD r00=r:=by rw [h];rfl
theorem zau (x:Int) :∀ns:List Int,inV (.int x) (ns.map V.int)=decide (x∈ns)
 | []=>by rw [decide_eq_false B0];rfl
 | n :: r=>by
  show ((n == x) || inV (.int x) (r.map V.int))=_;rw [zau x r];by_cases e:n=x
  ·rw [beq_iff_eq.mpr e,Bool.true_or,decide_eq_true (List.mem_cons.mpr (.inl e.symm))]
  ·rw [Bool.eq_false_iff.mpr (λ h=>e (beq_iff_eq.mp h)),Bool.false_or];by_cases m:x∈r
   ·rw [decide_eq_true m,decide_eq_true (List.mem_cons.mpr (.inr m))]
   ·rw [decide_eq_false m,decide_eq_false (λ h=>(List.mem_cons.mp h).elim (λ y=>e y.symm) m)]
theorem z87 :∀ns:List Int,(ns.map V.int).all flatV=true
 | []=>rfl
 | _ :: r=>by show (true && (r.map V.int).all flatV)=true;rw [z87 r];rfl
theorem z8o {f:Rc->V} {rs:List Rc} {zs ys:List V} (lz:zs.length=rs.length) (h:All2 (λ (i:Nat) y=>y=f (rs[i]?.getD r00)) ((N1 zs.length).filter λ i=>isW (rs[i]?.getD r00)) ys):ys=(rs.filter isW).map f:=by rw [lz] at h;rw [z16 h];exact z0x isW f r00 rs
def z3m (K:c0):Sp:=λ vs H Q _=>∃l zs rs wr,vs=[.ref l]/\ToldAt K H l wr rs zs/\((rs.filter isW).map (λ r=>intV r.x)).Nodup/\(0:Int)∉(rs.filter isW).map (λ r=>intV r.x)/\∀H',Same H H'->Q (.bl true) H'
theorem z78 (T:TX (kx w) mg) (c0:Ca P w mg base "is_answered" ["deed"] 2 (z25 (kx w))):Fo P w mg base CX0 3 259 y0g ["told"] (z3m (kx w)):=by
 refine (z2h w.params).ok sc_are_plain (λ Z H Q E h=>?_) (λ a6 A a7 s H Z Q E hr h=>?_)
 ·obtain ⟨l,B,c,W,rfl,_⟩:=h;rfl
 ·obtain ⟨l,B,c,W,rfl,b,nd,n0,q⟩:=h;refine ⟨_,(z06 (z6r (i:=1) sc_are_plain.nd rfl (C1 rfl) (xs:=["deed"]) (g:=gName 0) (fr:=[]) rfl (z0i (pv 0)) (λ _ z=>absurd z B0) (z2z rfl) (λ _ z=>absurd z B0) (by decide +kernel) rfl (by decide +kernel) (λ _ _ _ _ _=>(pg_cn (N:=["deed"]) 0)) (λ _ _ _ _ _=>(pf_one (z09 opEq (pe_ix (z0q (K:=KX w.params) rfl) (pv 0) pe_int (λ _ _=>rfl)) pe_str (nomark _)))) (λ _ _ _ _ _=>(pe_ix (z0q (K:=KX w.params) rfl) (pv 0) pe_int (λ _ _=>rfl))))
   (z06 (ps_if (PW.pt (pw_or (z09 z86 pe_int (pv 1) (by with_unfolding_all rfl)) (pw_or1 (z09 op_lt (zck rfl rfl (T.no (n_len _)) rfl (T.no (n_set _)) M3 boot_set (pv 1)) (z0a z0r rfl (T.no (n_len _)) M3 (z00 (pv 1) pa_nil)) (nomark _)))))
   (z05 (ps_ret pe_bl))
   z0d)
   (z05 (ps_ret (z0a (z23 rfl) rfl (T.no (n_all _)) U9 (z00 (pe_cg (xs:=["deed"]) (g:=gName 0) (fr:=[]) (z0i (pv 0)) (λ _ _ _ _ _=>(pg_cn (N:=["deed"]) 0)) (λ _ _ _ _ _=>pf_nil) (λ _ _ _ _ _=>(pe_or (z13 op_isN (pe_ix (z0q (K:=KX w.params) rfl) (pv 0) pe_int (λ _ _=>rfl)) pe_non (nomark _)) (pe_one (pe_cal c0 (hr.mono (by decide)) rfl (z00 (pv 0) pa_nil)))))) pa_nil)))))),?_⟩
  have lz:B.length=c.length:=z04 b.a;have a2:=b.n;refine z0c ?_;refine z0o (K:=KX w.params) (a:=l) (xs:=B) (H1:=H) (λ i=>isW (c[i]?.getD r00)) (λ i y _=>y=.int (intV (c[i]?.getD r00).x)) (λ _ _ _ _ _ z=>z) (λ R h=>⟨_,rfl,h⟩) (SqL.of b.l) (F0 (m:=63) (by omega) (by decide)) ?_ ?_
  ·intro i hi v H1 G J KT KF t F;obtain ⟨r,D,p,rfl,I⟩:=z08 b.a J;have d:=G.seqT I;rw [getD_some D] at t F;refine ⟨[some (.ref p)],rfl,rfl,?_⟩;rcases b.g r (d0 D) with g|g
   ·refine ⟨_,rfl,.inr (.inl ⟨p,_,2,.str "read",rfl,rfl,d,by rw [g.1];exact z03 (j:=2) rfl,rfl,_,rfl,iteK (F g.w _ (Same.refl _))⟩)⟩
   ·refine ⟨_,rfl,.inr (.inl ⟨p,_,2,.str "write",rfl,rfl,d,by rw [g.1];exact z03 (j:=2) rfl,rfl,_,rfl,iteP (by decide +kernel) ?_⟩)⟩;exact ⟨_,rfl,.inr (.inl ⟨p,_,3,.int (intV r.x),rfl,rfl,d,by rw [<-g.2.2.1];exact z03 (j:=3) rfl,t g.w _ _ (Same.refl _) rfl⟩)⟩
  intro k H1 Y G a1 a0;have ey:=z8o (f:=λ r=>V.int (intV r.x)) lz a0;have a5:Y=((c.filter isW).map (λ r=>intV r.x)).map V.int:=by rw [ey,A3];rfl
  have lu:((c.filter isW).map (λ r=>intV r.x)).length<=63:=by rw [C0];exact F0 (Z0 _ _) a2
  subst a5;generalize (c.filter isW).map (λ r=>intV r.x)=us at nd n0 lu⊢;have U:=Same.upd (o:=.lst (us.map V.int)) a1;have C:upd H1 k (.lst (us.map V.int)) k=some (.lst (us.map V.int)):=z01;have L:=G.trans U;generalize upd H1 k (.lst (us.map V.int))=H2 at U C L⊢;refine g_name ?_;refine sq_if ?_;refine t_or ?_;refine ⟨_,rfl,k,_,rfl,.inl (SqL.of C),rfl,z87 _,_,rfl,iteN (by show ¬ inV _ _=true;rw [zau,decide_eq_false n0];decide) ?_⟩;refine ⟨_,rfl,k,us,rfl,SqL.of C,by omega,_,rfl,.inl ⟨k,_,rfl,.inl (SqL.of C),_,_,rfl,rfl,_,rfl,iteN ?_ ?_⟩⟩
  ·rw [z6e us [] nd (λ _ _=>B0),B4,C0];exact λ e=>absurd (of_decide_eq_true e) (by omega)
  refine t_nx (sq_ret (e_cb1 ?_));have S:=b.same L;refine z0o (K:=KX w.params) (a:=l) (xs:=B) (H1:=H2) (λ _=>true) (λ i y _=>y=.bl true) (λ _ _ _ _ _ z=>z) (λ R h=>⟨_,rfl,h⟩) (SqL.of S.l) (F0 (m:=63) (by omega) (by decide)) ?_ ?_
  ·intro i hi v H3 M J KT KF t F;obtain ⟨r,D,p,rfl,I⟩:=z08 S.a J;have d:=M.seqT I;refine ⟨[some (.ref p)],rfl,rfl,iteT ?_⟩;cases he:r.e with
   | none=>exact ⟨_,rfl,.inr (.inl ⟨p,_,6,.non,rfl,rfl,d,by rw [he];exact z03 (j:=6) rfl,rfl,_,rfl,iteP (by decide) (t rfl _ _ (Same.refl _) rfl)⟩)⟩
   | some e=>refine ⟨_,rfl,.inr (.inl ⟨p,_,6,.int e,rfl,rfl,d,by rw [he];exact z03 (j:=6) rfl,rfl,_,rfl,iteN (by simp) ?_⟩)⟩;exact ⟨_,rfl,_,r,W,e,rfl,⟨p,rfl,d⟩,b.g r (d0 D),he,t rfl _ _ (Same.refl _) rfl⟩
  intro l3 H3 bs M a3 a4;have O :∀y∈bs,y=.bl true:=λ y u=>by obtain ⟨m,X⟩:=List.mem_iff_getElem?.mp u;obtain ⟨_,_,z⟩:=z08 a4 X;exact z
  refine ⟨l3,bs,rfl,SqL.of z01,λ y u=>⟨true,O y u⟩,?_⟩;rw [List.all_eq_true.mpr (λ y u=>decide_eq_true (O y u))];exact q _ (L.trans (M.trans (Same.upd a3)))
structure TalR (K:c0) (H:Hp) (t:Addr) (nm:Str) (wr:Int) (es:List Ev) (ys:List V):Prop where
 t :∃pt te th,SqT K H t [.ref pt,.ref te]/\SqT K H pt [.ref th]/\SqT K H th [.str nm,.str "register"]/\SqT K H te ys
 ev:All2 (EvAt K H) es ys
 tw:TwG es
 ln:es.length<=62
theorem TalR.same {K:c0} {H H':Hp} {t:Addr} {nm:Str} {wr:Int} {es:List Ev} {ys:List V} (s:Same H H') (h:TalR K H t nm wr es ys):TalR K H' t nm wr es ys:=by obtain ⟨pt,e,f,a,b,c,d⟩:=h.t;exact ⟨⟨pt,e,f,s.seqT a,s.seqT b,s.seqT c,s.seqT d⟩,z02 (λ _ _ z=>EvAt.tups (.of s) z) h.ev,h.tw,h.ln⟩
theorem z4p :∀{es:List Ev} {i:Nat} {rs:List Rc},(dAll i rs es).length<=rs.length + es.length
 | [],_,_=>A0 _
 | e :: es,i,rs=>by
  have h:=z4p (es:=es) (i:=i + 1) (rs:=dstep i rs e);have b:(dstep i rs e).length<=rs.length + 1:=by
   cases e with
   | beg k n v x=>exact j7 (L0 ..)
   | fin k a=>
    unfold dstep;dsimp only;cases lastI k (rs.map Rc.h) with
    | none=>exact Y5 _
    | some j=>dsimp only;rw [n5];exact Y5 _
  show (dAll (i + 1) (dstep i rs e) es).length<=_;rw [A1];omega
def z17 (K:c0):Sp:=λ vs H Q _=>∃t nm wr es ys,vs=[.ref t]/\TalR K H t nm wr es ys/\∀l zs H',Same H H'->ToldAt K H' l wr (dAll 0 [] es) zs->Q (.ref l) H'
theorem z8f:plainP (.list [.str "register"])=true:=by decide +kernel
theorem zfs:PyData.eqv (.list [.str "register"]) (.list [.str "register"])=true:=by decide +kernel
theorem z4w (T:TX (kx w) mg) (c0:Ca P w mg base "deeds" ["tale"] 1 (zb7 (kx w))) (c1:Ca P w mg base "are_plain" ["told"] 3 (z3m (kx w))):Fo P w mg base CX0 4 254 y06 ["tale"] (z17 (kx w)):=by
 refine (z1i w.params).ok sc_plain_deeds (λ X H Q E h=>?_) (λ a1 A a4 s H X Q E u h=>?_)
 ·obtain ⟨t,I,k,c,D,rfl,_⟩:=h;rfl
 ·obtain ⟨t,I,k,c,D,rfl,b,q⟩:=h;refine ⟨_,(z06 (ps_set (i:=1) sc_plain_deeds.nd rfl (C1 rfl) (pe_cal c0 (u.mono (by decide)) rfl (z00 (pv 0) pa_nil)))
   (z06 (ps_if (PW.pt (pw_or (z09 (op_neP u) (pe_cg (xs:=["name","kind"]) (g:=gTup (kx w) 2 (gCons (gName 0) (gCons (gName 1) gNil))) (fr:=[]) (pi_tup (pe_ix ix_seq (pv 0) pe_int (λ _ _=>rfl))) (λ _ _ _ _ _=>(pg_tup rfl (z0l (pg_cn (N:=["name","kind"]) 0) (z0l (pg_cn (N:=["name","kind"]) 1) z2a)))) (λ _ _ _ _ _=>pf_nil) (λ _ _ _ _ _=>(pv 1))) (pe_lst (z00 pe_str pa_nil)) (nomark _)) (pw_or1 (pt_not (pt_val (pe_cal c1 (u.mono (by decide)) rfl (z00 (pv 1) pa_nil)) (λ _=>rfl))))))
   (z05 z1v)
   z0d)
   (z05 (ps_ret (pv 1))))),?_⟩
  obtain ⟨pt,te,C,U,sp,sh,W⟩:=b.t;have tw:=b.tw;have wf:=tw.wf;have a2:=b.ln;have rn:(dAll 0 [] c).length<=63:=F0 z4p (by simp;omega);refine z0c ?_;refine ⟨_,rfl,t,te,.ref pt,D,c,rfl,U,W,b.ev,by omega,wf,λ l n H1 d a3 Z al=>?_⟩;refine g_name ?_;have J:ToldAt (kx w) H1 l k (dAll 0 [] c) n:=⟨Z,al,tw.g k,rn⟩
  refine sq_if (t_or (t_test ?_));refine z8h (K:=KX w.params) (a:=pt) (xs:=[.ref C]) (H1:=H1) (λ _=>true) (λ i y _=>y=.str "register") (λ _ _ _ _ _ z=>z) (λ R h=>⟨_,rfl,.inr (.inl ⟨t,_,0,.ref pt,rfl,rfl,d.seqT U,z03 (j:=0) rfl,h⟩)⟩) (d.seqT sp) w_1 ?_ ?_
  ·intro i hi v x B hv KT KF h1 h2;have:v=.ref C:=List.mem_singleton.mp (d0 hv);subst this;refine ⟨C,_,rfl,(d.trans B).seqT sh,rfl,_,_,rfl,_,_,rfl,rfl,[some (.str I),some (.str "register")],rfl,rfl,iteT ⟨_,rfl,h1 rfl _ _ (Same.refl _) rfl⟩⟩
  intro f x G B a0 m;have ek:G=[.str "register"]:=by
   replace m:All2 (λ (_:Nat) (y:V)=>y=.str "register") [0] G:=m;cases m with
   | cons a r=>cases r;rw [a]
  subst ek;have S:=Same.upd (o:=.lst [V.str "register"]) a0;have L:upd x f (.lst [V.str "register"]) f=some (.lst [V.str "register"]):=z01;have M:=B.trans S;generalize upd x f (.lst [V.str "register"])=H3 at S L M⊢;refine ⟨w_1,λ F Y=>?_⟩;have p:=Same.upd (o:=.lst [V.str "register"]) Y;refine ⟨.list [.str "register"],.list [.str "register"],⟨f,_,rfl,SqL.of (p _ _ L),⟨_,_,rfl,rfl,rfl⟩⟩,⟨F,_,rfl,SqL.of z01,⟨_,_,rfl,rfl,rfl⟩⟩,z8f,z8f,(show (1:Nat)<=60 by decide),_,rfl,iteN (by rw [zfs];decide) ?_⟩;have e:=M.trans p;generalize upd H3 F (.lst [V.str "register"])=H4 at p e⊢;refine ⟨_,rfl,l,n,_,k,rfl,J.same e,tw.nd,tw.n0,λ H5 O=>⟨true,rfl,iteN (by decide) ?_⟩⟩;exact ⟨_,rfl,q l n H5 (d.trans (e.trans O)) (J.same (e.trans O))⟩
structure Ent where
 x:Int
 b:Int
 e:Option Int
noncomputable def ent0:Ent:=⟨0,-2,some (-1)⟩
noncomputable def entW (r:Rc):Ent:=⟨intV r.x,r.b,r.e.map λ n=>(n:Int)⟩
noncomputable def ents (rs:List Rc):List Ent:=ent0 :: (rs.filter isW).map entW
theorem ents_mem {rs:List Rc} {t:Ent}:t∈ents rs↔t=ent0\/∃w∈rs,isW w=true/\t=entW w:=by
 unfold ents;rw [G3,List.mem_map];constructor
 ·rintro (h|⟨w,hw,e⟩)
  ·exact .inl h
  ·exact .inr ⟨w,(List.mem_filter.mp hw).1,(List.mem_filter.mp hw).2,e.symm⟩
 ·rintro (h|⟨w,hw,hi,e⟩)
  ·exact .inl h
  ·exact .inr ⟨w,List.mem_filter.mpr ⟨hw,hi⟩,e.symm⟩
theorem z1n (rs:List Rc) (r:Rc):ents (rs++[r])=ents rs++if isW r=true then [entW r] else []:=by
 unfold ents;rw [F2,O2,List.cons_append];by_cases z:isW r=true
 ·rw [if_pos z,W1 z];rfl
 ·rw [if_neg z,X1 z];rfl
noncomputable def endO:Option Int->V
 | none=>.non
 | some i=>.int i
theorem endV_O (o:Option Nat):endV o=endO (o.map λ n=>(n:Int)):=by cases o<;>rfl
def EntV (K:c0) (H:Hp) (t:Ent) (v:V):Prop:=∃p,v=.ref p/\SqT K H p [.int t.b,endO t.e]
def EntAt (K:c0) (H:Hp) (t:Ent) (kv:Key×V):Prop:=kv.1=.inl t.x/\EntV K H t kv.2
theorem EntV.tups {K:c0} {H H':Hp} {t:Ent} {v:V} (f :∀c xs,SqT K H c xs->SqT K H' c xs) (h:EntV K H t v):EntV K H' t v:=h.elim λ p z=>⟨p,z.1,f _ _ z.2⟩
theorem EntAt.tups {K:c0} {H H':Hp} {t:Ent} {kv:Key×V} (f :∀c xs,SqT K H c xs->SqT K H' c xs) (h:EntAt K H t kv):EntAt K H' t kv:=⟨h.1,h.2.tups f⟩
theorem z2p {K:c0} {H:Hp} :∀{ts:List Ent} {kvs:List (Key×V)},All2 (EntAt K H) ts kvs->kvs.map (·.1)=ts.map λ t=>Sum.inl t.x
 | _,_,.nil=>rfl
 | _,_,.cons a r=>by rw [U0,U0,z2p r,a.1]
theorem z2m (rs:List Rc):(ents rs).length<=rs.length + 1:=by unfold ents;rw [A1,C0];exact Nat.succ_le_succ (Z0 _ _)
theorem za5 {rs:List Rc} {i:Nat} {r:Rc} (nd:((rs.filter isW).map (λ r=>intV r.x)).Nodup) (n0:(0:Int)∉(rs.filter isW).map (λ r=>intV r.x)) (h:rs[i]? = some r) (hw:isW r=true):(Sum.inl (intV r.x):Key)∉(ents (rs.take i)).map λ t=>(Sum.inl t.x:Key):=λ z=>by
 obtain ⟨t,d,e⟩:=List.mem_map.mp z;have e:=g4 e;rcases ents_mem.mp d with rfl|⟨w,hm,hi,rfl⟩
 ·exact n0 (List.mem_map.mpr ⟨r,List.mem_filter.mpr ⟨d0 h,hw⟩,e.symm⟩)
 ·have a:rs=rs.take i++r :: rs.drop (i + 1):=by obtain ⟨b,c⟩:=List.getElem?_eq_some_iff.mp h;rw [<-c,<-D6 b,List.take_append_drop]
  rw [a,F2,O2,List.nodup_append] at nd;exact nd.2.2 _ (List.mem_map.mpr ⟨w,List.mem_filter.mpr ⟨hm,hi⟩,rfl⟩) _ (List.mem_map.mpr ⟨r,List.mem_filter.mpr ⟨.head _,hw⟩,rfl⟩) e
theorem zf1 {H:Hp}:SqT (kx w) H 249 [.int (-2),.int (-1)]:=
 .inr ⟨⟨(.type "tuple"),none,(.seq #[(.int (-2) 573),(.int (-1) 575)] 0),#[]⟩,#[(.int (-2) 573),(.int (-1) 575)],0,by kernel_rfl,rfl,rfl,w_2,.cons ⟨_,rfl⟩ (.cons ⟨_,rfl⟩ .nil)⟩
def z3r (K:c0):Sp:=λ vs H Q _=>∃l zs rs wr,vs=[.ref l]/\ToldAt K H l wr rs zs/\((rs.filter isW).map (λ r=>intV r.x)).Nodup/\(0:Int)∉(rs.filter isW).map (λ r=>intV r.x)/\∀d kvs H',Same H H'->H d=none->H' d=some (.dK kvs)->All2 (EntAt K H') (ents rs) kvs->Q (.ref d) H'
theorem zbp (T:TX (kx w) mg):Fo P w mg base CX0 1 273 y15 ["told"] (z3r (kx w)):=by
 refine (z4x w.params).ok sc_writers (λ R H Q E h=>?_) (λ a0 A a2 s H R Q E V h=>?_)
 ·obtain ⟨l,G,F,wr,rfl,_⟩:=h;rfl
 ·obtain ⟨l,G,F,wr,rfl,f,nd,n0,q⟩:=h;refine ⟨_,(z06 (ps_set (i:=1) sc_writers.nd rfl (C1 rfl) (ze2 (zbx pe_int (z1a (v:=.ref 249) rfl (T.of (z6k _)) rfl) ze4) rfl rfl (by simp) (by decide)))
   (z06 (ps_for Q1 rfl (z0i (pv 0)) (z0m (i:=2) sc_writers.nd rfl (C1 rfl))
   (z05 (ps_if (z09 opEq (pe_ix ix_seq (pv 2) pe_int (λ _ _=>rfl)) pe_str (nomark _))
   (z05 (z4g (hu_of V) (pv 1) (pe_ix ix_seq (pv 2) pe_int (λ _ _=>rfl)) (z2c slSeq (pv 2) (z34 pe_int) z6t) rfl))
   z0d)))
   (z05 (ps_ret (pv 1))))),?_⟩
  have S:G.length=F.length:=z04 f.a;have a1:=f.n;intro d hd;refine ⟨z01,[(.inl 0,.ref 249)],rfl,(show (1:Nat)<=15 by decide),?_⟩;have D:Same H (upd (upd H d (.dK [])) d (.dK (mergeK [] [(.inl 0,.ref 249)]))):=Same.keep (Same.upd hd) hd;have O:upd (upd H d (.dK [])) d (.dK (mergeK [] [(.inl 0,.ref 249)])) d=some (.dK [(.inl 0,.ref 249)]):=z01;generalize upd (upd H d (.dK [])) d (.dK (mergeK [] [(.inl 0,.ref 249)]))=H1 at D O⊢;refine ⟨_,rfl,l,rfl,⟨_,SqL.of (D _ _ f.l)⟩,?_⟩;refine z0z (K:=KX w.params) (a:=l) (xs:=G) (λ i σ t=>Same H t/\(∃kvs,t d=some (.dK kvs)/\All2 (EntAt (kx w) t) (ents (F.take i)) kvs)/\∃x2,σ=[some (.ref l),some (.ref d),x2])
   ⟨D,⟨_,O,.cons ⟨rfl,249,rfl,zf1⟩ .nil⟩,_,rfl⟩ (λ _ σ t _ h=>SqL.of (h.1 _ _ f.l)) ?_ ?_
  ·rintro i y σ N X ⟨s2,⟨kvs,ed,wk⟩,x2,rfl⟩;obtain ⟨r,o,p,rfl,U⟩:=z08 f.a X;have hi:i < 63:=by have:=(List.getElem?_eq_some_iff.mp o).1;omega
   have lk:kvs.length<=64:=by rw [z04 wk];refine F0 (z2m _) ?_;rw [i3];omega
   have B:=s2.seqT U;refine g_name ?_;rcases f.g r (d0 o) with g|g
   ·refine ⟨_,rfl,.inr (.inl ⟨p,_,2,.str "read",rfl,rfl,B,by rw [g.1];exact z03 (j:=2) rfl,rfl,_,rfl,iteK ?_⟩)⟩;refine ⟨s2,⟨kvs,ed,?_⟩,_,rfl⟩;rw [z1o o,z1n,if_neg (by rw [g.w];decide),C2];exact wk
   ·refine ⟨_,rfl,.inr (.inl ⟨p,_,2,.str "write",rfl,rfl,B,by rw [g.1];exact z03 (j:=2) rfl,rfl,_,rfl,iteP (by decide +kernel) ?_⟩)⟩;refine ⟨_,rfl,5,rfl,.inr (.inl ⟨p,_,rfl,B,λ z=>absurd z.1 (show ¬ HT.sIx 7 0 (some 5)=0 by decide),λ M Z=>?_⟩)⟩;have c1:cutV [.int r.h,r.n,r.v,r.x,r.a,.int r.b,endV r.e] (some 5) none=[.int r.b,endV r.e]:=rfl;rw [c1];obtain ⟨J,W,u,Y⟩:=newA (.tup [.int r.b,endV r.e]) Z;rw [<-W];have L:=u _ _ ed;refine ⟨_,rfl,_,rfl,.inr (.inl ⟨p,_,3,.int (intV r.x),rfl,rfl,u.seqT B,by rw [<-g.2.2.1];exact z03 (j:=3) rfl,d,_,rfl,DPut.k (k:=.inl (intV r.x)) L (J1 (m:=100) (by omega) (by decide)),?_⟩)⟩;have C:Tups (kx w) J (upd J d (.dK (putK kvs (.inl (intV r.x)) (.ref M)))):=Tups.dict L;have I:=za5 nd n0 o g.w;rw [<-z2p wk] at I;refine ⟨Same.keep (s2.trans u) hd,⟨_,z01,?_⟩,_,rfl⟩;rw [z1o o,z1n,if_pos g.w,z15 I];rw [z15 I] at C;refine z0n (z02 (λ _ _ z=>EntAt.tups (λ c xs y=>C _ _ (u.seqT y)) z) wk) ⟨rfl,M,rfl,?_⟩;have:=C _ _ (SqT.of Y);rw [endV_O] at this;exact this
  ·rintro σ N ⟨s2,⟨kvs,ed,wk⟩,x2,rfl⟩;rw [S,Z2] at wk;exact ⟨_,rfl,q d kvs N s2 hd ed wk⟩
def NumAt (H:Hp) (zs:List V) (i:Nat) (y:V):Prop:=∃p z,y=.ref p/\H p=some (.tup [.int (i:Nat),z])/\zs[i]? = some z
theorem NumAt.same {H H':Hp} {zs:List V} {i:Nat} {y:V} (s:Same H H') (h:NumAt H zs i y):NumAt H' zs i y:=by obtain ⟨p,z,a,b,c⟩:=h;exact ⟨p,z,a,s _ _ b,c⟩
noncomputable def isRE (r:Rc):Bool:=decide (r.v=.str "read") && r.e.isSome
def z18 (K:c0):Sp:=λ vs H Q _=>∃l zs rs wr,vs=[.ref l]/\ToldAt K H l wr rs zs/\∀a ws H',Same H H'->H' a=some (.lst ws)->All2 (NumAt H' zs) ((N1 rs.length).filter λ i=>isRE (rs[i]?.getD r00)) ws->Q (.ref a) H'
theorem z5s (T:TX (kx w) mg):Fo P w mg base CX0 1 278 y08 ["told"] (z18 (kx w)):=by
 refine (z1j w.params).ok z59 (λ J H Q E h=>?_) (λ a0 A a2 s H J Q E hr h=>?_)
 ·obtain ⟨l,c,t,Y,rfl,_⟩:=h;rfl
 ·obtain ⟨l,c,t,Y,rfl,b,q⟩:=h;refine ⟨_,(z05 (ps_ret (pe_cg (xs:=["number","deed"]) (g:=gTup (kx w) 2 (gCons (gName 0) (gCons (gName 1) gNil))) (fr:=[]) (zem rfl (T.no (z4i _)) (z00 (pv 0) pa_nil)) (λ _ _ _ _ _=>(pg_tup rfl (z0l (pg_cn (N:=["number","deed"]) 0) (z0l (pg_cn (N:=["number","deed"]) 1) z2a)))) (λ _ _ _ _ _=>(pf_one (PW.pt (pw_and (z09 opEq (pe_ix (z0q (K:=KX w.params) rfl) (pv 1) pe_int (λ _ _=>rfl)) pe_str (nomark _)) (z1s (z09 z3l (pe_ix (z0q (K:=KX w.params) rfl) (pv 1) pe_int (λ _ _=>rfl)) pe_non (nomark _))))))) (λ _ _ _ _ _=>(pe_tup (z00 (pv 0) (z00 (pv 1) pa_nil))))))),?_⟩;have L:c.length=t.length:=z04 b.a;have a1:=b.n;refine sq_ret ?_;refine zdi (K:=KX w.params) (a:=l) (xs:=c) (H1:=H) (λ i=>isRE (t[i]?.getD r00)) (λ i y V=>NumAt V c i y) (λ _ _ _ _ s z=>z.same s) (λ R h=>⟨_,rfl,h⟩) (SqL.of b.l) (F0 (m:=63) (by omega) (by decide)) ?_ ?_
  ·intro i hi v H1 k W KT KF u f;obtain ⟨x,U,D,rfl,Z⟩:=W;obtain ⟨r,F,p,rfl,M⟩:=z08 b.a D;have d:=k.seqT M;rw [getD_some F] at u f;refine ⟨U,_,rfl,SqT.of Z,rfl,_,_,rfl,_,_,rfl,rfl,[some (.int (i:Nat)),some (.ref p)],rfl,rfl,?_⟩;rcases b.g r (d0 F) with g|g
   ·refine ⟨_,rfl,.inr (.inl ⟨p,_,2,.str "read",rfl,rfl,d,by rw [g.1];exact z03 (j:=2) rfl,rfl,_,rfl,iteP (by decide +kernel) ?_⟩)⟩;cases he:r.e with
    | none=>exact ⟨_,rfl,.inr (.inl ⟨p,_,6,.non,rfl,rfl,d,by rw [he];exact z03 (j:=6) rfl,rfl,_,rfl,iteN (by decide) (f (by unfold isRE;rw [he];exact G7 _) _ (Same.refl _))⟩)⟩
    | some e=>refine ⟨_,rfl,.inr (.inl ⟨p,_,6,.int e,rfl,rfl,d,by rw [he];exact z03 (j:=6) rfl,rfl,_,rfl,iteP (by simp) ?_⟩)⟩;refine ⟨_,rfl,_,rfl,w_2,λ X O=>u (by unfold isRE;rw [he,decide_eq_true g.1];rfl) _ _ (Same.upd O) ⟨X,_,rfl,z01,D⟩⟩
   ·refine ⟨_,rfl,.inr (.inl ⟨p,_,2,.str "write",rfl,rfl,d,by rw [g.1];exact z03 (j:=2) rfl,rfl,_,rfl,iteK ?_⟩)⟩;refine iteN (by decide) (f ?_ _ (Same.refl _));unfold isRE;rw [decide_eq_false (λ e=>z14 (e.symm.trans g.1))];rfl
  intro I H1 C k S B;rw [L] at B;have G:=Same.upd (o:=.lst C) S;exact q I C _ (k.trans G) z01 (z02 (λ _ _ z=>z.same G) B)
theorem ck_T (P:S0):CodeK (KX P) cdT tbT:=⟨⟨(.type "code"),none,(.fields #[(.str "zones" 611),(.str "zones" 612),(.str "/claim/cut.py" 613),(.int (150) 0),(.int (1) 0),(.int (0) 0),(.int (0) 0),(.int (3) 0),(.ref 279),(.bool true),(.int (181) 0),(.ref 280),.none,.none,.none,(.ref 281),(.int (614) 0),(.int (150) 0),(.str "/claim/cut.py" 615)]),#[]⟩,_,_,_,_,_,_,_,_,by kernel_rfl,rfl,rfl,rfl,rfl,rfl,rfl,rfl,rfl,by decide⟩
structure Zt where
 x:Int
 lo:Int
 hi:Int
 on:Bool
noncomputable def onS:Bool->Str
 | true=>"on"
 | false=>"in"
def ZtV (H:Hp) (z:Zt) (y:V):Prop:=∃p,y=.ref p/\H p=some (.tup [.int z.x,.int z.lo,.int z.hi,.str (onS z.on)])
theorem ZtV.same {H H':Hp} {z:Zt} {y:V} (s:Same H H') (h:ZtV H z y):ZtV H' z y:=h.elim λ p e=>⟨p,e.1,s _ _ e.2⟩
def MinI (l:Int) (ns:List Int):Prop:=l∈ns/\∀u∈ns,l<=u
def MaxI (l:Int) (ns:List Int):Prop:=l∈ns/\∀u∈ns,u<=l
noncomputable def zOf (x l g:Int):Zt:=if l < g then ⟨x,l,g,true⟩ else ⟨x,g,l,false⟩
def SpV (K:c0) (H:Hp) (s:Int×Option Int) (y:V):Prop:=∃p,y=.ref p/\SqT K H p [.int s.1,endO s.2]
theorem zay :∀{n:Nat} {ss:List (Int×Option Int)} {ys:List V},n<=ss.length->All2 (λ (i:Nat) y=>∀s e,ss[i]? = some s->s.2=some e->y=V.int e) ((N1 n).filter λ i=>(ss[i]?.map λ s=>s.2.isSome).getD false) ys->ys=((ss.take n).filterMap (·.2)).map V.int
 | 0,ss,ys,_,h=>by cases h;rfl
 | n + 1,ss,ys,hn,h=>by
  have e:ss[n]? = some ss[n]:=J0 hn;rw [O8,F2] at h;rw [p6,e,List.filterMap_append,O2];cases z:ss[n].2 with
  | none=>rw [X1 (by rw [e];show ¬ ss[n].2.isSome=true;rw [z];decide),k5,C2] at h;rw [zay (by omega) h];show _=_++([ss[n]].filterMap (·.2)).map V.int;rw [A9 z];exact (C2 _).symm
  | some v=>rw [W1 (by rw [e];show ss[n].2.isSome=true;rw [z];rfl),k5] at h;obtain ⟨c,y,rfl,a,b⟩:=z3t h;rw [zay (by omega) a,b _ v e z];show _=_++([ss[n]].filterMap (·.2)).map V.int;rw [G6 z];rfl
def z38 (K:c0):Sp:=λ vs H Q _=>∃(x:Int) (l:Addr) (ys:List V) (ss:List (Int×Option Int)),vs=[.int x,.ref l]/\H l=some (.lst ys)/\All2 (SpV K H) ss ys/\ss.length<=100/\ss.filterMap (·.2)≠[]/\ss≠[]/\∀p lo g H',Same H H'->MinI lo (ss.filterMap (·.2))->MaxI g (ss.map (·.1))->ZtV H' (zOf x lo g) (.ref p)->Q (.ref p) H'
theorem zaj (T:TX (kx w) mg):Fo P w mg base CX0 1 288 y16 ["worth","spans"] (z38 (kx w)):=by
 refine (z4o w.params).ok sc_zone_of (λ vs H Q E h=>?_) (λ a4 A a6 s H vs Q E hr h=>?_)
 ·obtain ⟨x,l,F,b,rfl,_⟩:=h;rfl
 ·obtain ⟨x,l,F,b,rfl,U,I,a5,a3,a0,q⟩:=h;have X:=z04 I;refine ⟨_,(z06 (ps_set (i:=2) sc_zone_of.nd rfl (C1 rfl) (z0a (z31 rfl) rfl (T.no (n_min _)) boot_min (z00 (pe_cg (xs:=["begin","end"]) (g:=gTup (kx w) 2 (gCons (gName 0) (gCons (gName 1) gNil))) (fr:=[]) (z0i (pv 1)) (λ _ _ _ _ _=>(pg_tup rfl (z0l (pg_cn (N:=["begin","end"]) 0) (z0l (pg_cn (N:=["begin","end"]) 1) z2a)))) (λ _ _ _ _ _=>(pf_one (z09 z3l (pv 1) pe_non (nomark _)))) (λ _ _ _ _ _=>(pv 1))) pa_nil)))
   (z06 (ps_set (i:=3) sc_zone_of.nd rfl (C1 rfl) (z0a (z80 rfl) rfl (T.no (n_max _)) boot_max (z00 (pe_cg (xs:=["begin","end"]) (g:=gTup (kx w) 2 (gCons (gName 0) (gCons (gName 1) gNil))) (fr:=[]) (z0i (pv 1)) (λ _ _ _ _ _=>(pg_tup rfl (z0l (pg_cn (N:=["begin","end"]) 0) (z0l (pg_cn (N:=["begin","end"]) 1) z2a)))) (λ _ _ _ _ _=>pf_nil) (λ _ _ _ _ _=>(pv 0))) pa_nil)))
   (z06 (ps_if (z09 op_lt (pv 2) (pv 3) (nomark _))
   (z05 (ps_ret (pe_tup (z00 (pv 0) (z00 (pv 2) (z00 (pv 3) (z00 pe_str pa_nil)))))))
   z0d)
   (z05 (ps_ret (pe_tup (z00 (pv 0) (z00 (pv 3) (z00 (pv 2) (z00 pe_str pa_nil)))))))))),?_⟩
  refine z0c (e_cb1 ?_);refine z0o (K:=KX w.params) (a:=l) (xs:=F) (H1:=H) (λ i=>(b[i]?.map λ s=>s.2.isSome).getD false) (λ i y _=>∀s e,b[i]? = some s->s.2=some e->y=V.int e) (λ _ _ _ _ _ z=>z) (λ R h=>⟨_,rfl,h⟩) (SqL.of U) (F0 (m:=100) (by omega) (by decide)) (λ i hi v H1 k J KT KF d j=>?_) λ t H1 W k a1 r=>?_
  ·obtain ⟨c,G,p,rfl,L⟩:=z08 I J;rw [G] at d j;refine ⟨p,_,rfl,k.seqT L,rfl,_,_,rfl,_,_,rfl,rfl,[some (.int c.1),some (endO c.2)],rfl,rfl,?_⟩;cases z:c.2 with
   | none=>exact ⟨_,rfl,rfl,_,rfl,iteN (by decide) (j (by show c.2.isSome=false;rw [z];rfl) _ (Same.refl _))⟩
   | some e=>exact ⟨_,rfl,rfl,_,rfl,iteP (by simp [endO]) ⟨_,rfl,d (by show c.2.isSome=true;rw [z];rfl) _ _ (Same.refl _) λ s' e' M B=>by cases M;rw [z] at B;cases B;rfl⟩⟩
  rw [X] at r;have f:=zay (A0 _) r;rw [Z2] at f;subst f;have u:=k.trans (Same.upd (o:=.lst ((b.filterMap (·.2)).map V.int)) a1);have e1:upd H1 t (.lst ((b.filterMap (·.2)).map V.int)) t=some (.lst ((b.filterMap (·.2)).map V.int)):=z01;generalize upd H1 t (.lst ((b.filterMap (·.2)).map V.int))=H2 at u e1⊢;refine ⟨t,_,rfl,SqL.of e1,a3,λ O d j=>g_name ?_⟩;refine z0c (e_cb1 ?_);refine z0o (K:=KX w.params) (a:=l) (xs:=F) (H1:=H2) (λ _=>true) (λ i y _=>y=V.int (b[i]?.getD (0,none)).1) (λ _ _ _ _ _ z=>z) (λ R h=>⟨_,rfl,h⟩) (SqL.of (u _ _ U)) (F0 (m:=100) (by omega) (by decide)) (λ i hi v H1 k J KT KF d j=>?_) λ C S W s3 a2 r=>?_
  ·obtain ⟨c,G,p,rfl,L⟩:=z08 I J;exact ⟨p,_,rfl,(u.trans k).seqT L,rfl,_,_,rfl,_,_,rfl,rfl,[some (.int c.1),some (endO c.2)],rfl,rfl,iteT ⟨_,rfl,d rfl _ _ (Same.refl _) (by rw [G];rfl)⟩⟩
  rw [X,List.filter_eq_self.mpr (λ _ _=>rfl)] at r;have f:=z16 r;have f:W=(b.map (·.1)).map V.int:=by
   rw [f];apply F5;intro m;rw [T0,T0,T0];by_cases z:m < b.length
   ·rw [List.getElem?_range z,J0 z];show some (V.int (b[m]?.getD (0,none)).1)=_;rw [J0 z];rfl
   ·rw [Z3 (by rw [E5];omega),Z3 (by omega)];rfl
  subst f;have Z:=u.trans (s3.trans (Same.upd (o:=.lst ((b.map (·.1)).map V.int)) a2));have Y:upd S C (.lst ((b.map (·.1)).map V.int)) C=some (.lst ((b.map (·.1)).map V.int)):=z01;generalize upd S C (.lst ((b.map (·.1)).map V.int))=H4 at Z Y⊢;refine ⟨C,_,rfl,SqL.of Y,λ z=>a0 (List.map_eq_nil_iff.mp z),λ g M B=>g_name ?_⟩;have fin :∀(p:Addr) n,Same H4 n->ZtV n (zOf x O g) (.ref p)->Q (.ref p) n:=λ p n s' z=>q p O g n (Z.trans s') ⟨d,j⟩ ⟨M,B⟩ z;refine sq_if ⟨_,rfl,_,rfl,_,_,rfl,rfl,_,rfl,ite2 (λ z=>?_) λ z=>t_nx ?_⟩
  ·have z:=of_decide_eq_true z;refine ⟨_,rfl,_,rfl,_,rfl,w_4,λ p D=>fin p _ (Same.upd D) ⟨p,rfl,?_⟩⟩;unfold zOf;rw [if_pos z];exact z01
  ·have z:¬ O < g:=λ y=>z (decide_eq_true y);refine ⟨_,rfl,_,rfl,_,rfl,w_4,λ p D=>fin p _ (Same.upd D) ⟨p,rfl,?_⟩⟩;unfold zOf;rw [if_neg z];exact z01
theorem slSeqK {X:Cx} {K:c0} (hK:X.K=K):SlR X (λ x lo hi H Q=>rSlL K x lo hi H Q\/rSlT K x lo hi H Q\/rSlS x lo hi H Q):=hK ▸ slSeq
theorem zgm {K:c0} {tl te:TE} {tc:TT} {g:TG} {m:Nat} {fr:List (Nat×Str)} {σ:L2.St} {H:Hp} {Q:VK} (h:tl σ H λ x H1=>tCompG (iList K λ _ _ R=>R x H1) m fr g tc te σ H1 Q):tCompG (iList K tl) m fr g tc te σ H Q:=h
noncomputable def lamP:Pos:=⟨157,29,157,49⟩
noncomputable def lamQ:Str:=(("zones" : Str)++".<locals>.")++"<lambda>"
abbrev LamH:Hp->Prop:=LamT tbT lamP lamQ
theorem LamH.same {H H':Hp} (s:Same H H') (h:LamH H):LamH H':=by
 rcases h with z|⟨c',z,y⟩
 ·exact .inl (s _ _ z)
 ·exact .inr ⟨c',s _ _ z,s _ _ y⟩
noncomputable def rdsF (rs:List Rc) (x:Int):List Rc:=(rs.filter isRE).filter λ r=>decide (intV r.a=x)
noncomputable def spR (r:Rc):Int×Option Int:=((r.b:Int),r.e.map λ n=>(n:Int))
noncomputable def spans (rs:List Rc) (t:Ent):List (Int×Option Int):=(t.b,t.e) :: (rdsF rs t.x).map spR
noncomputable def cntB (rs:List Rc) (t:Ent):Bool:=decide ((spans rs t).filterMap (·.2)≠[])
def ZnR (rs:List Rc) (t:Ent) (z:Zt):Prop:=∃l g,MinI l ((spans rs t).filterMap (·.2))/\MaxI g ((spans rs t).map (·.1))/\z=zOf t.x l g
def ZonS (rs:List Rc) (zl:List Zt):Prop:=∃zl0,All2 (ZnR rs) ((ents rs).filter (cntB rs)) zl0/\zl.Perm zl0/\zl.Pairwise λ z z'=>z.lo<=z'.lo
theorem z4u {α β γ:Type} {f:α->β} {R:β->γ->Prop} :∀{xs:List α} {ys:List γ},All2 (λ x y=>R (f x) y) xs ys->All2 R (xs.map f) ys
 | _,_,.nil=>.nil
 | _,_,.cons a r=>.cons a (z4u r)
def RdN (K:c0) (H:Hp) (r:Rc) (y:V):Prop:=∃(p:Addr) (i:Int) (z:V),y=.ref p/\H p=some (.tup [.int i,z])/\RcAt K H r z
theorem rdn_of {K:c0} {H:Hp} {rs:List Rc} {zs ws:List V} (a:All2 (RcAt K H) rs zs) (h:All2 (NumAt H zs) ((N1 rs.length).filter λ i=>isRE (rs[i]?.getD r00)) ws):All2 (RdN K H) (rs.filter isRE) ws:=by have e:=z0x isRE id r00 rs;rw [List.map_id] at e;rw [<-e];refine z4u (z02 (λ i y z=>?_) h);obtain ⟨p,v,rfl,b,d⟩:=z;obtain ⟨r,c,q⟩:=z08 a d;exact ⟨p,i,v,rfl,b,by rw [c];exact q⟩
theorem key_zt {H:Hp} {zl:List Zt} {ys out:List V} (a:All2 (ZtV H) zl ys) (k:KeyOut (zl.map (·.lo)) ys out) :∃zl',zl'.Perm zl/\zl'.Pairwise (λ z z'=>z.lo<=z'.lo)/\All2 (ZtV H) zl' out:=by
 obtain ⟨n,d,rfl,g⟩:=k;have e:(zl.map (·.lo)).zip ys=(zl.zip ys).map λ p=>(p.1.lo,p.2):=by rw [List.zip_map_left];exact S7 λ p _=>rfl
 obtain ⟨b,f,rfl⟩:=z8d d _ e;have l :∀{zl:List Zt} {ys:List V},All2 (ZtV H) zl ys->(∀q∈zl.zip ys,ZtV H q.1 q.2)/\(zl.zip ys).map j05=zl:=by
  intro zl ys a;induction a with
  | nil=>exact ⟨λ q c=>absurd c B0,rfl⟩
  | cons a r ih=>
   refine ⟨λ q c=>?_,?_⟩
   ·rcases List.mem_cons.mp c with rfl|c
    ·exact a
    ·exact ih.1 q c
   ·show _ :: (List.zip _ _).map j05=_;rw [ih.2]
 obtain ⟨i,m⟩:=l a;refine ⟨b.map j05,?_,?_,?_⟩
 ·rw [<-m];exact f.map _
 ·rw [D5] at g⊢;exact g
 ·rw [A3];have j :∀b:List (Zt×V),(∀q∈b,ZtV H q.1 q.2)->All2 (ZtV H) (b.map j05) (b.map (Prod.snd ∘ λ p=>(p.1.lo,p.2))):=by
   intro b;induction b with
   | nil=>exact λ _=>.nil
   | cons q b ih=>exact λ h=>.cons (h q (.head _)) (ih λ p d=>h p (.tail _ d))
  exact j b λ q c=>i q (f.mem_iff.mp c)
theorem sp_ne {rs:List Rc} {t:Ent} (h:rdsF rs t.x≠[]):(spans rs t).filterMap (·.2)≠[]:=by
 obtain ⟨r,d,e⟩:=List.exists_cons_of_ne_nil h;have b:r∈rdsF rs t.x:=by rw [e];exact .head _
 have a:=(List.mem_filter.mp (List.mem_filter.mp b).1).2;unfold isRE at a;rw [R4] at a;obtain ⟨k,c⟩:=Option.isSome_iff_exists.mp a.2;refine List.ne_nil_of_mem (List.mem_filterMap.mpr ⟨spR r,.tail _ (List.mem_map.mpr ⟨r,b,rfl⟩),(?_:_=some (k:Int))⟩);unfold spR;rw [c];rfl
theorem SameB.of {T:Addr} {H H':Hp} (s:Same H H'):SameB T H H':=λ b o _ e=>s b o e
theorem SameB.trans {T:Addr} {H H1 H2:Hp} (s:SameB T H H1) (r:SameB T H1 H2):SameB T H H2:=λ b o n e=>r b o n (s b o n e)
theorem ZtV.sb {H H':Hp} {z:Zt} {y:V} (s:SameB tbT H H') (h :∃ps,H tbT=some (.tbl ps)) (e:ZtV H z y):ZtV H' z y:=by obtain ⟨ps,b⟩:=h;obtain ⟨p,rfl,a⟩:=e;exact ⟨p,rfl,s _ _ (λ q=>by rw [q,b] at a;cases a) a⟩
def zbh (K:c0):Sp:=λ vs H Q _=>∃t nm wr es ys,vs=[.ref t]/\TalR K H t nm wr es ys/\LamH H/\∀D out zl H',SameB tbT H H'->LamH H'->H D=none->H' D=some (.lst out)->ZonS (dAll 0 [] es) zl->All2 (ZtV H') zl out->Q (.ref D) H'
theorem zfk (T:TX (kx w) mg) (B:BtMain base mg) (c0:Ca P w mg base "plain_deeds" ["tale"] 4 (z17 (kx w))) (c1:Ca P w mg base "writers" ["told"] 1 (z3r (kx w))) (c2:Ca P w mg base "ended_reads" ["told"] 1 (z18 (kx w))) (c3:Ca P w mg base "zone_of" ["worth","spans"] 1 (z38 (kx w))):Fo P w mg base CX0 6 283 y1s ["tale"] (zbh (kx w)):=by
 refine (zbj w.params).okC (c:=cdT) rfl sc_zones (λ vs H Q E h=>?_) (λ A f5 s H vs Q E L h=>?_)
 ·obtain ⟨t,nm,U,es,ys,rfl,_⟩:=h;rfl
 ·obtain ⟨t,nm,U,es,ys,rfl,ta,lm,q⟩:=h;refine ⟨_,(z06 (ps_set (i:=1) sc_zones.nd rfl (C1 rfl) (pe_cal c0 (L.mono (by decide)) rfl (z00 (pv 0) pa_nil)))
   (z06 (ps_set (i:=2) sc_zones.nd rfl (C1 rfl) (pe_lst pa_nil))
   (z06 (ps_for Q1 rfl (zfa (pe_cal c1 (L.mono (by decide)) rfl (z00 (pv 1) pa_nil))) (pg_tup rfl (z0l (z0m (i:=3) sc_zones.nd rfl (B1 rfl)) (z0l (z0m (i:=4) sc_zones.nd rfl (C1 rfl)) z2a)))
   (z06 (ps_set (i:=5) sc_zones.nd rfl (C1 rfl) (pe_op opAdd (pe_lst (z00 (pv 4) pa_nil)) (pe_cg (xs:=["number","read"]) (g:=gTup (kx w) 2 (gCons (gName 0) (gCons (gName 1) gNil))) (fr:=[(3,"worth")]) (z0i (pe_cal c2 (L.mono (by decide)) rfl (z00 (pv 1) pa_nil))) (λ _ _ _ _ _=>(pg_tup rfl (z0l (pg_cn (N:=["number","read","worth"]) 0) (z0l (pg_cn (N:=["number","read","worth"]) 1) z2a)))) (λ _ _ _ _ _=>(pf_one (z09 opEq (pe_ix (z0q (K:=KX w.params) rfl) (pv 1) pe_int (λ _ _=>rfl)) (pv 2) (nomark _)))) (λ _ _ _ _ _=>(z2c (slSeqK (K:=KX w.params) rfl) (pv 1) (z34 pe_int) z6t)))))
   (z05 (ps_if (PW.pt (pw_or (z09 z3l (pe_ix ix_seq (pv 4) pe_int (λ _ _=>rfl)) pe_non (nomark _)) (pw_or1 (z09 op_gt (z0a z0r rfl (T.no (n_len _)) M3 (z00 (pv 5) pa_nil)) pe_int (nomark _)))))
   (z05 (z20 (z12 (pv 2) (z00 (pe_cal c3 (L.mono (by decide)) rfl (z00 (pv 3) (z00 (pv 5) pa_nil))) pa_nil))))
   z0d))))
   (z05 (ps_ret (zb4 (k:=0) (N:=["zone"]) (px:="zone") B rfl (ck_T _) (L.mono (by decide)) rfl (T.no (z7n _)) (z00 (pv 2) pa_nil) ⟨rfl,rfl,rfl,by decide +kernel,rfl,by decide +kernel,by decide +kernel⟩ (λ _ _ _ _=>rfl) (λ _ _ _ _=>(pe_ix (z0q (K:=KX w.params) rfl) (pv 0) pe_int (λ _ _=>rfl))))))))),?_⟩
  refine z0c ⟨_,rfl,t,nm,U,es,ys,rfl,ta,λ l zs H1 s1 tl=>g_name ?_⟩;have nd:=ta.tw.nd;have d2:(dAll 0 [] es).length<=62:=F0 z4p (by simpa using ta.ln);have n0:=ta.tw.n0;generalize dAll 0 [] es=rs at tl nd n0 q d2;refine z0c ⟨w_0,λ F a7=>g_name ?_⟩;have u2:=s1.trans (Same.upd (o:=.lst []) a7);have ef:upd H1 F (.lst []) F=some (.lst []):=z01;have a0:=tl.same (Same.upd (o:=.lst []) a7);have nf:H F=none:=s1.free a7;have nl:l≠F:=λ z=>by have:=tl.l;rw [z,a7] at this;cases this
  generalize upd H1 F (.lst [])=H2 at u2 ef a0⊢;have f4:=a0.n;have le:=z2m rs;have f9:rs.length<=62:=d2;refine ⟨_,rfl,l,zs,rs,U,rfl,a0,nd,n0,λ d G O s3 b2 ed wk=>⟨d,G,rfl,ed,λ J=>?_⟩⟩;have f0:H d=none:=u2.free b2;have f3:F≠d:=λ z=>by rw [z,b2] at ef;cases ef
  have u4:Same H (upd O d (.frz J (.dK G))):=Same.keep (u2.trans s3) f0;have c4:=a0.same (Same.keep (o:=.frz J (.dK G)) s3 b2);have b5:All2 (EntAt (kx w) (upd O d (.frz J (.dK G)))) (ents rs) G:=z02 (λ _ _ z=>z.tups (Tups.dict ed)) wk;have c7:upd O d (.frz J (.dK G)) F=some (.lst []):=by rw [upd_ne f3];exact s3 _ _ ef
  have c8:upd O d (.frz J (.dK G)) d=some (.frz J (.dK G)):=z01;have lk:=z04 wk;generalize upd O d (.frz J (.dK G))=H4 at u4 c4 b5 c7 c8⊢;clear wk a0 ed s3 ef u2 tl;refine zds (λ i σ u=>Same H u/\u d=some (.frz J (.dK G))/\ToldAt (kx w) u l U rs zs/\All2 (EntAt (kx w) u) (ents rs) G/\(∃fs zl,u F=some (.lst fs)/\All2 (ZtV u) zl fs/\All2 (ZnR rs) (((ents rs).take i).filter (cntB rs)) zl)/\∃x3 x4 x5,σ=[some (.ref t),some (.ref l),some (.ref F),x3,x4,x5]) ⟨u4,c8,c4,b5,⟨[],[],c7,.nil,.nil⟩,_,_,_,rfl⟩ (λ i σ u h=>h.2.1) ?_ ?_
  ·rintro i k v σ H5 p hk ⟨u5,ed5,tl5,wk5,⟨fs,zl,ef5,az,an⟩,x3,x4,x5,rfl⟩ hp;obtain ⟨f,c9,e1,C,e2,sw⟩:=z08 wk5 hk;have e1:k=.inl f.x:=e1;have e2:v=.ref C:=e2;subst e1 e2;have hi:=z0s c9;have u6:=Same.upd (o:=.tup [kV (.inl f.x),.ref C]) hp;have e6:upd H5 p (.tup [kV (.inl f.x),.ref C]) p=some (.tup [.int f.x,.ref C]):=z01;generalize upd H5 p (.tup [kV (.inl f.x),.ref C])=H6 at u6 e6⊢;refine ⟨p,_,rfl,SqT.of e6,rfl,_,_,rfl,_,_,rfl,rfl,?_⟩;refine z0c ⟨_,rfl,w_1,λ l0 e0=>?_⟩;have u7:=u6.trans (Same.upd (o:=.lst [.ref C]) e0);have e7:upd H6 l0 (.lst [.ref C]) l0=some (.lst [.ref C]):=z01;generalize upd H6 l0 (.lst [.ref C])=H7 at u7 e7⊢;have d1:=tl5.same u7;refine zgm ⟨_,rfl,l,zs,rs,U,rfl,d1,λ la ws H8 s8 f2 aw=>?_⟩;have aw:=rdn_of (d1.same s8).a aw;have lw:=z04 aw;have g0:(rs.filter isRE).length<=rs.length:=Z0 _ _;refine z0o (K:=KX w.params) (a:=la) (xs:=ws) (H1:=H8) (λ j=>((rs.filter isRE)[j]?.map λ r=>decide (intV r.a=f.x)).getD false) (λ j y u=>∀r,(rs.filter isRE)[j]? = some r->SpV (kx w) u (spR r) y) (λ _ _ _ _ s z r L=>(z r L).elim λ p e=>⟨p,e.1,s.seqT e.2⟩) (λ R h=>h) (SqL.of f2) (F0 (m:=63) (by omega) (by decide)) (λ j hj v H9 s9 hv KT KF Z Y=>?_) λ l1 H9 I s9 d4 X=>?_
   ·obtain ⟨r,L,p',i',z,rfl,e4,S,rfl,a8⟩:=z08 aw hv;have hm:=List.mem_filter.mp (d0 L);have ra:r.a=.int (intV r.a):=by
     have a9:=hm.2;unfold isRE at a9;rw [R4] at a9;obtain ⟨e,he⟩:=Option.isSome_iff_exists.mp a9.2;rcases tl5.g r hm.1 with g|g
     ·exact g.2.2 e he
     ·exact absurd ((of_decide_eq_true a9.1).symm.trans g.1) z14
    rw [L] at Z Y;have a8:=s9.seqT a8;refine ⟨p',_,rfl,SqT.of (s9 _ _ e4),rfl,_,_,rfl,_,_,rfl,rfl,[some (.int i'),some (.ref S)],rfl,rfl,?_⟩;refine ⟨_,rfl,.inr (.inl ⟨S,_,4,.int (intV r.a),rfl,rfl,a8,by rw [<-ra];exact z03 (j:=4) rfl,_,rfl,rfl,_,rfl,?_⟩)⟩;refine ite2 (λ z=>?_) λ z=>Y (decide_eq_false λ y=>z (decide_eq_true (by rw [y]))) _ (Same.refl _);have z:=of_decide_eq_true z;injection z with z;refine ⟨_,rfl,5,rfl,.inr (.inl ⟨S,_,rfl,a8,λ z=>absurd z.1 (show ¬ HT.sIx 7 0 (some 5)=0 by decide),λ p1 e5=>?_⟩)⟩;refine Z (decide_eq_true z) _ _ (Same.upd e5) λ r' d7=>?_;cases d7;refine ⟨p1,rfl,?_⟩;show SqT _ _ _ [.int (r.b:Int),endO (r.e.map λ n=>(n:Int))];rw [<-endV_O];exact SqT.of z01
   rw [lw] at X;have X:=z2b (q:=λ r:Rc=>decide (intV r.a=f.x)) _ (A0 _) X;rw [Z2] at X;have f6:=z04 X;have f7:((rs.filter isRE).filter λ r=>decide (intV r.a=f.x)).length<=(rs.filter isRE).length:=Z0 _ _;have u9:=s8.trans (s9.trans (Same.upd (o:=.lst I) d4));have e9:upd H9 l1 (.lst I) l1=some (.lst I):=z01;have a2:All2 (λ r y=>SpV (kx w) (upd H9 l1 (.lst I)) (spR r) y) (rdsF rs f.x) I:=z02 (λ _ _ z=>z.elim λ p e=>⟨p,e.1,(Same.upd (o:=.lst I) d4).seqT e.2⟩) X;generalize upd H9 l1 (.lst I)=H10 at u9 e9 a2⊢;refine .inr (.inr (.inl ⟨l0,l1,_,_,rfl,rfl,u9 _ _ e7,e9,F0 (m:=64) (by show 1 + I.length<=64;omega) (by decide),λ W e8=>g_name ?_⟩));have b9:=Same.upd (o:=.lst ([.ref C]++I)) e8;have M:=(u7.trans u9).trans b9;have b3:upd H10 W (.lst ([.ref C]++I)) W=some (.lst (.ref C :: I)):=z01;have b8:All2 (SpV (kx w) (upd H10 W (.lst ([.ref C]++I)))) (spans rs f) (.ref C :: I):=.cons ⟨C,rfl,M.seqT sw⟩ (z4u (z02 (λ _ _ z=>z.elim λ p e=>⟨p,e.1,b9.seqT e.2⟩) a2));generalize upd H10 W (.lst ([.ref C]++I))=H11 at M b3 b8⊢;have a4:=M _ _ ef5;have c6:(ents rs).take (i + 1)=(ents rs).take i++[f]:=by rw [p6,c9];rfl
   have skip:¬ (spans rs f).filterMap (·.2)≠[]->Same H H11/\H11 d=some (.frz J (.dK G))/\ToldAt (kx w) H11 l U rs zs/\All2 (EntAt (kx w) H11) (ents rs) G/\∃fs zl,H11 F=some (.lst fs)/\All2 (ZtV H11) zl fs/\All2 (ZnR rs) (((ents rs).take (i + 1)).filter (cntB rs)) zl:=λ z=>by refine ⟨u5.trans M,M _ _ ed5,tl5.same M,z02 (λ _ _ z=>z.tups (Tups.of M)) wk5,fs,zl,a4,z02 (λ _ _ z=>z.same M) az,?_⟩;rw [c6,F2,X1 (by unfold cntB;rw [decide_eq_false z];decide),k5,C2];exact an
   have go:(spans rs f).filterMap (·.2)≠[]->∀{N:Hp->Prop},(∀u,(Same H u/\u d=some (.frz J (.dK G))/\ToldAt (kx w) u l U rs zs/\All2 (EntAt (kx w) u) (ents rs) G/\∃fs zl,u F=some (.lst fs)/\All2 (ZtV u) zl fs/\All2 (ZnR rs) (((ents rs).take (i + 1)).filter (cntB rs)) zl)->N u)->z38 (kx w) [.int f.x,.ref W] H11 (λ y H2=>za3 (.ref F) [y] H2 λ _ O=>N O) E0:=λ a5 N hN=>by
    refine ⟨f.x,W,_,spans rs f,rfl,b3,b8,by show (((rs.filter isRE).filter λ r=>decide (intV r.a=f.x)).map spR).length + 1<=100;rw [C0];omega,a5,y8 _ _,λ S lo g a3 b6 Z Y hz=>?_⟩;have b1:=b6 _ _ a4;have d9:=z04 an;have d5:=z04 az;have e3:(((ents rs).take i).filter (cntB rs)).length<=((ents rs).take i).length:=Z0 _ _;rw [i3] at e3;refine ⟨F,_,_,rfl,rfl,b1,V0 (m:=100) (by omega) (by decide),hN _ ?_⟩;have a1:=M.trans b6;have c5:Tups (kx w) a3 (upd a3 F (.lst (fs++[.ref S]))):=Tups.lst b1;have zt :∀{z:Zt} {y:V},ZtV a3 z y->ZtV (upd a3 F (.lst (fs++[.ref S]))) z y:=λ ⟨p,e,ep⟩=>⟨p,e,by rw [upd_ne (ne_of ep b1 (by intro z;cases z))];exact ep⟩
    have a6:=tl5.same a1;refine ⟨Same.keep (u5.trans a1) nf,by rw [upd_ne (λ z=>by rw [z] at ed5;rw [ef5] at ed5;cases ed5)];exact a1 _ _ ed5,⟨by rw [upd_ne nl];exact a6.l,z02 (λ _ _ z=>RcAt.tups c5 z) a6.a,a6.g,a6.n⟩,z02 (λ _ _ z=>z.tups λ c xs e=>c5 _ _ (a1.seqT e)) wk5,fs++[.ref S],zl++[zOf f.x lo g],z01,z0n (z02 (λ _ _ z=>zt (z.same a1)) az) (zt hz),?_⟩;rw [c6,F2,W1 (by unfold cntB;exact decide_eq_true a5)];exact z0n an ⟨lo,g,Z,Y,rfl⟩
   refine z0p (t_or ⟨_,rfl,.inr (.inl ⟨C,_,1,endO f.e,rfl,rfl,M.seqT sw,z03 (j:=1) rfl,rfl,_,rfl,?_⟩)⟩);cases he:f.e with
   | some e=>exact iteP (by simp [endO]) (iteT ⟨_,rfl,.inl ⟨rfl,_,SqL.of a4⟩,_,rfl,_,rfl,go (by unfold spans;rw [he];exact y8 _ _) λ u h=>⟨h.1,h.2.1,h.2.2.1,h.2.2.2.1,h.2.2.2.2,_,_,_,rfl⟩⟩)
   | none=>
    refine iteN (by decide) ⟨_,rfl,.inl ⟨W,_,rfl,.inl (SqL.of b3),_,_,rfl,rfl,_,rfl,ite2 (λ z=>?_) λ z=>?_⟩⟩
    ·have z:=of_decide_eq_true z;rw [A1] at z;have a5:rdsF rs f.x≠[]:=λ y=>by have:=z04 a2;rw [y] at this;rw [this] at z;exact absurd z (by decide)
     exact ⟨_,rfl,.inl ⟨rfl,_,SqL.of a4⟩,_,rfl,_,rfl,go (sp_ne a5) λ u h=>⟨h.1,h.2.1,h.2.2.1,h.2.2.2.1,h.2.2.2.2,_,_,_,rfl⟩⟩
    ·have d6:rdsF rs f.x=[]:=by
      cases y:rdsF rs f.x with
      | nil=>rfl
      | cons r rr=>exfalso;have:=z04 a2;rw [y,A1] at this;refine z (decide_eq_true ?_);rw [A1];omega
     have h:=skip (λ y=>y (by unfold spans;rw [d6,he];rfl));exact ⟨h.1,h.2.1,h.2.2.1,h.2.2.2.1,h.2.2.2.2,_,_,_,rfl⟩
  rintro σ H5 ⟨u5,ed5,tl5,wk5,⟨fs,zl,ef5,az,an⟩,x3,x4,x5,rfl⟩;rw [lk,Z2] at an;have d5:=z04 az;have d9:=z04 an;have f8:((ents rs).filter (cntB rs)).length<=(ents rs).length:=Z0 _ _;have b4:=LamH.same u5 lm;refine ⟨_,rfl,F,fs,zl.map (·.lo),rfl,SqL.of ef5,by rw [C0];exact d5.symm,by omega,b4,λ H7 sb d3=>⟨λ i y k hy hk=>?_,λ D b7 hD ko=>?_⟩⟩
  ·obtain ⟨z,hz,p,rfl,ep⟩:=z08 az hy;rw [T0,hz] at hk;cases hk;have b0:ZtV H7 z (.ref p):=ZtV.sb sb b4.tb ⟨p,rfl,ep⟩;obtain ⟨p',e',b0⟩:=b0;cases e';exact ⟨_,rfl,.inr (.inl ⟨p,_,1,_,rfl,rfl,SqT.of b0,z03 (j:=1) rfl,rfl,rfl⟩)⟩
  ·obtain ⟨f1,Z,Y,h3⟩:=key_zt (z02 (λ _ _ z=>ZtV.sb sb b4.tb z) az) ko;have d8:H D=none:=by
    cases y:H D with
    | none=>rfl
    | some o=>
     exfalso;by_cases z:D=tbT
     ·obtain ⟨ps,e⟩:=d3.tb;rw [z,e] at hD;cases hD
     ·rw [sb _ _ z (u5 _ _ y)] at hD;cases hD
   have v8:=Same.upd (o:=.lst b7) hD;exact q D b7 f1 _ (SameB.trans (SameB.of u5) (SameB.trans sb (SameB.of v8))) (LamH.same v8 d3) d8 z01 ⟨zl,an,Z,Y⟩ (z02 (λ _ _ z=>z.same v8) h3)
theorem t_and {t u:TT} {σ:L2.St} {H:Hp} {Q:Bool->Hp->Prop} (h:t σ H λ c H1=>if c=true then u σ H1 Q else Q false H1):tAnd t u σ H Q:=h
def z1t (K:c0):Sp:=λ vs H Q _=>∃(a:Addr) (ns:List Int) (k:Nat),vs=[.ref a,.int (k:Nat)]/\SqL K H a (ns.map V.int)/\∀i,Q (.int i) H
theorem z42 (T:TX (kx w) mg):Fo P w mg base CX0 1 321 y01 ["script","k"] (z1t (kx w)):=by
 refine (z19 w.params).ok z44 (λ d H Q E h=>?_) (λ g A i s H d Q E f h=>?_)
 ·obtain ⟨a,b,k,rfl,_⟩:=h;rfl
 ·obtain ⟨a,b,k,rfl,c,q⟩:=h;refine ⟨_,(z06 (ps_if (z09 op_lt (pv 1) (z0a z0r rfl (T.no (n_len _)) M3 (z00 (pv 0) pa_nil)) (nomark _))
   (z05 (ps_ret (pe_ix ix_seq (pv 0) (pv 1) (λ _ _=>rfl))))
   z0d)
   (z05 (ps_ret pe_int))),?_⟩
  refine sq_if ?_;refine ⟨_,rfl,_,rfl,.inl ⟨a,_,rfl,.inl c,_,_,rfl,rfl,_,rfl,?_⟩⟩;by_cases z:k < b.length
  ·refine iteP (decide_eq_true (by rw [C0];omega)) ?_;refine ⟨_,rfl,_,rfl,.inl ⟨a,_,k,.int b[k],rfl,rfl,c,z03 (by rw [T0,J0 z];rfl),q _⟩⟩
  ·exact iteN (λ e=>z (by have:=of_decide_eq_true e;rw [C0] at this;omega)) (t_nx (sq_ret (q 0)))
def DkAt (H:Hp) (r:Addr):Prop:=∃a b c:Int,H r=some (.lst [.int a,.int b,.int c])/\0<=c/\c < 2147483587
structure Dk (r:Addr) (H H':Hp):Prop where
 k:Kept r H H'
 d:DkAt H' r
theorem Same.kp {H0 H H':Hp} {r:Addr} (s:Same H0 H) (n:H0 r=none) (k:Kept r H H'):Same H0 H':=λ b o e=>k b o (λ z=>by rw [z,n] at e;cases e) (s b o e)
theorem DkAt.same {H H':Hp} {r:Addr} (s:Same H H') (h:DkAt H r):DkAt H' r:=by obtain ⟨a,b,c,e,h⟩:=h;exact ⟨a,b,c,s _ _ e,h⟩
def z4b:Sp:=λ vs H Q _=>∃c:Int,vs=[.int c]/\∀r o,H r=none->DkAt (upd H r o) r->Q (.ref r) (upd H r o)
theorem z9t (T:TX (kx w) mg):Fo P w mg base CX0 1 328 y0q ["cell"] z4b:=by
 refine (z3j w.params).ok z9j (λ b H Q E h=>?_) (λ d A e s H b Q E a h=>?_)
 ·obtain ⟨c,rfl,_⟩:=h;rfl
 ·obtain ⟨c,rfl,q⟩:=h;refine ⟨_,(z05 (ps_ret (pe_lst (z00 (pe_op z7h (pv 0) pe_int) (z00 (pe_op op_mod (pv 0) pe_int) (z00 (pe_op op_mod (pv 0) pe_int) pa_nil)))))),?_⟩;refine ⟨_,rfl,_,_,rfl,rfl,(show CDivB c 2 from ⟨by decide,by decide⟩),_,rfl,_,_,rfl,rfl,(show (0:Int) < 2 by decide),_,rfl,_,_,rfl,rfl,(show (0:Int) < 2147483587 by decide),w_3,λ r a=>?_⟩;exact q r _ a ⟨_,_,_,z01,z7 _ (by decide),C6 _ (by decide)⟩
def z11:Sp:=λ vs H Q _=>∃(r:Addr) (m:Int),vs=[.ref r,.int m]/\DkAt H r/\0 < m/\m < 2 ^ 64/\∀t H',Dk r H H'->0<=t->t < m->Q (.int t) H'
theorem z7l (T:TX (kx w) mg):Fo P w mg base CX0 1 335 y0i ["row","many"] z11:=by
 refine (z2n w.params).ok sc__law_take (λ l H Q E h=>?_) (λ v A z s H l Q E x h=>?_)
 ·obtain ⟨r,m,rfl,_⟩:=h;rfl
 ·obtain ⟨r,m,rfl,⟨a,b,c,e,p,k⟩,f,o,q⟩:=h;refine ⟨_,(z06 (ps_if (PW.pt (pw_and (z09 opEq (pe_ix ix_seq (pv 0) pe_int (λ _ _=>rfl)) pe_int (nomark _)) (z1s (z09 opNe (pe_ix ix_seq (pv 0) pe_int (λ _ _=>rfl)) pe_int (nomark _)))))
   (z06 (ps_set (i:=2) sc__law_take.nd rfl (C1 rfl) (pe_op op_mod (pe_ix ix_seq (pv 0) pe_int (λ _ _=>rfl)) (pv 1)))
   (z06 (ps_asg (pe_op z7h (pe_ix ix_seq (pv 0) pe_int (λ _ _=>rfl)) (pv 1)) (pg_sub (pv 0) pe_int z1w))
   (z05 (ps_ret (pv 2)))))
   z0d)
   (z06 (ps_asg (pe_op op_mod (pe_op opAdd (pe_op opAdd (pe_op op_mul (pe_ix ix_seq (pv 0) pe_int (λ _ _=>rfl)) (pe_ix ix_seq (pv 0) pe_int (λ _ _=>rfl))) (pe_op op_mul pe_int (pe_ix ix_seq (pv 0) pe_int (λ _ _=>rfl)))) pe_int) pe_int) (pg_sub (pv 0) pe_int z1w))
   (z05 (ps_ret (pe_op op_mod (pe_op z7h (pe_ix ix_seq (pv 0) pe_int (λ _ _=>rfl)) pe_int) (pv 1)))))),?_⟩
  have d:SqL (kx w) H r [.int a,.int b,.int c]:=SqL.of e;refine z6b (λ u t=>t=H/\u=[some (.ref r),some (.int m),none]) ?_ λ g=>?_
  ·rintro σ y ⟨rfl,rfl⟩;have j:0<=(c * c + 69621 * c + 12345) % 2147483587:=z7 _ (by decide);have n:(c * c + 69621 * c + 12345) % 2147483587 < 2147483587:=C6 _ (by decide);refine z0c ⟨_,rfl,.inl ⟨r,_,2,.int c,rfl,rfl,d,rfl,_,rfl,.inl ⟨r,_,2,.int c,rfl,rfl,d,rfl,_,_,rfl,rfl,.inl ⟨by omega,by omega⟩,_,rfl,.inl ⟨r,_,2,.int c,rfl,rfl,d,rfl,_,_,rfl,rfl,.inl ⟨by decide,by decide⟩,.inl ⟨_,_,rfl,rfl,.inl ⟨_,_,rfl,rfl,_,_,rfl,rfl,(show (0:Int) < 2147483587 by decide),?_⟩⟩⟩⟩⟩⟩;refine ⟨_,rfl,r,_,2,2,rfl,rfl,e,rfl,?_⟩;refine ⟨_,rfl,.inl ⟨r,_,2,.int _,rfl,rfl,SqL.of z01,rfl,?_⟩⟩;refine ⟨_,_,rfl,rfl,(show CDivB _ 8 from ⟨by decide,by decide⟩),_,rfl,_,_,rfl,rfl,f,?_⟩;exact q _ _ ⟨.set,a,b,_,z01,j,n⟩ (z7 _ (by omega)) (C6 _ f)
  ·refine z0p (t_and ⟨_,rfl,.inl ⟨r,_,1,.int b,rfl,rfl,d,rfl,rfl,_,rfl,?_⟩⟩);refine ite2 (λ _=>?_) λ _=>iteF (g _ _ ⟨rfl,rfl⟩);refine ⟨_,rfl,.inl ⟨r,_,0,.int a,rfl,rfl,d,rfl,rfl,_,rfl,ite2 (λ _=>?_) λ _=>g _ _ ⟨rfl,rfl⟩⟩⟩;refine z0c ⟨_,rfl,.inl ⟨r,_,0,.int a,rfl,rfl,d,rfl,_,rfl,_,_,rfl,rfl,f,g_name ?_⟩⟩;refine z0c ⟨_,rfl,.inl ⟨r,_,0,.int a,rfl,rfl,d,rfl,_,rfl,_,_,rfl,rfl,⟨f,o⟩,?_⟩⟩;refine ⟨_,rfl,r,_,0,0,rfl,rfl,e,rfl,?_⟩;exact ⟨_,rfl,q _ _ ⟨.set,_,_,c,z01,p,k⟩ (z7 _ (by omega)) (C6 _ f)⟩
theorem p12:CPow 10 12:=⟨by decide,by decide,by decide⟩
theorem p12v:(10:Int) ^ (12:Int).toNat=1000000000000:=by decide
def bdI (i:Int):Prop:=-1000000000<=i/\i<=1000000000
def bdA (i:Int):Prop:=-1000000000000<=i/\i<=1000000000000
theorem bdI.a {i:Int} (h:bdI i):bdA i:=⟨by have:=h.1;omega,by have:=h.2;omega⟩
def RowR (H:Hp) (r:Rc) (y:V):Prop:=∃p late,y=.ref p/\H p=some (.lst [.int r.h,r.v,r.x,r.a,.int r.b,endV r.e,.int late])/\bdI late
theorem RowR.same {H H':Hp} {r:Rc} {y:V} (s:Same H H') (h:RowR H r y):RowR H' r y:=by obtain ⟨p,b,a,c,d⟩:=h;exact ⟨p,b,a,s _ _ c,d⟩
structure RwsA (H:Hp) (lr:Addr) (rs:List Rc) (zs:List V):Prop where
 l:H lr=some (.lst zs)
 a:All2 (RowR H) rs zs
 g :∀r∈rs,RdG r\/WrG 0 r
 x :∀r∈rs,isW r=true->bdI (intV r.x)
 n:rs.length<=24
theorem RwsA.same {H H':Hp} {lr:Addr} {rs:List Rc} {zs:List V} (s:Same H H') (h:RwsA H lr rs zs):RwsA H' lr rs zs:=⟨s _ _ h.l,z02 (λ _ _ z=>z.same s) h.a,h.g,h.x,h.n⟩
def z22 (K:c0):Sp:=λ vs H Q _=>∃(rw p lr:Addr) (r:Rc) (now:Int) (sp:Bool) (rs:List Rc) (zs:List V) (H0:Hp),vs=[.ref rw,.ref p,.int now,.ref lr,.bl sp]/\Same H0 H/\H0 rw=none/\DkAt H rw/\RowR H0 r (.ref p)/\(RdG r\/WrG 0 r)/\bdI now/\RwsA H0 lr rs zs/\∀a H',Same H0 H'->DkAt H' rw->(isW r=true->a=.str "ok")->(isW r=false->∃i,a=.int i/\bdA i)->Q a H'
theorem z4q (T:TX (kx w) mg) (c0:Ca P w mg base "_law_take" ["row","many"] 1 z11):Fo P w mg base CX0 2 340 y09 ["row","deed","now","rows","spoilt"] (z22 (kx w)):=by
 refine (z1k w.params).ok sc__law_answer (λ vs H Q E h=>?_) (λ b9 A b7 s H vs Q E hr h=>?_)
 ·obtain ⟨B,p,lr,r,now,sp,F,zs,S,rfl,_⟩:=h;rfl
 ·obtain ⟨B,p,lr,r,now,sp,F,zs,S,rfl,M,n0,dk,rr,g,bn,ra,q⟩:=h;refine q_of (z0b (QS.mk (ps_if (z09 opEq (pe_ix ix_seq (pv 1) pe_int (λ _ _=>rfl)) pe_str (nomark _))
   (z05 (ps_ret pe_str))
   z0d))
   (z0b (QS.mk (ps_if (PW.pt (pw_or (pt_not (pt_val (pv 4) (λ _=>rfl))) (pw_or1 (z09 op_gt (pe_cal c0 (hr.mono (by decide)) rfl (z00 (pv 0) (z00 pe_int pa_nil))) pe_int (nomark _)))))
   (z05 (ps_ret (pe_ix ix_seq (pe_lst (z00 (pe_ix ix_seq (pv 1) pe_int (λ _ _=>rfl)) (z00 (pv 2) pa_nil))) (pe_cal c0 (hr.mono (by decide)) rfl (z00 (pv 0) (z00 pe_int pa_nil))) (λ _ _=>rfl))))
   z0d))
   (z0b (qs_set (i:=5) sc__law_answer.nd rfl (C1 rfl) (qe_op opAdd (qe_lst (z1r (QE.mk pe_int) (z1r (QE.mk pe_int) (z1r (QE.mk (pe_op op_pow pe_int pe_int)) (z1r (QE.mk (pe_op op_sub pe_int (pe_op op_pow pe_int pe_int))) qa_nil))))) (QE.mk (pe_cg (xs:=["one"]) (g:=gName 0) (fr:=[]) (z0i (pv 3)) (λ _ _ _ _ _=>(pg_cn (N:=["one"]) 0)) (λ _ _ _ _ _=>(pf_one (z09 opEq (pe_ix (z0q (K:=KX w.params) rfl) (pv 0) pe_int (λ _ _=>rfl)) pe_str (nomark _)))) (λ _ _ _ _ _=>(pe_ix (z0q (K:=KX w.params) rfl) (pv 0) pe_int (λ _ _=>rfl)))))))
   (z28 (QS.mk (ps_ret (pe_ix ix_seq (pv 5) (pe_cal c0 (hr.mono (by decide)) rfl (z00 (pv 0) (z00 (z0a z0r rfl (T.no (n_len _)) M3 (z00 (pv 5) pa_nil)) pa_nil))) (λ _ _=>rfl)))))))) ?_
  obtain ⟨p',J,e,ep,bl⟩:=rr;cases e;have a8:SqL (kx w) H p _:=SqL.of (M _ _ ep);rcases g with g|g;rotate_left
  ·exact sq_if ⟨_,rfl,.inl ⟨p,_,1,.str "write",rfl,rfl,a8,by rw [g.1];exact z03 (j:=1) rfl,rfl,_,rfl,iteP (by decide +kernel) (q _ _ M dk (λ _=>rfl) λ z=>by rw [g.w] at z;cases z)⟩⟩
  refine sq_if ⟨_,rfl,.inl ⟨p,_,1,.str "read",rfl,rfl,a8,by rw [g.1];exact z03 (j:=1) rfl,rfl,_,rfl,iteK (t_nx ?_)⟩⟩;have done :∀i C,bdA i->Same S C->DkAt C B->Q (.int i) C:=λ i C b X d=>q _ _ X d (λ z=>by rw [g.w] at z;cases z) λ _=>⟨i,rfl,b⟩
  have b5 :∀(l:Addr) (t:Int) C,0<=t->t < 2->C l=some (.lst [.int J,.int now])->Same S C->DkAt C B->rIx (kx w) (.ref l) (.int t) C Q:=λ l t C t0 Z el X d=>by
   rcases (show t=0\/t=1 by omega) with rfl|rfl
   ·exact .inl ⟨l,_,0,.int J,rfl,rfl,SqL.of el,z03 (j:=0) rfl,done _ _ bl.a X d⟩
   ·exact .inl ⟨l,_,1,.int now,rfl,rfl,SqL.of el,z03 (j:=1) rfl,done _ _ bn.a X d⟩
  have a7 :∀H1,Same S H1->DkAt H1 B->∀l,H1 l=none->z11 [.ref B,.int 2] (upd H1 l (.lst [.int J,.int now])) (λ y O=>rIx (kx w) (.ref l) y O Q) E0:=λ H1 G d1 l I=>by
   have u:=Same.upd (o:=.lst [.int J,.int now]) I;have nl:l≠B:=λ z=>by obtain ⟨a,b,c,e,_⟩:=d1;rw [z,e] at I;cases I
   exact ⟨B,2,rfl,d1.same u,by decide,by decide,λ t O a2 t0 Z=>b5 l t O t0 Z (a2.k _ _ nl z01) (Same.kp (G.trans u) n0 a2.k) a2.d⟩
  refine sq_if (t_or ?_);have a6 :∀H1,Same S H1->SqL (kx w) H1 p [.int r.h,r.v,r.x,r.a,.int r.b,endV r.e,.int J]:=λ H1 G=>SqL.of (G _ _ ep);refine ⟨_,rfl,_,rfl,?_⟩;cases sp with
  | false=>exact iteP rfl (iteT ⟨_,rfl,.inl ⟨p,_,6,.int J,rfl,rfl,a6 _ M,z03 (j:=6) rfl,_,rfl,w_2,λ l I=>⟨_,rfl,a7 H M dk l I⟩⟩⟩)
  | true=>
   refine iteN (by decide) ⟨_,rfl,B,6,rfl,dk,by decide,by decide,λ t6 H1 a0 c1 b8=>⟨_,_,rfl,rfl,_,rfl,?_⟩⟩;have G:=Same.kp M n0 a0.k;refine ite2 (λ _=>⟨_,rfl,.inl ⟨p,_,6,.int J,rfl,rfl,a6 _ G,z03 (j:=6) rfl,_,rfl,w_2,λ l I=>⟨_,rfl,a7 H1 G a0.d l I⟩⟩⟩) λ _=>t_nx ?_;refine z0c ⟨_,_,rfl,rfl,p12,_,_,rfl,rfl,p12,_,_,rfl,rfl,w_4,λ Y b2=>?_⟩;dsimp only;rw [p12v];have u2:=Same.upd (o:=.lst [.int 0,.int 7,.int 1000000000000,.int (1 - 1000000000000)]) b2;have e2:upd H1 Y (.lst [.int 0,.int 7,.int 1000000000000,.int (1 - 1000000000000)]) Y=some (.lst (([0,7,1000000000000,1 - 1000000000000]:List Int).map V.int)):=z01;have d2:=a0.d.same u2;have s2:=G.trans u2;generalize upd H1 Y (.lst [.int 0,.int 7,.int 1000000000000,.int (1 - 1000000000000)])=O at u2 e2 d2 s2⊢;have a4:=ra.same s2;have lz:zs.length=F.length:=z04 a4.a;have b3:=ra.n;refine z0o (K:=KX w.params) (a:=lr) (xs:=zs) (H1:=O) (λ i=>isW (F[i]?.getD r00)) (λ i y _=>y=.int (intV (F[i]?.getD r00).x)) (λ _ _ _ _ _ z=>z) (λ R h=>⟨_,rfl,h⟩) (SqL.of a4.l) (F0 (m:=24) (by omega) (by decide)) (λ i hi v H3 s3 hv KT KF h1 h2=>?_) λ U H3 ys s3 b0 fa=>?_
   ·obtain ⟨r',a9,W,c2,rfl,D,_⟩:=z08 a4.a hv;have D:=SqL.of (K:=KX w.params) (s3 _ _ D);rw [getD_some a9] at h1 h2;refine ⟨[some (.ref W)],rfl,rfl,?_⟩;rcases ra.g r' (d0 a9) with g|g
    ·exact ⟨_,rfl,.inl ⟨W,_,1,.str "read",rfl,rfl,D,by rw [g.1];exact z03 (j:=1) rfl,rfl,_,rfl,iteK (h2 g.w _ (Same.refl _))⟩⟩
    ·exact ⟨_,rfl,.inl ⟨W,_,1,.str "write",rfl,rfl,D,by rw [g.1];exact z03 (j:=1) rfl,rfl,_,rfl,iteP (by decide +kernel) ⟨_,rfl,.inl ⟨W,_,2,.int (intV r'.x),rfl,rfl,D,by rw [<-g.2.2.1];exact z03 (j:=2) rfl,h1 g.w _ _ (Same.refl _) rfl⟩⟩⟩⟩
   have ey:=z8o (f:=λ r=>V.int (intV r.x)) lz fa;have b4:ys=((F.filter isW).map (λ r=>intV r.x)).map V.int:=by rw [ey,A3];rfl
   subst b4;have lu:((F.filter isW).map (λ r=>intV r.x)).length<=24:=by rw [C0];exact F0 (Z0 _ _) b3
   have bx :∀i∈(F.filter isW).map (λ r=>intV r.x),bdA i:=λ i hi=>by obtain ⟨r',a5,rfl⟩:=List.mem_map.mp hi;exact (ra.x r' (List.mem_filter.mp a5).1 (List.mem_filter.mp a5).2).a
   generalize (F.filter isW).map (λ r=>intV r.x)=us at lu bx b0⊢;have u3:=s3.trans (Same.upd (o:=.lst (us.map V.int)) b0);have D:upd H3 U (.lst (us.map V.int)) U=some (.lst (us.map V.int)):=z01;generalize upd H3 U (.lst (us.map V.int))=H4 at u3 D⊢;refine .inr (.inr (.inl ⟨Y,U,_,_,rfl,rfl,u3 _ _ e2,D,F0 (m:=28) (by rw [C0,C0];show 4 + us.length<=28;omega) (by decide),λ L a1=>g_name ?_⟩));have u6:=u3.trans (Same.upd (o:=.lst (([0,7,1000000000000,1 - 1000000000000]:List Int).map V.int++us.map V.int)) a1);have e6:upd H4 L (.lst (([0,7,1000000000000,1 - 1000000000000]:List Int).map V.int++us.map V.int)) L=some (.lst ((([0,7,1000000000000,1 - 1000000000000]:List Int)++us).map V.int)):=by rw [z01,O2]
   generalize upd H4 L (.lst (([0,7,1000000000000,1 - 1000000000000]:List Int).map V.int++us.map V.int))=H6 at u6 e6⊢;have bw :∀i∈([0,7,1000000000000,1 - 1000000000000]:List Int)++us,bdA i:=λ i hi=>by
    rcases List.mem_append.mp hi with z|z
    ·have b1 :∀i∈([0,7,1000000000000,1 - 1000000000000]:List Int),bdA i:=by unfold bdA;decide
     exact b1 i z
    ·exact bx i z
   have lw:0 < (([0,7,1000000000000,1 - 1000000000000]:List Int)++us).length:=by rw [L0];show 0 < 4 + _;omega
   have b6:(([0,7,1000000000000,1 - 1000000000000]:List Int)++us).length<=28:=by rw [L0];show 4 + us.length<=28;omega
   generalize ([0,7,1000000000000,1 - 1000000000000]:List Int)++us=ws at bw lw b6 e6;have d6:=d2.same u6;refine ⟨_,rfl,_,rfl,_,rfl,.inl ⟨L,_,rfl,.inl (SqL.of e6),B,_,rfl,d6,by rw [C0];omega,by rw [C0];omega,λ t H7 a3 t0 Z=>?_⟩⟩;rw [C0] at Z;obtain ⟨n,rfl⟩ :∃n:Nat,t=(n:Int):=⟨t.toNat,(X7 t0).symm⟩
   have hn:n < ws.length:=by omega
   have n6:L≠B:=λ z=>by obtain ⟨a,b,c,e,_⟩:=d2.same u3;rw [z,e] at a1;cases a1
   exact .inl ⟨L,_,n,.int ws[n],rfl,rfl,SqL.of (a3.k _ _ n6 e6),z03 (by rw [T0,J0 hn];rfl),done _ _ (bw _ (X4 hn)) (Same.kp (s2.trans u6) n0 a3.k) a3.d⟩
noncomputable def fixA (p:Nat) (v:V) (r:Rc):Rc:=if r.e=some p then { r with a:=v } else r
theorem fixA_h {p:Nat} {v:V} (r:Rc):(fixA p v r).h=r.h:=by unfold fixA;split<;>rfl
theorem fixA_x {p:Nat} {v:V} (r:Rc):(fixA p v r).x=r.x:=by unfold fixA;split<;>rfl
theorem fixA_v {p:Nat} {v:V} (r:Rc):(fixA p v r).v=r.v:=by unfold fixA;split<;>rfl
theorem fix_hs {p:Nat} {v:V} (rs:List Rc):(rs.map (fixA p v)).map Rc.h=rs.map Rc.h:=by rw [A3];exact S7 λ r _=>fixA_h r
theorem zcy {p j:Nat} {v:V} (n:p≠j) (rs:List Rc) (e:Ev):dstep j (rs.map (fixA p v)) e=(dstep j rs e).map (fixA p v):=by
 cases e with
 | beg h nm vb x=>show rs.map _++[_]=(rs++[_]).map _;rw [O2];congr 1
 | fin h a=>
  unfold dstep;dsimp only;rw [fix_hs];cases lastI h (rs.map Rc.h) with
  | none=>rfl
  | some k=>
   dsimp only;apply F5;intro m;rw [E2,T0,T0,E2];cases rs[m]? with
   | none=>rfl
   | some r=>
    show some (if k=m then _ else _)=some (fixA p v (if k=m then _ else _));by_cases z:k=m
    ·rw [if_pos z,if_pos z];congr 1;unfold fixA;rw [if_neg (show ¬ (some j:Option Nat)=some p from λ y=>n (D1 y).symm)];split<;>rfl
    ·rw [if_neg z,if_neg z]
theorem z9w {p:Nat} {v:V} :∀(es:List Ev) (j:Nat) (rs:List Rc),p < j->dAll j (rs.map (fixA p v)) es=(dAll j rs es).map (fixA p v)
 | [],_,_,_=>rfl
 | e :: es,j,rs,h=>by show dAll (j + 1) (dstep j (rs.map _) e) es=(dAll (j + 1) (dstep j rs e) es).map _;rw [zcy (Q0 h),z9w es (j + 1) _ (by omega)]
theorem zeu {p:Nat} {v:V} {rs:List Rc} (h :∀r∈rs,r.e≠some p):rs.map (fixA p v)=rs:=by
 conv=>rhs;rw [<-List.map_id rs]
 exact S7 λ r a=>by unfold fixA;rw [if_neg (h r a)];rfl
theorem zc0 {v:V} :∀(es:List Ev) (i:Nat) (rs:List Rc) (p:Nat) (h:Int) (a:V),es[p]? = some (.fin h a)->PosI i rs->dAll i rs (es.set p (.fin h v))=(dAll i rs es).map (fixA (i + p) v)
 | e :: es,i,rs,0,h,a,he,ps=>by
  rw [V1] at he;cases he;show dAll (i + 1) (dstep i rs (.fin h v)) es=(dAll (i + 1) (dstep i rs (.fin h a)) es).map (fixA i v);rw [<-z9w es (i + 1) _ (by omega)];congr 1;unfold dstep;dsimp only;have b :∀r∈rs,r.e≠some i:=λ r c z=>Y2 _ (ps.e r c i z);cases lastI h (rs.map Rc.h) with
  | none=>exact (zeu b).symm
  | some k=>
   dsimp only;apply F5;intro m;rw [E2,T0,E2];cases z:rs[m]? with
   | none=>rfl
   | some r=>
    show some (if k=m then _ else _)=some (fixA i v (if k=m then _ else _));by_cases y:k=m
    ·rw [if_pos y,if_pos y];unfold fixA;rw [if_pos rfl]
    ·rw [if_neg y,if_neg y];unfold fixA;rw [if_neg (b r (d0 z))]
 | e :: es,i,rs,p + 1,h,a,he,ps=>by rw [E1] at he;show dAll (i + 1) (dstep i rs e) (es.set p _)=_;rw [zc0 es (i + 1) (dstep i rs e) p h a he (ps.step e),show i + 1 + p=i + (p + 1) by omega];rfl
theorem zee {v:V} :∀(es:List Ev) (os:List Int) (p:Nat) (h:Int) (a:V),es[p]? = some (.fin h a)->EWf os es->EWf os (es.set p (.fin h v))
 | e :: es,os,0,h,a,he,w=>by rw [V1] at he;cases he;exact w
 | e :: es,os,p + 1,h,a,he,w=>⟨w.1,zee es _ p h a (by rw [E1] at he;exact he) w.2⟩
theorem zbt {v:V} :∀(es:List Ev) (p:Nat) (h:Int) (a:V),es[p]? = some (.fin h a)->(es.set p (.fin h v)).filter isBeg=es.filter isBeg
 | e :: es,0,h,a,he=>by rw [V1] at he;cases he;rfl
 | e :: es,p + 1,h,a,he=>by
  rw [E1] at he;show (e :: es.set p _).filter isBeg=_;cases z:isBeg e with
  | true=>rw [W1 z,W1 z,zbt es p h a he]
  | false=>rw [X1 (by rw [z];decide),X1 (by rw [z];decide),zbt es p h a he]
theorem zby :∀(es:List Ev) (j:Nat) (rs:List Rc),∀r∈dAll j rs es,∀e,r.e=some e->e < j->∃r0∈rs,r0.e=some e/\r0.h=r.h/\r0.a=r.a
 | [],_,_,r,hr,e,he,_=>⟨r,hr,he,rfl,rfl⟩
 | x :: es,j,rs,r,hr,e,he,hj=>by
  obtain ⟨f,c,d,g,i⟩:=zby es (j + 1) (dstep j rs x) r hr e he (by omega);refine ⟨f,?_,d,g,i⟩;cases x with
  | beg h0 nm v y=>
   rcases List.mem_append.mp c with z|z
   ·exact z
   ·rw [List.mem_singleton.mp z] at d;cases d
  | fin h0 a=>
   unfold dstep at c;dsimp only at c;cases z:lastI h0 (rs.map Rc.h) with
   | none=>rw [z] at c;exact c
   | some k=>
    rw [z] at c;dsimp only at c;obtain ⟨m,b⟩:=List.mem_iff_getElem?.mp c;rw [E2] at b;cases y:rs[m]? with
    | none=>rw [y] at b;cases b
    | some r0=>
     rw [y] at b;have b:some (if k=m then { r0 with a:=a,e:=some j } else r0)=some f:=b;by_cases u:k=m
     ·rw [if_pos u] at b;cases b;have d:some j=some e:=d;cases d;omega
     ·rw [if_neg u] at b;cases b;exact d0 y
theorem end_at :∀(es:List Ev) (i:Nat) (rs:List Rc),(∀r∈rs,∀e,r.e=some e->e < i)->∀r∈dAll i rs es,∀e,r.e=some e->i<=e->es[e - i]? = some (.fin r.h r.a)
 | [],i,rs,h,r,hr,e,he,hi=>by have:=h r hr e he;omega
 | x :: es,i,rs,h,r,hr,e,he,hi=>by
  have g :∀q∈dstep i rs x,∀k,q.e=some k->k < i\/(k=i/\x=.fin q.h q.a):=λ q c k d=>by
   cases x with
   | beg h0 nm v y=>
    rcases List.mem_append.mp c with z|z
    ·exact .inl (h q z k d)
    ·rw [List.mem_singleton.mp z] at d;cases d
   | fin h0 a=>
    unfold dstep at c;dsimp only at c;cases z:lastI h0 (rs.map Rc.h) with
    | none=>rw [z] at c;exact .inl (h q c k d)
    | some j=>
     rw [z] at c;dsimp only at c;obtain ⟨m,b⟩:=List.mem_iff_getElem?.mp c;rw [E2] at b;cases y:rs[m]? with
     | none=>rw [y] at b;cases b
     | some r0=>
      rw [y] at b;have b:some (if j=m then { r0 with a:=a,e:=some i } else r0)=some q:=b;by_cases u:j=m
      ·rw [if_pos u] at b;cases b;cases d;have f:=(z57 _ z).1;rw [T0,u,y] at f;have f:some r0.h=some h0:=f;cases f;exact .inr ⟨rfl,rfl⟩
      ·rw [if_neg u] at b;cases b;exact .inl (h _ (d0 y) k d)
  by_cases z:e=i
  ·subst z;obtain ⟨n,l,o,p,s⟩:=zby es (e + 1) _ r hr e he (by omega);rcases g n l e o with y|⟨_,y⟩
   ·omega
   ·rw [Nat.sub_self,V1,y,p,s]
  ·have:=end_at es (i + 1) (dstep i rs x) (λ q c k d=>by rcases g q c k d with y|⟨y,_⟩<;>omega) r hr e he (by omega);rw [show e - i=e - (i + 1) + 1 by omega,E1];exact this
def WxI (rs:List Rc):Prop:=∀(i:Nat) (r:Rc),rs[i]? = some r->isW r=true->∃t:Int,0<=t/\t < 1000/\(intV r.x=(24 * t + i + 1) * 41666\/intV r.x=-((24 * t + i + 1) * 41666))
theorem WxI.nd {rs:List Rc} (x:WxI rs) (l:rs.length<=24):((rs.filter isW).map λ r=>intV r.x).Nodup:=by
 have p:rs.Pairwise λ r q=>isW r=true->isW q=true->intV r.x≠intV q.x:=by rw [l9];intro i j f g m c b e;obtain ⟨t,k,o,w⟩:=x i _ (J0 f) c;obtain ⟨u,s,v,n⟩:=x j _ (J0 g) b;omega
 unfold List.Nodup;rw [D5];exact (p.filter isW).imp_of_mem λ d a h=>h (List.mem_filter.mp d).2 (List.mem_filter.mp a).2
theorem WxI.n0 {rs:List Rc} (x:WxI rs):(0:Int)∉(rs.filter isW).map λ r=>intV r.x:=λ z=>by obtain ⟨r,d,e⟩:=List.mem_map.mp z;obtain ⟨a,c⟩:=List.mem_filter.mp d;obtain ⟨i,b⟩:=List.mem_iff_getElem?.mp a;obtain ⟨t,h,f,g⟩:=x i r b c;omega
theorem WxI.bd {rs:List Rc} (x:WxI rs) (l:rs.length<=24) :∀r∈rs,isW r=true->bdI (intV r.x):=λ r c b=>by obtain ⟨i,a⟩:=List.mem_iff_getElem?.mp c;obtain ⟨t,f,d,e⟩:=x i r a b;have:=z0s a;unfold bdI;omega
theorem WxI.fix {rs:List Rc} {p:Nat} {v:V} (x:WxI rs):WxI (rs.map (fixA p v)):=λ i r b a=>by rw [T0] at b;obtain ⟨d,c,rfl⟩:=Option.map_eq_some_iff.mp b;rw [fixA_x];refine x i d c ?_;unfold isW at a⊢;rw [fixA_v] at a;exact a
noncomputable abbrev rTh:List (Str×Str):=[("r","register")]
structure Md (HL H:Hp) (lr le:Addr) (es:List Ev) (zs ys:List V):Prop where
 s:Same HL H
 fl:HL lr=none
 fe:HL le=none
 fz :∀p,V.ref p∈zs->HL p=none/\p≠lr/\p≠le
 nd:zs.Nodup
 n1:lr≠le
 l:H lr=some (.lst zs)
 a:All2 (RowR H) (dAll 0 [] es) zs
 g :∀r∈dAll 0 [] es,RdG r\/WrG 0 r
 n:(dAll 0 [] es).length<=24
 e:H le=some (.lst ys)
 ev:All2 (EvT H rTh) es ys
 wf:EWf [] es
 wx:WxI (dAll 0 [] es)
 n60:es.length<=60
 bg:(es.filter isBeg).length<=24
theorem Md.rws {HL H:Hp} {lr le:Addr} {es:List Ev} {zs ys:List V} (m:Md HL H lr le es zs ys):RwsA H lr (dAll 0 [] es) zs:=⟨m.l,m.a,m.g,m.wx.bd m.n,m.n⟩
theorem Md.same {HL H H':Hp} {lr le:Addr} {es:List Ev} {zs ys:List V} (m:Md HL H lr le es zs ys) (s:Same H H'):Md HL H' lr le es zs ys:=
 ⟨m.s.trans s,m.fl,m.fe,m.fz,m.nd,m.n1,s _ _ m.l,z02 (λ _ _ z=>z.same s) m.a,m.g,m.n,s _ _ m.e,z02 (λ _ _ z=>z.same s) m.ev,m.wf,m.wx,m.n60,m.bg⟩
theorem Md.pos {HL H:Hp} {lr le:Addr} {es:List Ev} {zs ys:List V} (m:Md HL H lr le es zs ys):PosI es.length (dAll 0 [] es):=by
 have:=PosI.all es PosI.nil
 rwa [M5] at this
theorem nd_at {zs:List V} (nd:zs.Nodup) {i j:Nat} {v:V} (h1:zs[i]? = some v) (h2:zs[j]? = some v):i=j:=by
 obtain ⟨a,b⟩:=List.getElem?_eq_some_iff.mp h1;obtain ⟨d,c⟩:=List.getElem?_eq_some_iff.mp h2;rcases U2 i j with z|z|z
 ·exact absurd (b.trans c.symm) (List.pairwise_iff_getElem.mp nd i j a d z)
 ·exact z
 ·exact absurd (c.trans b.symm) (List.pairwise_iff_getElem.mp nd j i d a z)
theorem ze7 {zs ws:List V} {n:Nat} {p:Nat->Bool} (h:All2 (λ (i:Nat) y=>zs[i]? = some y) ((N1 n).filter p) ws) {t:Nat} (ht:t < ws.length) :∃i v,ws[t]? = some v/\zs[i]? = some v/\p i=true:=by obtain ⟨i,a,e⟩:=z08 h (J0 ht);exact ⟨i,_,J0 ht,e,(List.mem_filter.mp (d0 a)).2⟩
theorem XOk.tp {H H':Hp} {k v:Str} {x:V} (s :∀a xs,H a=some (.tup xs)->H' a=some (.tup xs)) (h:XOk H k v x):XOk H' k v x:=by
 cases h with
 | none e=>exact .none e
 | one e h=>exact .one e h
 | two e h1 h2 h3=>exact .two e (s _ _ h1) h2 h3
theorem EvT.tp {H H':Hp} {ts:List (Str×Str)} (s :∀a xs,H a=some (.tup xs)->H' a=some (.tup xs)) :∀{e:Ev} {y:V},EvT H ts e y->EvT H' ts e y
 | .beg h n v x,_,⟨p,nm,k,vb,h1,h2,h3,h4,h5,h6,h7,h8,h9⟩=>⟨p,nm,k,vb,h1,s _ _ h2,h3,h4,h5,h6,h7,h8,XOk.tp s h9⟩
 | .fin h a,_,⟨p,h1,h2,h3⟩=>⟨p,h1,s _ _ h2,h3⟩
theorem zar {α β:Type} {R:α->β->Prop} {x:α} {y:β} :∀{xs:List α} {ys:List β} (j:Nat),All2 R xs ys->R x y->All2 R (xs.set j x) (ys.set j y)
 | _,_,_,.nil,_=>.nil
 | _,_,0,.cons _ r,h=>.cons h r
 | _,_,j + 1,.cons a r,h=>.cons a (zar j r h)
theorem ze3 {i:Int} (h:bdA i):AnsOk (.int i):=.inr (.inr ⟨i,rfl,by show (decide (-1000000000000<=i) && decide (i<=1000000000000))=true;rw [decide_eq_true h.1,decide_eq_true h.2];rfl⟩)
theorem ixN_at {n j:Nat} (h:j < n):ixN n (j:Int)=some j:=zeb h
theorem Md.fix {HL H0 H':Hp} {lr le p tp:Addr} {es:List Ev} {zs ys:List V} {i:Nat} {r:Rc} {e:Nat} {late x:Int} (m:Md HL H0 lr le es zs ys) (hr:(dAll 0 [] es)[i]? = some r) (hz:zs[i]? = some (.ref p)) (hre:isRE r=true) (he:r.e=some e) (bl:bdI late) (bx:bdA x)
  (k :∀b o,b≠p->b≠le->H0 b=some o->H' b=some o) (hp:H' p=some (.lst [.int r.h,r.v,r.x,.int x,.int r.b,endV r.e,.int late])) (ht:H' tp=some (.tup [.str "end",.int r.h,.int x])) (hl:H' le=some (.lst (ys.set e (.ref tp)))) :
  Md HL H' lr le (es.set e (.fin r.h (.int x))) zs (ys.set e (.ref tp)):=by
 obtain ⟨P,T,Z⟩:=m.fz p (d0 hz);have C:=d0 hr;have w:es[e]? = some (.fin r.h r.a):=by
  have:=end_at es 0 [] (λ _ h=>absurd h B0) r C e he (P1 _)
  rwa [Nat.sub_zero] at this
 have t:=zc0 (v:=.int x) es 0 [] e r.h r.a w PosI.nil;rw [M5] at t;have U:=m.pos;have F:RdG r:=by
  unfold isRE at hre;rw [R4] at hre;rcases m.g r C with g|g
  ·exact g
  ·exact absurd ((of_decide_eq_true hre.1).symm.trans g.1) z14
 have only :∀(j:Nat) (q:Rc),(dAll 0 [] es)[j]? = some q->q.e=some e->j=i:=λ j q J R=>U.ee j i q r e J hr R he;have Q :∀a B,H0 a=some (.tup B)->H' a=some (.tup B):=λ a B z=>k a _ (λ q=>by obtain ⟨_,_,_,_,S,M,_⟩:=z08 m.a hz;cases S;rw [q,M] at z;cases z) (λ q=>by rw [q,m.e] at z;cases z) z;have E:0<=r.h/\r.h<=5:=by obtain ⟨y,X,z⟩:=z48 m.ev w;obtain ⟨_,_,_,N,K,_⟩:=z;exact ⟨N,K⟩
 refine ⟨λ b o z=>k b o (λ q=>by rw [q,P] at z;cases z) (λ q=>by rw [q,m.fe] at z;cases z) (m.s b o z),m.fl,m.fe,m.fz,m.nd,m.n1,k _ _ (F3 T) m.n1 m.l,?_,?_,?_,hl,?_,zee es [] e r.h r.a w m.wf,?_,by rw [List.length_set];exact m.n60,by rw [zbt es e r.h r.a w];exact m.bg⟩
 ·rw [t];refine z1q (by rw [C0];exact z04 m.a) λ j W v f A=>?_;rw [T0] at f;obtain ⟨d,c,rfl⟩:=Option.map_eq_some_iff.mp f;obtain ⟨Y,D,u,L,rfl,G,H⟩:=z08 m.a A;rw [c] at D;cases D;by_cases z:u=p
  ·subst z;have:=nd_at m.nd A hz;subst this;rw [hr] at c;cases c;refine ⟨u,late,rfl,?_,bl⟩;unfold fixA;rw [if_pos he];exact hp
  ·have O:d.e≠some e:=λ y=>by have:=only j d c y;subst this;rw [A] at hz;cases hz;exact z rfl
   refine ⟨u,L,rfl,?_,H⟩;unfold fixA;rw [if_neg O];exact k _ _ z (m.fz u (d0 A)).2.2 G
 ·rw [t];intro W I;obtain ⟨d,c,rfl⟩:=List.mem_map.mp I;obtain ⟨j,f⟩:=List.mem_iff_getElem?.mp c;by_cases z:d.e=some e
  ·have:=only j d f z;subst this;rw [hr] at f;cases f;unfold fixA;rw [if_pos z];exact .inl ⟨F.1,F.2.1,λ _ _=>rfl⟩
  ·unfold fixA;rw [if_neg z];exact m.g d c
 ·rw [t,C0];exact m.n
 ·exact zar e (z02 (λ _ _ z=>EvT.tp Q z) m.ev) ⟨tp,rfl,ht,E.1,E.2,ze3 bx⟩
 ·rw [t];exact m.wx.fix
def z1c (K:c0):Sp:=λ vs H Q _=>∃(rw lr le:Addr) (es:List Ev) (zs ys:List V) (HL H0:Hp),vs=[.ref rw,.ref lr,.ref le]/\Same H0 H/\H0 rw=none/\DkAt H rw/\Md HL H0 lr le es zs ys/\∀es' ys' H',Md HL H' lr le es' zs ys'->Q .non H'
theorem z2w (T:TX (kx w) mg) (c0:Ca P w mg base "_law_take" ["row","many"] 1 z11):Fo P w mg base CX0 2 345 y00 ["row","rows","events"] (z1c (kx w)):=by
 refine (z0y w.params).ok sc__law_exchanged (λ B H Q E h=>?_) (λ d9 A d7 s H B Q E Z h=>?_)
 ·obtain ⟨U,lr,le,Y,W,ys,HL,H0,rfl,_⟩:=h;rfl
 ·obtain ⟨U,lr,le,Y,W,ys,HL,H0,rfl,s0,n0,dk,f,q⟩:=h;refine ⟨_,(z06 (z6r (i:=3) sc__law_exchanged.nd rfl (C1 rfl) (xs:=["one"]) (g:=gName 0) (fr:=[]) rfl (z0i (pv 1)) (λ _ z=>absurd z B0) (z2z rfl) (λ _ z=>absurd z B0) (by decide +kernel) rfl (by decide +kernel) (λ _ _ _ _ _=>(pg_cn (N:=["one"]) 0)) (λ _ _ _ _ _=>(pf_one (PW.pt (pw_and (z09 opEq (pe_ix (z0q (K:=KX w.params) rfl) (pv 0) pe_int (λ _ _=>rfl)) pe_str (nomark _)) (z1s (z09 z3l (pe_ix (z0q (K:=KX w.params) rfl) (pv 0) pe_int (λ _ _=>rfl)) pe_non (nomark _))))))) (λ _ _ _ _ _=>(pv 0)))
   (z06 (z6r (i:=4) sc__law_exchanged.nd rfl (C1 rfl) (xs:=["one"]) (g:=gName 0) (fr:=[]) rfl (z0i (pv 1)) (λ _ z=>absurd z B0) (z2z rfl) (λ _ z=>absurd z B0) (by decide +kernel) rfl (by decide +kernel) (λ _ _ _ _ _=>(pg_cn (N:=["one"]) 0)) (λ _ _ _ _ _=>(pf_one (z09 opEq (pe_ix (z0q (K:=KX w.params) rfl) (pv 0) pe_int (λ _ _=>rfl)) pe_str (nomark _)))) (λ _ _ _ _ _=>(pv 0)))
   (z05 (ps_if (PW.pt (pw_and (z09 (z88 Z) (pv 3) (pe_lst pa_nil) (nomark _)) (pw_and (z09 (z88 Z) (pv 4) (pe_lst pa_nil) (nomark _)) (z1s (z09 opEq (pe_cal c0 (Z.mono (by decide)) rfl (z00 (pv 0) (z00 pe_int pa_nil))) pe_int (nomark _))))))
   (z06 (ps_set (i:=5) sc__law_exchanged.nd rfl (C1 rfl) (pe_ix ix_seq (pv 3) (pe_cal c0 (Z.mono (by decide)) rfl (z00 (pv 0) (z00 (z0a z0r rfl (T.no (n_len _)) M3 (z00 (pv 3) pa_nil)) pa_nil))) (λ _ _=>rfl)))
   (z06 (ps_asg (pe_ix ix_seq (pe_ix ix_seq (pv 4) (pe_cal c0 (Z.mono (by decide)) rfl (z00 (pv 0) (z00 (z0a z0r rfl (T.no (n_len _)) M3 (z00 (pv 4) pa_nil)) pa_nil))) (λ _ _=>rfl)) pe_int (λ _ _=>rfl)) (pg_sub (pv 5) pe_int z1w))
   (z05 (ps_asg (pe_tup (z00 pe_str (z00 (pe_ix ix_seq (pv 5) pe_int (λ _ _=>rfl)) (z00 (pe_ix ix_seq (pv 5) pe_int (λ _ _=>rfl)) pa_nil)))) (pg_sub (pv 2) (pe_ix ix_seq (pv 5) pe_int (λ _ _=>rfl)) z1w)))))
   z0d)))),?_⟩
  have lz:W.length=(dAll 0 [] Y).length:=z04 f.a;have b8:=f.n;have ra:=f.rws.same s0;refine z0c ?_;refine z0o (K:=KX w.params) (a:=lr) (xs:=W) (H1:=H) (λ i=>isRE ((dAll 0 [] Y)[i]?.getD r00)) (λ i y _=>W[i]? = some y) (λ _ _ _ _ _ z=>z) (λ R h=>⟨_,rfl,h⟩) (SqL.of ra.l) (F0 (m:=24) (by omega) (by decide)) (λ i hi v H3 M J KT KF h1 V=>?_) λ I H1 F s1 b4 b0=>?_
  ·obtain ⟨r',D,C,d1,rfl,u,_⟩:=z08 ra.a J;have u:=SqL.of (K:=KX w.params) (M _ _ u);rw [getD_some D] at h1 V;refine ⟨[some (.ref C)],rfl,rfl,t_and ?_⟩;rcases ra.g r' (d0 D) with g|g
   ·refine ⟨_,rfl,.inl ⟨C,_,1,.str "read",rfl,rfl,u,by rw [g.1];exact z03 (j:=1) rfl,rfl,_,rfl,iteP (by decide +kernel) ?_⟩⟩;cases G:r'.e with
    | none=>exact ⟨_,rfl,.inl ⟨C,_,5,.non,rfl,rfl,u,by rw [G];exact z03 (j:=5) rfl,rfl,_,rfl,iteN (by decide) (V (by unfold isRE;rw [G];exact G7 _) _ (Same.refl _))⟩⟩
    | some e=>exact ⟨_,rfl,.inl ⟨C,_,5,.int e,rfl,rfl,u,by rw [G];exact z03 (j:=5) rfl,rfl,_,rfl,iteP (by simp) ⟨_,rfl,h1 (by unfold isRE;rw [G,decide_eq_true g.1];rfl) _ _ (Same.refl _) J⟩⟩⟩
   ·refine ⟨_,rfl,.inl ⟨C,_,1,.str "write",rfl,rfl,u,by rw [g.1];exact z03 (j:=1) rfl,rfl,_,rfl,iteK (iteF (V ?_ _ (Same.refl _)))⟩⟩;unfold isRE;rw [decide_eq_false (λ e=>z14 (e.symm.trans g.1))];rfl
  have b7:I≠U:=λ z=>by obtain ⟨a,b,c,e,_⟩:=dk;rw [z,s1 _ _ e] at b4;cases b4
  have u1:=s1.trans (Same.upd (o:=.lst F) b4);have e1:upd H1 I (.lst F) I=some (.lst F):=z01;generalize upd H1 I (.lst F)=H2 at u1 e1⊢;have c3:=ra.same u1;refine g_name (z0c ?_);refine z0o (K:=KX w.params) (a:=lr) (xs:=W) (H1:=H2) (λ i=>isW ((dAll 0 [] Y)[i]?.getD r00)) (λ i y _=>W[i]? = some y) (λ _ _ _ _ _ z=>z) (λ R h=>⟨_,rfl,h⟩) (SqL.of c3.l) (F0 (m:=24) (by omega) (by decide)) (λ i hi v H3 M J KT KF h1 V=>?_) λ O H3 B M a6 a9=>?_
  ·obtain ⟨r',D,C,d1,rfl,u,_⟩:=z08 c3.a J;have u:=SqL.of (K:=KX w.params) (M _ _ u);rw [getD_some D] at h1 V;refine ⟨[some (.ref C)],rfl,rfl,?_⟩;rcases ra.g r' (d0 D) with g|g
   ·exact ⟨_,rfl,.inl ⟨C,_,1,.str "read",rfl,rfl,u,by rw [g.1];exact z03 (j:=1) rfl,rfl,_,rfl,iteK (V g.w _ (Same.refl _))⟩⟩
   ·exact ⟨_,rfl,.inl ⟨C,_,1,.str "write",rfl,rfl,u,by rw [g.1];exact z03 (j:=1) rfl,rfl,_,rfl,iteP (by decide +kernel) ⟨_,rfl,h1 g.w _ _ (Same.refl _) J⟩⟩⟩
  have b1:O≠U:=λ z=>by obtain ⟨a,b,c,e,_⟩:=dk;rw [z,M _ _ (u1 _ _ e)] at a6;cases a6
  have u3:=u1.trans (M.trans (Same.upd (o:=.lst B) a6));have a7:=(M.trans (Same.upd (o:=.lst B) a6)) _ _ e1;have e2:upd H3 O (.lst B) O=some (.lst B):=z01;generalize upd H3 O (.lst B)=H4 at u3 e2 a7⊢;rw [lz] at b0 a9;have d4:=dk.same u3;have s4:=s0.trans u3;have done :∀H',Same H0 H'->Q .non H':=λ H' s'=>q Y ys H' (f.same s');refine g_name ?_;have d8:F.length<=24:=by rw [z04 b0];exact F0 (Z0 _ _) (by rw [E5];exact b8)
  have e3:B.length<=24:=by rw [z04 a9];exact F0 (Z0 _ _) (by rw [E5];exact b8)
  refine z0p (t_and ⟨_,rfl,w_0,λ l5 d2=>?_⟩);obtain ⟨H5,v_,v5,u⟩:=newA (.lst []) d2;rw [<-v_];refine ⟨I,l5,F,rfl,rfl,SqL.of (v5 _ _ a7),SqL.of u,_,rfl,ite2 (λ z1=>?_) λ _=>iteF (done _ (s4.trans v5))⟩;refine t_and ⟨_,rfl,w_0,λ l6 c9=>?_⟩;have L:=v5.trans (Same.upd (o:=.lst []) c9);have e6:upd H5 l6 (.lst []) l6=some (.lst []):=z01;generalize upd H5 l6 (.lst [])=H6 at L e6⊢;refine ⟨O,l6,B,rfl,rfl,SqL.of (L _ _ e2),SqL.of e6,_,rfl,ite2 (λ z2=>?_) λ _=>iteF (done _ (s4.trans L))⟩;have s6:=s4.trans L;refine ⟨_,rfl,U,3,rfl,d4.same L,by decide,by decide,λ t3 H7 a5 _ _=>?_⟩;have s7:=Same.kp s6 n0 a5.k;have b9:=a5.k _ _ b7 (L _ _ a7);have d3:=a5.k _ _ b1 (L _ _ e2);refine ⟨rfl,_,rfl,ite2 (λ _=>?_) λ _=>done _ s7⟩;have p1:0 < F.length:=List.length_pos_iff.mpr (of_decide_eq_true z1);have p2:0 < B.length:=List.length_pos_iff.mpr (of_decide_eq_true z2);refine z0c ⟨_,rfl,_,rfl,_,rfl,.inl ⟨I,F,rfl,.inl (SqL.of b9),U,_,rfl,a5.d,by omega,by omega,λ t H8 a2 t0 t1=>?_⟩⟩;obtain ⟨n,rfl⟩ :∃n:Nat,t=(n:Int):=⟨t.toNat,(X7 t0).symm⟩
  obtain ⟨i,v,J,b2,c2⟩:=ze7 b0 (t:=n) (by omega);have s8:=Same.kp s7 n0 a2.k;refine .inl ⟨I,F,n,v,rfl,rfl,SqL.of (a2.k _ _ b7 b9),z03 J,g_name ?_⟩;have b6:=a2.k _ _ b1 d3;obtain ⟨r,D,p,a3,rfl,ep,bl⟩:=z08 f.a b2;have X:isRE r=true:=by rw [getD_some D] at c2;exact c2
  obtain ⟨e,G⟩ :∃e,r.e=some e:=by have X:=X;unfold isRE at X;rw [R4] at X;exact Option.isSome_iff_exists.mp X.2
  refine z0c ⟨_,rfl,_,rfl,_,rfl,.inl ⟨O,B,rfl,.inl (SqL.of b6),U,_,rfl,a2.d,by omega,by omega,λ t' H9 c1 c8 d6=>?_⟩⟩;obtain ⟨n',rfl⟩ :∃n:Nat,t'=(n:Int):=⟨t'.toNat,(X7 c8).symm⟩
  obtain ⟨i2,v2,c7,c5,b5⟩:=ze7 a9 (t:=n') (by omega);have s9:=Same.kp s8 n0 c1.k;obtain ⟨S,a8,q2,d5,rfl,c6,_⟩:=z08 f.a c5;have w2:isW S=true:=by rw [getD_some a8] at b5;exact b5
  have g2:S.x=.int (intV S.x):=by
   rcases f.g S (d0 a8) with g|g
   ·rw [g.w] at w2;cases w2
   ·exact g.2.2.1
  have bx:=(f.wx.bd f.n S (d0 a8) w2).a;generalize intV S.x=x2 at g2 bx;refine .inl ⟨O,B,n',.ref q2,rfl,rfl,SqL.of (c1.k _ _ b1 b6),z03 c7,.inl ⟨q2,_,2,.int x2,rfl,rfl,SqL.of (s9 _ _ c6),by rw [g2];exact z03 (j:=2) rfl,?_⟩⟩;refine ⟨_,rfl,p,_,3,3,rfl,rfl,s9 _ _ ep,rfl,?_⟩;obtain ⟨f1,f2,f3⟩:=f.fz p (d0 b2);have a0:upd H9 p (.lst ([.int r.h,r.v,r.x,r.a,.int r.b,endV r.e,.int a3].set 3 (.int x2))) p=some (.lst [.int r.h,r.v,r.x,.int x2,.int r.b,endV r.e,.int a3]):=z01;have a1 :∀b o,b≠p->H9 b=some o->upd H9 p (.lst ([.int r.h,r.v,r.x,r.a,.int r.b,endV r.e,.int a3].set 3 (.int x2))) b=some o:=λ b o n z=>by rw [upd_ne n];exact z
  generalize upd H9 p (.lst ([.int r.h,r.v,r.x,r.a,.int r.b,endV r.e,.int a3].set 3 (.int x2)))=H10 at a0 a1⊢;refine ⟨_,rfl,.inl ⟨p,_,0,.int r.h,rfl,rfl,SqL.of a0,z03 (j:=0) rfl,_,rfl,.inl ⟨p,_,3,.int x2,rfl,rfl,SqL.of a0,z03 (j:=3) rfl,w_3,λ tp b3=>?_⟩⟩⟩;obtain ⟨e0,v_,a4,c4⟩:=newA (.tup [.str "end",.int r.h,.int x2]) b3;rw [<-v_];have eL:=a4 _ _ (a1 _ _ (F3 f3) (s9 _ _ f.e));have ey:e < ys.length:=by rw [z04 f.ev];exact f.pos.e r (d0 D) e G
  refine ⟨_,rfl,_,rfl,.inl ⟨p,_,5,.int e,rfl,rfl,SqL.of (a4 _ _ a0),by rw [G];exact z03 (j:=5) rfl,le,ys,e,e,rfl,rfl,eL,ixN_at ey,?_⟩⟩;have nt:tp≠le:=λ z=>by rw [z,a1 _ _ (F3 f3) (s9 _ _ f.e)] at b3;cases b3
  refine q _ _ _ (f.fix (tp:=tp) D b2 X G bl bx (λ b o n1 n2 z=>?_) ?_ ?_ z01)
  ·rw [upd_ne n2];exact a4 _ _ (a1 _ _ n1 (s9 _ _ z))
  ·rw [upd_ne f3];exact a4 _ _ a0
  ·rw [upd_ne nt];exact c4
end
section
structure HdI (es:List Ev) (os:List (Int×Nat)):Prop where
 o:os.map (·.1)=es.foldl oStep []
 j :∀h j,(h,j)∈os->lastI h ((dAll 0 [] es).map Rc.h)=some j
noncomputable def heldK (os:List (Int×Nat)):List (Key×V):=os.map λ o=>(Sum.inl o.1,V.int (o.2:Nat))
theorem z82 (os:List (Int×Nat)):(heldK os).map (·.1)=(os.map (·.1)).map Sum.inl:=by unfold heldK;rw [A3,A3];rfl
theorem held_in {os:List (Int×Nat)} {h:Int}:(valV (heldK os) (.inl h)).isSome=true↔h∈os.map (·.1):=by rw [z2k,z82];exact ⟨λ z=>by obtain ⟨k,a,e⟩:=List.mem_map.mp z;exact g4 e ▸ a,λ z=>List.mem_map.mpr ⟨h,z,rfl⟩⟩
theorem za2 :∀{os:List (Int×Nat)} {h:Int},h∈os.map (·.1)->∃b,(h,b)∈os/\valV (heldK os) (.inl h)=some (.int (b:Nat))
 | [],_,z=>absurd z B0
 | (k,c) :: os,h,z=>by
  by_cases e:k=h
  ·subst e;exact ⟨c,.head _,z0u rfl⟩
  ·rcases List.mem_cons.mp z with y|y
   ·exact absurd y.symm e
   ·obtain ⟨b,a,f⟩:=za2 (os:=os) y;exact ⟨b,.tail _ a,by show valV ((Sum.inl k,_) :: heldK os) _=_;rw [z0v (λ d=>e (g4 d))];exact f⟩
theorem z4v :∀{os:List (Int×Nat)} {h:Int},dropK (heldK os) (.inl h)=heldK (os.filter λ k=>decide (k.1≠h))
 | [],_=>rfl
 | (k,c) :: os,h=>by
  show dropK ((Sum.inl k,_) :: heldK os) _=_;by_cases e:k=h
  ·rw [zdn (by rw [e]),X1 (by simp [e]),z4v]
  ·rw [zci (λ a=>e (g4 a)),W1 (by simp [e]),z4v];rfl
theorem zf9 {os:List (Int×Nat)} {h:Int} {b:Nat} (n:h∉os.map (·.1)):putK (heldK os) (.inl h) (.int (b:Nat))=heldK (os++[(h,b)]):=by rw [z15 (by rw [z82];exact λ z=>n (by obtain ⟨k,a,e⟩:=List.mem_map.mp z;exact g4 e ▸ a))];unfold heldK;rw [O2];rfl
theorem z2g {h:Int} :∀os:List (Int×Nat),(os.filter λ k=>decide (k.1≠h)).map (·.1)=(os.map (·.1)).filter λ k=>decide (k≠h)
 | []=>rfl
 | (k,c) :: os=>by
  by_cases e:k=h
  ·rw [X1 (by simp [e]),U0,X1 (by simp [e]),z2g os]
  ·rw [W1 (by simp [e]),U0,U0,W1 (by simp [e]),z2g os]
theorem z30 (es:List Ev) (e:Ev):dAll 0 [] (es++[e])=dstep es.length (dAll 0 [] es) e:=by
 have:=z7x (es:=es) (i:=0) (rs:=[]) (e:=e)
 rwa [M5] at this
theorem HdI.fin {es:List Ev} {os:List (Int×Nat)} {h:Int} {a:V} (x:HdI es os):HdI (es++[.fin h a]) (os.filter λ k=>decide (k.1≠h)):=by
 refine ⟨?_,λ k j c=>?_⟩
 ·rw [g8,z2g,x.o];rfl
 ·rw [z30];have b:(dstep es.length (dAll 0 [] es) (.fin h a)).map Rc.h=(dAll 0 [] es).map Rc.h:=by
   unfold dstep;dsimp only;cases lastI h ((dAll 0 [] es).map Rc.h) with
   | none=>rfl
   | some m=>exact zad λ _=>rfl
  rw [b];exact x.j k j (List.mem_filter.mp c).1
theorem HdI.beg {es:List Ev} {os:List (Int×Nat)} {h:Int} {nm v y:V} (x:HdI es os) (n:h∉os.map (·.1)):HdI (es++[.beg h nm v y]) (os++[(h,(dAll 0 [] es).length)]):=by
 refine ⟨?_,λ k j a=>?_⟩
 ·rw [g8,O2,x.o];rfl
 ·rw [z30];show lastI k ((dAll 0 [] es++[_]).map Rc.h)=_;rw [O2];show lastI k (_++[h])=_;rw [z27,C0];rcases List.mem_append.mp a with z|z
  ·rw [if_neg (λ q=>n (by rw [q];exact List.mem_map.mpr ⟨_,z,rfl⟩))];exact x.j k j z
  ·cases List.mem_singleton.mp z;rw [if_pos rfl]
theorem Md.kp {HL H H':Hp} {lr le:Addr} {es:List Ev} {zs ys:List V} (m:Md HL H lr le es zs ys) {d:Addr} {kvs:List (Key×V)} (hd:H d=some (.dK kvs)) (fd:HL d=none) (k :∀b o,b≠d->H b=some o->H' b=some o):Md HL H' lr le es zs ys:=by
 have f :∀{b:Addr} {c:List V},H b=some (.lst c)->b≠d:=λ e q=>by rw [q,hd] at e;cases e
 have j :∀{b:Addr} {c:List V},H b=some (.tup c)->b≠d:=λ e q=>by rw [q,hd] at e;cases e
 exact ⟨λ b o e=>k b o (λ q=>by rw [q,fd] at e;cases e) (m.s b o e),m.fl,m.fe,m.fz,m.nd,m.n1,k _ _ (f m.l) m.l,z02 (λ _ _ z=>by obtain ⟨p,t,i,h,r⟩:=z;exact ⟨p,t,i,k _ _ (f h) h,r⟩) m.a,m.g,m.n,k _ _ (f m.e) m.e,z02 (λ _ _ z=>EvT.tp (λ a c e=>k _ _ (j e) e) z) m.ev,m.wf,m.wx,m.n60,m.bg⟩
theorem Md.fin {HL H0 H':Hp} {lr le p tp:Addr} {es:List Ev} {zs ys:List V} {j:Nat} {r:Rc} {late:Int} {a:V} (m:Md HL H0 lr le es zs ys) (hj:lastI r.h ((dAll 0 [] es).map Rc.h)=some j) (hr:(dAll 0 [] es)[j]? = some r) (hz:zs[j]? = some (.ref p)) (ho:r.h∈es.foldl oStep []) (hh:0<=r.h/\r.h<=5) (l60:es.length < 60) (bl:bdI late) (ha1:isW r=true->a=.str "ok") (ha2:isW r=false->∃i,a=.int i/\bdA i)
  (k :∀b o,b≠p->b≠le->H0 b=some o->H' b=some o) (hp:H' p=some (.lst [.int r.h,r.v,r.x,a,.int r.b,.int (es.length:Nat),.int late])) (ht:H' tp=some (.tup [.str "end",.int r.h,a])) (hl:H' le=some (.lst (ys++[.ref tp]))) :
  Md HL H' lr le (es++[.fin r.h a]) zs (ys++[.ref tp]):=by
 obtain ⟨K,O,Q⟩:=m.fz p (d0 hz);have f:dAll 0 [] (es++[.fin r.h a])=(dAll 0 [] es).modify j λ q=>{ q with a:=a,e:=some es.length }:=by rw [z30];unfold dstep;dsimp only;rw [hj]
 have A :∀{i:Nat} {q:Rc},(dAll 0 [] (es++[.fin r.h a]))[i]? = some q->(i=j/\q={ r with a:=a,e:=some es.length })\/(i≠j/\(dAll 0 [] es)[i]? = some q):=λ {i q} z=>by
  rw [f,E2] at z;cases y:(dAll 0 [] es)[i]? with
  | none=>rw [y] at z;cases z
  | some r0=>
   rw [y] at z;have z:some (if j=i then { r0 with a:=a,e:=some es.length } else r0)=some q:=z;by_cases u:j=i
   ·subst u;rw [hr] at y;cases y;rw [if_pos rfl] at z;cases z;exact .inl ⟨rfl,rfl⟩
   ·rw [if_neg u] at z;cases z;exact .inr ⟨F3 u,rfl⟩
 have L :∀a t,H0 a=some (.tup t)->H' a=some (.tup t):=λ a t z=>k a _ (λ q=>by obtain ⟨_,_,_,_,N,I,_⟩:=z08 m.a hz;cases N;rw [q,I] at z;cases z) (λ q=>by rw [q,m.e] at z;cases z) z;have J:AnsOk a:=by
  cases w:isW r with
  | true=>exact .inl (ha1 w)
  | false=>obtain ⟨i,rfl,b⟩:=ha2 w;exact ze3 b
 have M:RdG { r with a:=a,e:=some es.length }\/WrG 0 { r with a:=a,e:=some es.length }:=by
  rcases m.g r (d0 hr) with g|g
  ·refine .inl ⟨g.1,g.2.1,λ _ _=>?_⟩;obtain ⟨i,e,_⟩:=ha2 g.w;show a=.int (intV a);rw [e];rfl
  ·exact .inr ⟨g.1,trivial,g.2.2.1,λ _ _=>ha1 g.w⟩
 refine ⟨λ b o z=>k b o (λ q=>by rw [q,K] at z;cases z) (λ q=>by rw [q,m.fe] at z;cases z) (m.s b o z),m.fl,m.fe,m.fz,m.nd,m.n1,k _ _ (F3 O) m.n1 m.l,?_,?_,?_,hl,?_,m.wf.snoc ho,?_,by rw [L0];show es.length + 1<=60;omega,?_⟩
 ·refine z1q (by rw [f,n5];exact z04 m.a) λ i q v c d=>?_;rcases A c with ⟨rfl,rfl⟩|⟨ne,h0⟩
  ·rw [hz] at d;cases d;exact ⟨p,late,rfl,hp,bl⟩
  ·obtain ⟨P,C,B,H,rfl,F,E⟩:=z08 m.a d;rw [h0] at C;cases C;refine ⟨B,H,rfl,k _ _ (λ z=>?_) (m.fz B (d0 d)).2.2 F,E⟩;subst z;exact ne (nd_at m.nd d hz)
 ·intro q G;obtain ⟨i,c⟩:=List.mem_iff_getElem?.mp G;rcases A c with ⟨_,rfl⟩|⟨_,h0⟩
  ·exact M
  ·exact m.g q (d0 h0)
 ·rw [f,n5];exact m.n
 ·exact z0n (z02 (λ _ _ z=>EvT.tp L z) m.ev) ⟨tp,rfl,ht,hh.1,hh.2,J⟩
 ·intro i q c D;rcases A c with ⟨rfl,rfl⟩|⟨_,h0⟩
  ·exact m.wx i r hr D
  ·exact m.wx i q h0 D
 ·rw [F2];show (_++[]).length<=24;rw [C2];exact m.bg
theorem zai :∀(es:List Ev) (i:Nat) (rs:List Rc),(dAll i rs es).length=rs.length + (es.filter isBeg).length
 | [],_,_=>rfl
 | .beg h n v x :: es,i,rs=>by show (dAll (i + 1) (rs++[_]) es).length=rs.length + ((es.filter isBeg).length + 1);rw [zai es,L0];show rs.length + 1 + _=_;omega
 | .fin h a :: es,i,rs=>by
  show (dAll (i + 1) (dstep i rs (.fin h a)) es).length=rs.length + (es.filter isBeg).length;rw [zai es];congr 1;unfold dstep;dsimp only;cases lastI h (rs.map Rc.h) with
  | none=>rfl
  | some k=>exact n5 ..
theorem nameR:NameOk "r":=⟨by decide +kernel,by decide +kernel,by decide +kernel⟩
def NewD (i:Nat) (v x:V):Prop:=(v=.str "read"/\x=.non)\/(v=.str "write"/\∃t y:Int,0<=t/\t < 1000/\x=.int y/\(y=(24 * t + i + 1) * 41666\/y=-((24 * t + i + 1) * 41666)))
theorem Md.beg {HL H0 H':Hp} {lr le p tp:Addr} {es:List Ev} {zs ys:List V} {h:Int} {v x:V} {late:Int} (m:Md HL H0 lr le es zs ys) (hn:(dAll 0 [] es).length < 24) (nd:NewD (dAll 0 [] es).length v x) (ho:h∉es.foldl oStep []) (hh:0<=h/\h<=5) (l60:es.length < 60) (bl:bdI late)
  (fp:H0 p=none) (k :∀b o,b≠lr->b≠le->H0 b=some o->H' b=some o) (hr:H' lr=some (.lst (zs++[.ref p]))) (hp:H' p=some (.lst [.int h,v,x,.non,.int (es.length:Nat),.non,.int late])) (ht:H' tp=some (.tup [.str "begin",.int h,.str "r",v,x])) (hl:H' le=some (.lst (ys++[.ref tp]))) :
  Md HL H' lr le (es++[.beg h (.str "r") v x]) (zs++[.ref p]) (ys++[.ref tp]):=by
 have j:dAll 0 [] (es++[.beg h (.str "r") v x])=dAll 0 [] es++[⟨h,.str "r",v,x,.non,es.length,none⟩]:=z30 es _;have L:=z04 m.a;have J:=zai es 0 [];rw [B4] at J;have H:HL p=none:=m.s.free fp;have D:p≠lr:=λ q=>by rw [q,m.l] at fp;cases fp
 have G:p≠le:=λ q=>by rw [q,m.e] at fp;cases fp
 have P:V.ref p∉zs:=λ q=>by obtain ⟨i,c⟩:=List.mem_iff_getElem?.mp q;obtain ⟨_,_,_,_,R,B,_⟩:=z08 m.a c;cases R;rw [fp] at B;cases B
 have N :∀a w,H0 a=some (.tup w)->H' a=some (.tup w):=λ a w z=>k a _ (λ q=>by rw [q,m.l] at z;cases z) (λ q=>by rw [q,m.e] at z;cases z) z;refine ⟨λ b o z=>k b o (λ q=>by rw [q,m.fl] at z;cases z) (λ q=>by rw [q,m.fe] at z;cases z) (m.s b o z),m.fl,m.fe,λ b u=>?_,?_,m.n1,hr,?_,?_,?_,hl,?_,m.wf.snoc ho,?_,by rw [L0];show es.length + 1<=60;omega,?_⟩
 ·rcases List.mem_append.mp u with z|z
  ·exact m.fz b z
  ·cases List.mem_singleton.mp z;exact ⟨H,D,G⟩
 ·exact List.nodup_append.mpr ⟨m.nd,List.nodup_cons.mpr ⟨B0,.nil⟩,λ a M b u e=>by rw [List.mem_singleton.mp u] at e;exact P (e ▸ M)⟩
 ·rw [j];refine z0n (z1q L λ i q v c C=>?_) ⟨p,late,rfl,hp,bl⟩;obtain ⟨U,d,A,K,rfl,F,E⟩:=z08 m.a C;rw [c] at d;cases d;obtain ⟨_,Q,S⟩:=m.fz A (d0 C);exact ⟨A,K,rfl,k _ _ Q S F,E⟩
 ·rw [j];intro q I;rcases List.mem_append.mp I with z|z
  ·exact m.g q z
  ·rw [List.mem_singleton.mp z];rcases nd with ⟨d,f⟩|⟨d,t,y,_,_,f,_⟩
   ·exact .inl ⟨d,f,λ _ z=>by cases z⟩
   ·exact .inr ⟨d,trivial,by show x=.int (intV x);rw [f];rfl,λ _ z=>by cases z⟩
 ·rw [j,L0];show _ + 1<=24;omega
 ·refine z0n (z02 (λ _ _ z=>EvT.tp N z) m.ev) ?_;rcases nd with ⟨rfl,rfl⟩|⟨rfl,t,y,t0,t1,rfl,hy⟩
  ·exact ⟨tp,"r","register","read",rfl,ht,hh.1,hh.2,rfl,rfl,.head _,nameR,.none (by decide +kernel)⟩
  ·refine ⟨tp,"r","register","write",rfl,ht,hh.1,hh.2,rfl,rfl,.head _,nameR,.one (by decide +kernel) ?_⟩;show (decide (-1000000000<=y) && decide (y<=1000000000))=true;rw [decide_eq_true (by omega),decide_eq_true (by omega)];rfl
 ·rw [j];intro i q c n;rw [j07] at c;split at c
  ·exact m.wx i q c n
  ·rename_i z;obtain ⟨y,_⟩:=List.getElem?_eq_some_iff.mp c;rw [y7] at y;have T:i - (dAll 0 [] es).length=0:=by omega
   rw [T] at c;cases c;have O:i=(dAll 0 [] es).length:=by omega
   rcases nd with ⟨d,f⟩|⟨d,t,y,t0,t1,f,hy⟩
   ·unfold isW at n;rw [show (⟨h,.str "r",v,x,.non,es.length,none⟩:Rc).v=v from rfl,d,decide_eq_false z14] at n;cases n
   ·refine ⟨t,t0,t1,?_⟩;show intV x=_\/intV x=_;rw [f,O];exact hy
 ·rw [F2];show (_++[_]).length<=24;rw [L0];show _ + 1<=24;omega
end
section
variable {P:Program} {w:O0} {mg:Str->Option Value} {base:Heap}
theorem Same.upd2 {B H:Hp} {l:Addr} {o:HO} (s:Same B H):Same (upd B l o) (upd H l o):=λ p x e=>by
 by_cases z:p=l
 ·subst z;rw [z01] at e⊢;exact e
 ·rw [upd_ne z] at e⊢;exact s _ _ e
theorem row_ok {es:List Ev} {h:Int} {j:Nat} (hj:lastI h ((dAll 0 [] es).map Rc.h)=some j) :∃r,(dAll 0 [] es)[j]? = some r/\r.h=h:=by have a:=(z57 _ hj).1;rw [T0] at a;obtain ⟨r,c,b⟩:=Option.map_eq_some_iff.mp a;exact ⟨r,c,b⟩
theorem nx_to3 {t:TS} {D:Ends} {rt:VK} {bk ct:L2.St->Hp->Prop} {σ:L2.St} {H:Hp} (h:t D σ H):({ nx:=t D,rt:=rt,bk:=bk,ct:=ct }:Ends).nx σ H:=h
theorem ev_at {K:c0} {H:Hp} {ts:List (Str×Str)} :∀{e:Ev} {y:V},EvT H ts e y->EvAt K H e y
 | .beg _ _ _ _,_,⟨p,_,_,_,h1,h2,_⟩=>⟨p,h1,SqT.of h2⟩
 | .fin _ _,_,⟨p,h1,h2,_⟩=>⟨p,h1,SqT.of h2⟩
theorem Md.tw {HL H:Hp} {lr le:Addr} {es:List Ev} {zs ys:List V} (m:Md HL H lr le es zs ys):TwG es:=⟨(DInv.nil.all m.wf).1,λ _ r a=>m.g r a,m.wx.nd m.n,m.wx.n0⟩
def z39 (K:c0):Sp:=λ vs H Q _=>∃(c:Addr) (sp:Bool) (ns:List Int),vs=[.ref c,.int 24,.bl sp]/\SqL K H c (ns.map V.int)/\ns.length<=60/\∀tt tl lr zs es ys H',Same H H'->H' tt=some (.tup [.ref tl,.ref lr])->TalR K H' tl "r" 0 es ys->RwsA H' lr (dAll 0 [] es) zs->Q (.ref tt) H'
theorem z76 (T:TX (kx w) mg) (c0:Ca P w mg base "_law_row" ["cell"] 1 z4b) (c1:Ca P w mg base "_law_take" ["row","many"] 1 z11) (c2:Ca P w mg base "_law_answer" ["row","deed","now","rows","spoilt"] 2 (z22 (kx w))) (c3:Ca P w mg base "_law_exchanged" ["row","rows","events"] 2 (z1c (kx w))) (c4:Ca P w mg base "make_tale" ["things","events"] 7 (z37 (kx w))):Fo P w mg base CX0 8 352 y0j ["cells","most","spoilt"] (z39 (kx w)):=by
 refine (z2l w.params).ok sc__law_made (λ vs H Q E h=>?_) (λ j3 A i9 s H vs Q E C h=>?_)
 ·obtain ⟨c,Y,ns,rfl,_⟩:=h;rfl
 ·obtain ⟨c,Y,ns,rfl,sq,j6,q⟩:=h;refine q_of (z0b (QS.mk (ps_set (i:=3) sc__law_made.nd rfl (C1 rfl) (pe_lst pa_nil)))
   (z0b (QS.mk (ps_set (i:=4) sc__law_made.nd rfl (C1 rfl) (pe_lst pa_nil)))
   (z0b (QS.mk (ps_set (i:=5) sc__law_made.nd rfl (C1 rfl) z7k))
   (z0b (QS.mk (ps_set (i:=6) sc__law_made.nd rfl (C1 rfl) pe_int))
   (z0b (qs_for Q1 rfl (z0i (pv 0)) (z0m (i:=7) sc__law_made.nd rfl (C1 rfl))
   (z0b (QS.mk (ps_set (i:=8) sc__law_made.nd rfl (C1 rfl) (pe_cal c0 (C.mono (by decide)) rfl (z00 (pv 7) pa_nil))))
   (z0b (QS.mk (ps_set (i:=9) sc__law_made.nd rfl (C1 rfl) (pe_cal c1 (C.mono (by decide)) rfl (z00 (pv 8) (z00 pe_int pa_nil)))))
   (z28 (qs_if (pt_cmp (pc_din (hu_of C) (pv 9) (pv 5)) (by with_unfolding_all rfl))
   (z0b (QS.mk (ps_set (i:=10) sc__law_made.nd rfl (C1 rfl) (pe_ix ix_seq (pv 3) (zen (pv 5) (pv 9) ⟨rfl,rfl,rfl,rfl⟩) (λ _ _=>rfl))))
   (z0b (QS.mk (ps_if (PW.pt (pw_and (z09 opEq (pe_ix ix_seq (pv 10) pe_int (λ _ _=>rfl)) pe_str (nomark _)) (z1s (z09 opEq (pe_ix ix_seq (pv 10) pe_int (λ _ _=>rfl)) pe_int (nomark _)))))
   (z05 (ps_set (i:=6) sc__law_made.nd rfl (C1 rfl) (pe_ix ix_seq (pv 10) pe_int (λ _ _=>rfl))))
   z0d))
   (z0b (QS.mk (ps_asg (pe_cal c2 (C.mono (by decide)) rfl (z00 (pv 8) (z00 (pv 10) (z00 (pv 6) (z00 (pv 3) (z00 (pv 2) pa_nil)))))) (pg_sub (pv 10) pe_int z1w)))
   (z0b (QS.mk (ps_asg (z0a z0r rfl (T.no (n_len _)) M3 (z00 (pv 4) pa_nil)) (pg_sub (pv 10) pe_int z1w)))
   (z28 (QS.mk (z20 (z12 (pv 4) (z00 (pe_tup (z00 pe_str (z00 (pv 9) (z00 (pe_ix ix_seq (pv 10) pe_int (λ _ _=>rfl)) pa_nil)))) pa_nil)))))))))
   (z28 (qs_if (z09 op_lt (z0a z0r rfl (T.no (n_len _)) M3 (z00 (pv 3) pa_nil)) (pv 1) (nomark _))
   (z0b (qs_set (i:=11) sc__law_made.nd rfl (C1 rfl) (qe_ix ix_seq (qe_lst (z1r (QE.mk pe_str) (z1r (QE.mk pe_str) qa_nil))) (QE.mk (pe_cal c1 (C.mono (by decide)) rfl (z00 (pv 8) (z00 pe_int pa_nil)))) (λ _ _=>rfl)))
   (z0b (QS.mk (ps_set (i:=12) sc__law_made.nd rfl (C1 rfl) pe_non))
   (z0b (QS.mk (ps_set (i:=13) sc__law_made.nd rfl (C1 rfl) (pv 6)))
   (z0b (qs_if (z09 opEq (pv 11) pe_str (nomark _))
   (z0b (qs_set (i:=12) sc__law_made.nd rfl (C1 rfl) (qe_op op_mul (QE.mk (pe_op op_mul (pe_op opAdd (pe_op opAdd (pe_op op_mul pe_int (pe_cal c1 (C.mono (by decide)) rfl (z00 (pv 8) (z00 pe_int pa_nil)))) (z0a z0r rfl (T.no (n_len _)) M3 (z00 (pv 3) pa_nil))) pe_int) pe_int)) (qe_ix ix_seq (qe_lst (z1r (QE.mk pe_int) (z1r (QE.mk (pe_un un_neg pe_int)) qa_nil))) (QE.mk (pe_cal c1 (C.mono (by decide)) rfl (z00 (pv 8) (z00 pe_int pa_nil)))) (λ _ _=>rfl))))
   (z0b (QS.mk (ps_set (i:=13) sc__law_made.nd rfl (C1 rfl) (pe_cal c1 (C.mono (by decide)) rfl (z00 (pv 8) (z00 pe_int pa_nil)))))
   (z28 (QS.mk (ps_if (z09 opEq (pv 13) pe_int (nomark _))
   (z05 (ps_set (i:=6) sc__law_made.nd rfl (C1 rfl) (pv 12)))
   z0d)))))
   (QSs.mk z0d))
   (z0b (QS.mk (z4g (hu_of C) (pv 5) (pv 9) (z0a z0r rfl (T.no (n_len _)) M3 (z00 (pv 3) pa_nil)) rfl))
   (z0b (QS.mk (z20 (z12 (pv 3) (z00 (pe_lst (z00 (pv 9) (z00 (pv 11) (z00 (pv 12) (z00 pe_non (z00 (z0a z0r rfl (T.no (n_len _)) M3 (z00 (pv 4) pa_nil)) (z00 pe_non (z00 (pv 13) pa_nil)))))))) pa_nil))))
   (z28 (QS.mk (z20 (z12 (pv 4) (z00 (pe_tup (z00 pe_str (z00 (pv 9) (z00 pe_str (z00 (pv 11) (z00 (pv 12) pa_nil)))))) pa_nil)))))))))))
   (QSs.mk z0d))))))))
   (z0b (QS.mk (ps_if (pt_val (pv 2) (λ _=>rfl))
   (z05 (z20 (pe_cal c3 (C.mono (by decide)) rfl (z00 (pe_cal c0 (C.mono (by decide)) rfl (z00 (z0a (zcj rfl) rfl (T.no (n_sum _)) boot_sum (z00 (pv 0) pa_nil)) pa_nil)) (z00 (pv 3) (z00 (pv 4) pa_nil))))))
   z0d))
   (z28 (QS.mk (ps_ret (pe_tup (z00 (pe_cal c4 (C.mono (by decide)) rfl (z00 (pe_lst (z00 (pe_tup (z00 pe_str (z00 pe_str pa_nil))) pa_nil)) (z00 (pv 4) pa_nil))) (z00 (pv 3) pa_nil)))))))))))) ?_
  refine z0c ⟨w_0,λ u e8=>g_name ?_⟩;obtain ⟨H1,v_,u1,e1⟩:=newA (.lst []) e8;rw [<-v_];refine z0c ⟨w_0,λ le b4=>g_name ?_⟩;have h9:u≠le:=λ z=>by rw [<-z,e1] at b4;cases b4
  have g7:=u1.free b4;have v2:=Same.upd (o:=.lst []) b4;have u2:=u1.trans v2;have b2:=v2 _ _ e1;have e2:upd H1 le (.lst []) le=some (.lst []):=z01;generalize upd H1 le (.lst [])=H2 at v2 u2 b2 e2⊢;refine z0c λ hd f6=>g_name ?_;have f0:=u2.free f6;have v3:=Same.upd (o:=.dK []) f6;have e3:upd H2 hd (.dK []) hd=some (.dK (heldK [])):=z01;have c5:Md H (upd H2 hd (.dK [])) u le [] [] []:=⟨u2.trans v3,e8,g7,λ p R=>absurd R B0,.nil,h9,v3 _ _ b2,.nil,λ r C=>absurd C B0,P1 _,v3 _ _ e2,.nil,trivial,(λ i r h=>by cases h),P1 _,P1 _⟩
  generalize upd H2 hd (.dK [])=H3 at e3 c5⊢;refine z0c (g_name ?_);refine ⟨_,rfl,c,rfl,⟨_,c5.s.seq sq⟩,?_⟩;refine z0z (K:=KX w.params) (a:=c) (xs:=ns.map V.int) (λ i σ H'=>∃es zs ys os now x7 x8 x9 x10 x11 x12 x13,Md H H' u le es zs ys/\H' hd=some (.dK (heldK os))/\HdI es os/\bdI now/\es.length<=i/\os.length<=i/\σ=[some (.ref c),some (.int 24),some (.bl Y),some (.ref u),some (.ref le),some (.ref hd),some (.int now),x7,x8,x9,x10,x11,x12,x13]) ⟨[],[],[],[],0,_,_,_,_,_,_,_,c5,e3,⟨rfl,λ h j z=>absurd z B0⟩,⟨by decide,by decide⟩,A0 _,A0 _,rfl⟩ (λ _ σ H' _ h=>by obtain ⟨_,_,_,_,_,_,_,_,_,_,_,_,t,_⟩:=h;exact t.s.seq sq) ?_ ?_
  ·rintro i y σ G hy ⟨es,zs,ys,os,now,x7,x8,x9,x10,x11,x12,x13,t,ehd,hdI,bn,lei,loi,rfl⟩;obtain ⟨cl,_,rfl⟩:=List.mem_map.mp (d0 hy);have hi:i < 60:=by have:=(List.getElem?_eq_some_iff.mp hy).1;rw [C0] at this;omega
   have lz:=z04 t.a;have ly:=z04 t.ev;refine g_name ?_;refine z0c ⟨_,rfl,cl,rfl,λ r o F b8=>g_name ?_⟩;have u5:=Same.upd (o:=o) F;generalize upd G r o=H5 at u5 b8⊢;refine z0c ⟨_,rfl,r,4,rfl,b8,by decide,by decide,λ h H6 b9 h0 h1=>g_name ?_⟩;have s6:=Same.kp u5 F b9.k;have b7:=s6 _ _ ehd;have f5:r≠hd:=λ z=>by rw [z,ehd] at F;cases F
   refine z0p ⟨_,rfl,_,rfl,hd,_,rfl,DGet.k (k:=.inl h) b7,_,rfl,?_⟩;by_cases hb:h∈os.map (·.1)
   ·refine iteP (held_in.mpr hb) ?_;obtain ⟨j,h3,g8⟩:=za2 hb;have hj:=hdI.j h j h3;obtain ⟨f,b6,g6⟩:=row_ok hj;obtain ⟨z,e0,pz⟩:=z48 t.a b6;obtain ⟨p,I,rfl,Z,X⟩:=id pz;obtain ⟨f1,f2,f3⟩:=t.fz p (d0 e0);have D:Md H (upd G hd (.dK (dropK (heldK os) (.inl h)))) u le es zs ys:=t.kp ehd f0 λ b o n e=>by rw [upd_ne n];exact e
    have U:=Same.upd2 (l:=hd) (o:=.dK (dropK (heldK os) (.inl h))) s6;have n7:upd G hd (.dK (dropK (heldK os) (.inl h))) r=none:=by rw [upd_ne f5];exact F
    have f7:DkAt (upd H6 hd (.dK (dropK (heldK os) (.inl h)))) r:=by obtain ⟨a,b,c,e,z⟩:=b9.d;exact ⟨a,b,c,by rw [upd_ne f5];exact e,z⟩
    have a6:upd G hd (.dK (dropK (heldK os) (.inl h))) hd=some (.dK (heldK (os.filter λ k=>decide (k.1≠h)))):=by rw [z01,z4v]
    have g1:upd H6 hd (.dK (dropK (heldK os) (.inl h))) u=some (.lst zs):=U _ _ D.l;refine z0c ⟨_,rfl,_,rfl,hd,rfl,.inl ⟨_,.inl b7⟩,_,rfl,heldK os,.inl h,.int (j:Nat),b7,rfl,g8,.inl ⟨u,zs,j,.ref p,rfl,rfl,SqL.of g1,z03 e0,g_name ?_⟩⟩;have a8:upd G hd (.dK (dropK (heldK os) (.inl h))) p=some (.lst [.int f.h,f.v,f.x,f.a,.int f.b,endV f.e,.int I]):=by rw [upd_ne (show p≠hd from λ z=>by rw [z,ehd] at Z;cases Z)];exact Z
    generalize upd G hd (.dK (dropK (heldK os) (.inl h)))=H0' at D U n7 a6 a8;generalize upd H6 hd (.dK (dropK (heldK os) (.inl h)))=H7 at U f7 g1⊢;have b5:=SqL.of (K:=KX w.params) (U _ _ a8);have g0:=t.g f (d0 b6);refine z6b (λ σ' H'=>H'=H7/\∃now',bdI now'/\σ'=[some (.ref c),some (.int 24),some (.bl Y),some (.ref u),some (.ref le),some (.ref hd),some (.int now'),some (.int cl),some (.ref r),some (.int h),some (.ref p),x11,x12,x13]) ?_ λ L=>?_;rotate_left
    ·rcases g0 with g|g
     ·exact z0p (t_and ⟨_,rfl,.inl ⟨p,_,1,.str "read",rfl,rfl,b5,by rw [g.1];exact z03 (j:=1) rfl,rfl,_,rfl,iteK (iteF (L _ _ ⟨rfl,now,bn,rfl⟩))⟩⟩)
     ·refine z0p (t_and ⟨_,rfl,.inl ⟨p,_,1,.str "write",rfl,rfl,b5,by rw [g.1];exact z03 (j:=1) rfl,rfl,_,rfl,iteP (by decide +kernel) ⟨_,rfl,.inl ⟨p,_,6,.int I,rfl,rfl,b5,z03 (j:=6) rfl,rfl,_,rfl,ite2 (λ _=>?_) λ _=>L _ _ ⟨rfl,now,bn,rfl⟩⟩⟩⟩⟩);have bx:=t.wx.bd t.n f (d0 b6) g.w;exact ⟨_,rfl,.inl ⟨p,_,2,.int (intV f.x),rfl,rfl,b5,by rw [<-g.2.2.1];exact z03 (j:=2) rfl,g_name (L _ _ ⟨rfl,_,bx,rfl⟩)⟩⟩
    rintro σ j5 ⟨rfl,now',bn',rfl⟩;refine z0c ⟨_,rfl,_,rfl,_,rfl,_,rfl,_,rfl,r,p,u,f,now',Y,_,zs,H0',rfl,U,n7,f7,⟨p,I,rfl,a8,X⟩,g0,bn',D.rws,λ a H8 S b0 h8 h5=>?_⟩;refine ⟨_,rfl,p,_,3,3,rfl,rfl,S _ _ a8,rfl,?_⟩;have e9:upd H8 p (.lst ([.int f.h,f.v,f.x,f.a,.int f.b,endV f.e,.int I].set 3 a)) p=some (.lst [.int f.h,f.v,f.x,a,.int f.b,endV f.e,.int I]):=z01;have k9 :∀b o,b≠p->H8 b=some o->upd H8 p (.lst ([.int f.h,f.v,f.x,f.a,.int f.b,endV f.e,.int I].set 3 a)) b=some o:=λ b o n z=>by rw [upd_ne n];exact z
    generalize upd H8 p (.lst ([.int f.h,f.v,f.x,f.a,.int f.b,endV f.e,.int I].set 3 a))=N at e9 k9⊢;have g4:=k9 _ _ (F3 f3) (S _ _ D.e);refine z0c ⟨_,rfl,.inl ⟨le,ys,rfl,.inl (SqL.of g4),_,rfl,p,_,5,5,rfl,rfl,e9,rfl,?_⟩⟩;have a0:upd N p (.lst ([.int f.h,f.v,f.x,a,.int f.b,endV f.e,.int I].set 5 (.int (ys.length:Nat)))) p=some (.lst [.int f.h,f.v,f.x,a,.int f.b,.int (ys.length:Nat),.int I]):=z01;have b3 :∀b o,b≠p->H8 b=some o->upd N p (.lst ([.int f.h,f.v,f.x,a,.int f.b,endV f.e,.int I].set 5 (.int (ys.length:Nat)))) b=some o:=λ b o n z=>by rw [upd_ne n];exact k9 _ _ n z
    generalize upd N p (.lst ([.int f.h,f.v,f.x,a,.int f.b,endV f.e,.int I].set 5 (.int (ys.length:Nat))))=H10 at a0 b3⊢;have d5:=b3 _ _ (F3 f3) (S _ _ D.e);refine ⟨_,rfl,.inl ⟨rfl,_,SqL.of d5⟩,_,rfl,_,rfl,.inl ⟨p,_,3,a,rfl,rfl,SqL.of a0,z03 (j:=3) rfl,w_3,λ tp a1=>?_⟩⟩;have J:=Same.upd (o:=.tup [.str "end",.int h,a]) a1;have a3:upd H10 tp (.tup [.str "end",.int h,a]) tp=some (.tup [.str "end",.int h,a]):=z01;have nt:tp≠le:=λ z=>by rw [z,d5] at a1;cases a1
    generalize upd H10 tp (.tup [.str "end",.int h,a])=O at J a3⊢;refine ⟨le,ys,_,rfl,rfl,J _ _ d5,J1 (m:=100) (by omega) (by decide),?_⟩;subst g6;have ho:f.h∈es.foldl oStep []:=by rw [<-hdI.o];exact hb
    rw [ly] at a0;have b1:=D.fin (H':=upd O le (.lst (ys++[.ref tp]))) (tp:=tp) (a:=a) hj b6 e0 ho ⟨h0,by omega⟩ (by omega) X h8 h5 (λ b o n1 n2 z=>by rw [upd_ne n2];exact J _ _ (b3 _ _ n1 (S _ _ z))) (by rw [upd_ne f3];exact J _ _ a0) (by rw [upd_ne nt];exact a3) z01;have c8:upd O le (.lst (ys++[.ref tp])) hd=some (.dK (heldK (os.filter λ k=>decide (k.1≠f.h)))):=by rw [upd_ne (λ z=>by rw [z] at a6;have:=D.e;rw [a6] at this;cases this)];exact J _ _ (b3 _ _ (λ z=>by rw [z] at a6;rw [a6] at a8;cases a8) (S _ _ a6))
    exact ⟨es++[.fin f.h a],zs,ys++[.ref tp],os.filter λ k=>decide (k.1≠f.h),now',_,_,_,_,_,_,_,b1,c8,hdI.fin,bn',by rw [L0];show es.length + 1<=i + 1;omega,F0 (Z0 _ _) (by omega),rfl⟩
   ·refine iteN (λ z=>hb (held_in.mp z)) ?_;have a5:=t.same s6;refine z0p ⟨_,rfl,.inl ⟨u,zs,rfl,.inl (SqL.of a5.l),_,rfl,_,_,rfl,rfl,_,rfl,ite2 (λ zl=>?_) λ _=>⟨es,zs,ys,os,now,_,_,_,_,_,_,_,a5,b7,hdI,bn,by omega,by omega,rfl⟩⟩⟩;have zl:zs.length < 24:=by have:=of_decide_eq_true zl;omega
    have f8:=b9.d;refine z0c ⟨w_2,λ lv c7=>?_⟩;have u7:=Same.upd (o:=.lst [.str "read",.str "write"]) c7;have e7:upd H6 lv (.lst [.str "read",.str "write"]) lv=some (.lst [.str "read",.str "write"]):=z01;have g3:lv≠r:=λ z=>by obtain ⟨a,b,c,e,_⟩:=f8;rw [z,e] at c7;cases c7
    generalize upd H6 lv (.lst [.str "read",.str "write"])=H7 at u7 e7⊢;refine ⟨_,rfl,r,2,rfl,f8.same u7,by decide,by decide,λ tv H8 b0 j9 j0=>?_⟩;have S:=Same.kp (s6.trans u7) F b0.k;obtain ⟨n,B,rfl,h7,ev⟩ :∃(n:Nat) (B:Str),tv=(n:Int)/\(B = "read"\/B = "write")/\[V.str "read",.str "write"][n]? = some (.str B):=by
     rcases (show tv=0\/tv=1 by omega) with rfl|rfl
     ·exact ⟨0,"read",rfl,.inl rfl,rfl⟩
     ·exact ⟨1,"write",rfl,.inr rfl,rfl⟩
    refine .inl ⟨lv,_,n,.str B,rfl,rfl,SqL.of (b0.k _ _ g3 e7),z03 ev,g_name ?_⟩;refine z0c (g_name ?_);refine z0c ⟨_,rfl,g_name ?_⟩;refine z6b (λ σ' H'=>∃x late' now',Same G H'/\DkAt H' r/\NewD zs.length (.str B) x/\bdI late'/\bdI now'/\σ'=[some (.ref c),some (.int 24),some (.bl Y),some (.ref u),some (.ref le),some (.ref hd),some (.int now'),some (.int cl),some (.ref r),some (.int h),x10,some (.str B),some x,some (.int late')]) ?_ λ L=>?_;rotate_left
    ·rcases h7 with rfl|rfl
     ·exact z0p ⟨_,rfl,rfl,_,rfl,iteK (L _ _ ⟨.non,now,now,S,b0.d,.inl ⟨rfl,rfl⟩,bn,bn,rfl⟩)⟩
     ·refine z0p ⟨_,rfl,rfl,_,rfl,iteP (by decide +kernel) ?_⟩;refine z0c ⟨_,rfl,r,1000,rfl,b0.d,by decide,by decide,λ tw N d8 i4 h2=>?_⟩;have s9:=Same.kp S F d8.k;refine ⟨24,_,rfl,rfl,.inl ⟨by decide,by decide⟩,_,rfl,.inl ⟨u,zs,rfl,.inl (SqL.of (s9 _ _ t.l)),.inl ⟨_,_,rfl,rfl,.inl ⟨_,_,rfl,rfl,_,_,rfl,rfl,.inl ⟨by omega,by omega⟩,?_⟩⟩⟩⟩;refine ⟨1,rfl,w_2,λ lx d7=>?_⟩;have f9:=d8.d;have d3:=Same.upd (o:=.lst [.int 1,.int (-1)]) d7;have a0:upd N lx (.lst [.int 1,.int (-1)]) lx=some (.lst [.int 1,.int (-1)]):=z01;have i7:lx≠r:=λ z=>by obtain ⟨a,b,c,e,_⟩:=f9;rw [z,e] at d7;cases d7
      generalize upd N lx (.lst [.int 1,.int (-1)])=H10 at d3 a0⊢;refine ⟨_,rfl,r,2,rfl,f9.same d3,by decide,by decide,λ ts O d4 j8 j2=>?_⟩;have g2:=Same.kp (s9.trans d3) F d4.k;obtain ⟨n2,W,rfl,e6,i3⟩ :∃(n:Nat) (W:Int),ts=(n:Int)/\(W=1\/W=-1)/\[V.int 1,.int (-1)][n]? = some (.int W):=by
       rcases (show ts=0\/ts=1 by omega) with rfl|rfl
       ·exact ⟨0,1,rfl,.inl rfl,rfl⟩
       ·exact ⟨1,-1,rfl,.inr rfl,rfl⟩
      refine .inl ⟨lx,_,n2,.int W,rfl,rfl,SqL.of (d4.k _ _ i7 a0),z03 i3,_,_,rfl,rfl,.inl ⟨by omega,by omega⟩,?_⟩;obtain ⟨y,hy,nw,i2⟩ :∃y:Int,(24 * tw + (zs.length:Int) + 1) * 41666 * W=y/\(y=(24 * tw + zs.length + 1) * 41666\/y=-((24 * tw + zs.length + 1) * 41666))/\bdI y:=by
       refine ⟨_,rfl,?_,?_⟩
       ·rcases e6 with rfl|rfl<;>omega
       ·unfold bdI;rcases e6 with rfl|rfl<;>omega
      show gName 12 (V.int ((24 * tw + (zs.length:Int) + 1) * 41666 * W)) _ _ _;rw [hy];refine g_name ?_;have nd:NewD zs.length (.str "write") (.int y):=.inr ⟨rfl,tw,y,i4,h2,rfl,nw⟩;refine z0c ⟨_,rfl,r,2,rfl,d4.d,by decide,by decide,λ tl d1 d9 j7 j1=>g_name ?_⟩;have e5:=Same.kp g2 F d9.k;have X:bdI tl:=⟨by omega,by omega⟩
      refine z0p ⟨_,rfl,rfl,_,rfl,ite2 (λ _=>⟨_,rfl,g_name (L _ _ ⟨.int y,tl,y,e5,d9.d,nd,X,i2,rfl⟩)⟩) λ _=>L _ _ ⟨.int y,tl,now,e5,d9.d,nd,X,bn,rfl⟩⟩
    rintro σ N ⟨x,late',now',s9,d8,nd,X,bn',rfl⟩;have h4:=SqL.of (K:=KX w.params) (s9 _ _ t.l);have put:=zf9 (b:=zs.length) hb;refine ⟨_,rfl,.inl ⟨u,zs,rfl,.inl h4,_,rfl,_,rfl,hd,_,rfl,DPut.k (k:=.inl h) (s9 _ _ ehd) (J1 (m:=100) (by unfold heldK;rw [C0];omega) (by decide)),t_nx ?_⟩⟩;have D:Md H (upd G hd (.dK (putK (heldK os) (.inl h) (.int (zs.length:Nat))))) u le es zs ys:=t.kp ehd f0 λ b o n e=>by rw [upd_ne n];exact e
    have a2:=Same.upd2 (l:=hd) (o:=.dK (putK (heldK os) (.inl h) (.int (zs.length:Nat)))) s9;have a4:upd G hd (.dK (putK (heldK os) (.inl h) (.int (zs.length:Nat)))) hd=some (.dK (heldK (os++[(h,zs.length)]))):=by rw [z01,put]
    generalize upd G hd (.dK (putK (heldK os) (.inl h) (.int (zs.length:Nat))))=H0' at D a2 a4;generalize upd N hd (.dK (putK (heldK os) (.inl h) (.int (zs.length:Nat))))=H10 at a2⊢;have d6:=a2 _ _ D.l;have c9:=a2 _ _ D.e;refine ⟨_,rfl,.inl ⟨rfl,_,SqL.of d6⟩,_,rfl,_,rfl,_,rfl,_,rfl,.inl ⟨le,ys,rfl,.inl (SqL.of c9),_,rfl,w_7,λ p R=>?_⟩⟩;have J:=Same.upd (o:=.lst [.int h,.str B,x,.non,.int (ys.length:Nat),.non,.int late']) R;have a3:upd H10 p (.lst [.int h,.str B,x,.non,.int (ys.length:Nat),.non,.int late']) p=some (.lst [.int h,.str B,x,.non,.int (ys.length:Nat),.non,.int late']):=z01;have fp:H0' p=none:=a2.free R;have g9:p≠u:=λ z=>by rw [z,d6] at R;cases R
    have i1:p≠le:=λ z=>by rw [z,c9] at R;cases R
    generalize upd H10 p (.lst [.int h,.str B,x,.non,.int (ys.length:Nat),.non,.int late'])=O at J a3⊢;refine ⟨u,zs,_,rfl,rfl,J _ _ d6,J1 (m:=100) (by omega) (by decide),t_nx ?_⟩;have b2:upd O u (.lst (zs++[.ref p])) u=some (.lst (zs++[.ref p])):=z01;have a9 :∀b o,b≠u->O b=some o->upd O u (.lst (zs++[.ref p])) b=some o:=λ b o n z=>by rw [upd_ne n];exact z
    generalize upd O u (.lst (zs++[.ref p]))=d1 at b2 a9⊢;have c6:=a9 _ _ (F3 t.n1) (J _ _ c9);refine ⟨_,rfl,.inl ⟨rfl,_,SqL.of c6⟩,_,rfl,_,rfl,_,rfl,w_5,λ tp a1=>?_⟩;have a7:=Same.upd (o:=.tup [.str "begin",.int h,.str "r",.str B,x]) a1;have e4:upd d1 tp (.tup [.str "begin",.int h,.str "r",.str B,x]) tp=some (.tup [.str "begin",.int h,.str "r",.str B,x]):=z01;have nt:tp≠le:=λ z=>by rw [z,c6] at a1;cases a1
    generalize upd d1 tp (.tup [.str "begin",.int h,.str "r",.str B,x])=H13 at a7 e4⊢;refine ⟨le,ys,_,rfl,rfl,a7 _ _ c6,J1 (m:=100) (by omega) (by decide),?_⟩;have ho:h∉es.foldl oStep []:=by rw [<-hdI.o];exact hb
    rw [ly] at a3;rw [lz] at nd zl;have b1:=D.beg (H':=upd H13 le (.lst (ys++[.ref tp]))) (tp:=tp) (p:=p) zl nd ho ⟨h0,by omega⟩ (by omega) X fp (λ b o n1 n2 z=>by rw [upd_ne n2];exact a7 _ _ (a9 _ _ n1 (J _ _ (a2 _ _ z)))) (by rw [upd_ne t.n1];exact a7 _ _ b2) (by rw [upd_ne i1];exact a7 _ _ (a9 _ _ g9 a3)) (by rw [upd_ne nt];exact e4) z01;have c8:upd H13 le (.lst (ys++[.ref tp])) hd=some (.dK (heldK (os++[(h,zs.length)]))):=by rw [upd_ne (λ z=>by rw [z] at a4;have:=D.e;rw [a4] at this;cases this)];exact a7 _ _ (a9 _ _ (λ z=>by rw [z] at a4;have:=D.l;rw [a4] at this;cases this) (J _ _ (a2 _ _ a4)))
    have f4:=hdI.beg (nm:=.str "r") (v:=.str B) (y:=x) hb;rw [<-lz] at f4;exact ⟨es++[.beg h (.str "r") (.str B) x],zs++[.ref p],ys++[.ref tp],os++[(h,zs.length)],now',_,_,_,_,_,_,_,b1,c8,f4,bn',by rw [L0];show es.length + 1<=i + 1;omega,by rw [L0];show os.length + 1<=i + 1;omega,rfl⟩
  rintro σ G ⟨es,zs,ys,os,now,x7,x8,x9,x10,x11,x12,x13,t,ehd,hdI,bn,lei,loi,rfl⟩;refine nx_to3 ?_;refine z6b (λ σ' H'=>∃es zs ys,Md H H' u le es zs ys/\σ'=[some (.ref c),some (.int 24),some (.bl Y),some (.ref u),some (.ref le),some (.ref hd),some (.int now),x7,x8,x9,x10,x11,x12,x13]) ?_ λ L=>?_;rotate_left
  ·refine z0p ⟨_,rfl,_,rfl,?_⟩;cases Y with
   | false=>exact iteN (by decide) (L _ _ ⟨es,zs,ys,t,rfl⟩)
   | true=>exact iteP rfl ⟨_,rfl,c,ns,rfl,t.s.seq sq,ns.sum,rfl,λ r o F b8=>⟨_,rfl,_,rfl,r,u,le,es,zs,ys,H,G,rfl,Same.upd F,F,b8,t,λ h6 g5 H' b1=>L _ _ ⟨h6,zs,g5,b1,rfl⟩⟩⟩
  clear t ehd hdI lei loi;rintro σ H5 ⟨es,zs,ys,t,rfl⟩;refine ⟨w_2,λ M i0=>⟨w_1,λ la i5=>?_⟩⟩;have w1:=Same.upd (o:=.tup [.str "r",.str "register"]) i0;have w2:=Same.upd (o:=.lst [.ref M]) i5;have u6:=w1.trans w2;have Z:=w2 _ _ (z01 (H:=H5) (a:=M) (o:=.tup [.str "r",.str "register"]));have ea:upd (upd H5 M (.tup [.str "r",.str "register"])) la (.lst [.ref M]) la=some (.lst [.ref M]):=z01;generalize upd (upd H5 M (.tup [.str "r",.str "register"])) la (.lst [.ref M])=H6 at u6 Z ea⊢;have a5:=t.same u6;have j4:=t.n60;refine ⟨_,rfl,la,le,M,("r","register"),ys,es,rfl,ea,⟨M,rfl,Z⟩,⟨nameR,by decide +kernel⟩,a5.e,a5.ev,by omega,t.bg,t.wf,λ tt c' e' H7 U i8 ec ee=>?_⟩;refine ⟨_,rfl,w_2,λ t2 i6=>?_⟩;have u8:=Same.upd (o:=.tup [.ref tt,.ref u]) i6;have d2:=a5.same (U.trans u8);exact q t2 tt u zs es ys _ d2.s z01 ⟨⟨c',e',M,SqT.of (u8 _ _ i8),SqT.of (u8 _ _ ec),SqT.of (u8 _ _ (U _ _ Z)),SqT.of (u8 _ _ ee)⟩,z02 (λ _ _ z=>ev_at z) d2.ev,t.tw,by omega⟩ d2.rws
theorem zdl {a:Addr} {ob:Obj} {kvs:List (Key×V)} {g:TG} {tb:TS} {D:Ends} {σ:L2.St} {H:Hp} (Pv:Nat->L2.St->Hp->Prop) (h0:Pv 0 σ H) (fr :∀i σ H,Pv i σ H->H a=some (.frz ob (.dK kvs)))
  (hs :∀i k σ H,(kvs.map (·.1))[i]? = some k->Pv i σ H->g (kV k) σ H λ σ2 H2=>tb { D with nx:=Pv (i + 1),ct:=Pv (i + 1),bk:=D.nx } σ2 H2) (hd :∀σ H,Pv kvs.length σ H->D.nx σ H) :
  ∃W:Nat->Nat->L2.St->Hp->Prop,(∃m,W 0 m σ H)/\∀i m σ H,W i m σ H->
   ((Itk a ob kvs).stop i H/\D.nx σ H)\/((Itk a ob kvs).go i H/\∃N:L2.St->Hp->Prop,(∀σ' H',N σ' H'->∃m',m' < m/\W (i + 1) m' σ' H')/\∀x H',(Itk a ob kvs).yld i H x H'->g x σ H' λ σ2 H2=>tb { D with nx:=N,ct:=N,bk:=D.nx } σ2 H2):=by
 refine ⟨λ i m σ H=>m=kvs.length - i/\i<=kvs.length/\Pv i σ H,⟨kvs.length,by simp,P1 _,h0⟩,?_⟩;rintro i m σ H ⟨rfl,hi,p⟩;by_cases hlt:i < kvs.length
 ·refine .inr ⟨⟨fr _ _ _ p,hlt⟩,Pv (i + 1),λ σ' H' q=>⟨kvs.length - (i + 1),by omega,rfl,hlt,q⟩,λ x H' y=>?_⟩;obtain ⟨rfl,k,u,b,rfl⟩:=y;exact hs i k σ _ (by rw [T0,b];rfl) p
 ·obtain rfl:i=kvs.length:=by omega
  exact .inl ⟨⟨fr _ _ _ p,A0 _⟩,hd σ H p⟩
def z4l (K:c0):Sp:=λ vs H Q _=>∃(p:Addr) (z:Zt),vs=[.ref p]/\ZtV H z (.ref p)/\Q (.int z.lo) H
theorem z9a (T:TX (kx w) mg):Fo P w mg base CX0 1 364 y0r ["zone"] (z4l (kx w)):=by
 refine (z3w w.params).ok z9e (λ b H Q E h=>?_) (λ f A g s H b Q E d h=>?_)
 ·obtain ⟨p,z,rfl,_⟩:=h;rfl
 ·obtain ⟨p,z,rfl,⟨c,e,a⟩,q⟩:=h;cases e;refine ⟨_,(z05 (ps_ret (pe_ix ix_seq (pv 0) pe_int (λ _ _=>rfl)))),?_⟩;exact ⟨_,rfl,.inr (.inl ⟨p,_,1,_,rfl,rfl,SqT.of a,z03 (j:=1) rfl,q⟩)⟩
noncomputable def enN (r:Rc):Int:=((r.e.getD 0:Nat):Int)
noncomputable def qR (x:Int) (r:Rc):Bool:=decide (intV r.a=x) && isRE r
theorem rds_eq (rs:List Rc) (x:Int):rdsF rs x=rs.filter (qR x):=by unfold rdsF qR;rw [List.filter_filter]
theorem re_end {r:Rc} (h:isRE r=true):r.v=.str "read"/\r.e=some (r.e.getD 0):=by unfold isRE at h;rw [R4] at h;obtain ⟨k,a⟩:=Option.isSome_iff_exists.mp h.2;exact ⟨of_decide_eq_true h.1,by rw [a];rfl⟩
theorem zg0 (rs:List Rc) (t:Ent):(spans rs t).filterMap (·.2)=t.e.toList++(rdsF rs t.x).map enN:=by
 have a :∀l:List Rc,(∀r∈l,isRE r=true)->(l.map spR).filterMap (·.2)=l.map enN:=by
  intro l;induction l with
  | nil=>exact λ _=>rfl
  | cons r l ih=>
   intro h;rw [U0,G6 (b:=enN r) (by show r.e.map (λ n=>(n:Int))=some (enN r);unfold enN;rw [(re_end (h r (.head _))).2];rfl),ih λ q c=>h q (.tail _ c)];rfl
 have k:=a (rdsF rs t.x) λ r d=>(List.mem_filter.mp (List.mem_filter.mp d).1).2;unfold spans;cases h:t.e with
 | none=>rw [A9 rfl,k];rfl
 | some e=>rw [G6 (f:=λ x:Int×Option Int=>x.2) (b:=e) rfl,k];rfl
theorem z7u {a b:Int} {ns:List Int} (h:MinI a ns) (h':MinI b ns):a=b:=a9 (h.2 b h'.1) (h'.2 a h.1)
theorem zex {a:Int} {xs ys:List Int} (h:MinI a (xs++ys)):MinI a (ys++xs):=⟨by
 rcases List.mem_append.mp h.1 with z|z
 ·exact List.mem_append.mpr (.inr z)
 ·exact List.mem_append.mpr (.inl z),λ u b=>h.2 u (by
 rcases List.mem_append.mp b with z|z
 ·exact List.mem_append.mpr (.inr z)
 ·exact List.mem_append.mpr (.inl z))⟩
theorem z4c {rs:List Rc} (nd:((rs.filter isW).map (λ r=>intV r.x)).Nodup) (n0:(0:Int)∉(rs.filter isW).map (λ r=>intV r.x)):((ents rs).map λ t=>(Sum.inl t.x:Key)).Nodup:=by
 have e:(ents rs).map (λ t=>(Sum.inl t.x:Key))=((0:Int) :: (rs.filter isW).map (λ r=>intV r.x)).map Sum.inl:=by unfold ents;rw [U0,A3,U0,A3];rfl
 rw [e];unfold List.Nodup;rw [D5];exact (List.nodup_cons.mpr ⟨n0,nd⟩:List.Nodup _).imp λ h z=>h (g4 z)
theorem ze6 {f:Rc->Int} {l:List Rc} {ys:List V} (h:All2 (λ (j:Nat) y=>∀r,l[j]? = some r->y=V.int (f r)) ((N1 l.length).filter λ j=>(l[j]?.map λ _=>true).getD false) ys):ys=(l.map f).map V.int:=by have h:=z2b (q:=λ _:Rc=>true) l.length (A0 _) h;rw [Z2,List.filter_eq_self.mpr (λ _ _=>rfl)] at h;rw [z16 h,A3];rfl
def z2t (K:c0):Sp:=λ vs H Q _=>∃lr rs zs,vs=[.ref lr]/\RwsA H lr rs zs/\((rs.filter isW).map (λ r=>intV r.x)).Nodup/\(0:Int)∉(rs.filter isW).map (λ r=>intV r.x)/\∀D out zl H',Same H H'->H' D=some (.lst out)->ZonS rs zl->All2 (ZtV H') zl out->Q (.ref D) H'
theorem z6d (T:TX (kx w) mg) (c0:Ca P w mg base "_law_low" ["zone"] 1 (z4l (kx w))):Fo P w mg base CX0 4 357 y0b ["rows"] (z2t (kx w)):=by
 refine (z1u w.params).ok sc__law_zones (λ vs H Q E h=>?_) (λ i7 A i6 s H vs Q E U h=>?_)
 ·obtain ⟨lr,B,zs,rfl,_⟩:=h;rfl
 ·obtain ⟨lr,B,zs,rfl,ra,nd,n0,q⟩:=h;refine q_of (z0b (qs_set (i:=1) sc__law_zones.nd rfl (C1 rfl) (ze5 (zbz (QE.mk pe_int) (qe_tup (z1r (QE.mk (pe_un un_neg pe_int)) (z1r (QE.mk (pe_un un_neg pe_int)) qa_nil))) zeh) rfl rfl (by simp) (by decide)))
   (z0b (QS.mk (ps_for Q1 rfl (z0i (pv 0)) (z0m (i:=2) sc__law_zones.nd rfl (C1 rfl))
   (z05 (ps_if (z09 opEq (pe_ix ix_seq (pv 2) pe_int (λ _ _=>rfl)) pe_str (nomark _))
   (z05 (z4g (hu_of U) (pv 1) (pe_ix ix_seq (pv 2) pe_int (λ _ _=>rfl)) (pe_tup (z00 (pe_ix ix_seq (pv 2) pe_int (λ _ _=>rfl)) (z00 (pe_ix ix_seq (pv 2) pe_int (λ _ _=>rfl)) pa_nil))) rfl))
   z0d))))
   (z0b (QS.mk (ps_set (i:=3) sc__law_zones.nd rfl (C1 rfl) (pe_lst pa_nil)))
   (z0b (QS.mk (ps_for Q1 rfl (zgc (pv 1)) (z0m (i:=4) sc__law_zones.nd rfl (B1 rfl))
   (z06 (z6r (i:=5) sc__law_zones.nd rfl (C1 rfl) (xs:=["one"]) (g:=gName 0) (fr:=[(4,"worth")]) rfl (z0i (pv 0)) (by intro p Y;obtain rfl:=List.mem_singleton.mp Y;first|exact ⟨rfl,.inl rfl⟩|exact ⟨rfl,.inr rfl⟩) (zff (n:="worth") (by decide +kernel) (λ _=>by first|exact .inl rfl|exact .inr rfl)) (by intro p Y;obtain rfl:=List.mem_singleton.mp Y;exact ⟨by decide +kernel,by first|exact .inl rfl|exact .inr rfl⟩) (by decide +kernel) rfl (by decide +kernel) (λ _ _ _ _ _=>(pg_cn (N:=["one","worth"]) 0)) (λ _ _ _ _ _=>(pf_one (PW.pt (pw_and (z09 opEq (pe_ix (z0q (K:=KX w.params) rfl) (pv 0) pe_int (λ _ _=>rfl)) pe_str (nomark _)) (pw_and (z09 z3l (pe_ix (z0q (K:=KX w.params) rfl) (pv 0) pe_int (λ _ _=>rfl)) pe_non (nomark _)) (z1s (z09 opEq (pe_ix (z0q (K:=KX w.params) rfl) (pv 0) pe_int (λ _ _=>rfl)) (pv 1) (nomark _)))))))) (λ _ _ _ _ _=>(pv 0)))
   (z06 (z6r (i:=6) sc__law_zones.nd rfl (C1 rfl) (xs:=["one"]) (g:=gName 0) (fr:=[]) rfl (z0i (pv 5)) (λ _ z=>absurd z B0) (z2z rfl) (λ _ z=>absurd z B0) (by decide +kernel) rfl (by decide +kernel) (λ _ _ _ _ _=>(pg_cn (N:=["one"]) 0)) (λ _ _ _ _ _=>pf_nil) (λ _ _ _ _ _=>(pe_ix (z0q (K:=KX w.params) rfl) (pv 0) pe_int (λ _ _=>rfl))))
   (z06 (ps_if (z09 z3l (pe_ix ix_seq (z3k (hu_of U) (pv 1) (pv 4) (λ _ _=>rfl)) pe_int (λ _ _=>rfl)) pe_non (nomark _))
   (z05 (z20 (z12 (pv 6) (z00 (pe_ix ix_seq (z3k (hu_of U) (pv 1) (pv 4) (λ _ _=>rfl)) pe_int (λ _ _=>rfl)) pa_nil))))
   z0d)
   (z06 (ps_set (i:=7) sc__law_zones.nd rfl (C1 rfl) (z0a (z80 rfl) rfl (T.no (n_max _)) boot_max (z00 (pe_op opAdd (pe_lst (z00 (pe_ix ix_seq (z3k (hu_of U) (pv 1) (pv 4) (λ _ _=>rfl)) pe_int (λ _ _=>rfl)) pa_nil)) (pe_cg (xs:=["one"]) (g:=gName 0) (fr:=[]) (z0i (pv 5)) (λ _ _ _ _ _=>(pg_cn (N:=["one"]) 0)) (λ _ _ _ _ _=>pf_nil) (λ _ _ _ _ _=>(pe_ix (z0q (K:=KX w.params) rfl) (pv 0) pe_int (λ _ _=>rfl))))) pa_nil)))
   (z05 (ps_if (PW.pt (pw_and (z09 (z88 U) (pv 6) (pe_lst pa_nil) (nomark _)) (z1s (z09 op_lt (z0a (z31 rfl) rfl (T.no (n_min _)) boot_min (z00 (pv 6) pa_nil)) (pv 7) (nomark _)))))
   (z05 (z20 (z12 (pv 3) (z00 (pe_tup (z00 (pv 4) (z00 (z0a (z31 rfl) rfl (T.no (n_min _)) boot_min (z00 (pv 6) pa_nil)) (z00 (pv 7) (z00 pe_str pa_nil))))) pa_nil))))
   (z05 (ps_if (z09 (z88 U) (pv 6) (pe_lst pa_nil) (nomark _))
   (z05 (z20 (z12 (pv 3) (z00 (pe_tup (z00 (pv 4) (z00 (pv 7) (z00 (z0a (z31 rfl) rfl (T.no (n_min _)) boot_min (z00 (pv 6) pa_nil)) (z00 pe_str pa_nil))))) pa_nil))))
   z0d))))))))))
   (z28 (QS.mk (ps_ret (zbw c0 (U.mono (by decide)) rfl (T.no (z7n _)) rfl (z00 (pv 3) pa_nil))))))))) ?_
  have lz:zs.length=B.length:=z04 ra.a;have g9:=ra.n;refine z0c λ d hd=>⟨2,rfl,1,rfl,w_2,λ J b5=>?_⟩
  have f7:d≠J:=λ z=>by rw [<-z,z01] at b5;cases b5
  have e1:upd (upd H d (.dK [])) J (.tup [.int (-2),.int (-1)]) d=some (.dK []):=by rw [upd_ne f7];exact z01
  refine ⟨e1,[(.inl 0,.ref J)],rfl,(show (1:Nat)<=15 by decide),g_name ?_⟩;have s1:Same H (upd (upd (upd H d (.dK [])) J (.tup [.int (-2),.int (-1)])) d (.dK (mergeK [] [(.inl 0,.ref J)]))):=Same.keep ((Same.upd hd).trans (Same.upd b5)) hd;have f1:upd (upd (upd H d (.dK [])) J (.tup [.int (-2),.int (-1)])) d (.dK (mergeK [] [(.inl 0,.ref J)])) J=some (.tup [.int (-2),.int (-1)]):=by rw [upd_ne f7.symm];exact z01
  have c5:upd (upd (upd H d (.dK [])) J (.tup [.int (-2),.int (-1)])) d (.dK (mergeK [] [(.inl 0,.ref J)])) d=some (.dK [(.inl 0,.ref J)]):=z01;generalize upd (upd (upd H d (.dK [])) J (.tup [.int (-2),.int (-1)])) d (.dK (mergeK [] [(.inl 0,.ref J)]))=H1 at s1 f1 c5⊢;refine ⟨_,rfl,lr,rfl,⟨_,SqL.of (s1 _ _ ra.l)⟩,?_⟩;refine z0z (K:=KX w.params) (a:=lr) (xs:=zs) (λ i σ f=>Same H f/\(∃kvs,f d=some (.dK kvs)/\All2 (EntAt (kx w) f) (ents (B.take i)) kvs)/\∃x2,σ=[some (.ref lr),some (.ref d),x2,none,none,none,none,none])
   ⟨s1,⟨_,c5,.cons ⟨rfl,J,rfl,SqT.of f1⟩ .nil⟩,_,rfl⟩ (λ _ σ f _ h=>SqL.of (h.1 _ _ ra.l)) ?_ ?_
  ·rintro i y σ H2 hy ⟨s2,⟨kvs,ed,wk⟩,x2,rfl⟩;obtain ⟨r,O,p,a5,rfl,S,_⟩:=z08 ra.a hy;have hi:=z0s O;have lk:kvs.length<=64:=by rw [z04 wk];refine F0 (z2m _) ?_;rw [i3];omega
   have a3:=SqL.of (K:=KX w.params) (s2 _ _ S);refine g_name ?_;rcases ra.g r (d0 O) with g|g
   ·refine ⟨_,rfl,.inl ⟨p,_,1,.str "read",rfl,rfl,a3,by rw [g.1];exact z03 (j:=1) rfl,rfl,_,rfl,iteK ?_⟩⟩;refine ⟨s2,⟨kvs,ed,?_⟩,_,rfl⟩;rw [z1o O,z1n,if_neg (by rw [g.w];decide),C2];exact wk
   ·refine ⟨_,rfl,.inl ⟨p,_,1,.str "write",rfl,rfl,a3,by rw [g.1];exact z03 (j:=1) rfl,rfl,_,rfl,iteP (by decide +kernel) ?_⟩⟩;refine ⟨_,rfl,.inl ⟨p,_,4,.int r.b,rfl,rfl,a3,z03 (j:=4) rfl,_,rfl,.inl ⟨p,_,5,endV r.e,rfl,rfl,a3,z03 (j:=5) rfl,w_2,λ p1 h7=>?_⟩⟩⟩;obtain ⟨H3,v_,s3,e3⟩:=newA (.tup [.int r.b,endV r.e]) h7;rw [<-v_];have a0:=s3 _ _ ed;refine ⟨_,rfl,_,rfl,.inl ⟨p,_,2,.int (intV r.x),rfl,rfl,s3.seq a3,by rw [<-g.2.2.1];exact z03 (j:=2) rfl,d,_,rfl,DPut.k (k:=.inl (intV r.x)) a0 (J1 (m:=100) (by omega) (by decide)),?_⟩⟩;have t4:Tups (kx w) H3 (upd H3 d (.dK (putK kvs (.inl (intV r.x)) (.ref p1)))):=Tups.dict a0;have fx:=za5 nd n0 O g.w;rw [<-z2p wk] at fx;refine ⟨Same.keep (s2.trans s3) hd,⟨_,z01,?_⟩,_,rfl⟩;rw [z1o O,z1n,if_pos g.w,z15 fx];rw [z15 fx] at t4;refine z0n (z02 (λ _ _ z=>EntAt.tups (λ c xs y=>t4 _ _ (s3.seqT y)) z) wk) ⟨rfl,p1,rfl,?_⟩;have:=t4 _ _ (SqT.of e3);rw [endV_O] at this;exact this
  rintro σ H2 ⟨s2,⟨kvs,ed,wk⟩,x2,rfl⟩;rw [lz,Z2] at wk;refine nx_to3 ?_;refine z0c ⟨w_0,λ G a7=>g_name ?_⟩;have v3:=Same.upd (o:=.lst []) a7;have u3:=s2.trans v3;have nf:H G=none:=s2.free a7;have ef:upd H2 G (.lst []) G=some (.lst []):=z01;have a0:=v3 _ _ ed;have b7:All2 (EntAt (kx w) (upd H2 G (.lst []))) (ents B) kvs:=z02 (λ _ _ z=>z.tups (Tups.of v3)) wk;have f6:G≠d:=λ z=>by rw [z,ed] at a7;cases a7
  generalize upd H2 G (.lst [])=H3 at v3 u3 ef a0 b7⊢;refine ⟨_,rfl,d,kvs,rfl,a0,λ ob=>?_⟩;have u4:Same H (upd H3 d (.frz ob (.dK kvs))):=Same.keep u3 hd;have b8:All2 (EntAt (kx w) (upd H3 d (.frz ob (.dK kvs)))) (ents B) kvs:=z02 (λ _ _ z=>z.tups (Tups.dict a0)) b7;have d2:upd H3 d (.frz ob (.dK kvs)) G=some (.lst []):=by rw [upd_ne f6];exact ef
  have d7:upd H3 d (.frz ob (.dK kvs)) d=some (.frz ob (.dK kvs)):=z01;have lk:=z04 wk;have le:=z2m B;have g5:(kvs.map (·.1)).Nodup:=by rw [z2p wk];exact z4c nd n0
  generalize upd H3 d (.frz ob (.dK kvs))=H4 at u4 b8 d2 d7⊢;clear wk b7 ed a0 ef u3 v3 s2;refine zdl (a:=d) (ob:=ob) (kvs:=kvs) (λ i σ f=>Same H f/\f d=some (.frz ob (.dK kvs))/\All2 (EntAt (kx w) f) (ents B) kvs/\(∃fs F,f G=some (.lst fs)/\All2 (ZtV f) F fs/\All2 (ZnR B) (((ents B).take i).filter (cntB B)) F)/\∃x4 x5 x6 x7,σ=[some (.ref lr),some (.ref d),x2,some (.ref G),x4,x5,x6,x7]) ⟨u4,d7,b8,⟨[],[],d2,.nil,.nil⟩,_,_,_,_,rfl⟩ (λ i σ f h=>h.2.1) ?_ ?_
  ·rintro i k σ H5 hk ⟨u5,ed5,wk5,⟨fs,F,ef5,az,an⟩,x4,x5,x6,x7,rfl⟩;rw [T0] at hk;obtain ⟨kv,d9,rfl⟩:=Option.map_eq_some_iff.mp hk;obtain ⟨t,e0,e1,pw,e2,sw⟩:=z08 wk5 d9;obtain ⟨k,v⟩:=kv;have e1:k=.inl t.x:=e1;have e2:v=.ref pw:=e2;subst e1 e2;have val:=val_in g5 (d0 d9);have hi:=z0s e0;have dg :∀f,Same H5 f->DGet f d (.int t.x) (some (.ref pw)):=λ f s'=>.inl ⟨kvs,.inl t.x,.inr ⟨ob,s' _ _ ed5⟩,rfl,val.symm⟩;have d8:=ra.same u5;show gName 4 (V.int t.x) _ _ _;refine g_name (z0c ?_);refine z0o (K:=KX w.params) (a:=lr) (xs:=zs) (H1:=H5) (λ j=>(B[j]?.map (qR t.x)).getD false) (λ j y f=>∀r,B[j]? = some r->RowR f r y) (λ _ _ _ _ s z r U=>(z r U).same s) (λ R h=>⟨_,rfl,h⟩) (SqL.of d8.l) (F0 (m:=24) (by omega) (by decide)) (λ j hj v H6 s6 hv KT KF I M=>?_) λ l1 H6 ws s6 i4 fa=>?_
   ·obtain ⟨r,O,p,a5,rfl,S,bl⟩:=z08 d8.a hv;have e5:=s6 _ _ S;have e6:=SqL.of (K:=KX w.params) e5;rw [O] at I M;have M:qR t.x r=false->∀f,Same H6 f->KF f:=M;have I:qR t.x r=true->∀y f,Same H6 f->(∀r',some r=some r'->RowR f r' y)->KT y f:=I;unfold qR isRE at I M;refine ⟨[some (.ref p)],rfl,rfl,t_and ?_⟩;rcases ra.g r (d0 O) with g|g
    ·refine ⟨_,rfl,.inl ⟨p,_,1,.str "read",rfl,rfl,e6,by rw [g.1];exact z03 (j:=1) rfl,rfl,_,rfl,iteP (by decide +kernel) (t_and ?_)⟩⟩;cases he:r.e with
     | none=>exact ⟨_,rfl,.inl ⟨p,_,5,.non,rfl,rfl,e6,by rw [he];exact z03 (j:=5) rfl,rfl,_,rfl,iteN (by decide) (iteF (M (by rw [he];simp) _ (Same.refl _)))⟩⟩
     | some e=>
      refine ⟨_,rfl,.inl ⟨p,_,5,.int e,rfl,rfl,e6,by rw [he];exact z03 (j:=5) rfl,rfl,_,rfl,iteP (by simp) ?_⟩⟩;refine ⟨_,rfl,.inl ⟨p,_,3,.int (intV r.a),rfl,rfl,e6,by rw [<-g.2.2 e he];exact z03 (j:=3) rfl,_,rfl,rfl,_,rfl,ite2 (λ z=>?_) λ z=>?_⟩⟩
      ·have z:=of_decide_eq_true z;injection z with z;exact ⟨_,rfl,I (by rw [he,decide_eq_true z,decide_eq_true g.1];rfl) _ _ (Same.refl _) λ r' a2=>by cases a2;exact ⟨p,a5,rfl,e5,bl⟩⟩
      ·exact M (by rw [decide_eq_false (λ y=>z (decide_eq_true (by rw [y])))];rfl) _ (Same.refl _)
    ·exact ⟨_,rfl,.inl ⟨p,_,1,.str "write",rfl,rfl,e6,by rw [g.1];exact z03 (j:=1) rfl,rfl,_,rfl,iteK (iteF (M (by rw [show decide (r.v=V.str "read")=false from decide_eq_false (λ e=>z14 (e.symm.trans g.1))];simp) _ (Same.refl _)))⟩⟩
   rw [lz] at fa;have fa:=z2b (q:=qR t.x) _ (A0 _) fa;rw [Z2,<-rds_eq] at fa;have v7:=Same.upd (o:=.lst ws) i4;have u7:=s6.trans v7;have e7:upd H6 l1 (.lst ws) l1=some (.lst ws):=z01;have a4:All2 (RowR (upd H6 l1 (.lst ws))) (rdsF B t.x) ws:=z02 (λ _ _ z=>z.same v7) fa;generalize upd H6 l1 (.lst ws)=H7 at v7 u7 e7 a4⊢;have e8:=z04 a4;have g8:(rdsF B t.x).length<=24:=by rw [rds_eq];exact F0 (Z0 _ _) g9
   have g7 :∀r∈rdsF B t.x,r.e=some (r.e.getD 0):=λ r U=>(re_end (List.mem_filter.mp (List.mem_filter.mp U).1).2).2;refine g_name (z0c ?_);refine z0o (K:=KX w.params) (a:=l1) (xs:=ws) (H1:=H7) (λ j=>((rdsF B t.x)[j]?.map λ _=>true).getD false) (λ j y _=>∀r,(rdsF B t.x)[j]? = some r->y=V.int (enN r)) (λ _ _ _ _ _ z=>z) (λ R h=>⟨_,rfl,h⟩) (SqL.of e7) (F0 (m:=24) (by omega) (by decide)) (λ j hj v H8 Z hv KT KF I M=>?_) λ L H8 j0 Z f0 c8=>?_
   ·obtain ⟨r,O,p,a5,rfl,S,bl⟩:=z08 a4 hv;rw [O] at I;refine ⟨[some (.ref p)],rfl,rfl,iteT ⟨_,rfl,.inl ⟨p,_,5,.int (enN r),rfl,rfl,SqL.of (Z _ _ S),by rw [g7 r (d0 O)];exact z03 (j:=5) rfl,I rfl _ _ (Same.refl _) λ r' a2=>by cases a2;rfl⟩⟩⟩
   rw [e8] at c8;have ez:=ze6 c8;subst ez;have v9:=Same.upd (o:=.lst (((rdsF B t.x).map enN).map V.int)) f0;have u9:=u7.trans (Z.trans v9);have f8:=(Z.trans v9) _ _ e7;have e9:upd H8 L (.lst (((rdsF B t.x).map enN).map V.int)) L=some (.lst (((rdsF B t.x).map enN).map V.int)):=z01;have n2:H7 L=none:=Z.free f0;generalize upd H8 L (.lst (((rdsF B t.x).map enN).map V.int))=H9 at v9 u9 f8 e9⊢;have i9:H5 L=none:=u7.free n2;refine g_name ?_;refine z6b (λ σ' f=>Same H7 f/\f L=some (.lst (((rdsF B t.x).map enN++t.e.toList).map V.int))/\σ'=[some (.ref lr),some (.ref d),x2,some (.ref G),some (.int t.x),some (.ref l1),some (.ref L),x7]) ?_ λ go=>?_;rotate_left
   ·refine z0p ⟨_,rfl,_,rfl,d,_,rfl,dg _ u9,.inr (.inl ⟨pw,_,1,endO t.e,rfl,rfl,u9.seqT sw,z03 (j:=1) rfl,rfl,_,rfl,?_⟩)⟩;cases he:t.e with
    | none=>exact iteN (by decide) (go _ _ ⟨Z.trans v9,by rw [he];exact e9.trans (by rw [Option.toList_none,C2]),rfl⟩)
    | some e=>refine iteP (by simp [endO]) ⟨_,rfl,.inl ⟨rfl,_,SqL.of e9⟩,_,rfl,_,rfl,d,_,rfl,dg _ u9,.inr (.inl ⟨pw,_,1,.int e,rfl,rfl,u9.seqT sw,by rw [he];exact z03 (j:=1) rfl,L,_,_,rfl,rfl,e9,J1 (m:=24) (by rw [C0,C0];exact g8) (by decide),go _ _ ⟨Same.keep (Z.trans v9) n2,?_,rfl⟩⟩)⟩;rw [z01,he,Option.toList_some,O2];rfl
   rintro σ h6 ⟨s10,e10,rfl⟩;have b2:=u7.trans s10;have i1:=s10 _ _ e7;have h4:All2 (RowR h6) (rdsF B t.x) ws:=z02 (λ _ _ z=>z.same s10) a4;refine z0c (e_cb1 ?_);refine ⟨_,rfl,_,rfl,d,_,rfl,dg _ b2,.inr (.inl ⟨pw,_,0,.int t.b,rfl,rfl,b2.seqT sw,z03 (j:=0) rfl,w_1,λ l3 h8=>?_⟩)⟩;obtain ⟨h0,v_,b1,g3⟩:=newA (.lst [.int t.b]) h8;rw [<-v_];refine z0o (K:=KX w.params) (a:=l1) (xs:=ws) (H1:=h0) (λ j=>((rdsF B t.x)[j]?.map λ _=>true).getD false) (λ j y _=>∀r,(rdsF B t.x)[j]? = some r->y=V.int ((λ r:Rc=>(r.b:Int)) r)) (λ _ _ _ _ _ z=>z) (λ R h=>⟨_,rfl,h⟩) (SqL.of (b1 _ _ i1)) (F0 (m:=24) (by omega) (by decide)) (λ j hj v H8 Z hv KT KF I M=>?_) λ l4 c9 bs c1 g6 f4=>?_
   ·obtain ⟨r,O,p,a5,rfl,S,bl⟩:=z08 h4 hv;rw [O] at I;exact ⟨[some (.ref p)],rfl,rfl,iteT ⟨_,rfl,.inl ⟨p,_,4,.int r.b,rfl,rfl,SqL.of ((b1.trans Z) _ _ S),z03 (j:=4) rfl,I rfl _ _ (Same.refl _) λ r' a2=>by cases a2;rfl⟩⟩⟩
   rw [e8] at f4;have ez:=ze6 f4;subst ez;have a9:=Same.upd (o:=.lst (((rdsF B t.x).map λ r:Rc=>(r.b:Int)).map V.int)) g6;have d4:=b1.trans (c1.trans a9);have b9:upd c9 l4 (.lst (((rdsF B t.x).map λ r:Rc=>(r.b:Int)).map V.int)) l4=some (.lst (((rdsF B t.x).map λ r:Rc=>(r.b:Int)).map V.int)):=z01;have f2:=(c1.trans a9) _ _ g3;generalize upd c9 l4 (.lst (((rdsF B t.x).map λ r:Rc=>(r.b:Int)).map V.int))=H13 at a9 d4 b9 f2⊢;refine .inr (.inr (.inl ⟨l3,l4,_,_,rfl,rfl,f2,b9,F0 (m:=25) (by rw [C0,C0];show 1 + _<=25;omega) (by decide),λ l5 i5=>?_⟩));have c2:=Same.upd (o:=.lst ([V.int t.b]++((rdsF B t.x).map λ r:Rc=>(r.b:Int)).map V.int)) i5;have b0:=d4.trans c2;have d6:upd H13 l5 (.lst ([V.int t.b]++((rdsF B t.x).map λ r:Rc=>(r.b:Int)).map V.int)) l5=some (.lst (((spans B t).map (·.1)).map V.int)):=by
    have hb:(spans B t).map (·.1)=t.b :: (rdsF B t.x).map λ r:Rc=>(r.b:Int):=by unfold spans;rw [U0,A3];rfl
    rw [z01,hb];rfl
   generalize upd H13 l5 (.lst ([V.int t.b]++((rdsF B t.x).map λ r:Rc=>(r.b:Int)).map V.int))=H14 at c2 b0 d6⊢;refine ⟨l5,_,rfl,SqL.of d6,by unfold spans;exact y8 _ _,λ g g1 g2=>g_name ?_⟩;have b3:=b2.trans b0;have a1:=b0 _ _ e10;have a6:=b3 _ _ ef5;have c3:=zg0 B t;have d1:(ents B).take (i + 1)=(ents B).take i++[t]:=by rw [p6,e0];rfl
   have f9:=z04 an;have f5:=z04 az;have g4:(((ents B).take i).filter (cntB B)).length<=((ents B).take i).length:=Z0 _ _;rw [i3] at g4;have d3:(rdsF B t.x).map enN++t.e.toList≠[]↔(spans B t).filterMap (·.2)≠[]:=by rw [c3];constructor<;>intro h z<;>(rw [List.append_eq_nil_iff] at z;exact h (List.append_eq_nil_iff.mpr ⟨z.2,z.1⟩))
   generalize hE:(rdsF B t.x).map enN++t.e.toList=E' at a1 d3;have mn :∀C,C∈E'->(∀a∈E',C<=a)->MinI C ((spans B t).filterMap (·.2)):=λ C I M=>by rw [c3];exact zex (by rw [hE];exact ⟨I,M⟩)
   have skip:E'=[]->∀f,Same H14 f->Same H f/\f d=some (.frz ob (.dK kvs))/\All2 (EntAt (kx w) f) (ents B) kvs/\∃fs F,f G=some (.lst fs)/\All2 (ZtV f) F fs/\All2 (ZnR B) (((ents B).take (i + 1)).filter (cntB B)) F:=λ z f s'=>by have u:=b3.trans s';refine ⟨u5.trans u,u _ _ ed5,z02 (λ _ _ z=>z.tups (Tups.of u)) wk5,fs,F,u _ _ ef5,z02 (λ _ _ z=>z.same u) az,?_⟩;rw [d1,F2,X1 (by unfold cntB;rw [decide_eq_false (λ y=>d3.mpr y z)];decide),k5,C2];exact an
   have put :∀(f:Hp) (p:Addr) (C:Int),Same H14 f->MinI C ((spans B t).filterMap (·.2))->ZtV f (zOf t.x C g) (.ref p)->Same H (upd f G (.lst (fs++[.ref p])))/\upd f G (.lst (fs++[.ref p])) d=some (.frz ob (.dK kvs))/\All2 (EntAt (kx w) (upd f G (.lst (fs++[.ref p])))) (ents B) kvs/\∃fs' F,upd f G (.lst (fs++[.ref p])) G=some (.lst fs')/\All2 (ZtV (upd f G (.lst (fs++[.ref p])))) F fs'/\All2 (ZnR B) (((ents B).take (i + 1)).filter (cntB B)) F:=λ f p C s' I hz=>by
    have u:=b3.trans s';have e4:=u _ _ ef5;have g0:Tups (kx w) f (upd f G (.lst (fs++[.ref p]))):=Tups.lst e4;have zt :∀{z:Zt} {y:V},ZtV f z y->ZtV (upd f G (.lst (fs++[.ref p]))) z y:=λ ⟨p,e,S⟩=>⟨p,e,by rw [upd_ne (ne_of S e4 (by intro z;cases z))];exact S⟩
    refine ⟨Same.keep (u5.trans u) nf,by rw [upd_ne f6.symm];exact u _ _ ed5,z02 (λ _ _ z=>z.tups λ c xs e=>g0 _ _ (u.seqT e)) wk5,fs++[.ref p],F++[zOf t.x C g],z01,z0n (z02 (λ _ _ z=>zt (z.same u)) az) (zt hz),?_⟩;rw [d1,F2,W1 (by unfold cntB;exact decide_eq_true (List.ne_nil_of_mem I.1))];exact z0n an ⟨C,g,I,⟨g1,g2⟩,rfl⟩
   have on :∀C p f,C < g->Same H14 f->f p=none->ZtV (upd f p (.tup [.int t.x,.int C,.int g,.str "on"])) (zOf t.x C g) (.ref p):=λ C p f z _ _=>⟨p,rfl,by unfold zOf;rw [if_pos z];exact z01⟩
   have h9 :∀C p f,¬ C < g->Same H14 f->f p=none->ZtV (upd f p (.tup [.int t.x,.int g,.int C,.str "in"])) (zOf t.x C g) (.ref p):=λ C p f z _ _=>⟨p,rfl,by unfold zOf;rw [if_neg z];exact z01⟩
   have f3:fs.length < sizeLine:=V0 (m:=100) (by omega) (by decide);refine z0p (t_and ⟨_,rfl,w_0,λ l6 h5=>?_⟩);obtain ⟨b4,v_,X,i0⟩:=newA (.lst []) h5;rw [<-v_];refine ⟨L,l6,_,rfl,rfl,SqL.of (X _ _ a1),SqL.of i0,_,rfl,?_⟩;by_cases hEe:E'=[]
   ·refine iteN (by rw [hEe];decide) (iteF ?_);refine z0p ⟨_,rfl,w_0,λ l7 a8=>⟨L,l7,_,rfl,rfl,SqL.of ((X.trans (Same.upd a8)) _ _ a1),SqL.of z01,_,rfl,iteN (by rw [hEe];decide) ?_⟩⟩;have h:=skip hEe _ (X.trans (Same.upd (o:=.lst []) a8));exact ⟨h.1,h.2.1,h.2.2.1,h.2.2.2,_,_,_,_,rfl⟩
   ·have c6:decide (E'.map V.int≠[])=true:=decide_eq_true λ z=>hEe (List.map_eq_nil_iff.mp z);refine iteP c6 ⟨_,rfl,L,E',rfl,SqL.of (X _ _ a1),hEe,λ C m1 m2=>⟨_,rfl,_,_,rfl,rfl,_,rfl,ite2 (λ F=>?_) λ F=>?_⟩⟩
    ·have F:=of_decide_eq_true F;refine ⟨_,rfl,.inl ⟨rfl,_,SqL.of (X _ _ a6)⟩,_,rfl,_,rfl,L,E',rfl,SqL.of (X _ _ a1),hEe,λ b6 k1 k2=>⟨_,rfl,w_4,λ p Y=>?_⟩⟩;cases z7u (mn C m1 m2) (mn b6 k1 k2);have W:=X.trans (Same.upd (o:=.tup [.int t.x,.int C,.int g,.str "on"]) Y);refine ⟨G,fs,_,rfl,rfl,W _ _ a6,f3,?_⟩;have h:=put _ p C W (mn C m1 m2) (on C p b4 F X Y);exact ⟨h.1,h.2.1,h.2.2.1,h.2.2.2,_,_,_,_,rfl⟩
    ·have F:¬ C < g:=λ y=>F (decide_eq_true y);refine z0p ⟨_,rfl,w_0,λ l7 a8=>?_⟩;have W:=X.trans (Same.upd (o:=.lst []) a8);have d5:upd b4 l7 (.lst []) l7=some (.lst []):=z01;generalize upd b4 l7 (.lst [])=H17 at W d5⊢;refine ⟨L,l7,_,rfl,rfl,SqL.of (W _ _ a1),SqL.of d5,_,rfl,iteP c6 ?_⟩;refine ⟨_,rfl,.inl ⟨rfl,_,SqL.of (W _ _ a6)⟩,_,rfl,_,rfl,_,rfl,L,E',rfl,SqL.of (W _ _ a1),hEe,λ b6 k1 k2=>⟨w_4,λ p Y=>?_⟩⟩;cases z7u (mn C m1 m2) (mn b6 k1 k2);have c7:=W.trans (Same.upd (o:=.tup [.int t.x,.int g,.int C,.str "in"]) Y);refine ⟨G,fs,_,rfl,rfl,c7 _ _ a6,f3,?_⟩;have h:=put _ p C c7 (mn C m1 m2) (h9 C p H17 F W Y);exact ⟨h.1,h.2.1,h.2.2.1,h.2.2.2,_,_,_,_,rfl⟩
  rintro σ H5 ⟨u5,ed5,wk5,⟨fs,F,ef5,az,an⟩,x4,x5,x6,x7,rfl⟩;rw [lk,Z2] at an;have f5:=z04 az;have f9:=z04 an;have i8:((ents B).filter (cntB B)).length<=(ents B).length:=Z0 _ _;refine ⟨_,rfl,G,fs,F.map (·.lo),rfl,SqL.of ef5,by rw [C0];exact f5.symm,by omega,λ i y k hy hk=>?_,λ D c4 hD ko=>?_⟩
  ·obtain ⟨z,hz,p,rfl,S⟩:=z08 az hy;rw [T0,hz] at hk;cases hk;exact ⟨p,z,rfl,⟨p,rfl,S⟩,rfl,rfl⟩
  ·obtain ⟨i2,I,M,h3⟩:=key_zt az ko;have v8:=Same.upd (o:=.lst c4) hD;exact q D c4 i2 _ (u5.trans v8) z01 ⟨F,an,I,M⟩ (z02 (λ _ _ z=>z.same v8) h3)
end
section
def PosOf (rs:List Rc) (x p:Int):Prop:=(x=0/\p < 0)\/∃(i:Nat) (r:Rc),rs[i]? = some r/\(p=r.b\/∃e:Nat,r.e=some e/\p=(e:Int))/\((isW r=true/\intV r.x=x)\/(isRE r=true/\intV r.a=x))
theorem zbe {n:Nat} {rs:List Rc} (ps:PosI n rs) {x x' p:Int} (h:PosOf rs x p) (h':PosOf rs x' p):x=x':=by
 rcases h with ⟨rfl,h⟩|⟨i,r,hi,hp,hx⟩
 ·rcases h' with ⟨rfl,_⟩|⟨j,q,hj,hp',_⟩
  ·rfl
  ·rcases hp' with z|⟨e,_,z⟩<;>omega
 ·rcases h' with ⟨rfl,h'⟩|⟨j,q,hj,hp',hx'⟩
  ·rcases hp with z|⟨e,_,z⟩<;>omega
  ·have d:i=j:=by
    rcases hp with z|⟨e,he,z⟩
    ·rcases hp' with y|⟨f,hf,y⟩
     ·exact ps.bb i j r q hi hj (by omega)
     ·exact absurd (by omega) (ps.be r (d0 hi) q (d0 hj) f hf)
    ·rcases hp' with y|⟨f,hf,y⟩
     ·exact absurd (by omega) (ps.be q (d0 hj) r (d0 hi) e he)
     ·have:e=f:=by omega
      subst this;exact ps.ee i j r q e hi hj he hf
   subst d;rw [hi] at hj;cases hj;have c:¬ (isW r=true/\isRE r=true):=λ ⟨a,b⟩=>z14 ((re_end b).1.symm.trans (of_decide_eq_true a));rcases hx with ⟨a,rfl⟩|⟨a,rfl⟩
   ·rcases hx' with ⟨_,b⟩|⟨b,_⟩
    ·exact b
    ·exact absurd ⟨a,b⟩ c
   ·rcases hx' with ⟨b,_⟩|⟨_,b⟩
    ·exact absurd ⟨b,a⟩ c
    ·exact b
theorem zb1 {rs:List Rc} {t:Ent} (ht:t∈ents rs) {s:Int×Option Int} (hs:s∈spans rs t):PosOf rs t.x s.1/\∀e,s.2=some e->PosOf rs t.x e:=by
 rcases List.mem_cons.mp hs with rfl|hs
 ·rcases ents_mem.mp ht with rfl|⟨w,hw,hi,rfl⟩
  ·exact ⟨.inl ⟨rfl,by decide⟩,λ e a=>by cases a;exact .inl ⟨rfl,by decide⟩⟩
  ·obtain ⟨i,h⟩:=List.mem_iff_getElem?.mp hw;refine ⟨.inr ⟨i,w,h,.inl rfl,.inl ⟨hi,rfl⟩⟩,λ e a=>?_⟩;unfold entW at a;cases hk:w.e with
   | none=>rw [hk] at a;cases a
   | some k=>rw [hk] at a;cases a;exact .inr ⟨i,w,h,.inr ⟨k,hk,rfl⟩,.inl ⟨hi,rfl⟩⟩
 ·obtain ⟨r,f,rfl⟩:=List.mem_map.mp hs;obtain ⟨d,b⟩:=List.mem_filter.mp f;obtain ⟨g,c⟩:=List.mem_filter.mp d;have b:=of_decide_eq_true b;obtain ⟨i,h⟩:=List.mem_iff_getElem?.mp g;refine ⟨.inr ⟨i,r,h,.inl rfl,.inr ⟨c,b⟩⟩,λ e a=>?_⟩;unfold spR at a;cases hk:r.e with
  | none=>rw [hk] at a;cases a
  | some k=>rw [hk] at a;cases a;exact .inr ⟨i,r,h,.inr ⟨k,hk,rfl⟩,.inr ⟨c,b⟩⟩
theorem zn_pos {rs:List Rc} {t:Ent} {z:Zt} (ht:t∈ents rs) (h:ZnR rs t z):PosOf rs t.x z.lo:=by
 obtain ⟨l,g,b,c,rfl⟩:=h;unfold zOf;split
 ·obtain ⟨s,a,e⟩:=List.mem_filterMap.mp b.1;exact (zb1 ht a).2 l e
 ·obtain ⟨s,a,e⟩:=List.mem_map.mp c.1;rw [<-e];exact (zb1 ht a).1
theorem zf4 {a b:Int} {ns:List Int} (h:MaxI a ns) (h':MaxI b ns):a=b:=a9 (h'.2 a h.1) (h.2 b h'.1)
theorem zbv {rs:List Rc} {t:Ent} {z z':Zt} (h:ZnR rs t z) (h':ZnR rs t z'):z=z':=by obtain ⟨l,g,a,b,rfl⟩:=h;obtain ⟨e,f,c,d,rfl⟩:=h';rw [z7u a c,zf4 b d]
theorem z8v {α β:Type} {R:α->β->Prop} (h :∀a b b',R a b->R a b'->b=b') :∀{xs:List α} {ys zs:List β},All2 R xs ys->All2 R xs zs->ys=zs
 | _,_,_,.nil,.nil=>rfl
 | _,_,_,.cons a r,.cons b s=>by rw [h _ _ _ a b,z8v h r s]
theorem ents_x {rs:List Rc} (nd:((ents rs).map λ t=>(Sum.inl t.x:Key)).Nodup) {t t':Ent} (h:t∈ents rs) (h':t'∈ents rs) (e:t.x=t'.x):t=t':=by
 obtain ⟨i,c⟩:=List.mem_iff_getElem?.mp h;obtain ⟨j,a⟩:=List.mem_iff_getElem?.mp h';obtain ⟨f,d⟩:=List.getElem?_eq_some_iff.mp c;obtain ⟨k,b⟩:=List.getElem?_eq_some_iff.mp a;have g:=List.pairwise_iff_getElem.mp nd;rcases U2 i j with z|z|z
 ·refine absurd ?_ (g i j (by rw [C0];exact f) (by rw [C0];exact k) z);rw [w4,w4,d,b,e]
 ·subst z;rw [c] at a;exact D1 a
 ·refine absurd ?_ (g j i (by rw [C0];exact k) (by rw [C0];exact f) z);rw [w4,w4,d,b,e]
theorem z4j {α β:Type} {R:α->β->Prop} :∀{xs:List α} {ys:List β},All2 R xs ys->∀y∈ys,∃x∈xs,R x y
 | _,_,.cons a r,y,h=>by
  rcases List.mem_cons.mp h with rfl|h
  ·exact ⟨_,.head _,a⟩
  ·obtain ⟨x,b,c⟩:=z4j r y h;exact ⟨x,.tail _ b,c⟩
theorem zf5 {n:Nat} {rs:List Rc} (ps:PosI n rs) (nd:((rs.filter isW).map (λ r=>intV r.x)).Nodup) (n0:(0:Int)∉(rs.filter isW).map (λ r=>intV r.x)) {zl zl':List Zt} (h:ZonS rs zl) (h':ZonS rs zl'):zl=zl':=by obtain ⟨a,d,g,p⟩:=h;obtain ⟨b,q,i,v⟩:=h';have:=z8v (R:=ZnR rs) (λ _ _ _ h h'=>zbv h h') d q;subst this;refine List.Perm.eq_of_pairwise (le:=λ z c:Zt=>z.lo<=c.lo) (λ z c A m s o=>?_) p v (g.trans i.symm);obtain ⟨t,u,j⟩:=z4j d z (g.mem_iff.mp A);obtain ⟨B,y,f⟩:=z4j d c (i.mem_iff.mp m);have e:=(List.mem_filter.mp u).1;have k:=(List.mem_filter.mp y).1;have l:=zn_pos e j;have w:=zn_pos k f;rw [a9 s o] at l;have:=ents_x (z4c nd n0) e k (zbe ps l w);subst this;exact zbv j f
end
section
def onP (z z':Zt):Prop:=z.on=true/\z'.on=true/\z.lo < z'.lo/\z'.lo < z.hi
def inP (z z':Zt):Prop:=z.on=false/\z'.on=true/\z'.lo < z.lo/\z.hi < z'.hi
noncomputable def kdP:Bool->Zt->Zt->Prop
 | true=>onP
 | false=>inP
def FstP (P:Zt->Zt->Prop) (zl:List Zt) (z z':Zt):Prop:=z∈zl/\z'∈zl/\P z z'/\∀y y',y∈zl->y'∈zl->P y y'->z.lo < y.lo\/(z.lo=y.lo/\z'.lo<=y'.lo)
def NoP (P:Zt->Zt->Prop) (zl:List Zt):Prop:=∀y y',y∈zl->y'∈zl->¬ P y y'
inductive Oc
 | lost (n:Nat)
 | pr (k:Bool) (x y:Int)
 | non
def LosB (rs:List Rc) (r:Rc):Prop:=isRE r=true/\∀t∈ents rs,t.x=intV r.a->((r.e.getD 0:Nat):Int) < t.b
def FstL (rs:List Rc) (n:Nat):Prop:=∃r,rs[n]? = some r/\LosB rs r/\∀(m:Nat) (q:Rc),m < n->rs[m]? = some q->¬ LosB rs q
def NoL (rs:List Rc):Prop:=∀r∈rs,¬ LosB rs r
noncomputable def PrOk (zl:List Zt):Oc->Prop
 | .lost _=>False
 | .pr true x y=>∃z z',FstP onP zl z z'/\x=z.x/\y=z'.x
 | .pr false x y=>NoP onP zl/\∃z z',FstP inP zl z z'/\x=z.x/\y=z'.x
 | .non=>NoP onP zl/\NoP inP zl
noncomputable def OcOk (rs:List Rc):Oc->Prop
 | .lost n=>FstL rs n
 | o=>NoL rs/\∃zl,ZonS rs zl/\PrOk zl o
noncomputable def OcV (H:Hp):Oc->V->Prop
 | .lost n,v=>∃p,v=.ref p/\H p=some (.tup [.str "lost",.int (n:Nat)])
 | .pr k x y,v=>∃p,v=.ref p/\H p=some (.tup [.str (onS k),.int x,.int y])
 | .non,v=>v=.non
theorem OcV.tp {H H':Hp} (s :∀a xs,H a=some (.tup xs)->H' a=some (.tup xs)) :∀{o:Oc} {v:V},OcV H o v->OcV H' o v
 | .lost _,_,⟨p,h1,h2⟩=>⟨p,h1,s _ _ h2⟩
 | .pr _ _ _,_,⟨p,h1,h2⟩=>⟨p,h1,s _ _ h2⟩
 | .non,_,h=>h
theorem zon_lo {n:Nat} {rs:List Rc} (ps:PosI n rs) (nd:((rs.filter isW).map (λ r=>intV r.x)).Nodup) (n0:(0:Int)∉(rs.filter isW).map (λ r=>intV r.x)) {zl:List Zt} (h:ZonS rs zl) :∀z∈zl,∀z'∈zl,z.lo=z'.lo->z=z':=λ z o z' k e=>by obtain ⟨a,b,c,s⟩:=h;obtain ⟨t,p,f⟩:=z4j b z (c.mem_iff.mp o);obtain ⟨q,m,j⟩:=z4j b z' (c.mem_iff.mp k);have d:=(List.mem_filter.mp p).1;have g:=(List.mem_filter.mp m).1;have i:=zn_pos d f;have l:=zn_pos g j;rw [e] at i;have:=ents_x (z4c nd n0) d g (zbe ps i l);subst this;exact zbv f j
theorem zca {P:Zt->Zt->Prop} {zl:List Zt} (dl :∀z∈zl,∀z'∈zl,z.lo=z'.lo->z=z') {z z' y y':Zt} (h:FstP P zl z z') (h':FstP P zl y y'):z=y/\z'=y':=by obtain ⟨a,b,g,e⟩:=h;obtain ⟨d,c,f,i⟩:=h';have j:=e y y' d c f;have k:=i z z' a b g;exact ⟨dl z a y d (by omega),dl z' b y' c (by omega)⟩
theorem zda {rs:List Rc} {n m:Nat} (h:FstL rs n) (h':FstL rs m):n=m:=by
 obtain ⟨r,a,c,e⟩:=h;obtain ⟨q,d,f,b⟩:=h';rcases U2 n m with z|z|z
 ·exact absurd c (b n r z a)
 ·exact z
 ·exact absurd f (e m q z d)
theorem z89 {rs:List Rc} {n:Nat} (h:FstL rs n) (h':NoL rs):False:=by obtain ⟨r,a,b,c⟩:=h;exact h' r (d0 a) b
theorem fst_no {P:Zt->Zt->Prop} {zl:List Zt} {z z':Zt} (h:FstP P zl z z') (h':NoP P zl):False:=h' z z' h.1 h.2.1 h.2.2.1
theorem zgo {zl:List Zt} (dl :∀z∈zl,∀z'∈zl,z.lo=z'.lo->z=z') {o o':Oc} (h:PrOk zl o) (h':PrOk zl o'):o=o':=by
 match o,o',h,h' with
 | .pr true x y,.pr true x' y',h,h'=>obtain ⟨z,z',f,rfl,rfl⟩:=h;obtain ⟨u,a,g,rfl,rfl⟩:=h';obtain ⟨rfl,rfl⟩:=zca dl f g;rfl
 | .pr true x y,.pr false x' y',⟨z,z',f,_,_⟩,⟨g,_⟩=>exact (fst_no f g).elim
 | .pr true x y,.non,⟨z,z',f,_,_⟩,⟨g,_⟩=>exact (fst_no f g).elim
 | .pr false x y,.pr true x' y',⟨g,_⟩,⟨z,z',f,_,_⟩=>exact (fst_no f g).elim
 | .pr false x y,.pr false x' y',h,h'=>obtain ⟨_,z,z',f,rfl,rfl⟩:=h;obtain ⟨_,u,a,g,rfl,rfl⟩:=h';obtain ⟨rfl,rfl⟩:=zca dl f g;rfl
 | .pr false x y,.non,⟨_,z,z',f,_,_⟩,⟨_,g⟩=>exact (fst_no f g).elim
 | .non,.pr true x' y',⟨g,_⟩,⟨z,z',f,_,_⟩=>exact (fst_no f g).elim
 | .non,.pr false x' y',⟨_,g⟩,⟨_,z,z',f,_,_⟩=>exact (fst_no f g).elim
 | .non,.non,_,_=>rfl
theorem zgh {n:Nat} {rs:List Rc} (ps:PosI n rs) (nd:((rs.filter isW).map (λ r=>intV r.x)).Nodup) (n0:(0:Int)∉(rs.filter isW).map (λ r=>intV r.x)) {o o':Oc} (h:OcOk rs o) (h':OcOk rs o'):o=o':=by
 have c :∀{o o':Oc},(NoL rs/\∃zl,ZonS rs zl/\PrOk zl o)->(NoL rs/\∃zl,ZonS rs zl/\PrOk zl o')->o=o':=λ ⟨_,zl,z1,p1⟩ ⟨_,zl',z2,p2⟩=>by cases zf5 ps nd n0 z1 z2;exact zgo (zon_lo ps nd n0 z1) p1 p2
 match o,o',h,h' with
 | .lost a,.lost b,f,g=>rw [zda f g]
 | .lost a,.pr k x y,f,g=>exact (z89 f g.1).elim
 | .lost a,.non,f,g=>exact (z89 f g.1).elim
 | .pr k x y,.lost b,f,g=>exact (z89 g f.1).elim
 | .non,.lost b,f,g=>exact (z89 g f.1).elim
 | .pr k x y,.pr k' x' y',f,g=>exact c f g
 | .pr k x y,.non,f,g=>exact c f g
 | .non,.pr k x y,f,g=>exact c f g
 | .non,.non,_,_=>rfl
end
section
variable {P:Program} {w:O0} {mg:Str->Option Value} {base:Heap}
noncomputable def colB (z z':Zt):Bool:=if z.on=true then decide (z.lo < z'.lo) && decide (z'.lo < z.hi) else decide (z'.lo < z.lo) && decide (z.hi < z'.hi)
def z6q (K:c0):Sp:=λ vs H Q _=>∃z z' y y',vs=[y,y']/\ZtV H z y/\ZtV H z' y'/\Q (.bl (colB z z')) H
theorem z9x (T:TX (kx w) mg):Fo P w mg base CX0 1 314 y18 ["zone","other"] (z6q (kx w)):=by
 refine (z5q w.params).ok zc8 (λ g H Q E h=>?_) (λ k A m s H g Q E l h=>?_)
 ·obtain ⟨z,b,y,i,rfl,_⟩:=h;rfl
 ·obtain ⟨z,b,y,i,rfl,⟨p,rfl,c⟩,⟨f,rfl,d⟩,q⟩:=h;refine ⟨_,(z06 (ps_if (z09 opEq (pe_ix ix_seq (pv 0) pe_int (λ _ _=>rfl)) pe_str (nomark _))
   (z05 (ps_ret (pe_and (z13 op_lt (pe_ix ix_seq (pv 1) pe_int (λ _ _=>rfl)) (pe_ix ix_seq (pv 0) pe_int (λ _ _=>rfl)) (nomark _)) (pe_one (z13 op_lt (pe_ix ix_seq (pv 0) pe_int (λ _ _=>rfl)) (pe_ix ix_seq (pv 1) pe_int (λ _ _=>rfl)) (nomark _))))))
   z0d)
   (z05 (ps_ret (z7o op_lt op_lt (pe_ix ix_seq (pv 0) pe_int (λ _ _=>rfl)) (pe_ix ix_seq (pv 1) pe_int (λ _ _=>rfl)) (pe_ix ix_seq (pv 0) pe_int (λ _ _=>rfl)))))),?_⟩
  have c:=SqT.of (K:=KX w.params) c;have d:=SqT.of (K:=KX w.params) d;refine sq_if ⟨_,rfl,.inr (.inl ⟨p,_,3,.str (onS z.on),rfl,rfl,c,z03 (j:=3) rfl,rfl,_,rfl,?_⟩)⟩;cases hz:z.on with
  | true=>
   refine iteK (t_nx ?_);refine ⟨_,rfl,.inr (.inl ⟨p,_,1,.int z.lo,rfl,rfl,c,z03 (j:=1) rfl,_,rfl,.inr (.inl ⟨f,_,1,.int b.lo,rfl,rfl,d,z03 (j:=1) rfl,_,_,rfl,rfl,_,rfl,ite2 (λ a=>?_) λ a=>?_⟩)⟩)⟩
   ·have e:colB z b=decide (b.lo < z.hi):=by unfold colB;rw [hz,if_pos rfl,a,i5]
    rw [e] at q;exact ⟨_,rfl,.inr (.inl ⟨p,_,2,.int z.hi,rfl,rfl,c,z03 (j:=2) rfl,_,_,rfl,rfl,q⟩)⟩
   ·have e:colB z b=false:=by unfold colB;rw [hz,if_pos rfl,Bool.eq_false_iff.mpr a,K5]
    rw [e] at q;exact q
  | false=>
   refine iteP (by decide +kernel) ?_;refine ⟨_,rfl,.inr (.inl ⟨f,_,1,.int b.lo,rfl,rfl,d,z03 (j:=1) rfl,_,rfl,.inr (.inl ⟨p,_,1,.int z.lo,rfl,rfl,c,z03 (j:=1) rfl,_,_,rfl,rfl,_,rfl,ite2 (λ a=>?_) λ a=>?_⟩)⟩)⟩
   ·have e:colB z b=decide (z.hi < b.hi):=by unfold colB;rw [hz,if_neg (by decide),a,i5]
    rw [e] at q;exact ⟨_,rfl,.inr (.inl ⟨p,_,2,.int z.hi,rfl,rfl,c,z03 (j:=2) rfl,_,rfl,.inr (.inl ⟨f,_,2,.int b.hi,rfl,rfl,d,z03 (j:=2) rfl,_,_,rfl,rfl,q⟩)⟩)⟩
   ·have e:colB z b=false:=by unfold colB;rw [hz,if_neg (by decide),Bool.eq_false_iff.mpr a,K5]
    rw [e] at q;exact q
def z6u (K:c0):Sp:=λ vs H Q _=>∃l zl ys b,vs=[.ref l,.str (onS b)]/\H l=some (.lst ys)/\All2 (ZtV H) zl ys/\zl.length<=100/\∀a ws H',Same H H'->H' a=some (.lst ws)->All2 (ZtV H') (zl.filter λ z=>z.on == b) ws->Q (.ref a) H'
theorem on_eq (b c:Bool):decide (V.str (onS b)=V.str (onS c))=(b == c):=by cases b<;>cases c<;>decide +kernel
theorem zce (T:TX (kx w) mg):Fo P w mg base CX0 1 307 y17 ["found","kind"] (z6u (kx w)):=by
 refine (z4r w.params).ok zbo (λ G H Q E h=>?_) (λ V A a0 s H G Q E B h=>?_)
 ·obtain ⟨l,e,t,b,rfl,_⟩:=h;rfl
 ·obtain ⟨l,e,t,b,rfl,I,u,X,q⟩:=h;refine ⟨_,(z05 (ps_ret (pe_cg (xs:=["zone"]) (g:=gName 0) (fr:=[(1,"kind")]) (z0i (pv 0)) (λ _ _ _ _ _=>(pg_cn (N:=["zone","kind"]) 0)) (λ _ _ _ _ _=>(pf_one (z09 opEq (pe_ix (z0q (K:=KX w.params) rfl) (pv 0) pe_int (λ _ _=>rfl)) (pv 1) (nomark _)))) (λ _ _ _ _ _=>(pv 0))))),?_⟩;have L:=z04 u;refine sq_ret ?_;refine z0o (K:=KX w.params) (a:=l) (xs:=t) (H1:=H) (λ i=>(e[i]?.map λ z=>z.on == b).getD false) (λ i y O=>∀z,e[i]? = some z->ZtV O z y) (λ _ _ _ _ s z r B=>(z r B).same s) (λ R h=>⟨_,rfl,h⟩) (SqL.of I) (F0 (m:=100) (by omega) (by decide)) (λ i W v H1 d M KT Z x n=>?_) λ F H1 C d J c=>?_
  ·obtain ⟨z,U,p,rfl,S⟩:=z08 u M;have f:=d _ _ S;rw [U] at x n;refine ⟨[some (.ref p)],rfl,rfl,⟨_,rfl,.inr (.inl ⟨p,_,3,.str (onS z.on),rfl,rfl,SqT.of f,z03 (j:=3) rfl,_,rfl,rfl,_,rfl,?_⟩)⟩⟩;refine ite2 (λ y=>⟨_,rfl,x ((on_eq _ _).symm.trans y) _ _ (Same.refl _) λ Y D=>by cases D;exact ⟨p,rfl,f⟩⟩) λ y=>n ((on_eq _ _).symm.trans (Bool.eq_false_iff.mpr y)) _ (Same.refl _)
  rw [L] at c;have c:=z2b (q:=λ z:Zt=>z.on == b) _ (A0 _) c;rw [Z2] at c;have k:=Same.upd (o:=.lst C) J;exact q F C _ (d.trans k) z01 (z02 (λ _ _ z=>z.same k) c)
theorem zn_x {rs:List Rc} {t:Ent} {z:Zt} (h:ZnR rs t z):z.x=t.x:=by obtain ⟨l,g,_,_,rfl⟩:=h;unfold zOf;split<;>rfl
theorem zon_lt {n:Nat} {rs:List Rc} (ps:PosI n rs) (nd:((rs.filter isW).map (λ r=>intV r.x)).Nodup) (n0:(0:Int)∉(rs.filter isW).map (λ r=>intV r.x)) {zl:List Zt} (h:ZonS rs zl):zl.Pairwise λ z z'=>z.lo < z'.lo:=by
 have s:=zon_lo ps nd n0 h;obtain ⟨a,m,o,k⟩:=h;have e :∀{b:List Ent} {a:List Zt},All2 (ZnR rs) b a->(a.map λ z=>(Sum.inl z.x:Key))=b.map λ t=>(Sum.inl t.x:Key):=by
  intro b a h;induction h with
  | nil=>rfl
  | cons a r ih=>rw [U0,U0,ih,zn_x a]
 have p:(a.map λ z=>(Sum.inl z.x:Key)).Nodup:=by rw [e m];exact (z4c nd n0).sublist ((List.filter_sublist).map _)
 have l:(zl.map λ z=>(Sum.inl z.x:Key)).Nodup:=(o.map _).nodup_iff.mpr p;have q:=List.pairwise_iff_getElem.mp l;have u:=List.pairwise_iff_getElem.mp k;rw [l9];intro i j c d f;have g:=q i j (by rw [C0];exact c) (by rw [C0];exact d) f;rw [w4,w4] at g;have v:=u i j c d f;have w:zl[i].lo≠zl[j].lo:=λ z=>g (by rw [s _ (X4 c) _ (X4 d) z]);omega
theorem pw_lo {xs:List Zt} (pw:xs.Pairwise λ z z'=>z.lo < z'.lo) {i j:Nat} {z y:Zt} (hi:xs[i]? = some z) (hj:xs[j]? = some y) (h:i < j):z.lo < y.lo:=by
 obtain ⟨c,d⟩:=List.getElem?_eq_some_iff.mp hi;obtain ⟨a,b⟩:=List.getElem?_eq_some_iff.mp hj;have:=List.pairwise_iff_getElem.mp pw i j c a h
 rwa [d,b] at this
theorem kd_on {b:Bool} {z z':Zt} (h:kdP b z z'):z.on=b/\z'.on=true:=by
 cases b with
 | true=>exact ⟨h.1,h.2.1⟩
 | false=>exact ⟨h.1,h.2.1⟩
theorem zfp {b:Bool} {z z':Zt} (h:z.on=b) (h':z'.on=true):colB z z'=true↔kdP b z z':=by
 unfold colB;subst h;cases hz:z.on with
 | true=>rw [if_pos rfl,V3,decide_eq_true_iff,decide_eq_true_iff];exact ⟨λ ⟨a,b⟩=>⟨hz,h',a,b⟩,λ ⟨_,_,a,b⟩=>⟨a,b⟩⟩
 | false=>rw [if_neg (by decide),V3,decide_eq_true_iff,decide_eq_true_iff];exact ⟨λ ⟨a,b⟩=>⟨hz,h',a,b⟩,λ ⟨_,_,a,b⟩=>⟨a,b⟩⟩
theorem mem_kd {b:Bool} {zl:List Zt} {y:Zt} (h:y∈zl) (e:y.on=b) :∃i:Nat,(zl.filter λ z=>z.on == b)[i]? = some y:=List.mem_iff_getElem?.mp (List.mem_filter.mpr ⟨h,beq_iff_eq.mpr e⟩)
def z2q (K:c0):Sp:=λ vs H Q _=>∃l zl ys,vs=[.ref l]/\H l=some (.lst ys)/\All2 (ZtV H) zl ys/\zl.length<=100/\(zl.Pairwise λ z z'=>z.lo < z'.lo)/\∀o v H',Same H H'->PrOk zl o->OcV H' o v->Q v H'
theorem z6c (T:TX (kx w) mg) (c0:Ca P w mg base "of_kind" ["found","kind"] 1 (z6u (kx w))) (c1:Ca P w mg base "collide" ["zone","other"] 1 (z6q (kx w))):Fo P w mg base CX0 2 302 y0a ["found"] (z2q (kx w)):=by
 refine (z1z w.params).ok sc_first_pair (λ vs H Q E h=>?_) (λ b5 A b4 s H vs Q E I h=>?_)
 ·obtain ⟨l,e,L,rfl,_⟩:=h;rfl
 ·obtain ⟨l,e,L,rfl,R,az,a0,pw,q⟩:=h;refine ⟨_,(z06 (ps_for Q1 rfl (pi_tup (pe_tup (z00 pe_str (z00 pe_str pa_nil)))) (z0m (i:=1) sc_first_pair.nd rfl (C1 rfl))
   (z05 (ps_for Q1 rfl (z0i (pe_cal c0 (I.mono (by decide)) rfl (z00 (pv 0) (z00 (pv 1) pa_nil)))) (z0m (i:=2) sc_first_pair.nd rfl (C1 rfl))
   (z05 (ps_for Q1 rfl (z0i (pe_cal c0 (I.mono (by decide)) rfl (z00 (pv 0) (z00 pe_str pa_nil)))) (z0m (i:=3) sc_first_pair.nd rfl (C1 rfl))
   (z05 (ps_if (pt_val (pe_cal c1 (I.mono (by decide)) rfl (z00 (pv 2) (z00 (pv 3) pa_nil))) (λ _=>rfl))
   (z05 (ps_ret (pe_tup (z00 (pv 1) (z00 (pe_ix ix_seq (pv 2) pe_int (λ _ _=>rfl)) (z00 (pe_ix ix_seq (pv 3) pe_int (λ _ _=>rfl)) pa_nil))))))
   z0d)))))))
   (z05 (ps_ret pe_non))),?_⟩
  refine ⟨w_2,λ tb a6=>?_⟩;obtain ⟨H1,v_,u1,Y⟩:=newA (.tup [.str "on",.str "in"]) a6;rw [<-v_];refine ⟨tb,rfl,⟨_,SqT.of Y⟩,?_⟩;refine zgf (K:=KX w.params) (a:=tb) (xs:=[.str "on",.str "in"]) (λ i σ f=>Same H1 f/\(1<=i->NoP onP e)/\(2<=i->NoP inP e)/\∃x1 x2 x3,σ=[some (.ref l),x1,x2,x3]) ⟨Same.refl _,λ z=>absurd z (by decide),λ z=>absurd z (by decide),_,_,_,rfl⟩ (λ _ σ f _ h=>SqT.of (h.1 _ _ Y)) ?_ ?_;rotate_left
  ·rintro σ H2 ⟨s2,n1,n2,x1,x2,x3,rfl⟩;exact q .non .non _ (u1.trans s2) ⟨n1 (by decide),n2 (by decide)⟩ rfl
  rintro i y σ H2 d ⟨s2,n1,n2,x1,x2,x3,rfl⟩;obtain ⟨b,rfl,b2,a1⟩ :∃b,y=V.str (onS b)/\(b=true->i=0)/\(b=false->i=1):=by
   match i,d with
   | 0,d=>cases d;exact ⟨true,rfl,λ _=>rfl,(λ z=>by cases z)⟩
   | 1,d=>cases d;exact ⟨false,rfl,(λ z=>by cases z),λ _=>rfl⟩
  have J:=u1.trans s2;refine g_name ?_;refine ⟨_,rfl,_,rfl,l,e,L,b,rfl,J _ _ R,z02 (λ _ _ z=>z.same J) az,a0,λ a ws H3 s3 X aw=>⟨a,rfl,⟨_,SqL.of X⟩,?_⟩⟩;have u3:=J.trans s3;have b0:(e.filter λ z=>z.on == b).Pairwise λ z z'=>z.lo < z'.lo:=pw.filter _;have a7:(e.filter λ z=>z.on == true).Pairwise λ z z'=>z.lo < z'.lo:=pw.filter _;refine z0z (K:=KX w.params) (a:=a) (xs:=ws) (λ j σ f=>Same H3 f/\(∀(o:Nat) (z:Zt),o < j->(e.filter λ z=>z.on == b)[o]? = some z->∀z'∈e,¬ kdP b z z')/\∃x2 x3,σ=[some (.ref l),some (.str (onS b)),x2,x3]) ⟨Same.refl _,λ o z h=>absurd h (B3 _),_,_,rfl⟩ (λ _ σ f _ h=>SqL.of (h.1 _ _ X)) ?_ ?_;rotate_left
  ·rintro σ H4 ⟨s4,nb,x2,x3,rfl⟩;have no:NoP (kdP b) e:=λ y B d G k=>by obtain ⟨j,hj⟩:=mem_kd d (kd_on k).1;exact nb j y (by rw [z04 aw];exact z0s hj) hj B G k
   refine ⟨s2.trans (s3.trans s4),λ h=>?_,λ h=>?_,_,_,_,rfl⟩
   ·cases b with
    | true=>exact no
    | false=>exact n1 (by rw [a1 rfl];decide)
   ·cases b with
    | true=>have:=b2 rfl;omega
    | false=>exact no
  rintro j v σ H4 hv ⟨s4,nb,x2,x3,rfl⟩;obtain ⟨z,F,zv⟩:=z08 aw hv;have Z:=List.mem_filter.mp (d0 F);have N:=u3.trans s4;refine g_name ?_;refine ⟨_,rfl,l,e,L,true,rfl,N _ _ R,z02 (λ _ _ z=>z.same N) az,a0,λ a2 a9 H5 M a4 a5=>⟨a2,rfl,⟨_,SqL.of a4⟩,?_⟩⟩;refine z0z (K:=KX w.params) (a:=a2) (xs:=a9) (λ k σ f=>Same H5 f/\(∀(r:Nat) (z':Zt),r < k->(e.filter λ z=>z.on == true)[r]? = some z'->¬ kdP b z z')/\∃x3,σ=[some (.ref l),some (.str (onS b)),some v,x3]) ⟨Same.refl _,λ r z' h=>absurd h (B3 _),_,rfl⟩ (λ _ σ f _ h=>SqL.of (h.1 _ _ a4)) ?_ ?_;rotate_left
  ·rintro σ H6 ⟨s6,nk,x3,rfl⟩;refine ⟨s4.trans (M.trans s6),λ o y h d z' n k=>?_,_,_,rfl⟩;rcases Nat.lt_succ_iff_lt_or_eq.mp h with h|rfl
   ·exact nb o y h d z' n k
   ·rw [F] at d;cases d;obtain ⟨m,g⟩:=mem_kd n (kd_on k).2;exact nk m z' (by rw [z04 a5];exact z0s g) g k
  rintro k v' σ H6 b3 ⟨s6,nk,x3,rfl⟩;obtain ⟨z',n,b1⟩:=z08 a5 b3;have a3:=List.mem_filter.mp (d0 n);have U:=zv.same (s4.trans (M.trans s6));have S:=b1.same s6;have O:=zfp (b:=b) (z:=z) (z':=z') (beq_iff_eq.mp Z.2) (beq_iff_eq.mp a3.2);refine g_name ?_;refine z0p ⟨_,rfl,_,rfl,z,z',v,v',rfl,U,S,_,rfl,ite2 (λ c=>?_) λ c=>?_⟩
  ·have D:=O.mp c;have fp:FstP (kdP b) e z z':=⟨Z.1,a3.1,D,λ y B d G u=>by
    obtain ⟨m,g⟩:=mem_kd d (kd_on u).1;rcases U2 m j with t|t|t
    ·exact absurd u (nb m y t g B G)
    ·subst t;rw [F] at g;cases g;refine .inr ⟨rfl,?_⟩;obtain ⟨W,C⟩:=mem_kd G (kd_on u).2;rcases U2 W k with t|t|t
     ·exact absurd u (nk W B t C)
     ·subst t;rw [n] at C;cases C;exact S8 _
     ·exact Z9 (pw_lo a7 n C t)
    ·exact .inl (pw_lo b0 F g t)⟩
   obtain ⟨p,rfl,ep⟩:=U;obtain ⟨p',rfl,a8⟩:=S;refine ⟨_,rfl,_,rfl,.inr (.inl ⟨p,_,0,.int z.x,rfl,rfl,SqT.of ep,z03 (j:=0) rfl,_,rfl,.inr (.inl ⟨p',_,0,.int z'.x,rfl,rfl,SqT.of a8,z03 (j:=0) rfl,w_3,λ t ht=>?_⟩)⟩)⟩;refine q (.pr b z.x z'.x) (.ref t) _ (N.trans (M.trans (s6.trans (Same.upd ht)))) ?_ ⟨t,rfl,z01⟩;cases b with
   | true=>exact ⟨z,z',fp,rfl,rfl⟩
   | false=>exact ⟨n1 (by rw [a1 rfl];decide),z,z',fp,rfl,rfl⟩
  ·refine ⟨s6,λ r y h d D=>?_,_,rfl⟩;rcases Nat.lt_succ_iff_lt_or_eq.mp h with h|rfl
   ·exact nk r y h d D
   ·rw [n] at d;cases d;exact c (O.mpr D)
theorem zfu {K:c0} {H:Hp} {rs:List Rc} {kvs:List (Key×V)} (wk:All2 (EntAt K H) (ents rs) kvs) (nd:((ents rs).map λ t=>(Sum.inl t.x:Key)).Nodup) (x:Int):(valV kvs (.inl x)=none/\∀t∈ents rs,t.x≠x)\/∃t pw,t∈ents rs/\t.x=x/\valV kvs (.inl x)=some (.ref pw)/\SqT K H pw [.int t.b,endO t.e]:=by
 by_cases h :∃t∈ents rs,t.x=x
 ·obtain ⟨t,a,rfl⟩:=h;obtain ⟨i,j⟩:=List.mem_iff_getElem?.mp a;obtain ⟨f,l,c,pw,d,g⟩:=z48 wk j;obtain ⟨k,v⟩:=f;have c:k=.inl t.x:=c;have d:v=.ref pw:=d;subst c d;exact .inr ⟨t,pw,a,rfl,val_in (by rw [z2p wk];exact nd) (d0 l),g⟩
 ·refine .inl ⟨?_,λ t a e=>h ⟨t,a,e⟩⟩;cases z:valV kvs (.inl x) with
  | none=>rfl
  | some v=>have:=(z2k (kvs:=kvs) (k:=.inl x)).mp (by rw [z];rfl);rw [z2p wk] at this;obtain ⟨t,a,e⟩:=List.mem_map.mp this;exact absurd ⟨t,a,g4 e⟩ h
theorem zaa {rs:List Rc} {r:Rc} (h:isRE r=true) (n :∀t∈ents rs,t.x≠intV r.a):LosB rs r:=⟨h,λ t b e=>absurd e (n t b)⟩
theorem za8 {rs:List Rc} {r:Rc} (nd:((ents rs).map λ t=>(Sum.inl t.x:Key)).Nodup) (h:isRE r=true) {t:Ent} (ht:t∈ents rs) (e:t.x=intV r.a):LosB rs r↔((r.e.getD 0:Nat):Int) < t.b:=⟨λ l=>l.2 t ht e,λ l=>⟨h,λ f c d=>by rw [ents_x nd c ht (d.trans e.symm)];exact l⟩⟩
theorem idx_lt {n k i m:Nat} {p:Nat->Bool} (h:((N1 n).filter p)[k]? = some i) (hm:m < i) (hp:p m=true) :∃k',k' < k/\((N1 n).filter p)[k']? = some m:=by
 have d:=List.mem_range.mp (List.mem_filter.mp (d0 h)).1;obtain ⟨k',a⟩:=List.mem_iff_getElem?.mp (List.mem_filter.mpr ⟨List.mem_range.mpr (N5 hm d),hp⟩);refine ⟨k',?_,a⟩;have g:=List.pairwise_iff_getElem.mp ((T6 (n:=n)).filter p);obtain ⟨e,b⟩:=List.getElem?_eq_some_iff.mp h;obtain ⟨f,c⟩:=List.getElem?_eq_some_iff.mp a;rcases U2 k' k with z|z|z
 ·exact z
 ·subst z;rw [b] at c;omega
 ·have:=g k k' e f z;rw [b,c] at this;omega
theorem oc_of {rs:List Rc} {zl:List Zt} {o:Oc} (n:NoL rs) (z:ZonS rs zl) (p:PrOk zl o):OcOk rs o:=by
 cases o with
 | lost _=>exact p.elim
 | pr k x y=>exact ⟨n,zl,z,p⟩
 | non=>exact ⟨n,zl,z,p⟩
theorem zea {rs:List Rc} {zl:List Zt} (h:ZonS rs zl):zl.length<=rs.length + 1:=by obtain ⟨a,b,c,_⟩:=h;rw [c.length_eq,z04 b];exact F0 (Z0 _ _) (z2m rs)
def z3v (K:c0):Sp:=λ vs H Q _=>∃t nm wr es ys,vs=[.ref t]/\TalR K H t nm wr es ys/\LamH H/\∀o v H',SameB tbT H H'->LamH H'->OcOk (dAll 0 [] es) o->OcV H' o v->Q v H'
theorem z7g (T:TX (kx w) mg) (c0:Ca P w mg base "plain_deeds" ["tale"] 4 (z17 (kx w))) (c1:Ca P w mg base "writers" ["told"] 1 (z3r (kx w))) (c2:Ca P w mg base "ended_reads" ["told"] 1 (z18 (kx w))) (c3:Ca P w mg base "zones" ["tale"] 6 (zbh (kx w))) (c4:Ca P w mg base "first_pair" ["found"] 2 (z2q (kx w))):Fo P w mg base CX0 7 295 y0h ["tale"] (z3v (kx w)):=by
 refine (z2d w.params).ok sc_collision (λ vs H Q E h=>?_) (λ c5 A b9 s H vs Q E c h=>?_)
 ·obtain ⟨t,Z,O,F,X,rfl,_⟩:=h;rfl
 ·obtain ⟨t,Z,O,F,X,rfl,M,lm,q⟩:=h;refine ⟨_,(z06 (ps_set (i:=1) sc_collision.nd rfl (C1 rfl) (pe_cal c0 (c.mono (by decide)) rfl (z00 (pv 0) pa_nil)))
   (z06 (ps_set (i:=2) sc_collision.nd rfl (C1 rfl) (pe_cal c1 (c.mono (by decide)) rfl (z00 (pv 1) pa_nil)))
   (z06 (ps_for Q1 rfl (z0i (pe_cal c2 (c.mono (by decide)) rfl (z00 (pv 1) pa_nil))) (pg_tup rfl (z0l (z0m (i:=3) sc_collision.nd rfl (C1 rfl)) (z0l (z0m (i:=4) sc_collision.nd rfl (C1 rfl)) z2a)))
   (z05 (ps_if (PW.pt (pw_or (pt_cmp (z4n (hu_of c) (pe_ix ix_seq (pv 4) pe_int (λ _ _=>rfl)) (pv 2)) (by with_unfolding_all rfl)) (pw_or1 (z09 op_lt (pe_ix ix_seq (pv 4) pe_int (λ _ _=>rfl)) (pe_ix ix_seq (z3k (hu_of c) (pv 2) (pe_ix ix_seq (pv 4) pe_int (λ _ _=>rfl)) (λ _ _=>rfl)) pe_int (λ _ _=>rfl)) (nomark _)))))
   (z05 (ps_ret (pe_tup (z00 pe_str (z00 (pv 3) pa_nil)))))
   z0d)))
   (z05 (ps_ret (pe_cal c4 (c.mono (by decide)) rfl (z00 (pe_cal c3 (c.mono (by decide)) rfl (z00 (pv 0) pa_nil)) pa_nil))))))),?_⟩
  have ps:=PosI.all F PosI.nil;have nd:=M.tw.nd;have n0:=M.tw.n0;have b5:(dAll 0 [] F).length<=62:=F0 z4p (by simpa using M.ln);refine z0c ⟨_,rfl,t,Z,O,F,X,rfl,M,λ l zs H1 s1 tl=>g_name ?_⟩;generalize hrs:dAll 0 [] F=rs at tl nd n0 q b5 ps;have a5:=z4c nd n0;refine z0c ⟨_,rfl,l,zs,rs,O,rfl,tl,nd,n0,λ d a1 H2 s2 hd ed wk=>g_name ?_⟩;have u2:=s1.trans s2;have a3:=tl.same s2;refine ⟨_,rfl,l,zs,rs,O,rfl,a3,λ la ws H3 U b0 aw=>⟨la,rfl,⟨_,SqL.of b0⟩,?_⟩⟩;have u3:=u2.trans U;have a7:=a3.same U;have b6:All2 (EntAt (kx w) H3) (ents rs) a1:=z02 (λ _ _ z=>z.tups (Tups.of U)) wk;have b7:=U _ _ ed;refine z0z (K:=KX w.params) (a:=la) (xs:=ws) (λ k σ B=>Same H3 B/\(∀(u i:Nat),u < k->((N1 rs.length).filter λ i=>isRE (rs[i]?.getD r00))[u]? = some i->¬ LosB rs (rs[i]?.getD r00))/\∃x3 x4,σ=[some (.ref t),some (.ref l),some (.ref d),x3,x4]) ⟨Same.refl _,λ u i h=>absurd h (B3 _),_,_,rfl⟩ (λ _ σ B _ h=>SqL.of (h.1 _ _ b0)) ?_ ?_;rotate_left
  ·rintro σ I ⟨s4,nl,x3,x4,rfl⟩;have no:NoL rs:=λ r c G=>by obtain ⟨i,C⟩:=List.mem_iff_getElem?.mp c;obtain ⟨k,L⟩:=List.mem_iff_getElem?.mp ((List.mem_filter (p:=λ i=>isRE (rs[i]?.getD r00))).mpr ⟨List.mem_range.mpr (z0s C),show isRE (rs[i]?.getD r00)=true by rw [getD_some C];exact G.1⟩);refine nl k i (by rw [z04 aw];exact z0s L) L ?_;rw [getD_some C];exact G
   have J:=u3.trans s4;refine ⟨_,rfl,t,Z,O,F,X,rfl,M.same J,LamH.same J lm,λ D b2 zl H5 sb b8 nD eD R az=>?_⟩;rw [hrs] at R;have c6:=zea R;refine ⟨D,zl,b2,rfl,eD,az,by omega,zon_lt ps nd n0 R,λ o v H6 s6 pr ov=>q o v H6 (SameB.trans (SameB.of J) (SameB.trans sb (SameB.of s6))) (LamH.same s6 b8) (oc_of no R pr) ov⟩
  rintro k y σ I hy ⟨s4,nl,x3,x4,rfl⟩;obtain ⟨i,C,p,z,rfl,ep,hz⟩:=z08 aw hy;obtain ⟨r,c,Y,rfl,b4⟩:=z08 a7.a hz;have hm:=List.mem_filter.mp (d0 C);have a2:isRE r=true:=by have:=hm.2;rw [getD_some c] at this;exact this
  obtain ⟨rv,a6⟩:=re_end a2;have ra:r.a=.int (intV r.a):=by
   rcases a7.g r (d0 c) with g|g
   ·exact g.2.2 _ a6
   ·exact absurd (rv.symm.trans g.1) z14
  have J:=u3.trans s4;have a0:=s4.seqT b4;have a8:=s4 _ _ b7;have a9:LosB rs r->∀B,Same I B->∀f,B f=none->Q (.ref f) (upd B f (.tup [.str "lost",.int (i:Nat)])):=λ G B s' f N=>by have v:=s'.trans (Same.upd (o:=.tup [.str "lost",.int (i:Nat)]) N);refine q (.lost i) (.ref f) _ (SameB.of (J.trans v)) (LamH.same (J.trans v) lm) ⟨r,c,G,λ m q' b3 hq lq=>?_⟩ ⟨f,rfl,z01⟩;obtain ⟨u,h1,h2⟩:=idx_lt C b3 (show isRE (rs[m]?.getD r00)=true by rw [getD_some hq];exact lq.1);refine nl u m h1 h2 ?_;rw [getD_some hq];exact lq
  have next:¬ LosB rs r->∀(u W:Nat),u < k + 1->((N1 rs.length).filter λ i=>isRE (rs[i]?.getD r00))[u]? = some W->¬ LosB rs (rs[W]?.getD r00):=λ nb u W h L=>by
   rcases Nat.lt_succ_iff_lt_or_eq.mp h with h|rfl
   ·exact nl u W h L
   ·rw [C] at L;cases L;rw [getD_some c];exact nb
  refine ⟨p,_,rfl,SqT.of (s4 _ _ ep),rfl,_,_,rfl,_,_,rfl,rfl,?_⟩;have b1:All2 (EntAt (kx w) I) (ents rs) a1:=z02 (λ _ _ z=>z.tups (Tups.of s4)) b6;have a4:atI [V.int r.h,r.n,r.v,r.x,r.a,.int r.b,endV r.e] 4=some (.int (intV r.a)):=by rw [<-ra];exact z03 (j:=4) rfl
  have e6:atI [V.int r.h,r.n,r.v,r.x,r.a,.int r.b,endV r.e] 6=some (.int ((r.e.getD 0:Nat):Int)):=by rw [a6];exact z03 (j:=6) rfl
  refine z0p (t_or ⟨_,rfl,.inr (.inl ⟨Y,_,4,.int (intV r.a),rfl,rfl,a0,a4,_,rfl,d,_,rfl,DGet.k (k:=.inl (intV r.a)) a8,_,rfl,?_⟩)⟩);rcases zfu b1 a5 (intV r.a) with ⟨S,hn⟩|⟨te,pw,hte,hx,S,sw⟩
  ·rw [S];exact iteP rfl ⟨_,rfl,w_2,λ f N=>a9 (zaa a2 hn) I (Same.refl _) f N⟩
  ·have dg:DGet I d (.int (intV r.a)) (some (.ref pw)):=.inl ⟨a1,.inl (intV r.a),.inl a8,rfl,S.symm⟩;have li:=za8 (r:=r) a5 a2 hte hx;rw [S];refine iteN (λ z=>M0 z) ⟨_,rfl,.inr (.inl ⟨Y,_,6,_,rfl,rfl,a0,e6,_,rfl,_,rfl,.inr (.inl ⟨Y,_,4,.int (intV r.a),rfl,rfl,a0,a4,d,_,rfl,dg,.inr (.inl ⟨pw,_,0,.int te.b,rfl,rfl,sw,z03 (j:=0) rfl,_,_,rfl,rfl,_,rfl,ite2 (λ z=>?_) λ z=>?_⟩)⟩)⟩)⟩
   ·exact ⟨_,rfl,w_2,λ f N=>a9 (li.mpr (of_decide_eq_true z)) I (Same.refl _) f N⟩
   ·exact ⟨s4,next λ G=>z (decide_eq_true (li.mp G)),_,_,rfl⟩
def EnB (t:Ent) (kv:Key×V):Prop:=kv.1=.inl t.x/\kv.2=.int t.b
theorem z5p :∀{ts:List Ent} {kvs:List (Key×V)},All2 EnB ts kvs->kvs.map (·.1)=ts.map λ t=>Sum.inl t.x
 | _,_,.nil=>rfl
 | _,_,.cons a r=>by rw [U0,U0,z5p r,a.1]
theorem zft {rs:List Rc} {kvs:List (Key×V)} (wk:All2 EnB (ents rs) kvs) (nd:((ents rs).map λ t=>(Sum.inl t.x:Key)).Nodup) (x:Int):(valV kvs (.inl x)=none/\∀t∈ents rs,t.x≠x)\/∃t,t∈ents rs/\t.x=x/\valV kvs (.inl x)=some (.int t.b):=by
 by_cases h :∃t∈ents rs,t.x=x
 ·obtain ⟨t,a,rfl⟩:=h;obtain ⟨i,g⟩:=List.mem_iff_getElem?.mp a;obtain ⟨f,j,c,d⟩:=z48 wk g;obtain ⟨k,v⟩:=f;have c:k=.inl t.x:=c;have d:v=.int t.b:=d;subst c d;exact .inr ⟨t,a,rfl,val_in (by rw [z5p wk];exact nd) (d0 j)⟩
 ·refine .inl ⟨?_,λ t a e=>h ⟨t,a,e⟩⟩;cases z:valV kvs (.inl x) with
  | none=>rfl
  | some v=>have:=(z2k (kvs:=kvs) (k:=.inl x)).mp (by rw [z];rfl);rw [z5p wk] at this;obtain ⟨t,a,e⟩:=List.mem_map.mp this;exact absurd ⟨t,a,g4 e⟩ h
theorem zon_hi {rs:List Rc} {zl:List Zt} (h:ZonS rs zl) :∀z∈zl,z.on=true->z.lo < z.hi:=λ z d on=>by
 obtain ⟨a,b,c,_⟩:=h;obtain ⟨t,_,l,g,_,_,rfl⟩:=z4j b z (c.mem_iff.mp d);unfold zOf at on⊢;split
 ·rename_i y;exact y
 ·rename_i y;rw [if_neg y] at on;cases on
theorem zet (xs:List V) (n:Nat):cutV xs (some (n:Int)) none=xs.drop n:=by
 unfold cutV;rw [HT.sIx_nat,show HT.sIx xs.length xs.length none=xs.length from rfl];by_cases z:n<=xs.length
 ·rw [Nat.min_eq_left z,S6 (by rw [W4];omega)]
 ·rw [Nat.min_eq_right (by omega),Nat.sub_self,List.take_zero,List.drop_eq_nil_of_le (by omega)]
def z4a (K:c0):Sp:=λ vs H Q _=>∃lr rs zs n,vs=[.ref lr]/\RwsA H lr rs zs/\PosI n rs/\((rs.filter isW).map (λ r=>intV r.x)).Nodup/\(0:Int)∉(rs.filter isW).map (λ r=>intV r.x)/\∀o v H',Same H H'->OcOk rs o->OcV H' o v->Q v H'
theorem z9d (T:TX (kx w) mg) (c0:Ca P w mg base "_law_zones" ["rows"] 4 (z2t (kx w))):Fo P w mg base CX0 5 371 y0s ["rows"] (z4a (kx w)):=by
 refine (z3o w.params).ok sc__law_due (λ vs H Q E h=>?_) (λ d5 A d4 s H vs Q E hr h=>?_)
 ·obtain ⟨S,R,zs,n,rfl,_⟩:=h;rfl
 ·obtain ⟨S,R,zs,n,rfl,ra,ps,nd,n0,q⟩:=h;refine q_of (z0b (qs_set (i:=1) sc__law_due.nd rfl (C1 rfl) (ze5 (zbz (QE.mk pe_int) (QE.mk (pe_un un_neg pe_int)) zeh) rfl rfl (by simp) (by decide)))
   (z0b (QS.mk (ps_for Q1 rfl (z0i (pv 0)) (z0m (i:=2) sc__law_due.nd rfl (C1 rfl))
   (z05 (ps_if (z09 opEq (pe_ix ix_seq (pv 2) pe_int (λ _ _=>rfl)) pe_str (nomark _))
   (z05 (z4g (hu_of hr) (pv 1) (pe_ix ix_seq (pv 2) pe_int (λ _ _=>rfl)) (pe_ix ix_seq (pv 2) pe_int (λ _ _=>rfl)) rfl))
   z0d))))
   (z0b (QS.mk (ps_for Q1 rfl (z8p rfl (T.no (zeg _)) (z00 (z0a z0r rfl (T.no (n_len _)) M3 (z00 (pv 0) pa_nil)) pa_nil)) (z0m (i:=3) sc__law_due.nd rfl (C1 rfl))
   (z06 (ps_set (i:=2) sc__law_due.nd rfl (C1 rfl) (pe_ix ix_seq (pv 0) (pv 3) (λ _ _=>rfl)))
   (z05 (ps_if (PW.pt (pw_and (z09 opEq (pe_ix ix_seq (pv 2) pe_int (λ _ _=>rfl)) pe_str (nomark _)) (pw_and (z09 z3l (pe_ix ix_seq (pv 2) pe_int (λ _ _=>rfl)) pe_non (nomark _)) (z1s (PW.pt (pw_or (pt_cmp (z4n (hu_of hr) (pe_ix ix_seq (pv 2) pe_int (λ _ _=>rfl)) (pv 1)) (by with_unfolding_all rfl)) (pw_or1 (z09 op_lt (pe_ix ix_seq (pv 2) pe_int (λ _ _=>rfl)) (z3k (hu_of hr) (pv 1) (pe_ix ix_seq (pv 2) pe_int (λ _ _=>rfl)) (λ _ _=>rfl)) (nomark _)))))))))
   (z05 (ps_ret (pe_tup (z00 pe_str (z00 (pv 3) pa_nil)))))
   z0d)))))
   (z0b (QS.mk (ps_set (i:=4) sc__law_due.nd rfl (C1 rfl) (pe_cal c0 (hr.mono (by decide)) rfl (z00 (pv 0) pa_nil))))
   (z0b (QS.mk (ps_for Q1 rfl (z8p rfl (T.no (zeg _)) (z00 (z0a z0r rfl (T.no (n_len _)) M3 (z00 (pv 4) pa_nil)) pa_nil)) (z0m (i:=5) sc__law_due.nd rfl (C1 rfl))
   (z05 (ps_for Q1 rfl (z0i (z2c slSeq (pv 4) (z34 (pe_op opAdd (pv 5) pe_int)) z6t)) (z0m (i:=6) sc__law_due.nd rfl (C1 rfl))
   (z05 (ps_if (PW.pt (pw_and (z09 opEq (pe_ix ix_seq (pe_ix ix_seq (pv 4) (pv 5) (λ _ _=>rfl)) pe_int (λ _ _=>rfl)) pe_str (nomark _)) (pw_and (z09 opEq (pe_ix ix_seq (pv 6) pe_int (λ _ _=>rfl)) pe_str (nomark _)) (pw_and (z09 op_lt (pe_ix ix_seq (pv 6) pe_int (λ _ _=>rfl)) (pe_ix ix_seq (pe_ix ix_seq (pv 4) (pv 5) (λ _ _=>rfl)) pe_int (λ _ _=>rfl)) (nomark _)) (z1s (z09 op_lt (pe_ix ix_seq (pe_ix ix_seq (pv 4) (pv 5) (λ _ _=>rfl)) pe_int (λ _ _=>rfl)) (pe_ix ix_seq (pv 6) pe_int (λ _ _=>rfl)) (nomark _)))))))
   (z05 (ps_ret (pe_tup (z00 pe_str (z00 (pe_ix ix_seq (pe_ix ix_seq (pv 4) (pv 5) (λ _ _=>rfl)) pe_int (λ _ _=>rfl)) (z00 (pe_ix ix_seq (pv 6) pe_int (λ _ _=>rfl)) pa_nil))))))
   z0d))))))
   (z0b (QS.mk (ps_for Q1 rfl (z0i (pv 4)) (z0m (i:=7) sc__law_due.nd rfl (C1 rfl))
   (z05 (ps_for Q1 rfl (z0i (pv 4)) (z0m (i:=6) sc__law_due.nd rfl (C1 rfl))
   (z05 (ps_if (PW.pt (pw_and (z09 opEq (pe_ix ix_seq (pv 7) pe_int (λ _ _=>rfl)) pe_str (nomark _)) (pw_and (z09 opEq (pe_ix ix_seq (pv 6) pe_int (λ _ _=>rfl)) pe_str (nomark _)) (pw_and (z09 op_lt (pe_ix ix_seq (pv 6) pe_int (λ _ _=>rfl)) (pe_ix ix_seq (pv 7) pe_int (λ _ _=>rfl)) (nomark _)) (z1s (z09 op_lt (pe_ix ix_seq (pv 7) pe_int (λ _ _=>rfl)) (pe_ix ix_seq (pv 6) pe_int (λ _ _=>rfl)) (nomark _)))))))
   (z05 (ps_ret (pe_tup (z00 pe_str (z00 (pe_ix ix_seq (pv 7) pe_int (λ _ _=>rfl)) (z00 (pe_ix ix_seq (pv 6) pe_int (λ _ _=>rfl)) pa_nil))))))
   z0d))))))
   (z28 (QS.mk (ps_ret pe_non))))))))) ?_
  have lz:zs.length=R.length:=z04 ra.a;have d6:=ra.n;have b7:=z4c nd n0;refine z0c λ d hd=>⟨2,rfl,z01,[(.inl 0,.int (-2))],rfl,(show (1:Nat)<=15 by decide),g_name ?_⟩
  have s1:Same H (upd (upd H d (.dK [])) d (.dK (mergeK [] [(.inl 0,.int (-2))]))):=Same.keep (Same.upd hd) hd;have b8:upd (upd H d (.dK [])) d (.dK (mergeK [] [(.inl 0,.int (-2))])) d=some (.dK [(.inl 0,.int (-2))]):=z01;generalize upd (upd H d (.dK [])) d (.dK (mergeK [] [(.inl 0,.int (-2))]))=H1 at s1 b8⊢;refine ⟨_,rfl,S,rfl,⟨_,SqL.of (s1 _ _ ra.l)⟩,?_⟩;refine z0z (K:=KX w.params) (a:=S) (xs:=zs) (λ i σ C=>Same H C/\(∃kvs,C d=some (.dK kvs)/\All2 EnB (ents (R.take i)) kvs)/\∃x2,σ=[some (.ref S),some (.ref d),x2,none,none,none,none,none])
   ⟨s1,⟨_,b8,.cons ⟨rfl,rfl⟩ .nil⟩,_,rfl⟩ (λ _ σ C _ h=>SqL.of (h.1 _ _ ra.l)) ?_ ?_
  ·rintro i y σ H2 f ⟨s2,⟨kvs,ed,wk⟩,x2,rfl⟩;obtain ⟨r,a0,p,b4,rfl,ep,_⟩:=z08 ra.a f;have hi:=z0s a0;have lk:kvs.length<=64:=by rw [z04 wk];refine F0 (z2m _) ?_;rw [i3];omega
   have a9:=SqL.of (K:=KX w.params) (s2 _ _ ep);refine g_name ?_;rcases ra.g r (d0 a0) with g|g
   ·refine ⟨_,rfl,.inl ⟨p,_,1,.str "read",rfl,rfl,a9,by rw [g.1];exact z03 (j:=1) rfl,rfl,_,rfl,iteK ?_⟩⟩;refine ⟨s2,⟨kvs,ed,?_⟩,_,rfl⟩;rw [z1o a0,z1n,if_neg (by rw [g.w];decide),C2];exact wk
   ·refine ⟨_,rfl,.inl ⟨p,_,1,.str "write",rfl,rfl,a9,by rw [g.1];exact z03 (j:=1) rfl,rfl,_,rfl,iteP (by decide +kernel) ?_⟩⟩;refine ⟨_,rfl,.inl ⟨p,_,4,.int r.b,rfl,rfl,a9,z03 (j:=4) rfl,_,rfl,_,rfl,.inl ⟨p,_,2,.int (intV r.x),rfl,rfl,a9,by rw [<-g.2.2.1];exact z03 (j:=2) rfl,d,_,rfl,DPut.k (k:=.inl (intV r.x)) ed (J1 (m:=100) (by omega) (by decide)),?_⟩⟩⟩;have fx:=za5 nd n0 a0 g.w;rw [<-z5p wk] at fx;refine ⟨Same.keep s2 hd,⟨_,z01,?_⟩,_,rfl⟩;rw [z1o a0,z1n,if_pos g.w,z15 fx];exact z0n wk ⟨rfl,rfl⟩
  rintro σ H2 ⟨s2,⟨kvs,ed,wk⟩,x2,rfl⟩;rw [lz,Z2] at wk;refine nx_to3 ?_;have b1:=ra.same s2;refine ⟨_,rfl,.inl ⟨S,zs,rfl,.inl (SqL.of b1.l),_,rfl,by omega,by omega,?_⟩⟩;refine z8u (lo:=0) (n:=zs.length) (λ i σ C=>C=H2/\(∀(m:Nat) (q:Rc),m < i->R[m]? = some q->¬ LosB R q)/\∃x2 x3,σ=[some (.ref S),some (.ref d),x2,x3,none,none,none,none]) ⟨rfl,λ m q h=>absurd h (B3 _),_,_,rfl⟩ ?_ ?_
  ·rintro i σ H3 hi ⟨rfl,nl,x2,x3,rfl⟩;rw [Int.zero_add];obtain ⟨y,f⟩ :∃y,zs[i]? = some y:=⟨_,J0 (by omega)⟩
   obtain ⟨r,a0,p,b4,rfl,ep,_⟩:=z08 b1.a f;have e3:=SqL.of (K:=KX w.params) ep;have next:¬ LosB R r->∀(m:Nat) (q:Rc),m < i + 1->R[m]? = some q->¬ LosB R q:=λ nb m q h hq=>by
    rcases Nat.lt_succ_iff_lt_or_eq.mp h with h|rfl
    ·exact nl m q h hq
    ·rw [a0] at hq;cases hq;exact nb
   refine g_name (z0c ⟨_,rfl,_,rfl,.inl ⟨S,zs,i,.ref p,rfl,rfl,SqL.of b1.l,z03 f,g_name ?_⟩⟩);refine z0p (t_and ?_);rcases ra.g r (d0 a0) with g|g;rotate_left
   ·exact ⟨_,rfl,.inl ⟨p,_,1,.str "write",rfl,rfl,e3,by rw [g.1];exact z03 (j:=1) rfl,rfl,_,rfl,iteK (iteF ⟨rfl,next λ Z=>absurd ((re_end Z.1).1.symm.trans g.1) z14,_,_,rfl⟩)⟩⟩
   refine ⟨_,rfl,.inl ⟨p,_,1,.str "read",rfl,rfl,e3,by rw [g.1];exact z03 (j:=1) rfl,rfl,_,rfl,iteP (by decide +kernel) (t_and ?_)⟩⟩;cases he:r.e with
   | none=>exact ⟨_,rfl,.inl ⟨p,_,5,.non,rfl,rfl,e3,by rw [he];exact z03 (j:=5) rfl,rfl,_,rfl,iteN (by decide) (iteF ⟨rfl,next (λ Z=>by have:=(re_end Z.1).2;rw [he] at this;cases this),_,_,rfl⟩)⟩⟩
   | some e=>
    have c6:isRE r=true:=by unfold isRE;rw [he,decide_eq_true g.1];rfl
    have c5:LosB R r->∀W,H3 W=none->Q (.ref W) (upd H3 W (.tup [.str "lost",.int (i:Nat)])):=λ Z W a4=>q (.lost i) (.ref W) _ (s2.trans (Same.upd a4)) ⟨r,a0,Z,nl⟩ ⟨W,rfl,z01⟩;refine ⟨_,rfl,.inl ⟨p,_,5,.int e,rfl,rfl,e3,by rw [he];exact z03 (j:=5) rfl,rfl,_,rfl,iteP (by simp) (t_or ?_)⟩⟩;have a3:atI [V.int r.h,r.v,r.x,r.a,.int r.b,endV r.e,.int b4] 3=some (.int (intV r.a)):=by rw [<-g.2.2 e he];exact z03 (j:=3) rfl
    have e5:atI [V.int r.h,r.v,r.x,r.a,.int r.b,endV r.e,.int b4] 5=some (.int (e:Nat)):=by rw [he];exact z03 (j:=5) rfl
    refine ⟨_,rfl,.inl ⟨p,_,3,.int (intV r.a),rfl,rfl,e3,a3,_,rfl,d,_,rfl,DGet.k (k:=.inl (intV r.a)) ed,_,rfl,?_⟩⟩;rcases zft wk b7 (intV r.a) with ⟨U,hn⟩|⟨te,hte,hx,U⟩
    ·rw [U];exact iteP rfl (iteT ⟨_,rfl,w_2,λ W a4=>c5 (zaa c6 hn) W a4⟩)
    ·have dg:DGet H3 d (.int (intV r.a)) (some (.int te.b)):=.inl ⟨kvs,.inl (intV r.a),.inl ed,rfl,U.symm⟩;have li:=za8 (r:=r) b7 c6 hte hx;rw [he] at li;have li:LosB R r↔((e:Nat):Int) < te.b:=li;rw [U];refine iteN (λ z=>M0 z) ⟨_,rfl,.inl ⟨p,_,5,_,rfl,rfl,e3,e5,_,rfl,_,rfl,.inl ⟨p,_,3,.int (intV r.a),rfl,rfl,e3,a3,d,_,rfl,dg,_,_,rfl,rfl,_,rfl,ite2 (λ z=>?_) λ z=>?_⟩⟩⟩
     ·exact ⟨_,rfl,w_2,λ W a4=>c5 (li.mpr (of_decide_eq_true z)) W a4⟩
     ·exact ⟨rfl,next (λ Z=>z (decide_eq_true (li.mp Z))),_,_,rfl⟩
  rintro σ H3 ⟨rfl,nl,x2,x3,rfl⟩;have no:NoL R:=λ r hr Z=>by obtain ⟨i,hi⟩:=List.mem_iff_getElem?.mp hr;exact nl i r (by rw [lz];exact z0s hi) hi Z
  refine nx_to3 ?_;refine z0c ⟨_,rfl,S,R,zs,rfl,b1,nd,n0,λ D O N H4 s4 eD a6 az=>g_name ?_⟩;have pw:=zon_lt ps nd n0 a6;have d1:=zon_hi a6;have u4:=s2.trans s4;have lo:=z04 az;have d3:=zea a6;have b5 :∀(o:Oc) (v:V) C,Same H4 C->PrOk N o->OcV C o v->Q v C:=λ o v C s' p ov=>q o v C (u4.trans s') (oc_of no a6 p) ov;refine ⟨_,rfl,.inl ⟨D,O,rfl,.inl (SqL.of eD),_,rfl,by omega,by omega,?_⟩⟩;refine z8u (lo:=0) (n:=O.length) (λ i σ C=>Same H4 C/\(∀(m:Nat) (z:Zt),m < i->N[m]? = some z->∀c∈N,¬ onP z c)/\∃x5 x6 x7,σ=[some (.ref S),some (.ref d),x2,x3,some (.ref D),x5,x6,x7]) ⟨Same.refl _,λ m z h=>absurd h (B3 _),_,_,_,rfl⟩ ?_ ?_
  ·rintro k σ H5 hk ⟨s5,nb,x5,x6,x7,rfl⟩;rw [Int.zero_add];refine g_name ?_;obtain ⟨v,U⟩ :∃v,O[k]? = some v:=⟨_,J0 hk⟩
   obtain ⟨z,M,p,rfl,ep⟩:=z08 az U;have b3:=d0 M;refine ⟨_,rfl,_,rfl,.inl ⟨_,_,rfl,rfl,_,rfl,.inl ⟨D,O,rfl,SqL.of (s5 _ _ eD),λ ld c7=>?_⟩⟩⟩;rw [show (k:Int) + 1=((k + 1:Nat):Int) from rfl,zet];obtain ⟨H6,v_,v6,e6⟩:=newA (.lst (O.drop (k + 1))) c7;rw [<-v_];have u6:=s5.trans v6;refine ⟨ld,rfl,⟨_,SqL.of e6⟩,?_⟩;refine z0z (K:=KX w.params) (a:=ld) (xs:=O.drop (k + 1)) (λ j σ C=>C=H6/\(∀(G:Nat) (c:Zt),G < j->N[k + 1 + G]? = some c->¬ onP z c)/\∃x6 x7,σ=[some (.ref S),some (.ref d),x2,x3,some (.ref D),some (.int (k:Nat)),x6,x7]) ⟨rfl,λ G c h=>absurd h (B3 _),_,_,rfl⟩ (λ _ σ C _ h=>by rw [h.1];exact SqL.of e6) ?_ ?_;rotate_left
   ·rintro σ H7 ⟨rfl,nj,x6,x7,rfl⟩;refine ⟨u6,λ m y h f c I B=>?_,_,_,_,rfl⟩;rcases Nat.lt_succ_iff_lt_or_eq.mp h with h|rfl
    ·exact nb m y h f c I B
    ·rw [M] at f;cases f;obtain ⟨J,F⟩:=List.mem_iff_getElem?.mp I;have c8:=B.2.2.1;rcases U2 J m with t|t|t
     ·have:=pw_lo pw F M t;omega
     ·subst t;rw [M] at F;cases F;omega
     ·refine nj (J - (m + 1)) c ?_ (by rw [show m + 1 + (J - (m + 1))=J by omega];exact F) B;rw [W4,lo];have:=z0s F;omega
   rintro j v' σ H7 b0 ⟨rfl,nj,x6,x7,rfl⟩;rw [List.getElem?_drop] at b0;obtain ⟨c,I,p',rfl,b2⟩:=z08 az b0;have a8:=d0 I;have c9:=pw_lo pw M I (by omega);have X:=SqT.of (K:=KX w.params) (u6 _ _ ep);have a2:=SqT.of (K:=KX w.params) (u6 _ _ b2);have a5:=SqL.of (K:=KX w.params) (u6 _ _ eD);have next:¬ onP z c->∀(G:Nat) (y:Zt),G < j + 1->N[k + 1 + G]? = some y->¬ onP z y:=λ b6 G y h f=>by
    rcases Nat.lt_succ_iff_lt_or_eq.mp h with h|rfl
    ·exact nj G y h f
    ·rw [I] at f;cases f;exact b6
   refine g_name ?_;refine z0p (t_and ⟨_,rfl,_,rfl,.inl ⟨D,O,k,.ref p,rfl,rfl,a5,z03 U,.inr (.inl ⟨p,_,3,.str (onS z.on),rfl,rfl,X,z03 (j:=3) rfl,rfl,_,rfl,?_⟩)⟩⟩);refine ite2 (λ c1=>t_and ?_) λ c1=>iteF ⟨rfl,next (λ B=>c1 (by rw [B.1];decide +kernel)),_,_,rfl⟩;refine ⟨_,rfl,.inr (.inl ⟨p',_,3,.str (onS c.on),rfl,rfl,a2,z03 (j:=3) rfl,rfl,_,rfl,?_⟩)⟩;refine ite2 (λ c2=>t_and ?_) λ c2=>iteF ⟨rfl,next (λ B=>c2 (by rw [B.2.1];decide +kernel)),_,_,rfl⟩;refine ⟨_,rfl,.inr (.inl ⟨p',_,1,.int c.lo,rfl,rfl,a2,z03 (j:=1) rfl,_,rfl,_,rfl,.inl ⟨D,O,k,.ref p,rfl,rfl,a5,z03 U,.inr (.inl ⟨p,_,2,.int z.hi,rfl,rfl,X,z03 (j:=2) rfl,_,_,rfl,rfl,_,rfl,?_⟩)⟩⟩)⟩;refine ite2 (λ c3=>?_) λ c3=>iteF ⟨rfl,next (λ B=>c3 (decide_eq_true B.2.2.2)),_,_,rfl⟩;have o1:z.on=true:=by have:=(on_eq z.on true).symm.trans c1;exact beq_iff_eq.mp this
   have o2:c.on=true:=by have:=(on_eq c.on true).symm.trans c2;exact beq_iff_eq.mp this
   have B:onP z c:=⟨o1,o2,c9,of_decide_eq_true c3⟩
   have hh:=d1 c a8 o2;refine ⟨_,rfl,_,rfl,.inl ⟨D,O,k,.ref p,rfl,rfl,a5,z03 U,.inr (.inl ⟨p,_,1,.int z.lo,rfl,rfl,X,z03 (j:=1) rfl,_,rfl,.inr (.inl ⟨p',_,2,.int c.hi,rfl,rfl,a2,z03 (j:=2) rfl,_,_,rfl,rfl,_,rfl,iteP (decide_eq_true (by omega)) ?_⟩)⟩)⟩⟩;have fp:FstP onP N z c:=⟨b3,a8,B,λ y Y f a1 ky=>by
    obtain ⟨m,L⟩:=List.mem_iff_getElem?.mp f;rcases U2 m k with t|t|t
    ·exact absurd ky (nb m y t L Y a1)
    ·subst t;rw [M] at L;cases L;refine .inr ⟨rfl,?_⟩;obtain ⟨J,F⟩:=List.mem_iff_getElem?.mp a1;have c8:=ky.2.2.1;rcases U2 J (m + 1 + j) with t|t|t
     ·exfalso;rcases Nat.lt_or_ge m J with u|u
      ·exact nj (J - (m + 1)) Y (by omega) (by rw [show m + 1 + (J - (m + 1))=J by omega];exact F) ky
      ·rcases Nat.lt_or_eq_of_le u with u|u
       ·have:=pw_lo pw F M u;omega
       ·subst u;rw [M] at F;cases F;omega
     ·rw [t,I] at F;cases F;exact S8 _
     ·exact Z9 (pw_lo pw I F t)
    ·exact .inl (pw_lo pw M L t)⟩
   refine ⟨_,rfl,_,rfl,.inl ⟨D,O,k,.ref p,rfl,rfl,a5,z03 U,.inr (.inl ⟨p,_,0,.int z.x,rfl,rfl,X,z03 (j:=0) rfl,_,rfl,.inr (.inl ⟨p',_,0,.int c.x,rfl,rfl,a2,z03 (j:=0) rfl,w_3,λ t ht=>?_⟩)⟩)⟩⟩;exact b5 (.pr true z.x c.x) (.ref t) _ (u6.trans (Same.upd ht)) ⟨z,c,fp,rfl,rfl⟩ ⟨t,rfl,z01⟩
  rintro σ H5 ⟨s5,nb,x5,x6,x7,rfl⟩;have b9:NoP onP N:=λ y Y f a1 k=>by obtain ⟨m,L⟩:=List.mem_iff_getElem?.mp f;exact nb m y (by rw [lo];exact z0s L) L Y a1 k
  refine nx_to3 ?_;have a7:=SqL.of (K:=KX w.params) (s5 _ _ eD);refine ⟨_,rfl,D,rfl,⟨_,a7⟩,?_⟩;refine z0z (K:=KX w.params) (a:=D) (xs:=O) (λ i σ C=>C=H5/\(∀(m:Nat) (z:Zt),m < i->N[m]? = some z->∀c∈N,¬ inP z c)/\∃x6 x7,σ=[some (.ref S),some (.ref d),x2,x3,some (.ref D),x5,x6,x7]) ⟨rfl,λ m z h=>absurd h (B3 _),_,_,rfl⟩ (λ _ σ C _ h=>by rw [h.1];exact a7) ?_ ?_;rotate_left
  ·rintro σ H6 ⟨rfl,nz,x6,x7,rfl⟩;have d2:NoP inP N:=λ y Y f a1 k=>by obtain ⟨m,L⟩:=List.mem_iff_getElem?.mp f;exact nz m y (by rw [lo];exact z0s L) L Y a1 k
   exact b5 .non .non _ s5 ⟨b9,d2⟩ rfl
  rintro i v σ H6 U ⟨rfl,nz,x6,x7,rfl⟩;obtain ⟨z,M,p,rfl,ep⟩:=z08 az U;have b3:=d0 M;refine g_name ?_;refine ⟨_,rfl,D,rfl,⟨_,a7⟩,?_⟩;refine z0z (K:=KX w.params) (a:=D) (xs:=O) (λ j σ C=>C=H6/\(∀(G:Nat) (c:Zt),G < j->N[G]? = some c->¬ inP z c)/\∃x6,σ=[some (.ref S),some (.ref d),x2,x3,some (.ref D),x5,x6,some (.ref p)]) ⟨rfl,λ G c h=>absurd h (B3 _),_,rfl⟩ (λ _ σ C _ h=>by rw [h.1];exact a7) ?_ ?_;rotate_left
  ·rintro σ H7 ⟨rfl,nj,x6,rfl⟩;refine ⟨rfl,λ m y h f c I B=>?_,_,_,rfl⟩;rcases Nat.lt_succ_iff_lt_or_eq.mp h with h|rfl
   ·exact nz m y h f c I B
   ·rw [M] at f;cases f;obtain ⟨J,F⟩:=List.mem_iff_getElem?.mp I;exact nj J c (by rw [lo];exact z0s F) F B
  rintro j v' σ H7 b0 ⟨rfl,nj,x6,rfl⟩;obtain ⟨c,I,p',rfl,b2⟩:=z08 az b0;have a8:=d0 I;have X:=SqT.of (K:=KX w.params) (s5 _ _ ep);have a2:=SqT.of (K:=KX w.params) (s5 _ _ b2);have next:¬ inP z c->∀(G:Nat) (y:Zt),G < j + 1->N[G]? = some y->¬ inP z y:=λ b6 G y h f=>by
   rcases Nat.lt_succ_iff_lt_or_eq.mp h with h|rfl
   ·exact nj G y h f
   ·rw [I] at f;cases f;exact b6
  refine g_name ?_;refine z0p (t_and ⟨_,rfl,.inr (.inl ⟨p,_,3,.str (onS z.on),rfl,rfl,X,z03 (j:=3) rfl,rfl,_,rfl,?_⟩)⟩);refine ite2 (λ c1=>t_and ?_) λ c1=>iteF ⟨rfl,next (λ B=>c1 (by rw [B.1];decide +kernel)),_,rfl⟩;refine ⟨_,rfl,.inr (.inl ⟨p',_,3,.str (onS c.on),rfl,rfl,a2,z03 (j:=3) rfl,rfl,_,rfl,?_⟩)⟩;refine ite2 (λ c2=>t_and ?_) λ c2=>iteF ⟨rfl,next (λ B=>c2 (by rw [B.2.1];decide +kernel)),_,rfl⟩;refine ⟨_,rfl,.inr (.inl ⟨p',_,1,.int c.lo,rfl,rfl,a2,z03 (j:=1) rfl,_,rfl,.inr (.inl ⟨p,_,1,.int z.lo,rfl,rfl,X,z03 (j:=1) rfl,_,_,rfl,rfl,_,rfl,?_⟩)⟩)⟩;refine ite2 (λ c3=>?_) λ c3=>iteF ⟨rfl,next (λ B=>c3 (decide_eq_true B.2.2.1)),_,rfl⟩;refine ⟨_,rfl,.inr (.inl ⟨p,_,2,.int z.hi,rfl,rfl,X,z03 (j:=2) rfl,_,rfl,.inr (.inl ⟨p',_,2,.int c.hi,rfl,rfl,a2,z03 (j:=2) rfl,_,_,rfl,rfl,_,rfl,?_⟩)⟩)⟩;refine ite2 (λ c4=>?_) λ c4=>⟨rfl,next (λ B=>c4 (decide_eq_true B.2.2.2)),_,rfl⟩
  have o1:z.on=false:=by have:=(on_eq z.on false).symm.trans c1;exact beq_iff_eq.mp this
  have o2:c.on=true:=by have:=(on_eq c.on true).symm.trans c2;exact beq_iff_eq.mp this
  have B:inP z c:=⟨o1,o2,of_decide_eq_true c3,of_decide_eq_true c4⟩
  have fp:FstP inP N z c:=⟨b3,a8,B,λ y Y f a1 ky=>by
   obtain ⟨m,L⟩:=List.mem_iff_getElem?.mp f;rcases U2 m i with t|t|t
   ·exact absurd ky (nz m y t L Y a1)
   ·subst t;rw [M] at L;cases L;refine .inr ⟨rfl,?_⟩;obtain ⟨J,F⟩:=List.mem_iff_getElem?.mp a1;rcases U2 J j with t|t|t
    ·exact absurd ky (nj J Y t F)
    ·subst t;rw [I] at F;cases F;exact S8 _
    ·exact Z9 (pw_lo pw I F t)
   ·exact .inl (pw_lo pw M L t)⟩
  refine ⟨_,rfl,.inr (.inl ⟨p,_,0,.int z.x,rfl,rfl,X,z03 (j:=0) rfl,_,rfl,.inr (.inl ⟨p',_,0,.int c.x,rfl,rfl,a2,z03 (j:=0) rfl,w_3,λ t ht=>?_⟩)⟩)⟩;exact b5 (.pr false z.x c.x) (.ref t) _ (s5.trans (Same.upd ht)) ⟨b9,z,c,fp,rfl,rfl⟩ ⟨t,rfl,z01⟩
section
variable {X:Cx}
noncomputable def rEqD:R2:=λ x y H Q=>∃ds,HPd H (.tuple ds) x/\HPd H (.tuple ds) y/\K3 ds<=49/\Q (.bl true) H
theorem op_eqD {k:Nat} (hr:Room k X.A):OpR X (N2 .Eq) rEqD:=by
 intro P s σ H x y u v Q I G J h;obtain ⟨l,D,t,M,q⟩:=h;have O:=hr.units;obtain ⟨a,F,rfl,E,c⟩:=D;obtain ⟨b,o,rfl,B,m⟩:=t;cases (show u=.ref a from G);cases (show v=.ref b from J);obtain ⟨g,f,r,_⟩:=I.tuple (SqT.of E);obtain ⟨i,d,n,_⟩:=I.tuple (SqT.of B);have K:=f.length;have R:=d.length;have L:=c.length;have N:=m.length;have z:SeqAt.RcAt X.A s (.ref a) (.ref b) true:=by
  have:=D9 (A:=X.A) (e:=λ _=>true) r n (by omega) (λ j C p=>?_)
  ·rw [zat,i5] at this
   rwa [show (g.toArray.size == i.toArray.size)=true by simp;omega] at this
  ·have:=z4z I l X.A.in1 F o g i c m f d (show X.A.units + 1 + K3 l + 1 < cLine by omega) j (by simpa using C) (by simpa using p);simpa using this
 exact z X.prog X.w _ _ ⟨.bl _,H,I,rfl,q⟩
noncomputable def rEqO:R2:=λ x y H Q=>∃o,OcV H o x/\OcV H o y/\Q (.bl true) H
theorem op_eqO {k:Nat} (hr:Room k X.A):OpR X (N2 .Eq) rEqO:=by
 intro e s σ H x y u v Q I l c h;obtain ⟨o,f,d,q⟩:=h;cases o with
 | non=>cases (show x=.non from f);cases (show y=.non from d);exact op_eq e s σ H _ _ u v Q I l c ⟨rfl,q⟩
 | lost n=>obtain ⟨p,rfl,i⟩:=f;obtain ⟨g,rfl,j⟩:=d;exact op_eqD hr e s σ H _ _ u v Q I l c ⟨[.str "lost",.int (n:Nat)],⟨p,_,rfl,i,_,_,rfl,rfl,_,_,rfl,rfl,rfl⟩,⟨g,_,rfl,j,_,_,rfl,rfl,_,_,rfl,rfl,rfl⟩,by simp [PyData.depth,K3],q⟩
 | pr k a b=>obtain ⟨p,rfl,i⟩:=f;obtain ⟨g,rfl,j⟩:=d;exact op_eqD hr e s σ H _ _ u v Q I l c ⟨[.str (onS k),.int a,.int b],⟨p,_,rfl,i,_,_,rfl,rfl,_,_,rfl,rfl,_,_,rfl,rfl,rfl⟩,⟨g,_,rfl,j,_,_,rfl,rfl,_,_,rfl,rfl,_,_,rfl,rfl,rfl⟩,by simp [PyData.depth,K3],q⟩
end
theorem zfe (ns:List Int) (a b:Option Int) :∃ms:List Int,cutV (ns.map V.int) a b=ms.map V.int/\ms.length<=ns.length:=by
 refine ⟨(ns.drop (HT.sIx (ns.map V.int).length 0 a)).take (HT.sIx (ns.map V.int).length (ns.map V.int).length b - HT.sIx (ns.map V.int).length 0 a),?_,?_⟩
 ·unfold cutV;rw [List.map_take,List.map_drop]
 ·rw [i3,W4];omega
theorem cut_60 (xs:List V):(cutV xs (some 1) (some 61)).length<=60:=by have a:HT.sIx xs.length 0 (some 1)=min 1 xs.length:=HT.sIx_nat xs.length 0 1;have b:HT.sIx xs.length xs.length (some 61)=min 61 xs.length:=HT.sIx_nat xs.length xs.length 61;unfold cutV;rw [a,b,i3,W4];omega
theorem RwsA.sb {H H':Hp} {lr:Addr} {rs:List Rc} {zs:List V} (s:SameB tbT H H') (h :∃ps,H tbT=some (.tbl ps)) (r:RwsA H lr rs zs):RwsA H' lr rs zs:=by obtain ⟨ps,z⟩:=h;have k :∀{b:Addr} {xs:List V},H b=some (.lst xs)->H' b=some (.lst xs):=λ e=>s _ _ (λ q=>by rw [q,z] at e;cases e) e;exact ⟨k r.l,z02 (λ _ _ z=>by obtain ⟨p,i,c,d,f⟩:=z;exact ⟨p,i,c,k d,f⟩) r.a,r.g,r.x,r.n⟩
def sp_law (K:c0):Sp:=λ vs H Q _=>∃(sc:Addr) (ns:List Int),vs=[.ref sc]/\SqL K H sc (ns.map V.int)/\ns.length<=63/\H tbT=some (.tbl #[])/\∀H',Q (.bl true) H'
theorem ok_law (T:TX (kx w) mg) (c0:Ca P w mg base "_law_cell_at" ["script","k"] 1 (z1t (kx w))) (c1:Ca P w mg base "_law_made" ["cells","most","spoilt"] 8 (z39 (kx w))) (c2:Ca P w mg base "collision" ["tale"] 7 (z3v (kx w))) (c3:Ca P w mg base "_law_due" ["rows"] 5 (z4a (kx w))):Fo P w mg base CX0 9 378 fd_law ["script"] (sp_law (kx w)):=by
 refine (F_law w.params).ok sc_law (λ I H Q E h=>?_) (λ a1 A a3 s H I Q E c h=>?_)
 ·obtain ⟨m,f,rfl,_⟩:=h;rfl
 ·obtain ⟨m,f,rfl,x,hn,K,q⟩:=h;refine ⟨_,(z06 (ps_asg (pe_cal c1 (c.mono (by decide)) rfl (z00 (z2c slSeq (pv 0) (z34 pe_int) (z34 pe_int)) (z00 pe_int (z00 (z13 op_gt (pe_op op_mod (pe_cal c0 (c.mono (by decide)) rfl (z00 (pv 0) (z00 pe_int pa_nil))) pe_int) pe_int (nomark _)) pa_nil)))) (pg_tup rfl (z0l (z0m (i:=1) sc_law.nd rfl (C1 rfl)) (z0l (z0m (i:=2) sc_law.nd rfl (C1 rfl)) z2a))))
   (z06 (ps_set (i:=3) sc_law.nd rfl (C1 rfl) (pe_cal c2 (c.mono (by decide)) rfl (z00 (pv 1) pa_nil)))
   (z05 (ps_ret (pe_and (z13 (op_eqO c) (pv 3) (pe_cal c3 (c.mono (by decide)) rfl (z00 (pv 2) pa_nil)) (nomark _)) (pe_one (pe_or (z13 op_isN (pv 3) pe_non (nomark _)) (pe_one (z0a z0j rfl (T.no (z0h _)) D3 (z00 (pv 3) (z00 (z1h (v:=.ty "tuple") rfl (T.no (z8j _)) S9 rfl) pa_nil))))))))))),?_⟩
  have J:LamH H:=.inl K;refine z0c ⟨_,rfl,1,rfl,61,rfl,.inl ⟨m,_,rfl,x,λ F R=>?_⟩⟩;obtain ⟨C,O,_⟩:=zfe f (some 1) (some 61);have j:=cut_60 (f.map V.int);rw [O] at j⊢;rw [C0] at j;obtain ⟨H1,Y,u,d⟩:=newA (.lst (C.map V.int)) R;rw [<-Y];refine ⟨_,rfl,m,f,0,rfl,u.seq x,λ z=>⟨_,_,rfl,rfl,(show (0:Int) < 3 by decide),_,_,rfl,rfl,F,_,C,rfl,SqL.of d,j,λ tt Z U M g G H2 s2 a0 l ra=>?_⟩⟩;refine ⟨tt,_,rfl,SqT.of a0,rfl,_,_,rfl,_,_,rfl,rfl,?_⟩;have nd:=l.tw.nd;have n0:=l.tw.n0;have B:=PosI.all g PosI.nil;have y:=LamH.same (u.trans s2) J;refine z0c ⟨_,rfl,Z,"r",0,g,G,rfl,l,y,λ o v H3 sb a2 X D=>g_name ?_⟩;have W:=ra.sb sb y.tb;refine ⟨_,rfl,_,rfl,U,dAll 0 [] g,M,_,rfl,W,B,nd,n0,λ o' v' H4 S N L=>?_⟩;cases zgh B nd n0 X N;have t:=OcV.tp (λ a xs e=>S _ _ e) D;refine ⟨o,t,L,_,rfl,iteP rfl ?_⟩;refine ⟨_,rfl,rfl,?_⟩
  match o,t with
  | .non,e=>cases (show v=.non from e);exact ⟨_,rfl,iteP rfl (q _)⟩
  | .lost n,⟨p,d,e2⟩=>cases d;exact ⟨_,rfl,iteN (λ z=>M0 z) ⟨_,rfl,_,_,"tuple",rfl,.inr (.inl ⟨⟨_,e2⟩,rfl⟩),by decide,q _⟩⟩
  | .pr k a b,⟨p,d,e2⟩=>cases d;exact ⟨_,rfl,iteN (λ z=>M0 z) ⟨_,rfl,_,_,"tuple",rfl,.inr (.inl ⟨⟨_,e2⟩,rfl⟩),by decide,q _⟩⟩
end
theorem ky_in {w:O0} {h:Heap} (Y:(KY w.params).In h):(kx w).In h/\h.get? tbT=some (c7 #[]):=by
 have n0:K8 tbT (kx w)=none:=by kernel_rfl
 refine ⟨λ b o e=>Y b o ?_,Y tbT _ ?_⟩
 ·have e:K8 b (kx w)=some o:=e;show K8 b ((tbT,_) :: KX w.params)=some o;rw [R3,beq_eq_false_iff_ne.mpr λ z=>by rw [z,n0] at e;cases e];exact e
 ·show K8 tbT ((tbT,_) :: KX w.params)=some _;rw [R3,beq_self_eq_true]
theorem all_law {P:Program} {w:O0} {mg:Str->Option Value} {base:Heap} (T:TX (kx w) mg) (B:BtMain base mg):Fo P w mg base CX0 9 378 fd_law ["script"] (sp_law (kx w)):=by have m:=@cal_mk P w (kx w) mg base;have c:=m T (z3b _) (zc7 _) (zaf _) (z8z T );have i:=m T (z2o _) (z9s _) (z9l _) (z7c T c);have z:=m T (z3h _) (zam _) (zc4 _) (z9k T i);have a:=m T (z1f _) (z6v _) (z62 _) (z5k T );have h:=m T (z53 _) (ze1 _) (zd6 _) (zb3 T );have l:=m T (z56 _) (zdo _) (zdy _) (zbk T h z a);have k:=m T (zc1 _) (zgk _) (zg1 _) (zfb T );have e:=m T (z54 _) (zdg _) (zcv _) (za9 T );have N:=m T (z3s _) (zc6 _) (zan _) (z9m T a e h);have E:=m T (z1e _) (z65 _) (z6m _) (z5r T N);have D:=m T (z52 _) (zde _) (zd2 _) (zbs T c);have g:=m T (z3n _) (zag _) (zaq _) (z9f T a D);have o:=m T (z2f _) (z92 _) (z9b _) (z7e T i);have s:=m T (z3a _) (zb2 _) (zaz _) (z9i T g e l);have F:=m T (z7p _) (zek _) (zey _) (zcq T g o);have p:=m T (z1d _) (z6p _) (z6n _) (z4s T );have v:=m T (z1g _) (z5z _) (z6h _) (z5i T s F p);have G:=m T (z2j _) (z8y _) (z90 _) (z77 T E v);have q:=m T (z1l _) (z6i _) (z64 _) (z5h T c);have u:=m T (z2h _) (z9o _) (z9u _) (z78 T q);have d:=m T (z1i _) (z6z _) (z67 _) (z4w T k u);have f:=m T (z4x _) (zct _) (zd5 _) (zbp T );have j:=m T (z1j _) (z5u _) (z60 _) (z5s T );have t:=m T (z4o _) (zdk _) (zd8 _) (zaj T );have H:=m T (zbj _) (zg3 _) (zgi _) (zfk T B d f j t);have O:=m T (z19 _) (z4t _) (z5l _) (z42 T );have y:=m T (z3j _) (zaw _) (za4 _) (z9t T );have b:=m T (z2n _) (z9h _) (z9v _) (z7l T );have M:=m T (z1k _) (z5y _) (z6s _) (z4q T b);have n:=m T (z0y _) (z3q _) (z33 _) (z2w T b);have K:=m T (z2l _) (z9c _) (z91 _) (z76 T y b M n G);have A:=m T (z3w _) (zap _) (zbm _) (z9a T );have r:=m T (z1u _) (z7q _) (z7v _) (z6d T A);have C:=m T (z5q _) (zdd _) (zco _) (z9x T );have x:=m T (z4r _) (zcp _) (zdb _) (zce T );have L:=m T (z1z _) (z71 _) (z74 _) (z6c T x C);have I:=m T (z2d _) (z94 _) (z8x _) (z7g T d f j H L);have J:=m T (z3o _) (za0 _) (zbd _) (z9d T r);exact ok_law T O K I J
end K14
open PySem PySem.W PyProof.Rows
set_option maxRecDepth 100000 in
set_option maxHeartbeats 0 in
theorem PySem.Challenge.cw_talejudge_k14_collisions_told_holds : PySem.Challenge.rw_talejudge_k14_collisions_told.Holds := by
 w_on;o_law
 refine holds_open (q:=K14.viewX) (loose:=K14.looseX) (Xt:=K14.XtX) (XP:=XL K14.viewX []) (Yf:=Hook.obs K14.HX) (Ya:=Hook.val K14.HX) (YP:=Hook.says K14.HX) (N:=200000) K14.leftX (Hook.of K14.HX) (Hook.keeps K14.HX) (λ s e=>xl_of s (Bool.and_eq_true_iff.mp e).1) XL.keeps (by rfl) (by rfl) (by rfl) (λ s e=>recFacts_of (Bool.and_eq_true_iff.mp e).2) (by rfl) (by assumption) (by decide +kernel) ⟨rfl,rfl,rfl,rfl,rfl,by decide +kernel⟩ ?hw ?hc
 case hw=>w_witness2
 case hc=>
  refine L2.walk_ofT (T:=K14.tbT) (c:=K14.cdT) (l:=PySem.Challenge.rw_talejudge_k14_collisions_told) (n:=63) (k:=9) (x:="script") (K:=K14.KX) (CX:=λ _=>L2.CX0) (sp:=λ w=>K14.sp_law (K14.KX w.params)) rfl (by decide) rfl ⟨rfl,by decide,by decide,rfl⟩ (λ w h Y=>K14.ky_in (PySem.W.kIn_of Y)) (λ P=>by kernel_rfl) K14.ck_T ?F ?S ?C
  case F=>intro w t r h KX G g;have T:=L2.TX.mk' KX G;have j:=g.symm.trans (T.of (K14.g_law _));cases j;exact ⟨K14.fd_law,λ s u=>.of_eq rfl,λ m o p B=>K14.all_law T B⟩
  case S=>exact λ w H a b f i d=>⟨a,b,rfl,d,f,i,λ _=>rfl⟩
  case C=>exact λ _ _ _ _ _ z=>z
