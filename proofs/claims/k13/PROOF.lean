import PyProof.Rows.All
import Wide.All
import OpenK.AllK
import Wide.FinOn
import Lean
import PyProof.EqAt
import PyProof.EqKinds
import PyProof.TupleCall
import Open.Tops
import KE.KIntText
import PyProof.ZipIter
import PyProof.ReprRoads
import PyProof.Draws
import KE.KDictSum
import KE.KSortedM
import OpenK.KRaise
import OpenK.KOwn
import PyProof.ExcBaseAll.ValueError
import KE.KTryMore
import PyProof.NsDelKeeps
import KE.KDictOf
import KE.KEqDict
import PyProof.DictWalks
import PyProof.TupleKey
import PyProof.MinMaxWalk
import KE.KSortTup
import PyProof.StrWalks
import KE.KRevIter
import KE.KListMore
import PyProof.StrLawsTight
import PyProof.StrLawsChain
import KE.KSortKey
import KE.KLam
import PyProof.DictItems
import PySem.Challenge.RW_talejudge_k13_zones_told
open PySem.PyData renaming keyHash->b0,depthAll->F2
open PySem.W renaming Frag->c0,kia_one->Z2,nsIn->F3,keepIn->X3,kla_obj->T4,fnOf->Z4,findIn->P5,cellsFrom_some->A6,tabObj->R6,codeIn->S6,CodeHd->T6,methodObj->M7,instObj->a8,lookIn->p8,specialIn->T9,kitx_list->U9,kitx_dict->V9
open PySem.Builtin.Tuple renaming tupleHashOf->d0,tupleExact->A4
open PySem renaming wpAny_bind->o0,Shared->y0,wpAny_pure->C0,World->P0,wpAny->Q0,Params->T0,reduceHash->X0,model->Y0,starEach->D1,mainGlobals->P1,Around->W1,wpAny_holding->E2,compareOp->G2,OsState->T2,wpAny_truthy_bool->c3,treeTable->i3,wpAny_Call_Name_kw->n3,wpAny_mono->B3,eval->P3,boot_len->Q3,strKind->W3,codeAny_builtin->Y3,wpAny_newObj_type->Z3,bootBuiltins->a4,sysModules->c4,wpAny_pyIter_tuple->v4,codeAny_mono->w4,backTo->y4,rawInt->L4,intKind->N4,foldedSetIterable->O4,mem_of_lookup->R4,binaryOp->U4,attributeBase->c5,codeAny->i5,tupleKind_room_in1->w5,tupleKind->A5,sizeLine_eq->B5,eqIsQuiet->C5,wpAny_pyIter_list->G5,placesWithHash->J5,NameKind->L5,wpAny_field->S5,sliceBounds->T5,callSpecialIfBoundUnlessNone?->U5,wpAny_passesOwn->c6,importedModules->g6,SetTable->z6,wpAny_pyIter_enum->J6,relabel->K6,Builtin->O6,behindInMarks->Q6,Paired->U6,wpAny_call_entry->g7,wpAny_callSpecial?_slot->i7,Fin->m7,wpAny_pyNext_list_item->y7,strKind_is->z7,assignEach->A7,Keyword->E7,letOwnedTupleGo->F7,wpAny_pyNext_list_end->L7,codeAny_call_builtin->S7,valueAt->U7,swapsWith->V7,getItem->W7,wpAny_newList->d8,atKey->e8,wpAny_rule->k8,wpAny_call->m8,pyNext->n8,builtinsNs->o8,IsPart->A8,wpAny_typeOf->G8,callerA->J8,call_meetsIn->K8,wpAny_of_eq->b9,subscripted->c9,keywordEach->f9,wpAny_execs_nil->p9,spliced->r9,holding->t9,wpAny_seqItems->D9,wpAny_newFunctionEnv_cells->E9,wpAny_letOwnedTupleGo_enum->F9,relayAll->G9,closureFor->J9,Thread->N9,evalArgs_none->S9
open PySem.Heap renaming get?_push_of_some->v0,lt_size->F0,get?_push_size->I0,size_push->S3,DictOf->a5,SameBut->R5,SetOf->Z5,get?_update_other->M6,get?_update_self->f7
open List renaming mem_of_getElem?->x0,not_mem_nil->B0,length_map->D0,size_toArray->J0,length_append->L0,getElem?_eq_getElem->M0,mem_append_right->N0,getElem?_map->S0,map_cons->W0,length_filter_le->Z0,length_cons->v1,getElem?_cons_succ->B1,forall_mem_cons->J1,getElem?_cons_zero->Q1,filter_cons_of_pos->R1,filter_cons_of_neg->U1,mem_cons_self->V1,range->Z1,getElem?_modify->B2,filter_append->C2,map_append->N2,append_nil->O2,mem_cons_of_mem->P2,replicate->U2,getElem?_append_right->V2,getElem?_append_left->Y2,map_map->g3,length_take->j3,mem_cons->A3,length_replicate->D3,take_length->K3,lookup_cons->L3,getElem?_eq_none->T3,find?_cons->U3,length_nil->n4,mem_append_left->J4,filter_nil->W4,length_modify->Y4,pairwise_map->j5,length_range->k5,ext_getElem?->m5,drop_zero->n5,getElem_map->E5,filter_cons->F5,of_mem_zip->O5,zip_nil_right->X5,take_succ->Y5,drop_eq_getElem_cons->m6,filterMap_cons_some->r6,any_cons->w6,length_drop->B6,getElem_mem->C6,getElem?_replicate->D6,map_nil->L6,length_singleton->c7,map_congr_left->J7,filterMap_cons->K7,foldl_append->X7,cons_ne_nil->g8,lookup->z8,range_succ->C8,forIn_cons->D8,foldl_cons->E8,dropLast_concat_getLast->F8,forIn_nil->X8,filterMap_cons_none->n9,take_of_length_le->y9,pairwise_lt_range->z9,getElem?_set_self->A9,getElem?_set_ne->X9,getElem?_append->Y9
open Nat renaming le_refl->A0,le_trans->G0,ne_of_lt->O0,lt_of_lt_of_le->U0,lt_succ_of_lt->i1,lt_of_le_of_lt->F1,zero_le->L1,ne_of_gt->X1,lt_succ_self->A2,lt_irrefl->X2,zero_add->z5,le_succ->N5,lt_trans->V5,le_of_lt->V6,le_of_eq->W6,mul_le_mul_right->D7,le_of_not_lt->t8,le_add_right->y8,not_lt_zero->P8,min_self->O9,lt_of_succ_lt_succ->P9
open Bool renaming false_ne_true->R0,and_eq_true_iff->K4,and_eq_true->P4,false_eq_true->a6,true_and->y6,false_and->o7,and_false->p7,or_false->Q7,not_eq_true->j8
open Array renaming length_toList->V0,getElem?_eq_getElem->Q4,getElem?_eq_none->d5,mem_of_getElem?->C9
open Option.some renaming inj->A1
open PySem.Value renaming ref->C1,type->F4,none->V4,int->D5,isStrOf->o6,str->Y7,bool->L8,isInt->M9
open PySem.Obj renaming mapSeq->E1,mapDictKeys->a7,putSet->T7
open Or renaming inr->G1,inl->N1
open PySem.NameKind renaming free->O1
open PySem.SetTable renaming below->Y1,grown->p4,insertAt->G7,advance->R9
open PyProof.Rows renaming seqObj->Q2,boot_isinstance->m3,IntsAre->C3,callWith_type1->O3,callWith_builtin1->X4,listUpdate_at->Q5,get?_update_seq->i6,AllBare->P6,slot_tuple_getitem->j7,envOfC->R7,arrOf->f8,seqEpoch_at->d9,boot_str->K9,boot_all->L9
open PySem.Heap.SameBut renaming update->W2
open Ne renaming symm->y3
open Pure renaming pure->E3,pure->q9
open PySem.Calls renaming spliced_cons->G3,spliced_nil->V3,callWith_builtin->j4,evalArgs_plain->k7,Name_function_global->R8
open PySem.Str renaming ofString->M3
open ForInStep renaming yield->N3
open False renaming elim->R3
open PySem.PassesOwn renaming never->g4
open PySem.Builtin.SmallTypes renaming nextOf->i4,ownedTupleFields->k4
open PySem.Builtin.Slice renaming slicePlaces->o4,sliceAdjust->M5,sliceApplied->P7
open Sum.inl renaming inj->z4
open PySem.W.Fast renaming tw16697807410369149715->B4,tw13926502685295537346->C4,tw13383273872528276517->D4,te14364793385576792824->E4,tw4214721358667687652->G4,tw14364793385576792824->E6
open PySem.SeqAt.EqAt renaming same->M4,of_refs->Z6,str_str->g9,str_int->i9,int_str->j9,int_int->l9
open PySem.F renaming slot_tuple_iterator_next->S4,plainAttrs_dict->p6,slot_dict_get->F6,args_tuple_add_2->O8,slot_dict_items->T8,plainAttrs_list->U8,entry_tuple_add->V8,args_dict_get_3->W8,slot_tuple_add->Y8,entry_dict_get->Z8,args_tuple_iterator_next_1->a9,slot_dict_pop->m9,entry_tuple_iterator_next->o9
open PyProof.Rows.F renaming entry_set_update_loop->o5
open PySem.SetTable.below renaming go->K5
open PySem.Builtin.Str renaming occurrences->W5
open Option renaming isSome_map->j6,map_some->G6
open Int renaming emod_lt_of_pos->k6,emod_nonneg->d7,toNat_of_nonneg->O7,toNat_natCast->b8,le_antisymm->Q8
open PySem.Code renaming builtin->N6
open List.Pairwise renaming nil->X6
open PySem.Builtin.Frozenset renaming updateFrom->Y6
open PySem.Shared renaming TypeIs->B7
open PySem.Paired renaming length->C7
open PUnit renaming unit->N7
open Sum renaming inr->Z7
open PySem.Builtin.Dict renaming updateFrom->c8,pairItems->i8
open PyProof.Rows.SortSt renaming mk'->B8
open PySem.SetTable.probe renaming go->M8
open PySem.SeqAt renaming EqAt->N8
open PySem.SeqAt.RcNeAt renaming lists->S8
open PySem.SeqAt.RcAt renaming lists->w9
open PySem.Heap.DictOf renaming new->B9
open Array.Perm renaming refl->Q9
open Prod renaming fst->W9
open PySem.Data renaming fields->Z9
open PySem.Around renaming under_plain->j00
set_option maxRecDepth 100000
set_option maxHeartbeats 0
namespace PySem.W.Fast
noncomputable def tw11192420428179031831:=0
noncomputable def tw18081643253914757508:=0
noncomputable def tw1026680651324483420:=0
noncomputable def tw11951047234920244049:=0
noncomputable def tw1348255341497426430:=0
noncomputable def tw7183892029636565015:=0
noncomputable def tw10085550511800289062:=0
noncomputable def tw5385404086457892873:=0
noncomputable def tw9910837050017193519:=0
noncomputable def tw7330862521983238400:=0
noncomputable def tw9642579794920455699:=0
noncomputable def tw17475581003037970361:=0
noncomputable def tw12489506107592031687:=0
noncomputable def tw14337424727183434412:=0
noncomputable def tw8030557510765373803:=0
end PySem.W.Fast
namespace K13
open_shared pre for PySem.Challenge.pw_talejudge_k13_zones_told leaving 39
end K13
set_option maxHeartbeats 200000
-- CHANGE: your row's module here,as the last of these rows
set_option Elab.async false
set_option linter.all false
namespace L2
open PySem PySem.Spec PyProof.Rows
noncomputable abbrev Key:=Sum Int Str
noncomputable def keyIs:Key->Value->Bool
 | .inl k,v=>M9 k v
 | .inr x,v=>o6 x v
noncomputable def keyH (w:P0):Key->Int
 | .inl k=>hashInt k
 | .inr x=>hashStr w x
theorem z0j :∀{k:Key} {v:Value},keyIs k v=true->(∃i t,k=Sum.inl i/\v=D5 i t)\/(∃x t,k=Z7 x/\v=Y7 x t)
 | .inl i,v,h=>by obtain ⟨t,e⟩:=Value.isInt_shape (k:=i) (v:=v) h;exact .inl ⟨i,t,rfl,e⟩
 | .inr x,v,h=>by obtain ⟨t,e⟩:=Value.isStrOf_shape (x:=x) (v:=v) h;exact .inr ⟨x,t,rfl,e⟩
theorem zbk (i:Int) (t:Tok):keyIs (.inl i) (.int i t)=true:=by simp [keyIs,M9]
theorem zci (x:Str) (t:Tok):keyIs (.inr x) (.str x t)=true:=by simp [keyIs,o6]
theorem key_ll (a b:Int):decide ((Sum.inl a:Key)=Sum.inl b)=(a == b):=by
 by_cases e:a=b
 ·subst e;simp
 ·have h:¬ (Sum.inl a:Key)=Sum.inl b:=λ q=>e (z4 q);rw [decide_eq_false h];exact (beq_eq_false_iff_ne.mpr e).symm
theorem key_rr (a b:Str):decide ((Z7 a:Key)=Z7 b)=decide (a=b):=by
 by_cases e:a=b
 ·subst e;simp
 ·have h:¬ (Z7 a:Key)=Z7 b:=λ q=>e (Sum.inr.inj q);rw [decide_eq_false h,decide_eq_false e]
theorem key_lr (a:Int) (b:Str):decide ((Sum.inl a:Key)=Z7 b)=false:=decide_eq_false (λ q=>nomatch q)
theorem key_rl (a:Str) (b:Int):decide ((Z7 a:Key)=Sum.inl b)=false:=decide_eq_false (λ q=>nomatch q)
noncomputable def z0f (prog:Program) (w:P0):PySem.KeyKind prog w Key where
 is:=keyIs
 hash:=keyH w
 inj:=λ v a b ha hb=>by
  rcases z0j ha with ⟨i,t,rfl,rfl⟩|⟨x,t,rfl,rfl⟩
  ·rcases z0j hb with ⟨j,u,rfl,e⟩|⟨y,u,rfl,e⟩
   ·injection e with e1 _;rw [e1]
   ·exact nomatch e
  ·rcases z0j hb with ⟨j,u,rfl,e⟩|⟨y,u,rfl,e⟩
   ·exact nomatch e
   ·injection e with e1 _;rw [e1]
 byValue:=λ k v h=>by rcases z0j h with ⟨i,t,rfl,rfl⟩|⟨x,t,rfl,rfl⟩<;>rfl
 pyHash:=λ hv h=>by
  rcases z0j hv with ⟨i,t,rfl,rfl⟩|⟨x,t,rfl,rfl⟩
  ·exact wpAny_pyHash_int h
  ·exact wpAny_pyHash_str h
 eqBool:=λ hu hv h=>by
  rcases z0j hu with ⟨i,t,rfl,rfl⟩|⟨x,t,rfl,rfl⟩
  ·rcases z0j hv with ⟨j,u,rfl,rfl⟩|⟨y,u,rfl,rfl⟩
   ·rw [key_ll] at h;exact wpAny_eqBool_int h
   ·rw [key_lr] at h;exact j9 i t y u _ _ _ _ h
  ·rcases z0j hv with ⟨j,u,rfl,rfl⟩|⟨y,u,rfl,rfl⟩
   ·rw [key_rl] at h;exact i9 x t j u _ _ _ _ h
   ·rw [key_rr] at h;exact wpAny_eqBool_str h
 «strs»:=λ k x t v h=>by
  rcases z0j h with ⟨i,u,rfl,e⟩|⟨y,u,rfl,e⟩
  ·exact nomatch e
  ·injection e with e1 _;subst e1;cases v<;>rfl
theorem z8o (prog:Program) (w:P0) (i:Int) (t:Tok):(z0f prog w).is (.inl i) (.int i t)=true:=zbk i t
theorem z8b (prog:Program) (w:P0) (x:Str) (t:Tok):(z0f prog w).is (.inr x) (.str x t)=true:=zci x t
inductive V where
 | non|bl (b:Bool)|int (i:Int)|str (x:Str)|byt (b:Array UInt8)|flt (b:UInt64)|ref (a:Addr)|ty (n:String)
 deriving DecidableEq
noncomputable def RelV:V->Value->Prop
 | .non,u=>u=V4
 | .bl b,u=>u=L8 b
 | .int i,u=>∃t,u=D5 i t
 | .str x,u=>∃t,u=Y7 x t
 | .byt b,u=>∃t,u=Value.bytes b t
 | .flt b,u=>∃t,u=Value.float b t
 | .ref a,u=>u=C1 a
 | .ty n,u=>u=F4 n
abbrev Vals:List V->List Value->Prop:=U6 RelV
theorem Vals.length {xs:List V} {us:List Value} (r:Vals xs us):xs.length=us.length:=C7 r
theorem Vals.get :∀{xs:List V} {us:List Value} {i:Nat} {x:V},Vals xs us->xs[i]? = some x->∃u,us[i]? = some u/\RelV x u
 | _,_,_,_,.nil,e=>by simp at e
 | _,_,0,_,.cons r _,e=>by simp at e;subst e;exact ⟨_,rfl,r⟩
 | _,_,i + 1,x,.cons _ t,e=>by obtain ⟨u,a,b⟩:=Vals.get (i:=i) (x:=x) t (by simpa using e);exact ⟨u,by simpa using a,b⟩
theorem Vals.set {x:V} {u:Value} (r:RelV x u) :∀{xs:List V} {us:List Value} (i:Nat),Vals xs us->Vals (xs.set i x) (us.set i u)
 | _,_,_,.nil=>.nil
 | _,_,0,.cons _ t=>.cons r t
 | _,_,i + 1,.cons q t=>.cons q (Vals.set r i t)
theorem Vals.append :∀{xs ys:List V} {us ws:List Value},Vals xs us->Vals ys ws->Vals (xs++ys) (us++ws)
 | _,_,_,_,.nil,s=>s
 | _,_,_,_,.cons r t,s=>.cons r (Vals.append t s)
theorem Vals.take :∀{xs:List V} {us:List Value} (n:Nat),Vals xs us->Vals (xs.take n) (us.take n)
 | _,_,0,_=>.nil
 | _,_,_ + 1,.nil=>.nil
 | _,_,n + 1,.cons r t=>.cons r (Vals.take n t)
theorem Vals.drop :∀{xs:List V} {us:List Value} (n:Nat),Vals xs us->Vals (xs.drop n) (us.drop n)
 | _,_,0,r=>r
 | _,_,_ + 1,.nil=>.nil
 | _,_,n + 1,.cons _ t=>Vals.drop n t
noncomputable def RelO:Option V->Option Value->Prop
 | some v,some u=>RelV v u
 | none,none=>True
 | _,_=>False
def KV {κ:Type}:List (κ×V)->List (κ×Value)->Prop:=U6 λ (p:κ×V) (q:κ×Value)=>p.1=q.1/\RelV p.2 q.2
noncomputable def kV:Key->V
 | .inl i=>.int i
 | .inr x=>.str x
inductive HO where
 | lst (xs:List V)
 | tup (xs:List V)
 | dK (kvs:List (Key×V))|dT (kvs:List (List Key×V))
 | set (S:Int->Bool) (n:Nat)
 | ins (C dx:Addr) (fs:List (Str×V))
 | own (x:Addr)
 | xd (fs:List (Str×V))
 | met (f x:Addr)
 | rng (lo hi:Int)
 | frz (o:Obj) (u:HO)
 | tbl (ps:Array Value)
 | ext (φ:Heap->Prop)
noncomputable abbrev Hp:=Addr->Option HO
noncomputable def upd (H:Hp) (a:Addr) (o:HO):Hp:=λ b=>if b=a then some o else H b
theorem z02 {H:Hp} {a:Addr} {o:HO}:upd H a o a=some o:=by unfold upd;rw [if_pos rfl]
theorem upd_ne {H:Hp} {a b:Addr} {o:HO} (h:b≠a):upd H a o b=H b:=by unfold upd;rw [if_neg h]
theorem ne_of {H:Hp} {a b:Addr} {o u:HO} (h:H a=some o) (h':H b=some u) (d:o≠u):a≠b:=by intro e;subst e;rw [h] at h';exact d (A1 h')
theorem z0e {H:Hp} {a b:Addr} {o:HO} (h:H a=some o) (h':H b=none):a≠b:=by intro e;subst e;rw [h] at h';cases h'
section
variable (P:Program) (w:P0)
def IsTupN (h:Heap) (a:Addr) (items:Array Value):Prop:=IsTup h a items/\∃o,h.get? a=some o/\o.dict=none
theorem IsTupN.new (h:Heap) (items:Array Value):IsTupN (h.push { cls:=.type "tuple",data:=.seq items }) h.objs.size items:=⟨IsTup.new _ _,_,I0 _ rfl,rfl⟩
noncomputable def ObjOk (H:Hp) (h:Heap) (a:Addr):HO->Prop
 | .lst xs=>xs.length<=sizeLine/\∃(its:List Value) (n:Nat),Vals xs its/\h.get? a=some { cls:=.type "list",data:=.seq its.toArray n }
 | .tup xs=>xs.length<=sizeLine/\∃its:List Value,Vals xs its/\IsTupN h a its.toArray
 | .dK kvs=>kvs.length<=sizeLine/\(a == c4)=false/\∃vs,KV kvs vs/\h.DictOf (z0f P w) a vs
 | .dT kvs=>kvs.length<=sizeLine/\(a == c4)=false/\∃xs:List (List Key×Addr×Value),
   U6 (λ (p:List Key×V) (q:List Key×Addr×Value)=>p.1=q.1/\H q.2.1=some (.tup (p.1.map kV))/\RelV p.2 q.2.2) kvs xs/\
   ∃o es ep,h.get? a=some o/\o.ExactDict/\o.data=.dict es ep/\es.toList=xs.map (entryOfKey (A5 (z0f P w)))/\(xs.map (·.1)).Nodup
 | .set S n=>h.SetOf (N4 P w) a S n
 | .ins C dx fs=>H dx=some (.own a)/\fs.length<=1000/\dx≠a/\h.get? a=some (a8 C dx)/\
   ∃mA,h.Ns1 dx mA/\(∀f,RelO (fs.lookup f) (mA f))/\PySem.Within mA (fs.map (·.1))
 | .own _=>∃o,h.get? a=some o
 | .xd fs=>∃mA,h.Ns1 a mA/\∀f,RelO (fs.lookup f) (mA f)
 | .rng lo hi=>∃t u v,h.get? a=some { cls:=.type "range",data:=.fields #[.int lo t,.int hi u,.int 1 v] }
 | .frz o u=>h.get? a=some o/\ObjOk H h a u
 | .tbl ps=>h.get? a=some { cls:=.none,data:=.fields ps }
 | .met f x=>h.get? a=some (M7 (.ref f) (.ref x))
 | .ext φ=>φ h/\(∃o,h.get? a=some o)/\∀h1 h2:Heap,φ h1->(∀o,h1.get? a=some o->h2.get? a=some o)->φ h2
def HOk (H:Hp) (h:Heap):Prop:=∀a o,H a=some o->ObjOk P w H h a o
end
section
variable {P:Program} {w:P0} {H H':Hp} {h h':Heap} {a:Addr} {o:HO}
theorem ObjOk.lt (x:ObjOk P w H h a o):a < h.objs.size:=by
 cases o with
 | lst xs=>obtain ⟨_,_,_,_,e⟩:=x;exact F0 e
 | tup xs=>obtain ⟨_,_,_,p⟩:=x;exact p.1.lt
 | dK kvs=>obtain ⟨_,_,_,_,o,_,_,e,_⟩:=x;exact F0 e
 | dT kvs=>obtain ⟨_,_,_,_,o,_,_,e,_⟩:=x;exact F0 e
 | set S n=>obtain ⟨o,_,_,_,e,_⟩:=x;exact F0 e
 | ins C dx fs=>obtain ⟨_,_,_,e,_⟩:=x;exact F0 e
 | own y=>obtain ⟨_,e⟩:=x;exact F0 e
 | xd fs=>obtain ⟨_,⟨_,_,_,e,_⟩,_⟩:=x;exact F0 e
 | rng lo hi=>obtain ⟨_,_,_,e⟩:=x;exact F0 e
 | frz ob u=>obtain ⟨e,_⟩:=x;exact F0 e
 | tbl ps=>exact F0 (show h.get? a=some _ from x)
 | met f y=>exact F0 (show h.get? a=some _ from x)
 | ext φ=>obtain ⟨_,⟨_,e⟩,_⟩:=x;exact F0 e
theorem Paired.mapP {α β:Type} {F G:α->β->Prop} :∀{l₁:List α} {l₂:List β},U6 F l₁ l₂->(∀a b,F a b->G a b)->U6 G l₁ l₂
 | _,_,.nil,_=>.nil
 | _,_,.cons r t,f=>.cons (f _ _ r) (Paired.mapP t f)
theorem ObjOk.stay (x:ObjOk P w H h a o) (k :∀b u,(b=a\/H b=some (.own a))->h.get? b=some u->h'.get? b=some u)
  (ho :∀b,H b=some (.own a)->H' b=some (.own a)) (ht :∀b xs,H b=some (.tup xs)->H' b=some (.tup xs)):ObjOk P w H' h' a o:=by
 induction o with
 | lst xs=>obtain ⟨z,A,n,r,e⟩:=x;exact ⟨z,A,n,r,k _ _ (.inl rfl) e⟩
 | tup xs=>obtain ⟨z,A,r,⟨g,e,c⟩,F,m,D⟩:=x;exact ⟨z,A,r,⟨g,k _ _ (.inl rfl) e,c⟩,F,k _ _ (.inl rfl) m,D⟩
 | dK kvs=>obtain ⟨z,y,G,r,g,i,j,e,c⟩:=x;exact ⟨z,y,G,r,g,i,j,k _ _ (.inl rfl) e,c⟩
 | dT kvs=>obtain ⟨z,y,xs,r,g,i,j,e,c⟩:=x;exact ⟨z,y,xs,Paired.mapP r λ p q z=>⟨z.1,ht _ _ z.2.1,z.2.2⟩,g,i,j,k _ _ (.inl rfl) e,c⟩
 | set S n=>obtain ⟨g,i,j,t,e,c⟩:=x;exact ⟨g,i,j,t,k _ _ (.inl rfl) e,c⟩
 | ins C dx fs=>obtain ⟨d,z,E,e,s,⟨l,i,j,m,c⟩,r⟩:=x;exact ⟨ho _ d,z,E,k _ _ (.inl rfl) e,s,⟨l,i,j,k _ _ (.inr d) m,c⟩,r⟩
 | own y=>obtain ⟨g,e⟩:=x;exact ⟨g,k _ _ (.inl rfl) e⟩
 | xd fs=>obtain ⟨s,⟨l,i,j,e,c⟩,r⟩:=x;exact ⟨s,⟨l,i,j,k _ _ (.inl rfl) e,c⟩,r⟩
 | rng lo hi=>obtain ⟨t,u,v,e⟩:=x;exact ⟨t,u,v,k _ _ (.inl rfl) e⟩
 | frz g u ih=>obtain ⟨e,q⟩:=x;exact ⟨k _ _ (.inl rfl) e,ih q⟩
 | tbl ps=>have e:h.get? a=some { cls:=.none,data:=.fields ps }:=x;show h'.get? a=some { cls:=.none,data:=.fields ps };exact k a _ (.inl rfl) e
 | met f y=>have e:h.get? a=some (M7 (.ref f) (.ref y)):=x;show h'.get? a=some (M7 (.ref f) (.ref y));exact k a _ (.inl rfl) e
 | ext φ=>obtain ⟨p,⟨o,e⟩,B⟩:=x;exact ⟨B _ _ p λ o q=>k _ _ (.inl rfl) q,⟨o,k _ _ (.inl rfl) e⟩,B⟩
theorem HOk.lt (x:HOk P w H h) (e:H a=some o):a < h.objs.size:=(x a o e).lt
theorem HOk.fresh (x:HOk P w H h) (e:h.objs.size<=a):H a=none:=by
 cases q:H a with
 | none=>rfl
 | some u=>exact absurd (U0 (x.lt q) e) (X2 _)
theorem HOk.kept (x:HOk P w H h) (k :∀b u,h.get? b=some u->h'.get? b=some u):HOk P w H h':=λ a o e=>(x a o e).stay (λ b u _ q=>k b u q) (λ _ q=>q) λ _ _ q=>q
theorem HOk.laid (x:HOk P w H h) (k :∀b u,h.get? b=some u->h'.get? b=some u) (hp:h.objs.size<=a) (new:ObjOk P w (upd H a o) h' a o):HOk P w (upd H a o) h':=λ b u e=>by
 have d:=x.fresh hp;by_cases hb:b=a
 ·subst hb;rw [z02] at e;cases e;exact new
 ·rw [upd_ne hb] at e;exact (x b u e).stay (λ c v _ q=>k c v q) (λ c q=>by rw [upd_ne (z0e q d)];exact q) λ c f q=>by rw [upd_ne (z0e q d)];exact q
end
def Rd (H:Hp) (a:Addr) (u:HO):Prop:=H a=some u\/∃o,H a=some (.frz o u)
theorem Rd.ok {P:Program} {w:P0} {H:Hp} {h:Heap} {a:Addr} {u:HO} (r:Rd H a u) (x:HOk P w H h):ObjOk P w H h a u:=by
 rcases r with r|⟨o,r⟩
 ·exact x a u r
 ·obtain ⟨_,q⟩:=x a _ r;exact q
noncomputable def Mut:Option HO->Prop
 | some (.lst _)=>True
 | some (.dK _)=>True
 | some (.dT _)=>True
 | some (.set _ _)=>True
 | some (.ins _ _ _)=>True
 | some (.ext _)=>True
 | _=>False
section
variable {P:Program} {w:P0} {H:Hp} {h h':Heap} {x e:Addr} {o':HO}
theorem HOk.write (ok:HOk P w H h) (mu:Mut (H x)) (he:e=x\/H e=some (.own x)) (k :∀b u,b≠e->h.get? b=some u->h'.get? b=some u) (heo :∃u,h'.get? e=some u)
  (new:ObjOk P w (upd H x o') h' x o'):HOk P w (upd H x o') h':=λ b u q=>by
 have f :∀c y,H c=some (.own y)->c≠x:=λ c y r z=>by subst z;rw [r] at mu;exact mu
 have j :∀c a,H c=some (.tup a)->c≠x:=λ c a r z=>by subst z;rw [r] at mu;exact mu
 by_cases hb:b=x
 ·subst hb;rw [z02] at q;cases q;exact new
 ·rw [upd_ne hb] at q;by_cases hbe:b=e
  ·have g:H b=some (.own x):=by
    rcases he with z|z
    ·exact absurd (hbe.trans z) hb
    ·rw [hbe];exact z
   rw [q] at g;cases g;obtain ⟨v,i⟩:=heo;exact ⟨v,by rw [hbe];exact i⟩
  ·refine (ok b u q).stay (λ c v d r=>k c v ?_ r) (λ c r=>by rw [upd_ne (f c b r)];exact r) λ c a r=>by rw [upd_ne (j c a r)];exact r
   rcases d with rfl|d
   ·exact hbe
   ·rintro rfl;rcases he with z|z
    ·exact f c b d z
    ·rw [d] at z;cases z;exact hb rfl
end
structure Un (fs ex:List Addr) (H H':Hp) (h h':Heap):Prop where
 keep :∀b o,h.get? b=some o->H b=none->b∉fs->b∉ex->h'.get? b=some o
 slot :∀b o,h.get? b=some o->H b=none->b∈fs->b∉ex->∃sl,h'.get? b=some { o with slots:=sl }
 free :∀b o,h.get? b=some o->H b=none->b∉ex->H' b=none
 there :∀b o,h.get? b=some o->b∉ex->∃o',h'.get? b=some o'
 tups :∀b xs,H b=some (.tup xs)->H' b=some (.tup xs)
 frzs :∀b o u,H b=some (.frz o u)->H' b=some (.frz o u)
 tbls :∀b ps,H b=some (.tbl ps)->∃more,H' b=some (.tbl (ps++more))
section
variable {fs fs' ex ex':List Addr} {H H1 H2:Hp} {h h1 h2 h':Heap} {a x e:Addr} {o:HO}
theorem Un.any (u:Un fs ex H H1 h h1) {b:Addr} {ob:Obj} (q:h.get? b=some ob) (n:H b=none) (hx:b∉ex) :∃sl,h1.get? b=some { ob with slots:=sl }:=by
 by_cases hb:b∈fs
 ·exact u.slot b ob q n hb hx
 ·exact ⟨ob.slots,u.keep b ob q n hb hx⟩
theorem Un.kept (k :∀b u,h.get? b=some u->h'.get? b=some u):Un fs ex H H h h':=
 ⟨λ b a q _ _ _=>k b a q,λ b a q _ _ _=>⟨a.slots,k b a q⟩,λ _ _ _ n _=>n,λ b a q _=>⟨a,k b a q⟩,λ _ _ q=>q,λ _ _ _ q=>q,λ _ c q=>⟨#[],by rw [q];simp⟩⟩
theorem Un.refl:Un fs ex H H h h:=Un.kept λ _ _ q=>q
theorem Un.laid (k :∀b u,h.get? b=some u->h'.get? b=some u) (hp:h.objs.size<=a) (hn:H a=none):Un fs ex H (upd H a o) h h' where
 keep:=λ b u q _ _ _=>k b u q
 slot:=λ b u q _ _ _=>⟨u.slots,k b u q⟩
 free:=λ b u q n _=>by rw [upd_ne (O0 (U0 (F0 q) hp))];exact n
 there:=λ b u q _=>⟨u,k b u q⟩
 tups:=λ b c q=>by rw [upd_ne (z0e q hn)];exact q
 frzs:=λ b u c q=>by rw [upd_ne (z0e q hn)];exact q
 tbls:=λ b d q=>⟨#[],by rw [upd_ne (z0e q hn),q];simp⟩
theorem Un.write (mu:Mut (H x)) (he:e=x\/H e=some (.own x)) (k :∀b u,b≠e->h.get? b=some u->h'.get? b=some u) (heo :∃u,h'.get? e=some u):Un fs ex H (upd H x o) h h':=by
 have d :∀b,H b=none->b≠x:=λ b n z=>by subst z;rw [n] at mu;exact mu
 have c :∀b,H b=none->b≠e:=λ b n z=>by
  subst z;rcases he with r|r
  ·exact d b n r
  ·rw [n] at r;cases r
 have a :∀b u,H b=some u->¬ Mut (some u)->b≠x:=λ b u q g z=>by subst z;rw [q] at mu;exact g mu
 refine ⟨λ b u q n _ _=>k b u (c b n) q,λ b u q n _ _=>⟨u.slots,k b u (c b n) q⟩,λ b u q n _=>by rw [upd_ne (d b n)];exact n,λ b u q _=>?_,
  λ b f q=>by rw [upd_ne (a b _ q λ z=>z)];exact q,λ b u f q=>by rw [upd_ne (a b _ q λ z=>z)];exact q,λ b i q=>⟨#[],by rw [upd_ne (a b _ q λ z=>z),q];simp⟩⟩
 by_cases hbe:b=e
 ·subst hbe;exact heo
 ·exact ⟨u,k b u hbe q⟩
end
noncomputable def trk (h:Heap) (H:Hp):List Addr:=(Z1 h.objs.size).filter λ a=>(H a).isSome
noncomputable def hidT (h:Heap) (H:Hp):Heap:=PySem.W.hideAll h (trk h H)
theorem zcy (h:Heap) (H:Hp):(hidT h H).objs.size=h.objs.size:=PySem.W.hideAll_size _ _
theorem zdi {h:Heap} {H:Hp} {b:Addr} {o:Obj} (e:h.get? b=some o) (n:H b=none):(hidT h H).get? b=some o:=
 PySem.W.hideAll_get _ e λ a=>by have q:(H b).isSome=true:=(List.mem_filter.mp a).2;rw [n] at q;simp at q
theorem zem {h:Heap} {H:Hp} {b:Addr} {o:Obj} (e:(hidT h H).get? b=some o):h.get? b=some o/\H b=none:=by
 have a:h.get? b=some o:=PySem.W.of_hideAll (trk h H) e;refine ⟨a,?_⟩;cases q:H b with
 | none=>rfl
 | some x=>have c:b∈trk h H:=List.mem_filter.mpr ⟨List.mem_range.mpr (F0 a),by simp [q]⟩;have z:(hidT h H).get? b=none:=PySem.W.hideAll_none (trk h H) c;rw [z] at e;cases e
noncomputable def zfg (g h:Heap) (L:Addr):List (Addr×Obj):=(Z1 h.objs.size).filterMap λ a=>if a=L\/(g.get? a).isSome=true then none else (h.get? a).map λ o=>(a,o)
noncomputable def rest (g h:Heap) (L d:Addr):List (Addr×Obj):=(zfg g h L).filter λ p=>decide (p.1≠d)
structure Mod (K:c0) (mg:Str->Option Value) (base:Heap):Prop where
 kin:K.In base
 glob:base.Ns P1 mg
 blt :∃mb,base.Ns o8 mb/\∀x:Str,x≠"__name__"->mb x=a4 x
 nolimit:base.NoLimit
structure Cx where
 prog:Program
 w:P0
 K:c0
 mg:Str->Option Value
 base:Heap
 A:W1
 N:List Str
 s₀:y0
 H₀:Hp
 env:Env
 outer:List Env
 stack:List Env
 ex:List Addr
 fn:Str->Bool
 calm:Bool
 pn:List (Addr×Obj)
 xe:Value->y0->Prop
noncomputable def frs (l:List Env):List Addr:=l.filterMap (·.frame)
noncomputable abbrev Cx.fs (X:Cx):List Addr:=frs X.outer
def Vis (sc:Scope) (x:Str):Prop:=sc.names.lookup x=some .local\/sc.names.lookup x=some .cell\/sc.names.lookup x=some .free
def Loc (sc:Scope) (x:Str):Prop:=sc.names.lookup x=some .local\/sc.names.lookup x=some .cell
def Look (env:Env) (h:Heap) (m:Str->Option Value) (x:Str) (u:Value):Prop:=
 (env.kindOf x=some .local/\m x=some u)\/((env.kindOf x=some .cell\/env.kindOf x=some .free)/\∃c,env.cells.lookup x=some c/\h.IsCell c (some u))
structure Cx.Ok (X:Cx):Prop where
 mod:Mod X.K X.mg X.base
 kind:X.env.scope.kind=.function
 glob:X.env.globals=P1
 blt:X.env.builtins=o8
 above:X.s₀.heap.objs.size<=X.env.locals
 inj :∀x y c,X.env.cells.lookup x=some c->X.env.cells.lookup y=some c->x=y
 has :∀x,(X.env.kindOf x=some .cell\/X.env.kindOf x=some .free)->∃c,X.env.cells.lookup x=some c
 cab :∀x c,X.fn x=true->X.env.cells.lookup x=some c->X.s₀.heap.objs.size<=c
 hd:X.calm=true->X.A.handled=none
 frames:X.A.frames=some X.stack
 stk:X.stack=X.outer\/(X.stack=X.env :: X.outer/\X.env.frame=some X.env.locals)
 exf :∀b∈X.ex,b≠X.env.locals/\∀x c,X.env.cells.lookup x=some c->c≠b
 bs :∀b o,X.base.get? b=some o->X.s₀.heap.get? b=some o/\X.H₀ b=none
 bsz:X.base.objs.size<=X.s₀.heap.objs.size
 noex :∀b o,X.base.get? b=some o->b∉X.ex
 exfs :∀b∈X.ex,b∉X.fs
 funs:X.s₀.heap.FunFrames X.base X.outer
 frf :∀b∈X.fs,X.H₀ b=none
structure Inv (X:Cx) (pins:List (Addr×Obj)) (σ:List (Option V)) (H:Hp) (s:y0):Prop where
 ok:X.Ok
 os:s.os=X.s₀.os
 bare:P6 s.gens
 base:Un X.fs X.ex X.H₀ H X.s₀.heap s.heap
 loc :∃m,s.heap.Ns X.env.locals m/\∀(i:Nat) (x:Str) (v:V),X.N[i]? = some x->σ[i]? = some (some v)->Vis X.env.scope x->∃u,RelV v u/\Look X.env s.heap m x u
 cell :∀x c,X.env.cells.lookup x=some c->∃v,s.heap.IsCell c v
 free:H X.env.locals=none
 freeC :∀x c,X.env.cells.lookup x=some c->H c=none
 pin :∀p∈X.pn++pins,s.heap.get? p.1=some p.2/\H p.1=none/\p.1≠X.env.locals/\p.1∉X.fs/\∀v,p.2.data≠.cell v
 hok:HOk X.prog X.w H s.heap
 len:σ.length=X.N.length
section
variable {X:Cx} {pins:List (Addr×Obj)} {σ:List (Option V)} {H H':Hp} {s:y0} {h':Heap}
theorem Cx.Ok.nofr (ok:X.Ok) {b:Addr} {o:Obj} (e:X.base.get? b=some o):b∉X.fs:=λ a=>by have:=(ok.funs.mem a).1;rw [e] at this;cases this
theorem Inv.bs (I:Inv X pins σ H s) :∀b o,X.base.get? b=some o->s.heap.get? b=some o/\H b=none:=λ b o e=>⟨I.base.keep b o (I.ok.bs b o e).1 (I.ok.bs b o e).2 (I.ok.nofr e) (I.ok.noex b o e),I.base.free b o (I.ok.bs b o e).1 (I.ok.bs b o e).2 (I.ok.noex b o e)⟩
theorem Inv.bk (I:Inv X pins σ H s) :∀b o,X.base.get? b=some o->s.heap.get? b=some o:=λ b o e=>(I.bs b o e).1
theorem Inv.mod (I:Inv X pins σ H s):Mod X.K X.mg X.base:=I.ok.mod
theorem Inv.kIn (I:Inv X pins σ H s):X.K.In s.heap:=I.ok.mod.kin.keeps I.bk
theorem Inv.lt (I:Inv X pins σ H s):X.env.locals < s.heap.objs.size:=let ⟨_,hn,_⟩:=I.loc;hn.lt
theorem Inv.sz (I:Inv X pins σ H s):X.s₀.heap.objs.size<=s.heap.objs.size:=G0 I.ok.above (V6 I.lt)
theorem Inv.nofs (I:Inv X pins σ H s) {a:Addr} (h:s.heap.objs.size<=a):a∉X.fs:=λ b=>by obtain ⟨_,o,c,_⟩:=I.ok.funs.mem b;exact absurd (U0 (F0 c) (G0 I.sz h)) (X2 _)
theorem Inv.cne (I:Inv X pins σ H s) :∀x c,X.env.cells.lookup x=some c->c≠X.env.locals:=λ x c e z=>by obtain ⟨v,o,a,hd⟩:=I.cell x c e;obtain ⟨m,⟨g,h,f,b,d,_⟩,_⟩:=I.loc;rw [z,b] at a;cases a;rw [d] at hd;cases hd
theorem Inv.funs (I:Inv X pins σ H s):s.heap.FunFrames X.base X.outer:=by
 have all :∀(l:List Env),(∀b∈frs l,b∈X.fs)->X.s₀.heap.FunFrames X.base l->s.heap.FunFrames X.base l:=by
  intro l;induction l with
  | nil=>intro _ _;trivial
  | cons env r ih=>intro f j;obtain ⟨h,⟨L,o,a,g,i,hd⟩,k⟩:=j;have c:L∈X.fs:=f L (by unfold frs;rw [K7,a];exact V1);obtain ⟨m,e⟩:=I.base.slot L o i (I.ok.frf L c) c λ z=>I.ok.exfs L z c;exact ⟨h,⟨L,_,a,g,e,hd⟩,ih (λ b d=>f b (by unfold frs;rw [K7,a];exact P2 _ d)) k⟩
 exact all X.outer (λ _ d=>d) I.ok.funs
theorem Inv.stack (I:Inv X pins σ H s):s.heap.FunFrames X.base X.stack:=by
 rcases I.ok.stk with e|⟨e,hf⟩
 ·rw [e];exact I.funs
 ·rw [e];obtain ⟨m,a,_⟩:=I.loc;refine .cons (by rw [I.ok.kind];decide) hf a ?_ I.funs;exact Heap.get?_none_of_le (G0 I.ok.bsz I.ok.above)
theorem Inv.stkSub (I:Inv X pins σ H s) :∀b∈frs X.stack,b∈X.env.locals :: X.fs:=λ b a=>by
 rcases I.ok.stk with e|⟨e,hf⟩
 ·rw [e] at a;exact P2 _ a
 ·rw [e] at a;unfold frs at a;rw [K7,hf] at a;exact a
theorem Inv.stkFree (I:Inv X pins σ H s) :∀b∈frs X.stack,H b=none:=λ b a=>by
 rcases List.mem_cons.mp (I.stkSub b a) with e|a
 ·rw [e];exact I.free
 ·obtain ⟨_,o,c,_⟩:=I.ok.funs.mem a;exact I.base.free b o c (I.ok.frf b a) λ z=>I.ok.exfs b z a
theorem Inv.step {g':Array GenState} {t':Nat} {d':Drawn} {ch:List Addr} (I:Inv X pins σ H s)
  (hch :∀b∈ch,(b∈X.ex\/X.s₀.heap.objs.size<=b)/\b≠X.env.locals/\(∀x c,X.env.cells.lookup x=some c->c≠b)/\∀p∈X.pn++pins,p.1≠b)
  (keep :∀b o,b≠X.env.locals->b∉X.fs->b∉ch->s.heap.get? b=some o->H b=none->h'.get? b=some o)
  (slot :∀b o,b≠X.env.locals->b∈X.fs->b∉ch->s.heap.get? b=some o->H b=none->∃sl,h'.get? b=some { o with slots:=sl }) (free :∀b o,b∉ch->s.heap.get? b=some o->H b=none->H' b=none)
  (there :∀b o,b∉ch->s.heap.get? b=some o->∃o',h'.get? b=some o')
  (tups :∀b xs,H b=some (.tup xs)->H' b=some (.tup xs)) (frzs :∀b o u,H b=some (.frz o u)->H' b=some (.frz o u)) (tbls :∀b ps,H b=some (.tbl ps)->∃more,H' b=some (.tbl (ps++more)))
  (ns :∀m,s.heap.Ns X.env.locals m->h'.Ns X.env.locals m) (hok:HOk X.prog X.w H' h') (hg:P6 g') :
  Inv X pins σ H' { s with heap:=h',gens:=g',drawn:=d',toks:=t' }:=by
 have B :∀b o,X.s₀.heap.get? b=some o->b≠X.env.locals:=λ b o e=>O0 (U0 (F0 e) I.ok.above);have y :∀b o,X.s₀.heap.get? b=some o->b∉X.ex->b∉ch:=λ b o e a g=>by
  rcases (hch b g).1 with z|z
  ·exact a z
  ·exact absurd (U0 (F0 e) z) (X2 _)
 have E :∀x c,X.env.cells.lookup x=some c->∀v,s.heap.IsCell c v->h'.IsCell c v:=λ x c e v ⟨o,h,hd⟩=>by
  have t:c∉ch:=λ z=>(hch c z).2.2.1 x c e rfl;by_cases hc:c∈X.fs
  ·obtain ⟨sl,q⟩:=slot c o (I.cne x c e) hc t h (I.freeC x c e);exact ⟨_,q,hd⟩
  ·exact ⟨o,keep c o (I.cne x c e) hc t h (I.freeC x c e),hd⟩
 refine ⟨I.ok,I.os,hg,⟨λ b o e n g a=>?_,λ b o e n g a=>?_,λ b o e n a=>?_,λ b o e a=>?_,λ b xs e=>tups b xs (I.base.tups b xs e),λ b o xs e=>frzs b o xs (I.base.frzs b o xs e),λ b ps e=>?_⟩,?_,λ x c e=>?_,?_,λ x c e=>?_,λ p A=>?_,hok,I.len⟩
 ·exact keep b o (B b o e) g (y b o e a) (I.base.keep b o e n g a) (I.base.free b o e n a)
 ·obtain ⟨sl,f⟩:=I.base.slot b o e n g a;obtain ⟨F,j⟩:=slot b _ (B b o e) g (y b o e a) f (I.base.free b o e n a);exact ⟨F,j⟩
 ·obtain ⟨o',f⟩:=I.base.there b o e a;exact free b o' (y b o e a) f (I.base.free b o e n a)
 ·obtain ⟨o',f⟩:=I.base.there b o e a;exact there b o' (y b o e a) f
 ·obtain ⟨G,f⟩:=I.base.tbls b ps e;obtain ⟨M,j⟩:=tbls b _ f;exact ⟨G++M,by rw [j,Array.append_assoc]⟩
 ·obtain ⟨m,K,J⟩:=I.loc;refine ⟨m,ns m K,λ i x v f j L=>?_⟩;obtain ⟨u,r,l⟩:=J i x v f j L;refine ⟨u,r,?_⟩;rcases l with l|⟨k,c,e,z⟩
  ·exact .inl l
  ·exact .inr ⟨k,c,e,E x c e _ z⟩
 ·obtain ⟨v,z⟩:=I.cell x c e;exact ⟨v,E x c e v z⟩
 ·obtain ⟨m,⟨o,_,_,h,_⟩,_⟩:=I.loc;exact free _ o (λ z=>(hch _ z).2.1 rfl) h I.free
 ·obtain ⟨v,o,h,hd⟩:=I.cell x c e;exact free c o (λ z=>(hch c z).2.2.1 x c e rfl) h (I.freeC x c e)
 ·obtain ⟨e,n,C,D,d⟩:=I.pin p A;have t:p.1∉ch:=λ z=>(hch p.1 z).2.2.2 p A rfl;exact ⟨keep p.1 p.2 C D t e n,free p.1 p.2 t e n,C,D,d⟩
theorem Inv.un {t':Nat} (I:Inv X pins σ H s) (u:Un X.fs [] H H' s.heap h') (hok:HOk X.prog X.w H' h'):Inv X pins σ H' { s with heap:=h',toks:=t' }:=by obtain ⟨m,⟨o,k,t,c,r⟩,_⟩:=id I.loc;obtain ⟨q,j⟩:=u.any c I.free (by simp);exact I.step (g':=s.gens) (d':=s.drawn) (ch:=[]) (λ _ z=>nomatch z) (λ b o _ a _ e n=>u.keep b o e n a (by simp)) (λ b o _ a _ e n=>u.slot b o e n a (by simp)) (λ b o _ e n=>u.free b o e n (by simp)) (λ b o _ e=>u.there b o e (by simp)) u.tups u.frzs u.tbls (λ p f=>by obtain ⟨l,g,i,d,h⟩:=f;rw [c] at d;cases d;exact ⟨_,g,i,j,h⟩) hok I.bare
theorem Inv.call {g':Array GenState} {t':Nat} {d':Drawn} {ch:List Addr} (I:Inv X pins σ H s) (u:Un (frs X.stack) ch H H' s.heap h') (hok:HOk X.prog X.w H' h') (hg:P6 g')
  (hch :∀b∈ch,(b∈X.ex\/X.s₀.heap.objs.size<=b)/\b≠X.env.locals/\(∀x c,X.env.cells.lookup x=some c->c≠b)/\∀p∈X.pn++pins,p.1≠b) :
  Inv X pins σ H' { s with heap:=h',gens:=g',drawn:=d',toks:=t' }:=by
 obtain ⟨m,⟨o,q,A,f,r⟩,_⟩:=id I.loc;obtain ⟨y,d⟩:=u.any f I.free λ z=>(hch _ z).2.1 rfl;exact I.step (ch:=ch) hch (λ b o d l a e n=>u.keep b o e n (λ z=>(List.mem_cons.mp (I.stkSub b z)).elim d l) a) (λ b o _ _ a e n=>u.any e n a) (λ b o a e n=>u.free b o e n a) (λ b o a e=>u.there b o e a) u.tups u.frzs u.tbls (λ v h=>by obtain ⟨t,i,k,g,j⟩:=h;rw [f] at g;cases g;exact ⟨_,i,k,d,j⟩) hok hg
theorem Inv.turned {t':Nat} {it:Addr} (I:Inv X pins σ H s) (k :∀b o,b≠it->s.heap.get? b=some o->h'.get? b=some o) (hn:H it=none) (hL:it≠X.env.locals)
  (h1:it∈X.ex\/X.s₀.heap.objs.size<=it) (h2 :∀x c,X.env.cells.lookup x=some c->c≠it) (h3 :∀p∈X.pn++pins,p.1≠it):Inv X pins σ H { s with heap:=h',toks:=t' }:=by
 have d :∀b u,H b=some u->b≠it:=λ b u e z=>by rw [z,hn] at e;cases e
 refine I.step (g':=s.gens) (d':=s.drawn) (ch:=[it]) (λ b i=>?_) (λ b o _ _ a e _=>k b o (λ z=>a (by simp [z])) e) (λ b o _ _ a e _=>⟨o.slots,k b o (λ z=>a (by simp [z])) e⟩) (λ _ _ _ _ n=>n)
  (λ b o a e=>⟨o,k b o (λ z=>a (by simp [z])) e⟩) (λ _ _ e=>e) (λ _ _ _ e=>e) (λ b l e=>⟨#[],by rw [e];simp⟩) (λ m f=>?_) (λ b u e=>?_) I.bare
 ·have e:b=it:=by simpa using i
  subst e;exact ⟨h1,hL,h2,h3⟩
 ·obtain ⟨o,h,g,j,r⟩:=f;exact ⟨o,h,g,k _ o (y3 hL) j,r⟩
 ·refine (I.hok b u e).stay (λ c v a q=>k c v ?_ q) (λ _ q=>q) λ _ _ q=>q;rcases a with z|z
  ·rw [z];exact d b u e
  ·exact d c _ z
theorem Inv.tok (I:Inv X pins σ H s) (t:Nat):Inv X pins σ H { s with toks:=t }:=I.un (h':=s.heap) (t':=t) Un.refl I.hok
theorem Inv.kept {t':Nat} (I:Inv X pins σ H s) (k :∀b u,s.heap.get? b=some u->h'.get? b=some u):Inv X pins σ H { s with heap:=h',toks:=t' }:=I.un (Un.kept k) (I.hok.kept k)
theorem Inv.laid {a:Addr} {o:HO} {t':Nat} (I:Inv X pins σ H s) (k :∀b u,s.heap.get? b=some u->h'.get? b=some u) (hp:s.heap.objs.size<=a) (new:ObjOk X.prog X.w (upd H a o) h' a o) :
  Inv X pins σ (upd H a o) { s with heap:=h',toks:=t' }:=I.un (Un.laid k hp (I.hok.fresh hp)) (I.hok.laid k hp new)
theorem Inv.write {x e:Addr} {o:HO} {t':Nat} (I:Inv X pins σ H s) (mu:Mut (H x)) (he:e=x\/H e=some (.own x)) (k :∀b u,b≠e->s.heap.get? b=some u->h'.get? b=some u) (heo :∃u,h'.get? e=some u)
  (new:ObjOk X.prog X.w (upd H x o) h' x o):Inv X pins σ (upd H x o) { s with heap:=h',toks:=t' }:=I.un (Un.write mu he k heo) (I.hok.write mu he k heo new)
theorem Inv.weak {σ':List (Option V)} (I:Inv X pins σ H s) (hl:σ'.length=σ.length) (w :∀(i:Nat) v,σ'[i]? = some (some v)->σ[i]? = some (some v)):Inv X pins σ' H s:=
 ⟨I.ok,I.os,I.bare,I.base,let ⟨m,hn,hl'⟩:=I.loc;⟨m,hn,λ i x v c b a=>hl' i x v c (w i v b) a⟩,I.cell,I.free,I.freeC,I.pin,I.hok,hl.trans I.len⟩
theorem Inv.pins_of {pins':List (Addr×Obj)} (I:Inv X pins σ H s) (h :∀p∈pins',s.heap.get? p.1=some p.2/\H p.1=none/\p.1≠X.env.locals/\p.1∉X.fs/\∀v,p.2.data≠.cell v):Inv X pins' σ H s:=
 ⟨I.ok,I.os,I.bare,I.base,I.loc,I.cell,I.free,I.freeC,λ p a=>(List.mem_append.mp a).elim (λ z=>I.pin p (J4 _ z)) (h p),I.hok,I.len⟩
theorem zay {N:List Str} (hN:N.Nodup) {i j:Nat} {x:Str} (a:N[i]? = some x) (b:N[j]? = some x):i=j:=by obtain ⟨e,d⟩:=List.getElem?_eq_some_iff.mp a;obtain ⟨f,c⟩:=List.getElem?_eq_some_iff.mp b;exact (List.getElem_inj hN).mp (d.trans c.symm)
theorem zcm {M:Model} {A:W1} {E:Value->y0->Prop} {i:Nat} {x:Str} {v:V} {u:Value} {Q:Unit->y0->Prop} (I:Inv X pins σ H s) (hN:X.N.Nodup) (hi:X.N[i]? = some x) (hx:Loc X.env.scope x) (r:RelV v u)
  (h :∀s',Inv X pins (σ.set i (some v)) H s'->(∃a,R5 a s.heap s'.heap/\(a=X.env.locals\/X.env.cells.lookup x=some a))->Q () s') (hf:X.fn x=true\/X.env.scope.names.lookup x=some .local:=by first|exact .inl rfl|exact .inr rfl|assumption):Q0 M A (storeName X.env x u) Q E s:=by
 obtain ⟨m,O,hl⟩:=id I.loc;have a6:(X.env.scope.kind == .class || (X.env.scope.kind == .module && X.env.locals != X.env.globals))=false:=by rw [I.ok.kind];rfl
 have a3:i < σ.length:=by rw [I.len];exact (List.getElem?_eq_some_iff.mp hi).1
 have cne:=I.cne;have a1 :∀{a:Addr} {C:Heap},(∃o,s.heap.get? a=some o/\H a=none)->R5 a s.heap C->HOk X.prog X.w H C:=λ {a C} ha f b ob e=>by
  obtain ⟨_,_,Z⟩:=ha;refine (I.hok b ob e).stay (λ c F l q=>(f.2 c ?_).trans q) (λ _ q=>q) λ _ _ q=>q;rintro rfl;rcases l with rfl|l
  ·rw [Z] at e;cases e
  ·rw [Z] at l;cases l
 rcases hx with hk|hk
 ·refine wpAny_storeName_local hk O (λ C a5 f=>?_) a6;obtain ⟨oL,_,_,a4,_⟩:=id O;refine h _ ⟨I.ok,I.os,I.bare,⟨λ b o e n B hx=>?_,λ b o e n B hx=>?_,I.base.free,λ b o e hx=>?_,I.base.tups,I.base.frzs,I.base.tbls⟩,⟨_,a5,λ j y S g t T=>?_⟩,λ y c e=>?_,I.free,I.freeC,λ p J=>?_,a1 ⟨oL,a4,I.free⟩ f,by simpa using I.len⟩ ⟨_,f,.inl rfl⟩
  ·exact (f.2 b (O0 (U0 (F0 e) I.ok.above))).trans (I.base.keep b o e n B hx)
  ·obtain ⟨U,g⟩:=I.base.slot b o e n B hx;exact ⟨U,(f.2 b (O0 (U0 (F0 e) I.ok.above))).trans g⟩
  ·obtain ⟨R,g⟩:=I.base.there b o e hx;exact ⟨R,(f.2 b (O0 (U0 (F0 e) I.ok.above))).trans g⟩
  ·by_cases hj:j=i
   ·subst hj;rw [hi] at g;cases g;rw [A9 a3] at t;cases t;exact ⟨u,r,.inl ⟨hk,by simp⟩⟩
   ·rw [X9 (y3 hj)] at t;obtain ⟨P,L,q⟩:=hl j y S g t T;refine ⟨P,L,?_⟩;rcases q with ⟨k,e⟩|⟨k,c,e,z⟩
    ·refine .inl ⟨k,?_⟩;have:y≠x:=λ e=>hj (zay hN g (e ▸ hi));simp [this,e]
    ·exact .inr ⟨k,c,e,z.sameBut f (cne y c e)⟩
  ·obtain ⟨F,z⟩:=I.cell y c e;exact ⟨F,z.sameBut f (cne y c e)⟩
  ·obtain ⟨e,n,D,K,d⟩:=I.pin p J;exact ⟨(f.2 p.1 D).trans e,n,D,K,d⟩
 ·have W:X.fn x=true:=by
   rcases hf with z|z
   ·exact z
   ·rw [z] at hk;cases hk
  obtain ⟨c,l⟩:=I.ok.has x (.inl hk);obtain ⟨F,z⟩:=I.cell x c l;refine wpAny_storeName_cell I.ok.kind hk l z (λ C a0 f=>?_);obtain ⟨Y,a2,a7⟩:=id z;refine h { s with heap:=C } ⟨I.ok,I.os,I.bare,⟨λ b o e n B hx=>?_,λ b o e n B hx=>?_,I.base.free,λ b o e hx=>?_,I.base.tups,I.base.frzs,I.base.tbls⟩,⟨m,O.sameBut f (y3 (cne x c l)),λ j y S g t T=>?_⟩,λ y G e=>?_,I.free,I.freeC,λ p J=>?_,a1 ⟨Y,a2,I.freeC x c l⟩ f,by simpa using I.len⟩ ⟨c,f,.inr l⟩
  ·exact (f.2 b (O0 (U0 (F0 e) (I.ok.cab x c W l)))).trans (I.base.keep b o e n B hx)
  ·obtain ⟨U,g⟩:=I.base.slot b o e n B hx;exact ⟨U,(f.2 b (O0 (U0 (F0 e) (I.ok.cab x c W l)))).trans g⟩
  ·obtain ⟨R,g⟩:=I.base.there b o e hx;exact ⟨R,(f.2 b (O0 (U0 (F0 e) (I.ok.cab x c W l)))).trans g⟩
  ·by_cases hj:j=i
   ·subst hj;rw [hi] at g;cases g;rw [A9 a3] at t;cases t;exact ⟨u,r,.inr ⟨.inl hk,c,l,a0⟩⟩
   ·rw [X9 (y3 hj)] at t;obtain ⟨P,L,q⟩:=hl j y S g t T;refine ⟨P,L,?_⟩;rcases q with q|⟨k,G,e,z'⟩
    ·exact .inl q
    ·refine .inr ⟨k,G,e,z'.sameBut f ?_⟩;rintro rfl;exact hj (zay hN g (I.ok.inj _ _ _ e l ▸ hi))
  ·by_cases hcc:G=c
   ·subst hcc;exact ⟨_,a0⟩
   ·obtain ⟨w2,z2⟩:=I.cell y G e;exact ⟨w2,z2.sameBut f hcc⟩
  ·obtain ⟨e,n,D,K,d⟩:=I.pin p J;refine ⟨(f.2 p.1 ?_).trans e,n,D,K,d⟩;intro q;rw [q,a2] at e;have q':Y=p.2:=A1 e;exact d F (by rw [<-q'];exact a7)
theorem z9o {M:Model} {A:W1} {E:Value->y0->Prop} {i:Nat} {x:Str} {v:V} {u:Value} {Q:Unit->y0->Prop} (I:Inv X pins σ H s) (hN:X.N.Nodup) (hi:X.N[i]? = some x) (hx:Loc X.env.scope x) (r:RelV v u)
  (h :∀s',Inv X pins (σ.set i (some v)) H s'->Q () s') (hf:X.fn x=true\/X.env.scope.names.lookup x=some .local:=by first|exact .inl rfl|exact .inr rfl|assumption):Q0 M A (storeName X.env x u) Q E s:=
 zcm I hN hi hx r (λ s' a _=>h s' a) hf
theorem Inv.call' {s':y0} {ch:List Addr} (I:Inv X pins σ H s) (ho:s'.os=s.os) (u:Un (frs X.stack) ch H H' s.heap s'.heap) (hok:HOk X.prog X.w H' s'.heap) (hg:P6 s'.gens)
  (hch :∀b∈ch,(b∈X.ex\/X.s₀.heap.objs.size<=b)/\b≠X.env.locals/\(∀x c,X.env.cells.lookup x=some c->c≠b)/\∀p∈X.pn++pins,p.1≠b):Inv X pins σ H' s':=by
 obtain ⟨d,g',d',t',a⟩:=s';have e:a=s.os:=ho;subst e;exact I.call (g':=g') (t':=t') (d':=d') u hok hg hch
end
noncomputable abbrev XK:=Value->Option Addr->Hp->Prop
noncomputable abbrev St:=List (Option V)
noncomputable abbrev VK:=V->Hp->Prop
noncomputable abbrev TE:=St->Hp->VK->Prop
noncomputable abbrev TT:=St->Hp->(Bool->Hp->Prop)->Prop
noncomputable abbrev TA:=St->Hp->(List V->Hp->Prop)->Prop
structure Ends where
 nx:St->Hp->Prop
 rt:VK
 bk:St->Hp->Prop:=λ _ _=>False
 ct:St->Hp->Prop:=λ _ _=>False
noncomputable abbrev TS:=Ends->St->Hp->Prop
def EP (X:Cx) (pins:List (Addr×Obj)) (σ:St) (Q:VK) (u:Value) (s':y0):Prop:=∃v H',Inv X pins σ H' s'/\RelV v u/\Q v H'
def TP (X:Cx) (pins:List (Addr×Obj)) (σ:St) (Q:Bool->Hp->Prop) (b:Bool) (s':y0):Prop:=∃H',Inv X pins σ H' s'/\Q b H'
def AP (X:Cx) (pins:List (Addr×Obj)) (σ:St) (Q:List V->Hp->Prop) (us:List Value) (s':y0):Prop:=∃vs H',Inv X pins σ H' s'/\Vals vs us/\Q vs H'
def SP (X:Cx) (pins:List (Addr×Obj)) (D:Ends) (f:Flow) (s':y0):Prop:=
 match f with
 | .next=>∃σ' H',Inv X pins σ' H' s'/\D.nx σ' H'
 | .brk=>∃σ' H',Inv X pins σ' H' s'/\D.bk σ' H'
 | .cont=>∃σ' H',Inv X pins σ' H' s'/\D.ct σ' H'
 | .ret u=>∃v σ' H',Inv X pins σ' H' s'/\RelV v u/\D.rt v H'
def PE (X:Cx) (e:Expr) (t:TE):Prop:=
 ∀(pins:List (Addr×Obj)) (s:y0) (σ:St) (H:Hp) (Q:VK),Inv X pins σ H s->t σ H Q->Q0 (Y0 X.prog X.w) X.A (P3 e X.env) (EP X pins σ Q) X.xe s
def PT (X:Cx) (e:Expr) (t:TT):Prop:=
 ∀(pins:List (Addr×Obj)) (s:y0) (σ:St) (H:Hp) (Q:Bool->Hp->Prop),Inv X pins σ H s->t σ H Q->Q0 (Y0 X.prog X.w) X.A (isTrue e X.env (P3 e X.env)) (TP X pins σ Q) X.xe s
def PW (X:Cx) (e:Expr) (t:TT):Prop:=
 ∀(whole:Sem Value) (pins:List (Addr×Obj)) (s:y0) (σ:St) (H:Hp) (Q:Bool->Hp->Prop),Inv X pins σ H s->t σ H Q->Q0 (Y0 X.prog X.w) X.A (isTrue e X.env whole) (TP X pins σ Q) X.xe s
theorem PW.pt {X:Cx} {e:Expr} {t:TT} (h:PW X e t):PT X e t:=h _
def PA (X:Cx) (es:List Expr) (t:TA):Prop:=
 ∀(pos:Pos) (pins:List (Addr×Obj)) (s:y0) (σ:St) (H:Hp) (Q:List V->Hp->Prop),Inv X pins σ H s->t σ H Q->Q0 (Y0 X.prog X.w) X.A (r9 (y4 pos (D1 es X.env))) (AP X pins σ Q) X.xe s
def PS (X:Cx) (st:Stmt) (t:TS):Prop:=
 ∀(pins:List (Addr×Obj)) (s:y0) (σ:St) (H:Hp) (D:Ends),Inv X pins σ H s->t D σ H->Q0 (Y0 X.prog X.w) X.A (exec st X.env) (SP X pins D) X.xe s
def PSs (X:Cx) (st:List Stmt) (t:TS):Prop:=
 ∀(pins:List (Addr×Obj)) (s:y0) (σ:St) (H:Hp) (D:Ends),Inv X pins σ H s->t D σ H->Q0 (Y0 X.prog X.w) X.A (execs st X.env) (SP X pins D) X.xe s
theorem thn {α:Type} {t:Sem α} {Q Q':α->y0->Prop} {M:Model} {A:W1} {E:Value->y0->Prop} {s:y0} (h:Q0 M A t Q E s) (hQ :∀a s,Q a s->Q' a s):Q0 M A t Q' E s:=B3 h hQ λ _ _ x=>x
section
variable {X:Cx}
noncomputable def tVar (i:Nat):TE:=λ σ H Q=>∃v,σ[i]? = some (some v)/\Q v H
noncomputable def tC (v:V):TE:=λ _ H Q=>Q v H
theorem pe_var {i:Nat} {x:Str} {pos:Pos} (hN:X.N[i]? = some x) (hv:Vis X.env.scope x) (hd:(x == ("__debug__" : Str))=false:=by decide) (hcd:(x == ("__classdict__" : Str))=false:=by decide):PE X (.Name x pos) (tVar i):=by
 intro f s σ H Q I h;obtain ⟨v,e,h⟩:=h;obtain ⟨m,b,g⟩:=I.loc;obtain ⟨u,r,l⟩:=g i x v hN e hv;have fin:EP X f σ Q u s:=⟨v,H,I,r,h⟩
 rcases l with ⟨a,d⟩|⟨a,c,hc,hcell⟩
 ·exact wpAny_Name (wpAny_loadName_local I.ok.kind a b d fin) hd
 ·rcases a with a|a
  ·exact wpAny_Name (wpAny_loadName_cell I.ok.kind a hc hcell fin) hd
  ·exact wpAny_Name (wpAny_loadName_free I.ok.kind a hc hcell fin hcd) hd
theorem pe_int {i j pos}:PE X (.Constant (.int i) j pos) (tC (.int i)):=λ _ _ _ H _ I h=>wpAny_Constant_int ⟨.int i,H,I.tok _,⟨_,rfl⟩,h⟩
theorem pe_bl {b j pos}:PE X (.Constant (.bool b) j pos) (tC (.bl b)):=λ _ _ _ H _ I h=>Constant_bool ⟨.bl b,H,I,rfl,h⟩
theorem pe_non {j pos}:PE X (.Constant .none j pos) (tC .non):=λ _ _ _ H _ I h=>Constant_none ⟨.non,H,I,rfl,h⟩
theorem pe_str {x j pos}:PE X (.Constant (.str x) j pos) (tC (.str x)):=λ _ _ _ H _ I h=>Calls.Constant_str ⟨.str x,H,I.tok _,⟨_,rfl⟩,h⟩
def Gl (X:Cx) (x:Str):Prop:=X.env.kindOf x=some .globalImplicit
theorem z9j {E:Value->y0->Prop} {pins:List (Addr×Obj)} {s:y0} {σ:St} {H:Hp} {x:Str} {u:Value} {pos:Pos} {Q:Value->y0->Prop} (I:Inv X pins σ H s) (hg:Gl X x) (hm:X.mg x=some u) (h:Q u s)
  (hd:(x == ("__debug__" : Str))=false:=by decide):Q0 (Y0 X.prog X.w) X.A (P3 (.Name x pos) X.env) Q E s:=
 R8 I.ok.kind hg (Calls.loadGlobal_global (by rw [I.ok.glob];exact I.mod.glob.keeps I.bk) hm h) hd
theorem ld_blt {E:Value->y0->Prop} {pins:List (Addr×Obj)} {s:y0} {σ:St} {H:Hp} {x:Str} {u:Value} {pos:Pos} {Q:Value->y0->Prop} (I:Inv X pins σ H s) (hg:Gl X x) (hm:X.mg x=none) (hv:a4 x=some u) (h:Q u s)
  (hn:x≠"__name__":=by decide) (hd:(x == ("__debug__" : Str))=false:=by decide):Q0 (Y0 X.prog X.w) X.A (P3 (.Name x pos) X.env) Q E s:=by
 obtain ⟨c,a,b⟩:=I.mod.blt;exact R8 I.ok.kind hg (Calls.loadGlobal_builtin (by rw [I.ok.glob];exact I.mod.glob.keeps I.bk) hm (by rw [I.ok.blt];exact a.keeps I.bk) ((b x hn).trans hv) h) hd
theorem z13 {x:Str} {v:V} {u:Value} {pos:Pos} (hg:Gl X x) (hm:X.mg x=some u) (r:RelV v u) (hd:(x == ("__debug__" : Str))=false:=by decide):PE X (.Name x pos) (tC v):=
 λ _ _ _ H _ I h=>z9j I hg hm ⟨v,H,I,r,h⟩ hd
theorem z1f {x:Str} {v:V} {u:Value} {pos:Pos} (hg:Gl X x) (hm:X.mg x=none) (hv:a4 x=some u) (r:RelV v u) (hn:x≠"__name__":=by decide) (hd:(x == ("__debug__" : Str))=false:=by decide):PE X (.Name x pos) (tC v):=
 λ _ _ _ H _ I h=>ld_blt I hg hm hv ⟨v,H,I,r,h⟩ hn hd
variable {a b:Expr} {ta tb:TE} {pos:Pos}
def PC (X:Cx) (op:CmpOp) (a b:Expr) (t:TE):Prop:=
 ∀(pins:List (Addr×Obj)) (s:y0) (σ:St) (H:Hp) (Q:VK),Inv X pins σ H s->t σ H Q->
  Q0 (Y0 X.prog X.w) X.A (P3 a X.env) (λ v s₁=>Q0 (Y0 X.prog X.w) X.A (P3 b X.env) (λ u s₂=>Q0 (Y0 X.prog X.w) X.A (G2 op v u) (EP X pins σ Q) X.xe s₂) X.xe s₁) X.xe s
noncomputable def tB (t:TE):TT:=λ σ H Q=>t σ H λ x H1=>∃c,x=.bl c/\Q c H1
theorem pt_cmp {op:CmpOp} {t:TE} (h:PC X op a b t) (h1:Q6 op b=false:=by first|exact nobehind _ (by decide) (by decide)|rfl):PT X (.Compare a [op] [b] pos) (tB t):=by intro g s σ H Q I f;refine wpAny_isTrue_Compare1 (thn (h g s σ H _ I f) λ v k h1=>thn h1 λ u j e=>thn e λ c i ⟨x,H1,I1,r1,q1⟩=>?_) h1;obtain ⟨d,rfl,q⟩:=q1;cases r1;exact c3 ⟨H1,I1,q⟩
theorem pt_val {e:Expr} {t:TE} (h:PE X e t) (he :∀whole,isTrue e X.env whole=(do let v <-whole;standAt e.pos;t9 [v] (truthy v)):=by intro _;rfl):PT X e (tB t):=by intro b s σ H Q I a;refine isTrue_plain (thn (h b s σ H _ I a) λ v c ⟨x,H1,I1,r1,q1⟩=>?_) (he _);obtain ⟨d,rfl,q⟩:=q1;cases r1;exact c3 ⟨H1,I1,q⟩
variable {tA tB':TT} {rest:List Expr}
noncomputable def tAnd (t u:TT):TT:=λ σ H Q=>t σ H λ c H1=>if c=true then u σ H1 Q else Q false H1
noncomputable def tOr (t u:TT):TT:=λ σ H Q=>t σ H λ c H1=>if c=true then Q true H1 else u σ H1 Q
noncomputable def tNot (t:TT):TT:=λ σ H Q=>t σ H λ c H1=>Q (!c) H1
theorem z2x (ha:PT X a tA):PW X (.BoolOp .And [a] pos) tA:=by
 intro d b s σ H Q I h;refine isTrue_and (thn (ha b s σ H Q I h) λ c f e=>?_);cases c with
 | true=>exact isTrue_and_nil e
 | false=>exact e
theorem pw_or1 (ha:PT X a tA):PW X (.BoolOp .Or [a] pos) tA:=by
 intro d b s σ H Q I h;refine isTrue_or (thn (ha b s σ H Q I h) λ c f e=>?_);cases c with
 | false=>exact isTrue_or_nil e
 | true=>exact e
theorem pw_and (ha:PT X a tA) (hb:PW X (.BoolOp .And (b :: rest) pos) tB'):PW X (.BoolOp .And (a :: b :: rest) pos) (tAnd tA tB'):=by
 intro e d s σ H Q I h;refine isTrue_and (thn (ha d s σ H _ I h) λ c f ⟨H1,I1,q1⟩=>?_);cases c with
 | true=>exact hb e d f σ H1 Q I1 q1
 | false=>exact ⟨H1,I1,q1⟩
theorem pw_or (ha:PT X a tA) (hb:PW X (.BoolOp .Or (b :: rest) pos) tB'):PW X (.BoolOp .Or (a :: b :: rest) pos) (tOr tA tB'):=by
 intro e d s σ H Q I h;refine isTrue_or (thn (ha d s σ H _ I h) λ c f ⟨H1,I1,q1⟩=>?_);cases c with
 | true=>exact ⟨H1,I1,q1⟩
 | false=>exact hb e d f σ H1 Q I1 q1
theorem pt_not (ha:PT X a tA):PT X (.UnaryOp .Not a pos) (tNot tA):=by intro b s σ H Q I h;exact isTrue_not (ha b s σ H (λ c d=>Q (!c) d) I h)
noncomputable def tAndV (ta tb:TE):TE:=λ σ H Q=>ta σ H λ x H1=>∃c,x=.bl c/\if c=true then tb σ H1 Q else Q (.bl false) H1
noncomputable def tOrV (ta tb:TE):TE:=λ σ H Q=>ta σ H λ x H1=>∃c,x=.bl c/\if c=true then Q (.bl true) H1 else tb σ H1 Q
noncomputable def tNotV (ta:TE):TE:=λ σ H Q=>ta σ H λ x H1=>∃c,x=.bl c/\Q (.bl (!c)) H1
theorem pe_one {op} {t:TE} (h:PE X a t):PE X (.BoolOp op [a] pos) t:=λ b s σ H Q I c=>BoolOp_one (h b s σ H Q I c)
theorem pe_and (ha:PE X a ta) (hb:PE X (.BoolOp .And (b :: rest) pos) tb):PE X (.BoolOp .And (a :: b :: rest) pos) (tAndV ta tb):=by
 intro e s σ H Q I h;refine BoolOp_and (thn (ha e s σ H _ I h) λ v f ⟨x,H1,I1,r1,d⟩=>?_);obtain ⟨c,rfl,d⟩:=d;cases r1;refine c3 ?_;cases c with
 | true=>exact hb e f σ H1 Q I1 d
 | false=>exact ⟨.bl false,H1,I1,rfl,d⟩
theorem pe_or (ha:PE X a ta) (hb:PE X (.BoolOp .Or (b :: rest) pos) tb):PE X (.BoolOp .Or (a :: b :: rest) pos) (tOrV ta tb):=by
 intro e s σ H Q I h;refine BoolOp_or (thn (ha e s σ H _ I h) λ v f ⟨x,H1,I1,r1,d⟩=>?_);obtain ⟨c,rfl,d⟩:=d;cases r1;refine c3 ?_;cases c with
 | false=>exact hb e f σ H1 Q I1 d
 | true=>exact ⟨.bl true,H1,I1,rfl,d⟩
theorem pe_not (ha:PE X a ta):PE X (.UnaryOp .Not a pos) (tNotV ta):=by intro d s σ H Q I h;refine UnaryOp_ (thn (ha d s σ H _ I h) λ v e ⟨x,H1,I1,r1,b⟩=>?_);obtain ⟨c,rfl,b⟩:=b;cases r1;exact not_of (c3 ⟨.bl (!c),H1,I1,rfl,b⟩)
end
def SqL (K:c0) (H:Hp) (a:Addr) (xs:List V):Prop:=
 Rd H a (.lst xs)\/
  ∃(o:Obj) (its:Array Value) (n:Nat),K.lookup a=some o/\o.cls=.type "list"/\o.dict=none/\o.data=.seq its n/\its.size<=sizeLine/\Vals xs its.toList
def SqT (K:c0) (H:Hp) (a:Addr) (xs:List V):Prop:=
 Rd H a (.tup xs)\/
  ∃(o:Obj) (its:Array Value) (n:Nat),K.lookup a=some o/\o.cls=.type "tuple"/\o.data=.seq its n/\its.size<=sizeLine/\Vals xs its.toList
noncomputable def absV:Value->Option V
 | .none=>some .non
 | .bool b=>some (.bl b)
 | .int i _=>some (.int i)
 | .str x _=>some (.str x)
 | .bytes b _=>some (.byt b)
 | .float b _=>some (.flt b)
 | .ref a=>some (.ref a)
 | .type n=>some (.ty n)
 | _=>none
theorem RelV.abs {x:V} {u:Value} (r:RelV x u):absV u=some x:=by
 cases x with
 | non=>cases r;rfl
 | bl _=>cases r;rfl
 | int _=>obtain ⟨t,rfl⟩:=r;rfl
 | str _=>obtain ⟨t,rfl⟩:=r;rfl
 | byt _=>obtain ⟨t,rfl⟩:=r;rfl
 | flt _=>obtain ⟨t,rfl⟩:=r;rfl
 | ref _=>cases r;rfl
 | ty _=>cases r;rfl
theorem RelV.inj {x y:V} {u:Value} (r:RelV x u) (q:RelV y u):x=y:=A1 (r.abs.symm.trans q.abs)
theorem Vals.inj :∀{xs ys:List V} {us:List Value},Vals xs us->Vals ys us->xs=ys
 | _,_,_,.nil,.nil=>rfl
 | _,_,_,.cons r t,.cons r' t'=>by rw [r.inj r',Vals.inj t t']
section
variable {X:Cx} {pins:List (Addr×Obj)} {σ:St} {H:Hp} {s:y0} {a:Addr} {xs ys:List V}
theorem SqL.of {K:c0} (h:H a=some (.lst xs)):SqL K H a xs:=.inl (.inl h)
theorem SqT.of {K:c0} (h:H a=some (.tup xs)):SqT K H a xs:=.inl (.inl h)
theorem Inv.list (I:Inv X pins σ H s) (h:SqL X.K H a xs) :∃its:List Value,Vals xs its/\PlainL s.heap a its.toArray/\xs.length<=sizeLine:=by
 rcases h with h|⟨o,its,n,hk,hc,hd,hs,hz,r⟩
 ·obtain ⟨z,its,n,r,e⟩:=h.ok I.hok;exact ⟨its,r,⟨_,n,e,rfl,rfl,rfl⟩,z⟩
 ·refine ⟨its.toList,r,⟨o,n,I.kIn a o hk,hc,hd,by simpa using hs⟩,?_⟩;have e:=r.length;simp only [V0] at e;omega
theorem Inv.tuple (I:Inv X pins σ H s) (h:SqT X.K H a xs) :∃its:List Value,Vals xs its/\IsTup s.heap a its.toArray/\xs.length<=sizeLine:=by
 rcases h with h|⟨o,its,n,hk,hc,hs,hz,r⟩
 ·obtain ⟨z,its,r,p⟩:=h.ok I.hok;exact ⟨its,r,p.1,z⟩
 ·refine ⟨its.toList,r,⟨o,I.kIn a o hk,hc,n,by simpa using hs⟩,?_⟩;have e:=r.length;simp only [V0] at e;omega
theorem Inv.list_inj (I:Inv X pins σ H s) (h:SqL X.K H a xs) (h':SqL X.K H a ys):xs=ys:=by
 obtain ⟨i,r,⟨o,n,e,_,_,d⟩,_⟩:=I.list h;obtain ⟨g,f,⟨j,k,c,_,_,b⟩,_⟩:=I.list h';rw [e] at c;cases c;rw [d] at b;injection b with d1 _;have:i=g:=by simpa using congrArg Array.toList d1
 subst this;exact r.inj f
theorem Inv.tuple_inj (I:Inv X pins σ H s) (h:SqT X.K H a xs) (h':SqT X.K H a ys):xs=ys:=by
 obtain ⟨i,r,⟨o,e,_,n,d⟩,_⟩:=I.tuple h;obtain ⟨g,f,⟨j,c,_,k,b⟩,_⟩:=I.tuple h';rw [e] at c;cases c;rw [d] at b;injection b with d1 _;have:i=g:=by simpa using congrArg Array.toList d1
 subst this;exact r.inj f
end
noncomputable abbrev Cx.wish (X:Cx) (E:Value->y0->Prop):Cx:={ X with xe:=E }
noncomputable abbrev Cx.nox (X:Cx):Cx:=X.wish λ _ _=>False
theorem Cx.Ok.wish {X:Cx} (ok:X.Ok) (E:Value->y0->Prop):(X.wish E).Ok:=
 ⟨ok.mod,ok.kind,ok.glob,ok.blt,ok.above,ok.inj,ok.has,ok.cab,ok.hd,ok.frames,ok.stk,ok.exf,ok.bs,ok.bsz,ok.noex,ok.exfs,ok.funs,ok.frf⟩
theorem Cx.Ok.unwish {X:Cx} {E:Value->y0->Prop} (ok:(X.wish E).Ok):X.Ok:=
 ⟨ok.mod,ok.kind,ok.glob,ok.blt,ok.above,ok.inj,ok.has,ok.cab,ok.hd,ok.frames,ok.stk,ok.exf,ok.bs,ok.bsz,ok.noex,ok.exfs,ok.funs,ok.frf⟩
section
variable {X:Cx} {pins:List (Addr×Obj)} {σ:St} {H:Hp} {s:y0} {E:Value->y0->Prop}
theorem Inv.wish (I:Inv X pins σ H s) (E:Value->y0->Prop):Inv (X.wish E) pins σ H s:=⟨I.ok.wish E,I.os,I.bare,I.base,I.loc,I.cell,I.free,I.freeC,I.pin,I.hok,I.len⟩
theorem Inv.unwish (I:Inv (X.wish E) pins σ H s):Inv X pins σ H s:=⟨I.ok.unwish,I.os,I.bare,I.base,I.loc,I.cell,I.free,I.freeC,I.pin,I.hok,I.len⟩
theorem SP.unwish {D:Ends} {f:Flow} {s':y0} (h:SP (X.wish E) pins D f s'):SP X pins D f s':=by
 cases f with
 | next=>obtain ⟨b,a,I,q⟩:=h;exact ⟨b,a,I.unwish,q⟩
 | brk=>obtain ⟨b,a,I,q⟩:=h;exact ⟨b,a,I.unwish,q⟩
 | cont=>obtain ⟨b,a,I,q⟩:=h;exact ⟨b,a,I.unwish,q⟩
 | ret u=>obtain ⟨v,b,a,I,r,q⟩:=h;exact ⟨v,b,a,I.unwish,r,q⟩
theorem PSs.nox {st:List Stmt} {t:TS} (h:PSs X.nox st t):PSs X st t:=λ b s σ H D I a=>B3 (h b s σ H D (I.wish _) a) (λ _ _ q=>q.unwish) λ _ _ z=>R3 z
end
section
variable {X:Cx} {st:Stmt} {rest:List Stmt} {t u:TS} {e:Expr} {te:TE} {pos:Pos}
noncomputable def tNext:TS:=λ D σ H=>D.nx σ H
noncomputable def tSeq (t u:TS):TS:=λ D σ H=>t { D with nx:=u D } σ H
theorem z0g:PSs X [] tNext:=λ _ _ σ H _ I h=>p9 ⟨σ,H,I,h⟩
theorem z05 (h1:PS X st t) (h2:PSs X rest u):PSs X (st :: rest) (tSeq t u):=by
 intro a s σ H D I h;refine wpAny_execs_cons (thn (h1 a s σ H { D with nx:=u D } I h) λ f c q=>?_);cases f with
 | next=>obtain ⟨e,d,b,q⟩:=q;exact h2 a c e d D b q
 | ret v=>exact q
 | brk=>exact q
 | cont=>exact q
theorem z06 (h1:PS X st t):PSs X [st] t:=by
 intro a s σ H D I h;refine wpAny_execs_cons (thn (h1 a s σ H D I h) λ f b q=>?_);cases f with
 | next=>exact p9 q
 | ret v=>exact q
 | brk=>exact q
 | cont=>exact q
theorem Inv.quiet {pins:List (Addr×Obj)} {σ:St} {H:Hp} {s:y0} (I:Inv X pins σ H s):interactive X.env=false:=by simp [interactive,I.ok.kind]
noncomputable def tDrop (te:TE):TS:=λ D σ H=>te σ H λ _ H1=>D.nx σ H1
theorem z1n (he:PE X e te) (hs:V7 e none pos.line X.env=E3 false:=by rfl):PS X (.Expr e pos) (tDrop te):=by intro a s σ H D I h;exact wpAny_Expr_any (thn (he a s σ H _ I h) λ v b ⟨x,H1,I1,r1,q1⟩=>⟨σ,H1,I1,q1⟩) I.quiet hs
noncomputable def tRet (te:TE):TS:=λ D σ H=>te σ H D.rt
theorem ps_ret (he:PE X e te):PS X (.Return (some e) pos) (tRet te):=by intro a s σ H D I h;exact wpAny_Return_some (thn (he a s σ H _ I h) λ v b ⟨x,H1,I1,r1,q1⟩=>⟨x,σ,H1,I1,r1,q1⟩)
noncomputable def tIfS (c:TT) (t u:TS):TS:=λ D σ H=>c σ H λ b H1=>if b=true then t D σ H1 else u D σ H1
theorem ps_if {c:Expr} {a b:List Stmt} {tc:TT} (hc:PT X c tc) (ha:PSs X a t) (hb:PSs X b u):PS X (.If c a b pos) (tIfS tc t u):=by
 intro e s σ H D I h;refine wpAny_If (thn (hc e s σ H _ I h) λ d f ⟨H1,I1,q1⟩=>?_);cases d with
 | true=>exact ha e f σ H1 D I1 q1
 | false=>exact hb e f σ H1 D I1 q1
noncomputable def tNever:TS:=λ _ _ _=>False
theorem z1r:PS X st tNever:=λ _ _ _ _ _ _ h=>h.elim
end
noncomputable abbrev TG:=V->St->Hp->(St->Hp->Prop)->Prop
noncomputable abbrev TGs:=List V->St->Hp->(St->Hp->Prop)->Prop
def PG (X:Cx) (target:Expr) (t:TG):Prop:=
 ∀(pins:List (Addr×Obj)) (s:y0) (σ:St) (H:Hp) (v:V) (u:Value) (Q:St->Hp->Prop),Inv X pins σ H s->RelV v u->t v σ H Q->
  Q0 (Y0 X.prog X.w) X.A (assign target X.env u) (λ _ s'=>∃σ' H',Inv X pins σ' H' s'/\Q σ' H') X.xe s
def PGs (X:Cx) (ts:List Expr) (t:TGs):Prop:=
 ∀(pins:List (Addr×Obj)) (s:y0) (σ:St) (H:Hp) (vs:List V) (us:List Value) (Q:St->Hp->Prop),Inv X pins σ H s->Vals vs us->t vs σ H Q->
  Q0 (Y0 X.prog X.w) X.A (assignInOrder ((A7 ts X.env).map (·.2)) us) (λ _ s'=>∃σ' H',Inv X pins σ' H' s'/\Q σ' H') X.xe s
noncomputable abbrev TSet:=V->V->V->Hp->(Hp->Prop)->Prop
def PSet (X:Cx) (t:TSet):Prop:=
 ∀(pins:List (Addr×Obj)) (s:y0) (σ:St) (H:Hp) (o i v:V) (ov iv u:Value) (Q:Hp->Prop),Inv X pins σ H s->RelV o ov->RelV i iv->RelV v u->t o i v H Q->
  Q0 (Y0 X.prog X.w) X.A (setItem ov iv u) (λ _ s'=>∃H',Inv X pins σ H' s'/\Q H') X.xe s
section
variable {X:Cx} {pos:Pos}
noncomputable def gName (i:Nat):TG:=λ v σ H Q=>Q (σ.set i (some v)) H
theorem z11 {i:Nat} {x:Str} (hN:X.N.Nodup) (hi:X.N[i]? = some x) (hx:Loc X.env.scope x) (hf:X.fn x=true\/X.env.scope.names.lookup x=some .local:=by first|exact .inl rfl|exact .inr rfl|assumption):PG X (.Name x pos) (gName i):=by intro b s σ H v u Q I r h;exact wpAny_assign_Name (z9o I hN hi hx r (λ c a=>⟨_,H,a,h⟩) hf)
noncomputable def gNil:TGs:=λ vs σ H Q=>vs=[]/\Q σ H
noncomputable def gCons (t:TG) (u:TGs):TGs:=λ vs σ H Q=>∃v r,vs=v :: r/\t v σ H λ σ' H'=>u r σ' H' Q
theorem z2j:PGs X [] gNil:=by intro a s σ H c b Q I r h;obtain ⟨e,h⟩:=h;subst e;cases r;exact assignInOrder_nil ⟨σ,H,I,h⟩
theorem z0k {e:Expr} {es:List Expr} {t:TG} {u:TGs} (h1:PG X e t) (h2:PGs X es u)
  (hs:(A7 (e :: es) X.env).map (·.2)=assign e X.env :: (A7 es X.env).map (·.2):=by rfl):PGs X (e :: es) (gCons t u):=by
 intro a s σ H g d Q I r h;obtain ⟨v,f,c,h⟩:=h;subst c;cases r with
 | cons r rr=>rw [hs];refine assignInOrder_cons (thn (h1 a s σ H _ _ _ I r h) λ _ b ⟨σ1,H1,I1,q1⟩=>?_);exact h2 a b σ1 H1 _ _ Q I1 rr q1
noncomputable def gTup (K:c0) (n:Nat) (t:TGs):TG:=λ v σ H Q=>∃a xs,v=.ref a/\SqT K H a xs/\xs.length=n/\t xs σ H Q
theorem pg_tup {es:List Expr} {k:Nat} {t:TGs} {n:Nat} (hc:X.calm=true) (h:PGs X es t)
  (hn:(A7 es X.env).length=n:=by rfl) (hst:(A7 es X.env).findIdx? (·.1)=none:=by rfl):PG X (.Tuple es k pos) (gTup X.K n t):=by
 intro f s σ H v u Q I r c;obtain ⟨a,l,m,q,j,c⟩:=c;subst m;cases r;obtain ⟨y,d,i,x⟩:=I.tuple q;refine assign_Tuple_tuple (I.ok.hd hc) i (by simp [hn,<-j,d.length]) hst λ g p=>?_;have w:Inv X f σ H { s with heap:=g }:=I.kept (t':=s.toks) λ b o e=>p b o (O0 (F0 e)) e;exact h f _ σ H l _ Q w (by simpa using d) c
noncomputable def gSub (to ti:TE) (t:TSet):TG:=λ v σ H Q=>to σ H λ o H1=>ti σ H1 λ i H2=>t o i v H2 λ H3=>Q σ H3
theorem pg_sub {o i:Expr} {to ti:TE} {t:TSet} (ho:PE X o to) (hi:PE X i ti) (hs:PSet X t)
  (ha :∀v,assign (.Subscript o i pos) X.env v=(do
   let ov <-t9 [v] (P3 o X.env)
   let iv <-t9 [v,ov] (P3 i X.env)
   standAt pos
   t9 [v,ov,iv] (setItem ov iv v)
   release [v,ov,iv] []):=by intro _;rfl):PG X (.Subscript o i pos) (gSub to ti t):=by
 intro a s σ H v u Q I r h;rw [ha];refine o0 (E2 (thn (ho a s σ H _ I h) λ ov c ⟨x,H1,I1,r1,q1⟩=>?_));refine o0 (E2 (thn (hi a c σ H1 _ I1 q1) λ iv b ⟨y,H2,I2,r2,q2⟩=>?_));refine o0 (wpAny_standAt (o0 (E2 (thn (hs a b σ H2 x y v ov iv u _ I2 r1 r2 r q2) λ _ d ⟨H3,I3,q3⟩=>?_))));exact wpAny_release ⟨σ,H3,I3,q3⟩
noncomputable def tAsg (te:TE) (g:TG):TS:=λ D σ H=>te σ H λ x H1=>g x σ H1 D.nx
theorem ps_asg {tg e:Expr} {te:TE} {g:TG} (he:PE X e te) (hg:PG X tg g) (hs:swapsWithSole [tg] e pos.line X.env=E3 false:=by rfl) (hw:swappedStores [tg] e X.env=E3 none:=by rfl)
  (h1:(A7 [tg] X.env).map (·.2)=[assign tg X.env]:=by rfl):PS X (.Assign [tg] e pos) (tAsg te g):=by
 intro a s σ H D I h;refine wpAny_Assign_stores (thn (he a s σ H _ I h) λ v b ⟨x,H1,I1,r1,q1⟩=>?_) hs hw;rw [h1];exact thn (hg a b σ H1 x v _ I1 r1 q1) λ _ c q=>q
theorem ps_set {i:Nat} {x:Str} {e:Expr} {te:TE} {pos':Pos} (hN:X.N.Nodup) (hi:X.N[i]? = some x) (hx:Loc X.env.scope x) (he:PE X e te) (hs:V7 e (some (.Name x pos')) pos.line X.env=E3 false:=by rfl) (hf:X.fn x=true\/X.env.scope.names.lookup x=some .local:=by first|exact .inl rfl|exact .inr rfl|assumption) :
  PS X (.Assign [.Name x pos'] e pos) (tAsg te (gName i)):=by
 intro a s σ H D I h;refine wpAny_Assign_Name (thn (he a s σ H _ I h) λ v d ⟨y,H1,I1,r1,q1⟩=>?_) hs;exact z9o I1 hN hi hx r1 (λ c b=>⟨_,H1,b,q1⟩) hf
end
structure It where
 go:Nat->Hp->Prop
 yld:Nat->Hp->V->Hp->Prop
 stop:Nat->Hp->Prop
def FpOk (X:Cx) (pins:List (Addr×Obj)) (H:Hp) (b:Addr):Prop:=
 H b=none/\b≠X.env.locals/\b∉X.fs/\(b∈X.ex\/X.s₀.heap.objs.size<=b)/\(∀x c,X.env.cells.lookup x=some c->c≠b)/\∀p∈X.pn++pins,p.1≠b
theorem Inv.fpOk {X:Cx} {pins:List (Addr×Obj)} {σ:St} {H H':Hp} {s:y0} {b:Addr} (I:Inv X pins σ H s) (hb:s.heap.objs.size<=b) (hn:H' b=none):FpOk X pins H' b:=by
 refine ⟨hn,X1 (U0 I.lt hb),I.nofs hb,.inr (G0 I.sz hb),λ x c e z=>?_,λ p a z=>?_⟩
 ·obtain ⟨v,q⟩:=I.cell x c e;exact absurd (U0 q.lt (by rw [z];exact hb)) (X2 _)
 ·exact absurd (U0 (F0 (I.pin p a).1) (by rw [z];exact hb)) (X2 _)
structure Turn (P:Program) (w:P0) (K:c0) (tg:Expr) (J:It) (fp:List Addr) (it:Addr) (tn:Nat->Heap->Prop):Prop where
 mem:it∈fp
 obj :∀i h,tn i h->∀b∈fp,∃o,h.get? b=some o/\∀v,o.data≠.cell v
 keep :∀i h h',tn i h->(∀b∈fp,∀o,h.get? b=some o->h'.get? b=some o)->tn i h'
 item :∀(X:Cx),X.prog=P->X.w=w->X.K=K->X.calm=true->∀(i:Nat) (pins:List (Addr×Obj)) (s:y0) (σ:St) (H:Hp) (E:Value->y0->Prop),Inv X pins σ H s->(∀b∈fp,FpOk X pins H b)->tn i s.heap->J.go i H->
  Q0 (Y0 P w) X.A (n8 (.ref it)) (λ r s1=>∃u,r=some u/\
   Q0 (Y0 P w) X.A (F7 tg (.ref it) u) (λ _ s2=>∃x H',Inv X pins σ H' s2/\RelV x u/\J.yld i H x H'/\tn (i + 1) s2.heap/\∀b∈fp,H' b=none) E s1) E s
 done :∀(X:Cx),X.prog=P->X.w=w->X.K=K->X.calm=true->∀(i:Nat) (pins:List (Addr×Obj)) (s:y0) (σ:St) (H:Hp) (E:Value->y0->Prop),Inv X pins σ H s->(∀b∈fp,FpOk X pins H b)->tn i s.heap->J.stop i H->
  Q0 (Y0 P w) X.A (n8 (.ref it)) (λ r s1=>r=none/\Inv X pins σ H s1) E s
 self :∀(A:W1) (i:Nat) (s:y0) (Q:Value->y0->Prop) (E:Value->y0->Prop),tn i s.heap->Q (.ref it) s->Q0 (Y0 P w) A (pyIter (.ref it)) Q E s
noncomputable abbrev TI:=St->Hp->(It->Hp->Prop)->Prop
def PIE (X:Cx) (pins:List (Addr×Obj)) (σ:St) (tg:Expr) (R:It->Hp->Prop) (itv:Value) (s2:y0):Prop:=
 ∃(it:Addr) (fp:List Addr) (tn:Nat->Heap->Prop) (J:It) (H':Hp),itv=.ref it/\Inv X pins σ H' s2/\Turn X.prog X.w X.K tg J fp it tn/\tn 0 s2.heap/\(∀b∈fp,FpOk X pins H' b)/\R J H'
def PI (X:Cx) (tg iter:Expr) (wi:TI):Prop:=
 ∀(pins:List (Addr×Obj)) (s:y0) (σ:St) (H:Hp) (R:It->Hp->Prop),Inv X pins σ H s->wi σ H R->
  Q0 (Y0 X.prog X.w) X.A (P3 iter X.env) (λ v s1=>Q0 (Y0 X.prog X.w) X.A (pyIter v) (PIE X pins σ tg R) X.xe s1) X.xe s
theorem go_of {M:Model} {A:W1} {E:Value->y0->Prop} {s:y0} {tg:Expr} {it:Addr} {u:Value} {o:Obj} {n:String} {vs:Array Value} {Q:Unit->y0->Prop} (ho:s.heap.get? it=some o) (hc:o.cls=.type n) (hd:o.data=.fields vs)
    (hn:["enumerate","zip","dict_itemiterator","dict_reverseitemiterator","odict_iterator","itertools.zip_longest","itertools.pairwise"].contains n=false) (hQ:Q () s):Q0 M A (F7 tg (.ref it) u) Q E s:=by
  unfold F7;cases tg<;>first
    | exact C0 hQ
    | (cases u<;>first
        | exact C0 hQ
        | (refine o0 (wpAny_load ho ?_)
           rw [hc,hd];show Q0 M A (if (["enumerate","zip","dict_itemiterator","dict_reverseitemiterator","odict_iterator","itertools.zip_longest","itertools.pairwise"].contains n && vs[0]? == some (L4 _))=true then _ else _) Q E s;rw [if_neg (by intro h;rw [hn,o7] at h;cases h)];exact C0 hQ))
noncomputable def Itl (K:c0) (a:Addr):It:=
 ⟨λ i H=>∃xs x,SqL K H a xs/\xs[i]? = some x,λ i H x H'=>H'=H/\∀xs,SqL K H a xs->xs[i]? = some x,λ i H=>∃xs,SqL K H a xs/\xs.length<=i⟩
noncomputable def Itt (K:c0) (a:Addr):It:=
 ⟨λ i H=>∃xs x,SqT K H a xs/\xs[i]? = some x,λ i H x H'=>H'=H/\∀xs,SqT K H a xs->xs[i]? = some x,λ i H=>∃xs,SqT K H a xs/\xs.length<=i⟩
theorem zcx {P:Program} {w:P0} {K:c0} {tg:Expr} (a it:Addr):Turn P w K tg (Itl K a) [it] it (λ i h=>h.IsListIter it a i) where
 mem:=by simp
 obj:=λ i h f b g=>by
  have e:b=it:=by simpa using g
  subst e;obtain ⟨o,e,c,d⟩:=f;exact ⟨o,e,λ v z=>by rw [d] at z;cases z⟩
 keep:=λ i h j f k=>f.at λ o e=>k it (by simp) o e
 item:=by intro X D F y L i M s σ H E I l f n;subst D F y;obtain ⟨T,x,m,A⟩:=n;obtain ⟨W,t,p,R⟩:=I.list m;obtain ⟨u,U,Q⟩:=t.get A;obtain ⟨r,C,O,q,B,G⟩:=l it (by simp);refine y7 f p.isList (x:=u) (by simpa using U) λ j J sb=>?_;have V:Inv X M σ H { s with heap:=j }:=I.turned (t':=s.toks) (λ b o g e=>(sb.2 b g).trans e) r C q B G;obtain ⟨o,e,c,d⟩:=id J;exact ⟨u,rfl,go_of (s:={ s with heap:=j }) e c d (by decide) ⟨x,H,V,Q,⟨rfl,λ Z N=>by rw [I.list_inj N m];exact A⟩,J,λ b g=>(l b g).1⟩⟩
 done:=by intro X D F y L i M s σ H E I l f n;subst D F y;obtain ⟨T,m,A⟩:=n;obtain ⟨W,t,p,R⟩:=I.list m;obtain ⟨r,C,O,q,B,G⟩:=l it (by simp);have Y:=t.length;exact L7 (I.ok.hd L) f p.isList (by simp;omega) λ j S=>⟨rfl,I.turned (t':=s.toks) (λ b o g e=>S b o g e) r C q B G⟩
 self:=λ _ _ _ _ _ f h=>wpAny_pyIter_listiter f h
theorem zap {P:Program} {w:P0} {K:c0} {tg:Expr} (a it:Addr):Turn P w K tg (Itt K a) [it] it (λ i h=>h.IsTupleIter it a i) where
 mem:=by simp
 obj:=λ i h f b g=>by
  have e:b=it:=by simpa using g
  subst e;obtain ⟨o,e,c,d⟩:=f;exact ⟨o,e,λ v z=>by rw [d] at z;cases z⟩
 keep:=λ i h j f k=>f.at λ o e=>k it (by simp) o e
 item:=by intro X D F y M i N s σ H E I l f n;subst D F y;obtain ⟨U,x,m,A⟩:=n;obtain ⟨J,t,p,S⟩:=I.tuple m;obtain ⟨u,V,R⟩:=t.get A;obtain ⟨r,C,Q,q,B,G⟩:=l it (by simp);refine wpAny_pyNext_tuple_item f (show s.heap.IsTuple a J.toArray from p) (x:=u) (by simpa using V) λ j L sb=>?_;have W:Inv X N σ H { s with heap:=j }:=I.turned (t':=s.toks) (λ b o g e=>(sb.2 b g).trans e) r C q B G;obtain ⟨o,e,c,d⟩:=id L;exact ⟨u,rfl,go_of (s:={ s with heap:=j }) e c d (by decide) ⟨x,H,W,R,⟨rfl,λ Z O=>by rw [I.tuple_inj O m];exact A⟩,L,λ b g=>(l b g).1⟩⟩
 done:=by intro X D F y M i N s σ H E I l f n;subst D F y;obtain ⟨U,m,A⟩:=n;obtain ⟨J,t,p,S⟩:=I.tuple m;obtain ⟨r,C,Q,q,B,G⟩:=l it (by simp);have Y:=t.length;exact wpAny_pyNext_tuple_end (I.ok.hd M) f (show s.heap.IsTuple a J.toArray from p) (by simp;omega) λ j T=>⟨rfl,I.turned (t':=s.toks) (λ b o g e=>T b o g e) r C q B G⟩
 self:=λ _ _ _ _ _ f h=>wpAny_pyIter_tupleiter f h
section
variable {X:Cx} {tg:Expr}
noncomputable def iList (K:c0) (tl:TE):TI:=λ σ H R=>tl σ H λ x H1=>∃a,x=.ref a/\(∃xs,SqL K H1 a xs)/\R (Itl K a) H1
noncomputable def iTup (K:c0) (tl:TE):TI:=λ σ H R=>tl σ H λ x H1=>∃a,x=.ref a/\(∃xs,SqT K H1 a xs)/\R (Itt K a) H1
theorem z0n {l:Expr} {tl:TE} (hl:PE X l tl):PI X tg l (iList X.K tl):=by
 intro g s σ H R I h;refine thn (hl g s σ H _ I h) λ v c ⟨x,H1,I1,r1,q1⟩=>?_;obtain ⟨a,e,⟨k,f⟩,q⟩:=q1;subst e;cases r1;obtain ⟨m,j,p,i⟩:=I1.list f;refine G5 p.isList ?_;refine ⟨c.heap.objs.size,[c.heap.objs.size],_,_,H1,rfl,I1.kept (t':=c.toks) λ b o e=>v0 _ e,zcx a _,⟨_,I0 _ rfl,rfl,rfl⟩,λ b d=>?_,q⟩;have e:b=c.heap.objs.size:=by simpa using d
 subst e;exact I1.fpOk (A0 _) (I1.hok.fresh (A0 _))
theorem pi_tup {l:Expr} {tl:TE} (hl:PE X l tl):PI X tg l (iTup X.K tl):=by
 intro g s σ H R I h;refine thn (hl g s σ H _ I h) λ v c ⟨x,H1,I1,r1,q1⟩=>?_;obtain ⟨a,e,⟨m,f⟩,q⟩:=q1;subst e;cases r1;obtain ⟨i,k,p,j⟩:=I1.tuple f;refine v4 (show c.heap.IsTuple a i.toArray from p) ?_;refine ⟨c.heap.objs.size,[c.heap.objs.size],_,_,H1,rfl,I1.kept (t':=c.toks) λ b o e=>v0 _ e,zap a _,⟨_,I0 _ rfl,rfl,rfl⟩,λ b d=>?_,q⟩;have e:b=c.heap.objs.size:=by simpa using d
 subst e;exact I1.fpOk (A0 _) (I1.hok.fresh (A0 _))
noncomputable def tFor (wi:TI) (g:TG) (tb:TS):TS:=λ D σ H=>wi σ H λ J H1=>∃W:Nat->Nat->St->Hp->Prop,(∃m,W 0 m σ H1)/\∀i m σ H,W i m σ H->
 (J.stop i H/\D.nx σ H)\/(J.go i H/\∃N:St->Hp->Prop,(∀σ' H',N σ' H'->∃m',m' < m/\W (i + 1) m' σ' H')/\∀x H',J.yld i H x H'->g x σ H' λ σ2 H2=>tb { D with nx:=N,ct:=N,bk:=D.nx } σ2 H2)
noncomputable def pinsAt (fp:List Addr) (h:Heap):List (Addr×Obj):=fp.filterMap λ b=>(h.get? b).map λ o=>(b,o)
theorem z0x {fp:List Addr} {h:Heap} {b:Addr} {o:Obj} (hb:b∈fp) (e:h.get? b=some o):(b,o)∈pinsAt fp h:=List.mem_filterMap.mpr ⟨b,hb,by rw [e];rfl⟩
theorem z7k {fp:List Addr} {h:Heap} {p:Addr×Obj} (hp:p∈pinsAt fp h):p.1∈fp/\h.get? p.1=some p.2:=by
 obtain ⟨b,c,e⟩:=List.mem_filterMap.mp hp;cases q:h.get? b with
 | none=>rw [q] at e;cases e
 | some o=>rw [q] at e;have a:(b,o)=p:=A1 e;subst a;exact ⟨c,q⟩
theorem Inv.pinned {pins:List (Addr×Obj)} {σ:St} {H:Hp} {s:y0} {fp:List Addr} (I:Inv X pins σ H s) (hf :∀b∈fp,FpOk X pins H b) (ho :∀b∈fp,∃o,s.heap.get? b=some o/\∀v,o.data≠.cell v):Inv X (pins++pinsAt fp s.heap) σ H s:=
 I.pins_of λ p g=>(List.mem_append.mp g).elim (λ z=>I.pin p (N0 _ z)) λ z=>by obtain ⟨c,e⟩:=z7k z;obtain ⟨i,f,h,_⟩:=hf p.1 c;obtain ⟨o,a,d⟩:=ho p.1 c;rw [e] at a;cases a;exact ⟨e,i,f,h,d⟩
theorem Inv.unpinned {pins pl:List (Addr×Obj)} {σ:St} {H:Hp} {s:y0} (I:Inv X (pins++pl) σ H s):Inv X pins σ H s:=I.pins_of λ p a=>I.pin p (N0 _ (J4 _ a))
theorem ps_for {iter:Expr} {body:List Stmt} {wi:TI} {g:TG} {tb:TS} {pos:Pos} (hp:PassesOwn (Y0 X.prog X.w) X.A X.env X.xe) (hc:X.calm=true) (hi:PI X tg iter wi) (hg:PG X tg g) (hb:PSs X body tb)
  (hs :∀x,O4 iter X.env x=E3 x:=by intro _;rfl):PS X (.For tg iter body [] pos) (tFor wi g tb):=by
 intro l s σ H D I h;refine wpAny_For (thn (hi l s σ H _ I h) λ v s1 S=>thn S λ a1 s2 L=>?_) hs;obtain ⟨it,q,G,J,R,e,V,T,O,B,W,⟨m0,Y⟩,a0⟩:=L;subst e
 -- what stays true of the iterator's objects through the loop
 have t :∀{H':Hp},(∀b∈q,H' b=none)->∀b∈q,FpOk X l H' b:=λ Z b hb=>⟨Z b hb,(B b hb).2⟩
 refine codeAny_forLoop_any (λ n E=>∃i σ' H',Inv X l σ' H' E/\G i E.heap/\(∀b∈q,H' b=none)/\W i n σ' H') ?_ m0 ⟨0,σ,R,V,O,λ b hb=>(B b hb).1,Y⟩;rintro n F ⟨i,σ3,H3,I3,st3,fr3,w3⟩;rcases a0 i n σ3 H3 w3 with ⟨Q,qn⟩|⟨go,N,hN,step⟩
 ·refine c6 hp (thn (T.done X rfl rfl rfl hc i l F σ3 H3 X.xe I3 (t fr3) st3 Q) λ r s4 ⟨hr,I4⟩=>?_);subst hr;exact p9 ⟨σ3,H3,I4,qn⟩
 ·refine c6 hp (thn (T.item X rfl rfl rfl hc i l F σ3 H3 X.xe I3 (t fr3) st3 go) λ r s4 ⟨u,hr,h4⟩=>?_);subst hr;refine c6 hp (thn h4 λ _ z ⟨x,H5,I5,r5,y5,st5,fr5⟩=>?_);have K:=I5.pinned (t fr5) (T.obj _ _ st5);refine c6 hp (thn (hg _ z σ3 H5 x u _ K r5 (step x H5 y5)) λ _ M ⟨σ6,H6,I6,q6⟩=>?_);refine c6 hp (thn (hb _ M σ6 H6 _ I6 q6) λ f y k=>?_);have C :∀{c:St} {j:Hp},Inv X (l++pinsAt q z.heap) c j y->N c j->∃m,m < n/\∃i σ' H',Inv X l σ' H' y/\G i y.heap/\(∀b∈q,H' b=none)/\W i m σ' H':=λ {c j} a p=>by obtain ⟨m',P,U⟩:=hN c j p;refine ⟨m',P,i + 1,c,j,a.unpinned,T.keep _ _ _ st5 λ b hb o e=>(a.pin (b,o) (N0 _ (N0 _ (z0x hb e)))).1,λ b hb=>?_,U⟩;obtain ⟨o,e,d⟩:=T.obj _ _ st5 b hb;exact (a.pin (b,o) (N0 _ (N0 _ (z0x hb e)))).2.1
  cases f with
  | next=>obtain ⟨c,j,a,p⟩:=k;exact C a p
  | cont=>obtain ⟨c,j,a,p⟩:=k;exact C a p
  | brk=>obtain ⟨c,j,a,k⟩:=k;exact ⟨c,j,a.unpinned,k⟩
  | ret v=>obtain ⟨x7,c,j,a,r7,k⟩:=k;exact ⟨x7,c,j,a.unpinned,r7,k⟩
end
theorem z55 {K:c0} {a:Addr} {xs:List V} {g:TG} {tb:TS} {D:Ends} {σ:St} {H:Hp} (Pv:Nat->St->Hp->Prop) (h0:Pv 0 σ H) (hl :∀i σ H,i<=xs.length->Pv i σ H->SqL K H a xs)
  (hs :∀i x σ H,xs[i]? = some x->Pv i σ H->g x σ H λ σ2 H2=>tb { D with nx:=Pv (i + 1),ct:=Pv (i + 1),bk:=D.nx } σ2 H2) (hd :∀σ H,Pv xs.length σ H->D.nx σ H) :
  ∃W:Nat->Nat->St->Hp->Prop,(∃m,W 0 m σ H)/\∀i m σ H,W i m σ H->
   ((Itl K a).stop i H/\D.nx σ H)\/((Itl K a).go i H/\∃N:St->Hp->Prop,(∀σ' H',N σ' H'->∃m',m' < m/\W (i + 1) m' σ' H')/\∀x H',(Itl K a).yld i H x H'->g x σ H' λ σ2 H2=>tb { D with nx:=N,ct:=N,bk:=D.nx } σ2 H2):=by
 refine ⟨λ i m σ H=>m=xs.length - i/\i<=xs.length/\Pv i σ H,⟨xs.length,by simp,L1 _,h0⟩,?_⟩;rintro i m σ H ⟨rfl,hi,p⟩;have q:=hl i σ H hi p;by_cases hlt:i < xs.length
 ·refine .inr ⟨⟨xs,xs[i],q,by simp [hlt]⟩,Pv (i + 1),λ σ' H' b=>⟨xs.length - (i + 1),by omega,rfl,hlt,b⟩,λ x H' y=>?_⟩;obtain ⟨e,y⟩:=y;subst e;exact hs i x σ _ (y xs q) p
 ·have e:i=xs.length:=by omega
  subst e;exact .inl ⟨⟨xs,q,A0 _⟩,hd σ H p⟩
noncomputable abbrev R2:=V->V->Hp->VK->Prop
def OpR (X:Cx) (f:Value->Value->Sem Value) (r:R2):Prop:=
 ∀(pins:List (Addr×Obj)) (s:y0) (σ:St) (H:Hp) (x y:V) (v u:Value) (Q:VK),Inv X pins σ H s->RelV x v->RelV y u->r x y H Q->
  Q0 (Y0 X.prog X.w) X.A (f v u) (EP X pins σ Q) X.xe s
def UnR (X:Cx) (f:Value->Sem Value) (r:V->Hp->VK->Prop):Prop:=
 ∀(pins:List (Addr×Obj)) (s:y0) (σ:St) (H:Hp) (x:V) (v:Value) (Q:VK),Inv X pins σ H s->RelV x v->r x H Q->
  Q0 (Y0 X.prog X.w) X.A (f v) (EP X pins σ Q) X.xe s
def CallR (X:Cx) (f:Value) (r:List V->Hp->VK->Prop):Prop:=
 ∀(pins:List (Addr×Obj)) (s:y0) (σ:St) (H:Hp) (xs:List V) (us:List Value) (Q:VK),Inv X pins σ H s->Vals xs us->r xs H Q->
  Q0 (Y0 X.prog X.w) X.A (call f us) (EP X pins σ Q) X.xe s
noncomputable def tOp (r:R2) (ta tb:TE):TE:=λ σ H Q=>ta σ H λ x H1=>tb σ H1 λ y H2=>r x y H2 Q
noncomputable def tUn (r:V->Hp->VK->Prop) (ta:TE):TE:=λ σ H Q=>ta σ H λ x H1=>r x H1 Q
noncomputable def rI (C:Int->Int->Prop) (g:Int->Int->V):R2:=λ x y H Q=>∃i j,x=.int i/\y=.int j/\C i j/\Q (g i j) H
noncomputable def rI0 (g:Int->Int->V):R2:=λ x y H Q=>∃i j,x=.int i/\y=.int j/\Q (g i j) H
def rU (g:Int->V):V->Hp->VK->Prop:=λ x H Q=>∃i,x=.int i/\Q (g i) H
section
variable {X:Cx} {a b c:Expr} {ta tb tc:TE} {pos:Pos}
theorem binT (ha:PE X a ta) (hb:PE X b tb) {pins:List (Addr×Obj)} {s:y0} {σ:St} {H:Hp} {R:V->V->Hp->Prop} (I:Inv X pins σ H s)
  (h:ta σ H λ x H1=>tb σ H1 λ y H2=>R x y H2) {Q:Value->y0->Prop} {f:Value->Value->Sem Value}
  (hf :∀v u s2 x y H2,Inv X pins σ H2 s2->RelV x v->RelV y u->R x y H2->Q0 (Y0 X.prog X.w) X.A (f v u) Q X.xe s2) :
  Q0 (Y0 X.prog X.w) X.A (P3 a X.env) (λ v s₁=>Q0 (Y0 X.prog X.w) X.A (P3 b X.env) (λ u s₂=>Q0 (Y0 X.prog X.w) X.A (f v u) Q X.xe s₂) X.xe s₁) X.xe s:=by
 refine thn (ha pins s σ H _ I h) λ v c ⟨x,H1,I1,r1,q1⟩=>?_;refine thn (hb pins c σ H1 _ I1 q1) λ u s2 ⟨y,H2,I2,r2,q2⟩=>?_;exact hf v u s2 x y H2 I2 r1 r2 q2
theorem pe_op {op:Operator} {r:R2} (ho:OpR X (U4 op) r) (ha:PE X a ta) (hb:PE X b tb):PE X (.BinOp a op b pos) (tOp r ta tb):=by intro d s σ H Q I h;exact wpAny_BinOp (binT ha hb I h λ v u c x y e i g f q=>ho d c σ e x y v u Q i g f q)
theorem pe_un {op:UnaryOp} {r:V->Hp->VK->Prop} (ho:UnR X (unaryOp op) r) (ha:PE X a ta):PE X (.UnaryOp op a pos) (tUn r ta):=by intro b s σ H Q I h;exact UnaryOp_ (thn (ha b s σ H _ I h) λ v c ⟨x,H1,I1,r1,q1⟩=>ho b c σ H1 x v Q I1 r1 q1)
theorem opI {f:Value->Value->Sem Value} {C:Int->Int->Prop} {g:Int->Int->Int}
  (rule :∀(i j:Int) (t u:Tok) (s:y0) (Q:Value->y0->Prop) (E:Value->y0->Prop),C i j->Q (.int (g i j) s.toks) { s with toks:=s.toks + 1 }->Q0 (Y0 X.prog X.w) X.A (f (.int i t) (.int j u)) Q E s) :
  OpR X f (rI C λ i j=>.int (g i j)):=by
 intro e s σ H x y v u Q I c b h;obtain ⟨i,j,rfl,rfl,d,q⟩:=h;obtain ⟨t,rfl⟩:=c;obtain ⟨a,rfl⟩:=b;exact rule i j t a s _ _ d ⟨.int (g i j),H,I.tok _,⟨_,rfl⟩,q⟩
theorem opI0 {f:Value->Value->Sem Value} {g:Int->Int->Int}
  (rule :∀(i j:Int) (t u:Tok) (s:y0) (Q:Value->y0->Prop) (E:Value->y0->Prop),Q (.int (g i j) s.toks) { s with toks:=s.toks + 1 }->Q0 (Y0 X.prog X.w) X.A (f (.int i t) (.int j u)) Q E s) :
  OpR X f (rI0 λ i j=>.int (g i j)):=by
 intro d s σ H x y v u Q I c b h;obtain ⟨i,j,rfl,rfl,q⟩:=h;obtain ⟨t,rfl⟩:=c;obtain ⟨a,rfl⟩:=b;exact rule i j t a s _ _ ⟨.int (g i j),H,I.tok _,⟨_,rfl⟩,q⟩
theorem opB0 {f:Value->Value->Sem Value} {g:Int->Int->Bool}
  (rule :∀(i j:Int) (t u:Tok) (s:y0) (Q:Value->y0->Prop) (E:Value->y0->Prop),Q (.bool (g i j)) s->Q0 (Y0 X.prog X.w) X.A (f (.int i t) (.int j u)) Q E s) :
  OpR X f (rI0 λ i j=>.bl (g i j)):=by
 intro d s σ H x y v u Q I c b h;obtain ⟨i,j,rfl,rfl,q⟩:=h;obtain ⟨t,rfl⟩:=c;obtain ⟨a,rfl⟩:=b;exact rule i j t a s _ _ ⟨.bl (g i j),H,I,rfl,q⟩
def CPow (i j:Int):Prop:=0<=j/\j<=1000000/\i.natAbs < 2 ^ 64
def CMul (i j:Int):Prop:=(-(2 ^ 64) < i/\i < 2 ^ 64)\/(-(2 ^ 64) < j/\j < 2 ^ 64)
theorem CMul.ok {i j:Int} (h:CMul i j):IntMulOk i j:=by
 rcases h with ⟨a,b⟩|⟨a,b⟩
 ·exact .of_left (intBits_le_64 a b)
 ·exact .of_right (intBits_le_64 a b)
theorem op_add:OpR X (U4 .Add) (rI0 λ i j=>.int (i + j)):=opI0 λ _ _ _ _ _ _ _ q=>add_int q
theorem op_sub:OpR X (U4 .Sub) (rI0 λ i j=>.int (i - j)):=opI0 λ _ _ _ _ _ _ _ q=>sub_int q
theorem op_mul:OpR X (U4 .Mult) (rI CMul λ i j=>.int (i * j)):=opI λ _ _ _ _ _ _ _ a q=>mul_int q a.ok
theorem op_mod:OpR X (U4 .Mod) (rI (λ _ j=>0 < j) λ i j=>.int (i % j)):=opI λ i j _ _ _ _ _ a q=>by have b:(0:Int) < j:=a;exact mod_int' (by omega) (by rw [Int.fmod_eq_emod_of_nonneg i (by omega)];exact q)
theorem op_pow:OpR X (U4 .Pow) (rI CPow λ i j=>.int (i ^ j.toNat)):=opI λ _ _ _ _ _ _ _ a q=>pow_int_small a.1 a.2.1 a.2.2 q
theorem unI {f:Value->Sem Value} {g:Int->Int}
  (rule :∀(i:Int) (t:Tok) (s:y0) (Q:Value->y0->Prop) (E:Value->y0->Prop),Q (.int (g i) s.toks) { s with toks:=s.toks + 1 }->Q0 (Y0 X.prog X.w) X.A (f (.int i t)) Q E s) :
  UnR X f (rU λ i=>.int (g i)):=by
 intro b s σ H x v Q I a h;obtain ⟨i,rfl,q⟩:=h;obtain ⟨t,rfl⟩:=a;exact rule i t s _ _ ⟨.int (g i),H,I.tok _,⟨_,rfl⟩,q⟩
theorem un_neg:UnR X (unaryOp .USub) (rU λ i=>.int (-i)):=unI λ _ _ _ _ _ q=>neg_int q
end
noncomputable def scal:V->V->Bool
 | .non,.non=>true | .non,.int _=>true | .int _,.non=>true | .non,.bl _=>true | .bl _,.non=>true | .non,.str _=>true | .str _,.non=>true
 | .int _,.int _=>true | .bl _,.bl _=>true | .str _,.str _=>true | .byt _,.byt _=>true
 | .int _,.str _=>true | .str _,.int _=>true | .bl _,.str _=>true | .str _,.bl _=>true
 | _,_=>false
noncomputable def rEq:R2:=λ x y H Q=>scal x y=true/\Q (.bl (decide (x=y))) H
noncomputable def rNe:R2:=λ x y H Q=>scal x y=true/\Q (.bl (!decide (x=y))) H
theorem zd8 {i j:Int}:decide (V.int i=V.int j)=(i == j):=by rw [Bool.eq_iff_iff];simp
theorem dec_bl {i j:Bool}:decide (V.bl i=V.bl j)=(i == j):=by rw [Bool.eq_iff_iff];simp
theorem z85 {i j:Str}:decide (V.str i=V.str j)=(i == j):=by rw [Bool.eq_iff_iff];simp
theorem zd2 {i j:Array UInt8}:decide (V.byt i=V.byt j)=(i.toList == j.toList):=by rw [Bool.eq_iff_iff];cases i;cases j;simp
section
variable {X:Cx} {a b c:Expr} {ta tb tc:TE} {pos:Pos}
theorem fin_bl {pins:List (Addr×Obj)} {σ:St} {H:Hp} {s:y0} {Q:VK} {k k':Bool} (I:Inv X pins σ H s) (q:Q (.bl k) H) (e:k=k'):EP X pins σ Q (.bool k') s:=by subst e;exact ⟨.bl k,H,I,rfl,q⟩
theorem op_eq:OpR X (G2 .Eq) rEq:=by
 intro e s σ H x y v u Q I d a h;obtain ⟨c,q⟩:=h;cases x with
 | non=>
  cases d;cases y with
  | non=>cases a;exact PySem.EqNone.eq_none_none (fin_bl I q (by simp))
  | bl j=>cases a;exact PySem.EqNone.eq_none_bool (fin_bl I q (by simp))
  | int j=>obtain ⟨b,rfl⟩:=a;exact PySem.EqNone.eq_none_int (fin_bl I q (by simp))
  | str j=>obtain ⟨b,rfl⟩:=a;exact PySem.EqNone.eq_none_str (fin_bl I q (by simp))
  | _=>exact absurd (show false=true from c) R0
 | bl i=>
  cases d;cases y with
  | non=>cases a;exact PySem.EqNone.eq_bool_none (fin_bl I q (by simp))
  | bl j=>cases a;exact eq_bool (fin_bl I q dec_bl)
  | str j=>obtain ⟨b,rfl⟩:=a;exact PySem.EqMixed.eq_bool_str (fin_bl I q (by simp))
  | _=>exact absurd (show false=true from c) R0
 | int i=>
  obtain ⟨t,rfl⟩:=d;cases y with
  | non=>cases a;exact PySem.EqNone.eq_int_none (fin_bl I q (by simp))
  | int j=>obtain ⟨b,rfl⟩:=a;exact eq_int (fin_bl I q zd8)
  | str j=>obtain ⟨b,rfl⟩:=a;exact PySem.EqMixed.eq_int_str (fin_bl I q (by simp))
  | _=>exact absurd (show false=true from c) R0
 | str i=>
  obtain ⟨t,rfl⟩:=d;cases y with
  | non=>cases a;exact PySem.EqNone.eq_str_none (fin_bl I q (by simp))
  | bl j=>cases a;exact PySem.EqMixed.eq_str_bool (fin_bl I q (by simp))
  | int j=>obtain ⟨b,rfl⟩:=a;exact PySem.EqMixed.eq_str_int (fin_bl I q (by simp))
  | str j=>obtain ⟨b,rfl⟩:=a;exact eq_str (fin_bl I q z85)
  | _=>exact absurd (show false=true from c) R0
 | byt i=>
  obtain ⟨t,rfl⟩:=d;cases y with
  | byt j=>obtain ⟨b,rfl⟩:=a;exact PySem.W.eq_bytes (fin_bl I q zd2)
  | _=>exact absurd (show false=true from c) R0
 | _=>cases y<;>exact absurd (show false=true from c) R0
theorem op_ne:OpR X (G2 .NotEq) rNe:=by
 intro e s σ H x y v u Q I d a h;obtain ⟨c,q⟩:=h;cases x with
 | non=>
  cases d;cases y with
  | non=>cases a;exact PySem.EqNone.ne_none_none (fin_bl I q (by simp))
  | bl j=>cases a;exact PySem.EqNone.ne_none_bool (fin_bl I q (by simp))
  | int j=>obtain ⟨b,rfl⟩:=a;exact PySem.EqNone.ne_none_int (fin_bl I q (by simp))
  | str j=>obtain ⟨b,rfl⟩:=a;exact PySem.EqNone.ne_none_str (fin_bl I q (by simp))
  | _=>exact absurd (show false=true from c) R0
 | bl i=>
  cases d;cases y with
  | non=>cases a;exact PySem.EqNone.ne_bool_none (fin_bl I q (by simp))
  | bl j=>cases a;exact ne_bool (fin_bl I q (congrArg not dec_bl))
  | str j=>obtain ⟨b,rfl⟩:=a;exact PySem.EqMixed.ne_bool_str (fin_bl I q (by simp))
  | _=>exact absurd (show false=true from c) R0
 | int i=>
  obtain ⟨t,rfl⟩:=d;cases y with
  | non=>cases a;exact PySem.EqNone.ne_int_none (fin_bl I q (by simp))
  | int j=>obtain ⟨b,rfl⟩:=a;exact ne_int (fin_bl I q (congrArg not zd8))
  | str j=>obtain ⟨b,rfl⟩:=a;exact PySem.EqMixed.ne_int_str (fin_bl I q (by simp))
  | _=>exact absurd (show false=true from c) R0
 | str i=>
  obtain ⟨t,rfl⟩:=d;cases y with
  | non=>cases a;exact PySem.EqNone.ne_str_none (fin_bl I q (by simp))
  | bl j=>cases a;exact PySem.EqMixed.ne_str_bool (fin_bl I q (by simp))
  | int j=>obtain ⟨b,rfl⟩:=a;exact PySem.EqMixed.ne_str_int (fin_bl I q (by simp))
  | str j=>obtain ⟨b,rfl⟩:=a;exact ne_str (fin_bl I q (congrArg not z85))
  | _=>exact absurd (show false=true from c) R0
 | byt i=>
  obtain ⟨t,rfl⟩:=d;cases y with
  | byt j=>obtain ⟨b,rfl⟩:=a;exact PySem.W.ne_bytes (fin_bl I q (congrArg not zd2))
  | _=>exact absurd (show false=true from c) R0
 | _=>cases y<;>exact absurd (show false=true from c) R0
theorem op_lt:OpR X (G2 .Lt) (rI0 λ i j=>.bl (decide (i < j))):=opB0 λ _ _ _ _ _ _ _ q=>lt_int q
theorem op_le:OpR X (G2 .LtE) (rI0 λ i j=>.bl (decide (i<=j))):=opB0 λ _ _ _ _ _ _ _ q=>le_int q
theorem op_gt:OpR X (G2 .Gt) (rI0 λ i j=>.bl (decide (j < i))):=opB0 λ _ _ _ _ _ _ _ q=>gt_int q
theorem zbj:OpR X (G2 .In) (λ x y H Q=>∃i j,x=.str i/\y=.str j/\Q (.bl (!(W5 j i 0 j.length 1).isEmpty)) H):=by intro d s σ H x y v u Q I b a h;obtain ⟨i,j,rfl,rfl,q⟩:=h;obtain ⟨t,rfl⟩:=b;obtain ⟨c,rfl⟩:=a;exact in_str (fin_bl I q rfl)
theorem op_isN:OpR X (G2 .Is) (λ x y H Q=>y=.non/\Q (.bl (decide (x=.non))) H):=by
 intro c s σ H x y v u Q I a b h;obtain ⟨rfl,q⟩:=h;cases b;refine is_none_gen (fin_bl I q ?_);cases x<;>first
  | (cases a;rfl)
  | (obtain ⟨t,rfl⟩:=a;rfl)
theorem z45:OpR X (G2 .IsNot) (λ x y H Q=>y=.non/\Q (.bl (!decide (x=.non))) H):=by
 intro c s σ H x y v u Q I a b h;obtain ⟨rfl,q⟩:=h;cases b;refine isnot_none_gen (fin_bl I q ?_);cases x<;>first
  | (cases a;rfl)
  | (obtain ⟨t,rfl⟩:=a;rfl)
theorem OpR.or {f:Value->Value->Sem Value} {r r':R2} (h:OpR X f r) (h':OpR X f r'):OpR X f (λ x y H Q=>r x y H Q\/r' x y H Q):=by
 intro a s σ H x y v u Q I b c q;rcases q with q|q
 ·exact h a s σ H x y v u Q I b c q
 ·exact h' a s σ H x y v u Q I b c q
theorem nomark (b:Expr) {op:CmpOp} (h:op≠.In:=by decide) (h2:op≠.NotIn:=by decide):Q6 op b=false:=by
 have c:(op == CmpOp.In)=false:=by cases op<;>first|rfl|exact absurd rfl h
 have a:(op == CmpOp.NotIn)=false:=by cases op<;>first|rfl|exact absurd rfl h2
 cases b<;>simp [Q6,c,a]
theorem z1a {op:CmpOp} {r:R2} (ho:OpR X (G2 op) r) (ha:PE X a ta) (hb:PE X b tb) (hm:Q6 op b=false):PE X (.Compare a [op] [b] pos) (tOp r ta tb):=by intro d s σ H Q I h;exact wpAny_Compare1 (binT ha hb I h λ v u c x y e i g f q=>ho d c σ e x y v u Q i g f q) hm
noncomputable def tTest (t:TE):TT:=λ σ H Q=>t σ H λ x H'=>∃k,x=.bl k/\Q k H'
theorem z0a {op:CmpOp} {r:R2} (ho:OpR X (G2 op) r) (ha:PE X a ta) (hb:PE X b tb) (hm:Q6 op b=false):PT X (.Compare a [op] [b] pos) (tTest (tOp r ta tb)):=by
 intro d s σ H Q I h;refine wpAny_isTrue_Compare1 (thn (ha d s σ H _ I h) λ v g ⟨x,H1,I1,r1,q1⟩=>thn (hb d g σ H1 _ I1 q1) λ u f ⟨y,H2,I2,r2,q2⟩=>thn (ho d f σ H2 x y v u _ I2 r1 r2 q2) λ c i ⟨z,H3,I3,r3,k,e,q3⟩=>?_) hm;subst e;cases r3;exact c3 ⟨H3,I3,q3⟩
noncomputable def tChain (r r':R2) (ta tb tc:TE):TE:=λ σ H Q=>ta σ H λ x H1=>tb σ H1 λ y H2=>r x y H2 λ z H3=>∃k,z=.bl k/\
 (if k=true then tc σ H3 λ w' H4=>r' y w' H4 Q else Q (.bl false) H3)
theorem z9m {op op':CmpOp} {r r':R2} (ho:OpR X (G2 op) r) (ho':OpR X (G2 op') r') (ha:PE X a ta) (hb:PE X b tb) (hc:PE X c tc)
  (hm:lastMarks [op,op'] [b,c]=false:=by with_unfolding_all rfl):PE X (.Compare a [op,op'] [b,c] pos) (tChain r r' ta tb tc):=by
 intro f s σ H Q I h;refine Compare_chain (thn (ha f s σ H _ I h) λ v l ⟨x,H1,I1,r1,q1⟩=>chain_link (thn (hb f l σ H1 _ I1 q1) λ u i ⟨y,H2,I2,r2,q2⟩=>thn (ho f i σ H2 x y v u _ I2 r1 r2 q2) λ d j ⟨z,H3,I3,r3,k,e,q3⟩=>?_)) hm;subst e;cases r3;refine c3 ?_;cases k with
 | false=>exact ite_ff ⟨.bl false,H3,I3,rfl,q3⟩
 | true=>exact ite_tt (chain_last (thn (hc f j σ H3 _ I3 q3) λ g m ⟨z',H4,I4,r4,q4⟩=>ho' f m σ H4 y z' u g Q I4 r2 r4 q4))
theorem zdk {op op':CmpOp} {r r':R2} (ho:OpR X (G2 op) r) (ho':OpR X (G2 op') r') (ha:PE X a ta) (hb:PE X b tb) (hc:PE X c tc)
  (hm:lastMarks [op,op'] [b,c]=false:=by with_unfolding_all rfl):PT X (.Compare a [op,op'] [b,c] pos) (tTest (tChain r r' ta tb tc)):=by
 intro f s σ H Q I h;refine isTrue_chain (thn (ha f s σ H _ I h) λ v n ⟨x,H1,I1,r1,q1⟩=>test_link (thn (hb f n σ H1 _ I1 q1) λ u g ⟨y,H2,I2,r2,q2⟩=>thn (ho f g σ H2 x y v u _ I2 r1 r2 q2) λ d m ⟨z,H3,I3,r3,k,e,q3⟩=>?_)) hm;subst e;cases r3;refine c3 ?_;cases k with
 | false=>obtain ⟨t,j,l⟩:=q3;cases j;exact ite_ff ⟨H3,I3,l⟩
 | true=>refine ite_tt (test_last (thn (hc f m σ H3 _ I3 q3) λ i o ⟨z',H4,I4,r4,q4⟩=>thn (ho' f o σ H4 y z' u i _ I4 r2 r4 q4) λ p q ⟨z2,H5,I5,r5,k2,e2,q5⟩=>?_));subst e2;cases r5;exact c3 ⟨H5,I5,q5⟩
theorem line63:(sizeLine:Nat) < 2 ^ 63:=by rw [B5];decide
theorem op_add_str:OpR X (U4 .Add) (λ x y H Q=>∃i j,x=.str i/\y=.str j/\i.length + j.length<=sizeLine/\Q (.str (i++j)) H):=by intro f s σ H x y v u Q I c b h;obtain ⟨i,j,rfl,rfl,d,q⟩:=h;obtain ⟨t,rfl⟩:=c;obtain ⟨a,rfl⟩:=b;exact add_str (λ a e=>⟨.str (i++j),H,I.tok _,⟨_,rfl⟩,q⟩) d
theorem vals1 {x:V} {us:List Value} (r:Vals [x] us) :∃u,us=[u]/\RelV x u:=by
 cases r with
 | cons r1 r2=>cases r2;exact ⟨_,rfl,r1⟩
theorem vals2 {x y:V} {us:List Value} (r:Vals [x,y] us) :∃u w',us=[u,w']/\RelV x u/\RelV y w':=by
 cases r with
 | cons r1 r2=>
  cases r2 with
  | cons r3 r4=>cases r4;exact ⟨_,_,rfl,r1,r3⟩
end
structure ObjM (h:Heap) (x dx C:Addr) (mA:Str->Option Value):Prop where
 obj:h.get? x=some (a8 C dx)
 ns:h.Ns1 dx mA
 ne:dx≠x
theorem zbn {h:Heap} {dx:Addr} {mA:Str->Option Value} (n:h.Ns1 dx mA) :∃od,h.get? dx=some od/\∀name,p8 name od=some (mA name):=by
 obtain ⟨o,b,k,g,hd,c,_,d⟩:=n;refine ⟨o,g,λ name=>?_⟩;have e:=d name;unfold nsFind findBy at e;rw [<-Array.find?_toList] at e;unfold p8;rw [hd];dsimp only;split
 ·rename_i y q;rw [q] at e;exact congrArg some e
 ·rename_i q;rw [q] at e;have a:b.toList.any (·.refKey)=false:=by rw [List.any_eq_false];intro y j;obtain ⟨z,t,f⟩:=c y (Array.mem_toList_iff.mp j);simp [DictEntry.refKey,f]
  have i:¬ b.toList.any (·.refKey)=true:=by rw [a];exact R0
  rw [if_neg i];exact congrArg some e
theorem ObjM.look {h:Heap} {x dx C:Addr} {mA:Str->Option Value} (I:ObjM h x dx C mA) :∃od,PySem.W.InstAt h x (a8 C dx) C (some od)/\∀name,p8 name od=some (mA name):=
 let ⟨od,ho,hl⟩:=zbn I.ns
 ⟨od,⟨I.obj,rfl,rfl,ho⟩,hl⟩
theorem RelO.some_of {v:V} {o:Option Value} (r:RelO (some v) o) :∃u,o=some u/\RelV v u:=by
 cases o with
 | none=>exact (show False from r).elim
 | some u=>exact ⟨u,rfl,r⟩
section
variable {P:Program} {w:P0} {H H':Hp} {h h':Heap} {a C dx:Addr} {fs fs':List (Str×V)}
theorem zes (hok:HOk P w H h) (e:H a=some (.ins C dx fs)) :∃mA,ObjM h a dx C mA/\(∀f,RelO (fs.lookup f) (mA f))/\PySem.Within mA (fs.map (·.1))/\fs.length<=1000/\H dx=some (.own a):=by
 obtain ⟨d,z,b,c,mA,n,r,q⟩:=(show ObjOk P w H h a (.ins C dx fs) from hok a _ e)
 exact ⟨mA,⟨c,n,b⟩,r,q,z,d⟩
end
structure Cls (K:c0) (C:Addr):Prop where
 pg:PySem.W.plainGet K C Str.empty=true
 hd:PySem.W.hasDictIn K C=true
 po:PySem.W.plainOver K C=true
 sa:P5 K (.ref C) "__setattr__" = some (some (.builtin "object.__setattr__"))
theorem Cls.get {K:c0} {C:Addr} (c:Cls K C) (f:Str):PySem.W.plainGet K C f=true:=c.pg
structure Con (K:c0) (C:Addr) (f:Str) (v:V) (u:Value):Prop where
 at_:P5 K (.ref C) f=some (some u)
 rel:RelV v u
 get:T9 K u "__get__" = some none
 cp:PySem.W.copiedNames.contains f=false
structure Meth (K:c0) (C:Addr) (m:Str) (f:Addr):Prop where
 at_:P5 K (.ref C) m=some (some (.ref f))
 fn:PySem.W.isFn K (.ref f)=true
 kp:X3 K (.ref f)=true
section
variable {X:Cx} {pins:List (Addr×Obj)} {σ:St} {H:Hp} {s:y0} {A:W1} {E:Value->y0->Prop} {Q:Value->y0->Prop} {c:Value} {b:Bool}
inductive TyOf (K:c0) (H:Hp):V->Value->Prop where
 | non:TyOf K H .non (.type "NoneType")
 | bl (x:Bool):TyOf K H (.bl x) (.type "bool")
 | int (i:Int):TyOf K H (.int i) (.type "int")
 | str (x:Str):TyOf K H (.str x) (.type "str")
 | flt (x:UInt64):TyOf K H (.flt x) (.type "float")
 | lst {a:Addr} {xs:List V} (e:H a=some (.lst xs)):TyOf K H (.ref a) (.type "list")
 | frz {a:Addr} {o:Obj} {xs:List V} (e:H a=some (.frz o (.lst xs))):TyOf K H (.ref a) (.type "list")
 | tup {a:Addr} {xs:List V} (e:H a=some (.tup xs)):TyOf K H (.ref a) (.type "tuple")
 | dK {a:Addr} {kvs:List (Key×V)} (e:H a=some (.dK kvs)):TyOf K H (.ref a) (.type "dict")
 | dT {a:Addr} {kvs:List (List Key×V)} (e:H a=some (.dT kvs)):TyOf K H (.ref a) (.type "dict")
 | ins {a C dx:Addr} {fs:List (Str×V)} (e:H a=some (.ins C dx fs)) (cl:Cls K C) (ha:P5 K (.ref C) "__class__" = some (some (.builtin "object.__class__")))
   (hn:T9 K (.builtin "object.__class__") "__get__" = some (some (.builtin "getset_descriptor.__get__"))) (htk:PySem.W.takesIn K (.builtin "object.__class__")=some true)
   (hm:PySem.W.mroIn K C (.type "object")=some true):TyOf K H (.ref a) (.ref C)
theorem zce {x:V} {u t:Value} (I:Inv X pins σ H s) (rx:RelV x u) (ty:TyOf X.K H x t) (e:PySem.W.kitOne X.K t c=some b) (h :∀tk,Q (.bool b) { s with toks:=tk }) :
  Q0 (Y0 X.prog X.w) A (call (.builtin "isinstance") [u,c]) Q E s:=by
 cases ty with
 | non=>cases (show u=V4 from rx);exact Z2 PySem.W.kitx_none I.kIn True.intro e (λ z=>nomatch z) h
 | bl y=>cases (show u=L8 y from rx);exact Z2 PySem.W.kitx_bool I.kIn True.intro e (λ z=>nomatch z) h
 | int i=>obtain ⟨t,q⟩:=(show∃t,u=D5 i t from rx);cases q;exact Z2 PySem.W.kitx_int I.kIn True.intro e (λ z=>nomatch z) h
 | str y=>obtain ⟨t,q⟩:=(show∃t,u=Y7 y t from rx);cases q;exact Z2 PySem.W.kitx_str I.kIn True.intro e (λ z=>nomatch z) h
 | flt y=>obtain ⟨t,q⟩:=(show∃t,u=Value.float y t from rx);cases q;exact Z2 PySem.W.kitx_float I.kIn True.intro e (λ z=>nomatch z) h
 | @lst a f ea=>
  cases (show u=C1 a from rx);obtain ⟨_,_,n,_,d⟩:=(show ObjOk X.prog X.w H s.heap a (.lst f) from I.hok a _ ea)
  exact Z2 U9 I.kIn ⟨_,d,rfl⟩ e (λ z=>nomatch z) h
 | @frz a ob f ea=>
  cases (show u=C1 a from rx);obtain ⟨_,_,_,n,_,d⟩:=(show ObjOk X.prog X.w H s.heap a (.frz ob (.lst f)) from I.hok a _ ea)
  exact Z2 U9 I.kIn ⟨_,d,rfl⟩ e (λ z=>nomatch z) h
 | @tup a f ea=>
  cases (show u=C1 a from rx);obtain ⟨_,_,_,p,_⟩:=(show ObjOk X.prog X.w H s.heap a (.tup f) from I.hok a _ ea)
  obtain ⟨o,d,g,_⟩:=p;exact Z2 PySem.W.kitx_tuple I.kIn ⟨o,d,g⟩ e (λ z=>nomatch z) h
 | @dK a kvs ea=>
  cases (show u=C1 a from rx);obtain ⟨_,_,r,_,p⟩:=(show ObjOk X.prog X.w H s.heap a (.dK kvs) from I.hok a _ ea)
  obtain ⟨o,k,j,d,g,_⟩:=p;exact Z2 V9 I.kIn ⟨o,d,g.1⟩ e (λ z=>nomatch z) h
 | @dT a kvs ea=>
  cases (show u=C1 a from rx);obtain ⟨_,_,f,_,o,k,j,d,g,_⟩:=(show ObjOk X.prog X.w H s.heap a (.dT kvs) from I.hok a _ ea)
  exact Z2 V9 I.kIn ⟨o,d,g.1⟩ e (λ z=>nomatch z) h
 | @ins a C dx fs ea cl ha hn htk hm=>cases (show u=C1 a from rx);obtain ⟨l,O,_⟩:=zes I.hok ea;obtain ⟨m,J,_⟩:=O.look;exact Z2 (PySem.W.kitx_own (cl.get _) cl.hd ha hn htk hm) I.kIn J e (λ z=>nomatch z) h
end
structure Room (k:Nat) (A:W1):Prop where
 hd:A.handled=none
 dp:A.depth + 3 * k + 5 < recursionLimit
 un:A.units + 16 * k + 200 < cLine
 gd:A.guards=some []
theorem Room.mono {j k:Nat} {A:W1} (r:Room k A) (h:j<=k):Room j A:=⟨r.hd,by have:=r.dp;omega,by have:=r.un;omega,r.gd⟩
theorem Room.deeper {k:Nat} {A:W1} (r:Room (k + 1) A) (env:Env):Room k (A.deeper env):=
 ⟨r.hd,by have:=r.dp;show A.depth + 1 + 3 * k + 5 < _;omega,by have:=r.un;show A.units + 3 + 16 * k + 200 < _;omega,r.gd⟩
theorem Room.in1 {k:Nat} {A:W1} (r:Room (k + 1) A):Room k A.in1:=
 ⟨r.hd,by have:=r.dp;show A.depth + 3 * k + 5 < _;omega,by have:=r.un;show A.units + 1 + 16 * k + 200 < _;omega,r.gd⟩
theorem Room.depth {k:Nat} {A:W1} (r:Room k A):A.depth < recursionLimit:=by have:=r.dp;omega
theorem Room.units {k:Nat} {A:W1} (r:Room k A):A.units + 64 < cLine:=by have:=r.un;omega
noncomputable def tNil:TA:=λ _ H Q=>Q [] H
noncomputable def tCons (ta:TE) (tr:TA):TA:=λ σ H Q=>ta σ H λ x H1=>tr σ H1 λ xs H2=>Q (x :: xs) H2
section
variable {X:Cx} {e:Expr} {es:List Expr} {te:TE} {t:TA} {pos:Pos}
theorem pa_nil:PA X [] tNil:=λ _ _ _ _ H Q I h=>V3 ⟨[],H,I,.nil,h⟩
theorem z00 (ha:PE X e te) (hr:PA X es t) (hs:D1 (e :: es) X.env=(false,P3 e X.env) :: D1 es X.env:=by rfl):PA X (e :: es) (tCons te t):=by intro pos a s σ H Q I h;rw [hs];show Q0 _ _ (r9 ((false,P3 e X.env) :: y4 pos (D1 es X.env))) _ _ s;refine G3 (thn (ha a s σ H _ I h) λ u b ⟨x,H1,I1,r1,q1⟩=>?_);exact thn (hr pos a b σ H1 _ I1 q1) λ d c ⟨xs,H2,I2,r2,q2⟩=>⟨x :: xs,H2,I2,.cons r1 r2,q2⟩
noncomputable def tTup (t:TA):TE:=λ σ H Q=>t σ H λ xs H1=>xs.length<=sizeLine/\∀p,H1 p=none->Q (.ref p) (upd H1 p (.tup xs))
noncomputable def tLst (t:TA):TE:=λ σ H Q=>t σ H λ xs H1=>xs.length<=sizeLine/\∀p,H1 p=none->Q (.ref p) (upd H1 p (.lst xs))
theorem pe_tup {x1} (h:PA X es t):PE X (.Tuple es x1 pos) (tTup t):=by intro f s σ H Q I c;refine wpAny_Tuple_spliced (thn (h pos f s σ H _ I c) λ g a ⟨xs,H1,I1,r,z,q⟩=>⟨by rw [<-r.length];exact z,?_⟩);have d:H1 a.heap.objs.size=none:=I1.hok.fresh (A0 _);refine ⟨.ref a.heap.objs.size,upd H1 a.heap.objs.size (.tup xs),I1.laid (t':=a.toks) (λ b u e=>v0 _ e) (A0 _) ?_,rfl,q _ d⟩;exact ⟨z,g,r,IsTupN.new _ _⟩
theorem pe_lst (h:PA X es t):PE X (.List es pos) (tLst t):=by intro f s σ H Q I c;refine wpAny_List_spliced (thn (h pos f s σ H _ I c) λ g a ⟨xs,H1,I1,r,z,q⟩=>⟨by rw [<-r.length];exact z,?_⟩);have d:H1 a.heap.objs.size=none:=I1.hok.fresh (A0 _);refine ⟨.ref a.heap.objs.size,upd H1 a.heap.objs.size (.lst xs),I1.laid (t':=a.toks) (λ b u e=>v0 _ e) (A0 _) ?_,rfl,q _ d⟩;exact ⟨z,g,0,r,I0 _ rfl⟩
end
noncomputable abbrev Sp:=List V->Hp->VK->XK->Prop
noncomputable abbrev CXT:=List Env->Hp->y0->XK->Value->y0->Prop
structure Env0 (P:Program) (w:P0) (K:c0) (mg:Str->Option Value) (base:Heap) (A:W1) (outer:List Env) (s:y0) (H:Hp):Prop where
 frames:A.frames=some outer
 mod:Mod K mg base
 bs :∀b o,base.get? b=some o->s.heap.get? b=some o/\H b=none
 bsz:base.objs.size<=s.heap.objs.size
 funs:s.heap.FunFrames base outer
 frf :∀b∈frs outer,H b=none
 hok:HOk P w H s.heap
 bare:P6 s.gens
def CE (outer:List Env) (P:Program) (w:P0) (H:Hp) (s:y0) (Q:VK) (u:Value) (s':y0):Prop:=
 ∃v H',s'.os=s.os/\P6 s'.gens/\Un (frs outer) [] H H' s.heap s'.heap/\HOk P w H' s'.heap/\RelV v u/\Q v H'
def CR (CX:CXT) (outer:List Env) (P:Program) (w:P0) (H:Hp) (s:y0) (Q:VK) (E:XK) (r:Result) (s':y0):Prop:=
 match r with
 | .ok (.ret u)=>CE outer P w H s Q u s'
 | .ok _=>False
 | .error e=>CX outer H s E e s'
structure FnOk (P:Program) (w:P0) (K:c0) (mg:Str->Option Value) (base:Heap) (CX:CXT) (k:Nat) (f:Addr) (fd:FuncData) (ps:List Str) (sp:Sp):Prop where
 len :∀vs H Q E,sp vs H Q E->vs.length=ps.length
 run :∀(A:W1) (outer:List Env) (s:y0) (H:Hp) (args:Args) (us:List Value) (vs:List V) (Q:VK) (E:XK),Room k A->Env0 P w K mg base A outer s H->BindsTo s fd args (ps.zip us)->Vals vs us->sp vs H Q E->
  i5 (Y0 P w) A (.call (.ref f) args) (CR CX outer P w H s Q E) s
theorem Env0.in1 {P:Program} {w:P0} {K:c0} {mg:Str->Option Value} {base:Heap} {A:W1} {outer:List Env} {s:y0} {H:Hp} (e:Env0 P w K mg base A outer s H) :
  Env0 P w K mg base A.in1 outer s H:=⟨e.frames,e.mod,e.bs,e.bsz,e.funs,e.frf,e.hok,e.bare⟩
section
variable {X:Cx} {pins:List (Addr×Obj)} {σ:St} {H:Hp} {s s':y0}
theorem Inv.env0 (I:Inv X pins σ H s):Env0 X.prog X.w X.K X.mg X.base X.A X.stack s H:=
 ⟨I.ok.frames,I.ok.mod,I.bs,G0 I.ok.bsz I.sz,I.stack,I.stkFree,I.hok,I.bare⟩
theorem Inv.after {Q:VK} {u:Value} (I:Inv X pins σ H s) (h:CE X.stack X.prog X.w H s Q u s'):EP X pins σ Q u s':=by obtain ⟨v,f,c,e,un,a,r,q⟩:=h;obtain ⟨j,g,d,t,i⟩:=s';obtain rfl:i=s.os:=c;exact ⟨v,f,I.call (h':=j) (g':=g) (d':=d) (t':=t) (ch:=[]) un a e (λ b z=>absurd z (by simp)),r,q⟩
end
noncomputable def tCall (sp:Sp) (dvs:List V) (E:XK) (t:TA):TE:=λ σ H Q=>t σ H λ vs H1=>sp (vs++dvs) H1 Q E
def Binds (K:c0) (fd:FuncData) (ps:List Str) (ds:List Value):Prop:=
 ∀(s:y0) (us:List Value),K.In s.heap->(us++ds).length=ps.length->BindsTo s fd ⟨us,[]⟩ (ps.zip (us++ds))
theorem Binds.all {K:c0} {fd:FuncData} {ps:List Str} (h :∀us:List Value,us.length=ps.length->bindArgs fd ⟨us,[]⟩=E3 (ps.zip us)):Binds K fd ps []:=λ s us _ a=>by rw [O2] at a⊢;exact .of_eq (h us a)
def Passes (CX:CXT) (X:Cx) (E:XK):Prop:=∀(pins:List (Addr×Obj)) (σ:St) (H:Hp) (s:y0) (e:Value) (s':y0),Inv X pins σ H s->CX X.stack H s E e s'->X.xe e s'
section
variable {X:Cx} {CX:CXT} {k:Nat} {f C:Addr} {fd:FuncData} {ps:List Str} {sp:Sp} {dvs:List V} {ds:List Value} {E:XK} {x m:Str} {p pos apos:Pos} {e o:Expr} {es:List Expr} {ta:TE} {t:TA}
theorem run_fn {pins:List (Addr×Obj)} {σ:St} {H:Hp} {s:y0} {Q:VK} {us:List Value} {vs:List V} (F:FnOk X.prog X.w X.K X.mg X.base CX k f fd ps sp) (hr:Room k X.A) (hb:Binds X.K fd ps ds) (hd:Vals dvs ds) (hx:Passes CX X E)
  (I:Inv X pins σ H s) (r:Vals vs us) (h:sp (vs++dvs) H Q E):Q0 (Y0 X.prog X.w) X.A (call (.ref f) us) (EP X pins σ Q) X.xe s:=by
 have b:Vals (vs++dvs) (us++ds):=r.append hd;have c:(us++ds).length=ps.length:=by rw [<-b.length];exact F.len _ _ _ _ h
 refine m8 (w4 (F.run X.A X.stack s H ⟨us,[]⟩ (us++ds) (vs++dvs) Q E hr I.env0 (hb s us I.kIn c) b h) λ r d a=>?_);cases r with
 | error e=>exact hx pins σ H s e d I a
 | ok fl=>
  cases fl with
  | ret u=>exact I.after a
  | next=>exact R3 a
  | brk=>exact R3 a
  | cont=>exact R3 a
theorem zek (F:FnOk X.prog X.w X.K X.mg X.base CX k f fd ps sp) (hr:Room k X.A) (hg:Gl X x) (hm:X.mg x=some (.ref f)) (hk:X3 X.K (.ref f)=true) (hb:Binds X.K fd ps ds) (hd:Vals dvs ds) (hx:Passes CX X E)
  (ha:PA X (e :: es) t) (hdb:(x == ("__debug__" : Str))=false:=by decide) (he:D1 (e :: es) X.env=(false,P3 e X.env) :: D1 es X.env:=by rfl) (hpl:(y4 pos (D1 es X.env)).any (·.1)=false:=by rfl) :
  PE X (.Call (.Name x p) (e :: es) [] pos) (tCall sp dvs E t):=by
 intro a s σ H Q I h;refine n3 (z9j I hg hm ?_ hdb);refine PySem.W.callWith_K (h₀:=X.base) I.ok.mod.kin hk (thn (ha pos a s σ H _ I h) λ c b ⟨vs,H1,I1,r,q⟩=>⟨I1.kIn,?_⟩) he hpl;exact run_fn F hr hb hd hx I1 r q
structure Mk (K:c0) (C f:Addr):Prop where
 makes:PySem.W.makesIn K C=true
 init:P5 K (.ref C) "__init__" = some (some (.ref f))
 fn:PySem.W.isFn K (.ref f)=true
 kp:X3 K (.ref C)=true
end
section
variable {X:Cx} {CX:CXT} {k:Nat} {f C:Addr} {fd:FuncData} {ps ks:List Str} {sp:Sp} {E:XK} {x m:Str} {p pos apos kpos:Pos} {e o:Expr} {es:List Expr} {kws:List E7} {te ta:TE} {t tk:TA} {nm:Option Str}
structure KBinds (K:c0) (fd:FuncData) (ps ks:List Str) (g:List Value->List Value->List Value) (gV:List V->List V->List V):Prop where
 to :∀(s:y0) (us ws:List Value),K.In s.heap->(g us ws).length=ps.length->BindsTo s fd ⟨us,ks.zip ws⟩ (ps.zip (g us ws))
 rel :∀{vs:List V} {us:List Value} {zs:List V} {ws:List Value},Vals vs us->Vals zs ws->Vals (gV vs zs) (g us ws)
variable {g:List Value->List Value->List Value} {gV:List V->List V->List V}
end
structure FnScope (N P:List Str) (sc:Scope):Prop where
 kind:sc.kind=.function
 co:sc.isCoroutine=false
 gen:sc.isGenerator=false
 nd:N.Nodup
 pre:N.take P.length=P
 par :∀x∈P,sc.names.lookup x=some .local\/sc.names.lookup x=some .cell
 nofree :∀y∈sc.names,y.2≠.free
theorem z80 {kindOf:Str->Option L5} {x:Str} :∀{binds:List (Str×Value)} {m:Str->Option Value},(∀v,(x,v)∉binds)->bindL kindOf binds m x=m x
 | [],_,_=>rfl
 | (n,v) :: r,m,h=>by
  unfold bindL;rw [z80 λ w a=>h w (P2 _ a)];split
  ·have:x≠n:=by rintro rfl;exact h v V1
   simp [this]
  ·rfl
theorem z7v {kindOf:Str->Option L5} {x:Str} :∀{binds:List (Str×Value)} {m:Str->Option Value},(∀v,(x,v)∉binds)->bindC kindOf binds m x=m x
 | [],_,_=>rfl
 | (n,v) :: r,m,h=>by
  unfold bindC;rw [z7v λ w a=>h w (P2 _ a)];split
  ·rfl
  ·have:x≠n:=by rintro rfl;exact h v V1
   simp [this]
theorem z7d {kindOf:Str->Option L5} {x:Str} {v:Value} :∀{P:List Str} {vs:List Value} {i:Nat} {m:Str->Option Value},P.Nodup->P[i]? = some x->vs[i]? = some v->kindOf x=some .local->
  bindL kindOf (P.zip vs) m x=some v
 | [],_,_,_,_,h,_,_=>by simp at h
 | _ :: _,[],_,_,_,_,h,_=>by simp at h
 | p :: P,w :: vs,0,m,nd,h1,h2,hk=>by simp at h1 h2;subst h1;subst h2;show bindL kindOf ((p,w) :: P.zip vs) m p=_;unfold bindL;rw [z80 λ v a=>(List.nodup_cons.mp nd).1 (O5 a).1,if_pos hk];simp
 | p :: P,w :: vs,i + 1,m,nd,h1,h2,hk=>by show bindL kindOf ((p,w) :: P.zip vs) m x=_;unfold bindL;exact z7d (i:=i) (List.nodup_cons.mp nd).2 (by simpa using h1) (by simpa using h2) hk
theorem z7y {kindOf:Str->Option L5} {x:Str} {v:Value} :∀{P:List Str} {vs:List Value} {i:Nat} {m:Str->Option Value},P.Nodup->P[i]? = some x->vs[i]? = some v->kindOf x≠some .local->
  bindC kindOf (P.zip vs) m x=some v
 | [],_,_,_,_,h,_,_=>by simp at h
 | _ :: _,[],_,_,_,_,h,_=>by simp at h
 | p :: P,w :: vs,0,m,nd,h1,h2,hk=>by simp at h1 h2;subst h1;subst h2;show bindC kindOf ((p,w) :: P.zip vs) m p=_;unfold bindC;rw [z7v λ v a=>(List.nodup_cons.mp nd).1 (O5 a).1,if_neg hk];simp
 | p :: P,w :: vs,i + 1,m,nd,h1,h2,hk=>by show bindC kindOf ((p,w) :: P.zip vs) m x=_;unfold bindC;exact z7y (i:=i) (List.nodup_cons.mp nd).2 (by simpa using h1) (by simpa using h2) hk
noncomputable def start (N:List Str) (vs:List V):St:=vs.map some++U2 (N.length - vs.length) none
noncomputable def cxOf (CX:CXT) (P:Program) (w:P0) (K:c0) (mg:Str->Option Value) (base:Heap) (N:List Str) (qual:Str) (scope:Scope) (f:Addr) (cd:Value) (A:W1) (outer:List Env) (s:y0) (H:Hp) (E:XK):Cx where
 prog:=P
 w:=w
 K:=K
 mg:=mg
 base:=base
 A:=A.deeper (R7 qual scope s.heap.objs.size f cd)
 N:=N
 s₀:=s
 H₀:=H
 env:=R7 qual scope s.heap.objs.size f cd
 outer:=outer
 stack:=R7 qual scope s.heap.objs.size f cd :: outer
 ex:=[]
 calm:=true
 fn:=λ _=>true
 pn:=[]
 xe:=λ e s'=>Q0 (Y0 P w) (A.deeper (R7 qual scope s.heap.objs.size f cd)) («leaving» (R7 qual scope s.heap.objs.size f cd) e) (λ _ s''=>CX outer H s E e s'') (λ e' s''=>CX outer H s E e' s'') s'
theorem z9y {sc:Scope} {n:Nat} {x:Str} (h:sc.names.lookup x=some .cell) :∃c,(cellsFrom n sc.names []).lookup x=some c:=by have q:=A6 sc.names n [] (.inl h);exact Option.isSome_iff_exists.mp q
theorem z88 {CX:CXT} {P:Program} {w:P0} {K:c0} {mg:Str->Option Value} {base:Heap} {N ps:List Str} {qual:Str} {scope:Scope} {f:Addr} {cd:Value} {A:W1} {outer:List Env} {s s1:y0} {H:Hp} {E:XK} {us:List Value} {vs:List V}
  (S:FnScope N ps scope) (hd:A.handled=none) (e0:Env0 P w K mg base A outer s H) (hl:vs.length=ps.length) (r:Vals vs us)
  (x:InCallC s s.heap.objs.size (bindL (R7 qual scope s.heap.objs.size f cd).kindOf (ps.zip us) λ _=>none) (cellsFrom (s.heap.objs.size + 1) scope.names []) (bindC (R7 qual scope s.heap.objs.size f cd).kindOf (ps.zip us) λ _=>none) s1) :
  Inv (cxOf CX P w K mg base N qual scope f cd A outer s H E) [] (start N vs) H s1:=by
 have J:ps.length<=N.length:=by have:=congrArg List.length S.pre;rw [j3] at this;omega
 obtain ⟨l,G,rfl,t⟩:=x.done;have o :∀b:Addr,b∉(cxOf CX P w K mg base N qual scope f cd A outer s H E).ex:=λ b z=>absurd (show b∈([]:List Addr) from z) (by simp);refine ⟨⟨e0.mod,S.kind,rfl,rfl,A0 _,λ y z c l d=>?_,λ y g=>?_,λ y c _ h=>?_,λ _=>hd,Around.frames_deeper e0.frames,.inr ⟨rfl,rfl⟩,λ b z=>absurd z (o b),e0.bs,e0.bsz,λ b _ _=>o b,λ b z=>absurd z (o b),e0.funs,e0.frf⟩,
  rfl,e0.bare,Un.kept t,⟨_,x.toInCall.ns,λ i y v l d I=>?_⟩,λ y c h=>⟨_,x.cell y c h⟩,e0.hok.fresh (A0 _),λ y c h=>?_,λ p j=>absurd (show p∈([]:List (Addr×Obj)) from j) (by simp),e0.hok.kept t,?_⟩
 ·exact name_of_addr x.apart (R4 l) (R4 d)
 ·have g:scope.names.lookup y=some .cell\/scope.names.lookup y=some .free:=g;rcases g with g|g
  ·exact z9y g
  ·exact absurd rfl (S.nofree _ (R4 g))
 ·exact V6 (x.above y c (R4 h))
 ·have m:i < vs.length:=by
   unfold start at d;by_cases m:i < vs.length
   ·exact m
   ·rw [V2 (by simpa using m)] at d;rw [D6] at d;split at d<;>cases d
  have F:vs[i]? = some v:=by
   unfold start at d;rw [Y2 (by simpa using m),S0] at d;cases e:vs[i]? with
   | none=>rw [e] at d;cases d
   | some a=>rw [e] at d;cases d;rfl
  obtain ⟨u,C,D⟩:=r.get F;have j:ps[i]? = some y:=by rw [<-S.pre,List.getElem?_take_of_lt (by omega)];exact l
  have B:ps.Nodup:=by rw [<-S.pre];exact S.nd.sublist (List.take_sublist _ _)
  refine ⟨u,D,?_⟩;rcases S.par y (x0 j) with k|k
  ·exact .inl ⟨k,z7d B j C k⟩
  ·obtain ⟨c,e⟩:=z9y (n:=s.heap.objs.size + 1) k;refine .inr ⟨.inl k,c,e,?_⟩;have q:=x.cell y c e;rw [z7y B j C (by show scope.names.lookup y≠_;rw [k];decide)] at q;exact q
 ·exact e0.hok.fresh (V6 (x.above y c (R4 h)))
 ·unfold start;show _=N.length;rw [L0,D0,D3];omega
theorem fn_of {CX:CXT} {P:Program} {w:P0} {K:c0} {mg:Str->Option Value} {base:Heap} {k:Nat} {f:Addr} {name qual:Str} {params:Arguments} {body:List Stmt} {scope:Scope} {dV kV doc pm cdv ct oc:Value} {an od:Option Addr}
  {osl:Array (Option Value)} {N ps:List Str} {sp:Sp} (lk:K.lookup f=some ⟨oc,od,.func (Z4 name qual params body scope dV kV doc pm an cdv ct),osl⟩) (hcd:S6 K cdv qual=true) (S:FnScope N ps scope)
  (len :∀vs H Q E,sp vs H Q E->vs.length=ps.length)
  (hbody :∀(A:W1) (outer:List Env) (s:y0) (H:Hp) (vs:List V) (Q:VK) (E:XK),Room k (A.deeper (R7 qual scope s.heap.objs.size f cdv))->sp vs H Q E->
   ∃t,PSs (cxOf CX P w K mg base N qual scope f cdv A outer s H E) body t/\t { nx:=λ _ H'=>Q .non H',rt:=Q } (start N vs) H) :
  FnOk P w K mg base CX (k + 1) f (Z4 name qual params body scope dV kV doc pm an cdv ct) ps sp:=by
 refine ⟨len,λ A outer s H O L vs Q E g c C r j=>?_⟩;have z:=len _ _ _ _ j;have KX:K.In s.heap:=c.mod.kin.keeps λ b o e=>(c.bs b o e).1;have D:s.heap.NoLimit:=c.mod.nolimit.keeps λ b o e=>(c.bs b o e).1;have B :∀y∈ps.zip L,scope.names.lookup y.1=some .local\/(scope.names.lookup y.1=some .cell/\((cellsFrom (s.heap.objs.size + 1) scope.names []).lookup y.1).isSome=true):=λ ⟨n,v⟩ hy=>by
  rcases S.par n (O5 hy).1 with q|q
  ·exact .inl q
  ·exact .inr ⟨q,A6 _ _ _ (.inl q)⟩
 refine codeAny_call_function g.depth (KX _ _ lk) rfl S.co S.gen rfl (PySem.W.codeRec_of KX hcd) (C _ _ _ _ ?_);refine E9 S.kind B λ M m l x=>?_;subst m;refine ⟨D.keeps x.toInCall.keep,codeAny_func ?_⟩;obtain ⟨t,p,F⟩:=hbody A outer s H vs Q E (g.deeper _) j;have I:Inv (cxOf CX P w K mg base N qual scope f cdv A outer s H E) [] (start N vs) H l:=z88 S g.hd c z r x;refine B3 (p [] l (start N vs) H _ I F) (λ G h a=>?_) λ e h a=>a;have fin :∀{d:St} {H':Hp} {v:V} {u:Value},Inv (cxOf CX P w K mg base N qual scope f cdv A outer s H E) [] d H' h->RelV v u->Q v H'->CE outer P w H s Q u h:=
  λ {d H' v u} J i q=>⟨v,H',J.os,J.bare,J.base,J.hok,i,q⟩
 cases G with
 | ret u=>obtain ⟨v,d,H',J,i,q⟩:=a;exact fin J i q
 | next=>obtain ⟨d,H',J,q⟩:=a;exact fin (v:=V.non) (u:=V4) J rfl q
 | brk=>obtain ⟨_,_,_,q⟩:=a;exact R3 q
 | cont=>obtain ⟨_,_,_,q⟩:=a;exact R3 q
section
variable {X:Cx} {x:Str} {p pos:Pos} {e:Expr} {es:List Expr} {t:TA} {id T:String} {r:List V->Hp->VK->Prop}
noncomputable def tCB (r:List V->Hp->VK->Prop) (t:TA):TE:=λ σ H Q=>t σ H λ vs H1=>r vs H1 Q
theorem z08 (hc:CallR X (.builtin id) r) (hg:Gl X x) (hm:X.mg x=none) (hv:a4 x=some (.builtin id)) (ha:PA X (e :: es) t) (hn:x≠"__name__":=by decide) (hdb:(x == ("__debug__" : Str))=false:=by decide)
  (he:D1 (e :: es) X.env=(false,P3 e X.env) :: D1 es X.env:=by rfl) (hpl:(y4 pos (D1 es X.env)).any (·.1)=false:=by rfl):PE X (.Call (.Name x p) (e :: es) [] pos) (tCB r t):=by
 intro a s σ H Q I h;refine n3 (ld_blt I hg hm hv ?_ hn hdb);exact X4 (thn (ha pos a s σ H _ I h) λ c b ⟨vs,H1,I1,r1,q1⟩=>hc a b σ H1 vs c Q I1 r1 q1) he hpl
theorem z59 (hc:CallR X (.type T) r) (hg:Gl X x) (hm:X.mg x=none) (hv:a4 x=some (.type T)) (ha:PA X (e :: es) t) (hn:x≠"__name__":=by decide) (hdb:(x == ("__debug__" : Str))=false:=by decide)
  (he:D1 (e :: es) X.env=(false,P3 e X.env) :: D1 es X.env:=by rfl) (hpl:(y4 pos (D1 es X.env)).any (·.1)=false:=by rfl):PE X (.Call (.Name x p) (e :: es) [] pos) (tCB r t):=by
 intro a s σ H Q I h;refine n3 (ld_blt I hg hm hv ?_ hn hdb);exact O3 (thn (ha pos a s σ H _ I h) λ c b ⟨vs,H1,I1,r1,q1⟩=>hc a b σ H1 vs c Q I1 r1 q1) he hpl
end
end L2
namespace HT
open PySem PyProof.Rows
section
variable {prog:Program} {w:P0} {A:W1} {E:Value->y0->Prop} {s:y0}
theorem cat_tup {t b:Addr} {vs ws:List Value} {Q:Value->y0->Prop} (ht:IsTup s.heap t vs.toArray) (hb:IsTup s.heap b ws.toArray) (hv:vs≠[])
  (h1:ws=[]->Q (.ref t) s) (h2:ws≠[]->Q (.ref s.heap.objs.size) { s with heap:=s.heap.push { cls:=.type "tuple",data:=.seq (vs++ws).toArray } })
  (hsz:vs.length + ws.length<=sizeLine):Q0 (Y0 prog w) A (U4 .Add (.ref t) (.ref b)) Q E s:=by
 obtain ⟨⟨cls,j,data,d⟩,c,l,n,hd⟩:=id ht;obtain ⟨⟨o,f,m,g⟩,a,k,i,h⟩:=id hb;simp only at l hd k h;subst l hd k h;have e:vs.toArray++ws.toArray=(vs++ws).toArray:=by simp
 by_cases hw:ws=[]
 ·exact concat_meets ⟨_,c,rfl⟩ ⟨_,a,rfl⟩ noFill_tuple_add seq_tuple_add Y8 V8 (O8 _ _)
   (tuple_addW1 t b vs.toArray ws.toArray n i j f d g (by simpa using hv) (by simp [hw])) ⟨c,a,h1 hw⟩
 ·refine concat_meets ⟨_,c,rfl⟩ ⟨_,a,rfl⟩ noFill_tuple_add seq_tuple_add Y8 V8 (O8 _ _)
   (tuple_addW2 t b vs.toArray ws.toArray n i j f d g (by simpa using hv) (by simpa using hw) (by rw [J0,J0];exact hsz)) ⟨c,a,?_⟩
  rw [e];exact h2 hw
noncomputable def sIx (n d:Nat):Option Int->Nat
 | none=>d
 | some v=>if v < 0 then (v + (n:Int)).toNat else min v.toNat n
theorem sIx_nat (n d k:Nat):sIx n d (some (k:Int))=min k n:=by show (if (k:Int) < 0 then ((k:Int) + (n:Int)).toNat else min (k:Int).toNat n)=min k n;rw [if_neg (by omega),b8]
theorem sIx_le (n d:Nat) (hd:d<=n) (o:Option Int):sIx n d o<=n:=by
 cases o with
 | none=>exact hd
 | some v=>
  show (if v < 0 then (v + (n:Int)).toNat else min v.toNat n)<=n;by_cases hv:v < 0
  ·rw [if_pos hv];omega
  ·rw [if_neg hv];exact Nat.min_le_right _ _
theorem zdc (v:Int) (n d:Nat):(if v < 0 then max (v + (n:Int)) 0 else min v (n:Int))=((sIx n d (some v):Nat):Int):=by
 show (if v < 0 then max (v + (n:Int)) 0 else min v (n:Int))=(((if v < 0 then (v + (n:Int)).toNat else min v.toNat n):Nat):Int);by_cases hv:v < 0
 ·simp only [if_pos hv];omega
 ·simp only [if_neg hv];omega
theorem z9r (lo hi:Option Int) (n:Nat):M5 lo hi 1 (n:Int)=(((sIx n 0 lo:Nat):Int),((sIx n n hi:Nat):Int)):=by
 have a:¬ ((1:Int) < 0):=by omega
 unfold M5;simp only [a,if_false];refine Prod.ext ?_ ?_
 ·cases lo with
  | none=>rfl
  | some v=>exact zdc v n 0
 ·cases hi with
  | none=>rfl
  | some v=>exact zdc v n n
theorem zai (i j:Nat):o4 (i:Int) (j:Int) 1=j - i:=by
 unfold o4;have a:(1:Int) > 0:=by omega
 simp only [a,if_true,Int.ediv_one];split<;>omega
theorem z5e {v:Value} {o:Option Int} {Q:Option Int->y0->Prop} (p:A8 v o) (h:Q o s):Q0 (Y0 prog w) A (Builtin.Slice.slicePartIndex v) Q E s:=by
 cases p with
 | none=>exact slicePart_none h
 | int i t=>exact slicePart_int h
theorem z2w {sl:Addr} {vl vu:Value} {lo hi:Option Int} {n:Nat} {Q:Int×Int×Nat->y0->Prop} (hs:s.heap.IsSliceOf sl vl vu .none) (pl:A8 vl lo) (pu:A8 vu hi)
  (h:Q (((sIx n 0 lo:Nat):Int),1,sIx n n hi - sIx n 0 lo) s):Q0 (Y0 prog w) A (P7 (.ref sl) (E3 (n:Int))) Q E s:=by
 obtain ⟨d,a,c,b⟩:=id hs;unfold P7 Builtin.Slice.sliceFields;refine o0 (o0 (S5 a b (x:=vl) rfl (o0 (S5 a b (x:=vu) rfl (o0 (S5 a b (x:=.none) rfl (C0 ?_)))))));refine o0 (slicePart_none ?_);show Q0 _ _ (if ((1:Int) == 0)=true then _ else _) _ _ s;rw [if_neg (by decide)];refine o0 (z5e pl (o0 (z5e pu (o0 (C0 ?_)))));show Q0 _ _ (match M5 lo hi 1 (n:Int) with|(lo,hi)=>E3 (lo,(1:Int),o4 lo hi 1)) _ _ s;rw [z9r lo hi n];show Q0 _ _ (E3 (((sIx n 0 lo:Nat):Int),(1:Int),o4 ((sIx n 0 lo:Nat):Int) ((sIx n n hi:Nat):Int) 1)) _ _ s;rw [zai];exact C0 h
theorem zdh (xs:Array Value) (i k:Nat):((Z1 k).filterMap λ (m:Nat)=>xs[((i:Int) + (m:Int) * 1).toNat]?).toArray=((xs.toList.drop i).take k).toArray:=by
 have e:(λ (m:Nat)=>xs[((i:Int) + (m:Int) * 1).toNat]?)=λ m=>xs[i + m]?:=by
  funext m;have:((i:Int) + (m:Int) * 1).toNat=i + m:=by omega
  rw [this]
 rw [e];have:=pick_run xs i k;rw [List.filterMap_map] at this;have a:((λ x=>xs[x]?) ∘ λ x=>i + x)=λ m=>xs[i + m]?:=rfl;rw [a] at this;rw [this]
theorem getItem_tuple_cut {t sl:Addr} {items:Array Value} {vl vu:Value} {lo hi:Option Int} {Q:Value->y0->Prop} (ht:IsTup s.heap t items) (hs:s.heap.IsSliceOf sl vl vu .none) (pl:A8 vl lo) (pu:A8 vu hi)
  (hw:¬ (sIx items.size 0 lo=0/\sIx items.size items.size hi=items.size))
  (h:Q (.ref s.heap.objs.size) { s with heap:=s.heap.push { cls:=.type "tuple",data:=.seq ((items.toList.drop (sIx items.size 0 lo)).take (sIx items.size items.size hi - sIx items.size 0 lo)).toArray } })
  (hsz:items.size<=sizeLine):Q0 (Y0 prog w) A (W7 (.ref t) (.ref sl)) Q E s:=by
 have a:sizeOk (.seq ((items.toList.drop (sIx items.size 0 lo)).take (sIx items.size items.size hi - sIx items.size 0 lo)).toArray):=by show ((items.toList.drop (sIx items.size 0 lo)).take (sIx items.size items.size hi - sIx items.size 0 lo)).toArray.size<=sizeLine;rw [J0,j3,B6,V0];omega
 have j:sIx items.size items.size hi<=items.size:=sIx_le _ _ (A0 _) hi;obtain ⟨c,e,f,i⟩:=id hs;have d:s.TypeIs (.ref sl) "slice":=⟨c,e,f⟩
 unfold W7
 try with_reducible refine E2 ?_
 first|refine o0 (C0 ?_)|skip
 refine o0 (wpAny_sequenceKey ht.typeIs (by decide) ?_);refine o0 (i7 (name:=M3 "__getitem__") ht.typeIs j7
  (g7 j7 ht.typeIs entry_tuple_getitem ?_ (args_tuple_getitem _ _)))
 show Q0 _ _ (Builtin.Tuple.tupleItemsOf (.ref t) >>= _) _ _ s;refine o0 (tupleItemsOf_ ht ?_);refine o0 (G8 d ?_);rw [if_pos (by decide)];refine o0 (z2w hs pl pu ?_);have b:¬ ((((sIx items.size 0 lo:Nat):Int) == 0 && (1:Int) == 1 && (sIx items.size items.size hi - sIx items.size 0 lo) == items.size)=true):=by intro q;rw [P4,P4] at q;have g:((sIx items.size 0 lo:Nat):Int)=0:=eq_of_beq q.1.1;have k:sIx items.size items.size hi - sIx items.size 0 lo=items.size:=eq_of_beq q.2;exact hw ⟨by omega,by omega⟩
 show Q0 _ _ (if (((sIx items.size 0 lo:Nat):Int) == 0 && (1:Int) == 1 && (sIx items.size items.size hi - sIx items.size 0 lo) == items.size)=true then _ else _) _ _ s;rw [if_neg b,zdh];first
  | exact o0 (m:=A4 _) (Z3 (C0 ⟨_,rfl,C0 h⟩) a)
  | exact o0 (m:=A4 _) (Z3 (o0 (C0 (C0 ⟨_,rfl,C0 h⟩))) a)
  | exact o0 (o0 (m:=A4 _) (Z3 (C0 (C0 ⟨_,rfl,C0 h⟩)) a))
  | exact o0 (o0 (m:=A4 _) (Z3 (C0 ⟨_,rfl,C0 h⟩) a))
end
end HT
namespace L2
open PySem PySem.Spec PyProof.Rows
noncomputable abbrev TO:=St->Hp->(Option Int->Hp->Prop)->Prop
def PO (X:Cx) (e:Option Expr) (t:TO):Prop:=
 ∀(pins:List (Addr×Obj)) (s:y0) (σ:St) (H:Hp) (Q:Option Int->Hp->Prop),Inv X pins σ H s->t σ H Q->
  Q0 (Y0 X.prog X.w) X.A (evalPart e X.env) (λ u s'=>∃o H',Inv X pins σ H' s'/\A8 u o/\Q o H') X.xe s
noncomputable def zfh:TO:=λ _ H Q=>Q none H
noncomputable def tPart (t:TE):TO:=λ σ H Q=>t σ H λ x H1=>∃i,x=.int i/\Q (some i) H1
theorem z3k {ns:List Int} :∀{us:List Value},Vals (ns.map V.int) us->C3 us ns:=by
 induction ns with
 | nil=>intro us r;rw [L6] at r;cases r;exact .nil
 | cons n ns ih=>
  intro us r;rw [W0] at r;cases r with
  | cons r1 r2=>obtain ⟨t,e⟩:=r1;subst e;exact .cons n t (ih r2)
section
variable {X:Cx} {e:Expr} {te:TE} {lo hi:Option Expr} {tl th:TO} {pos p2:Pos}
theorem z81:PO X none zfh:=by intro a s σ H Q I h;rw [evalPart_none];exact C0 ⟨none,H,I,.none,h⟩
theorem z3z (h:PE X e te):PO X (some e) (tPart te):=by intro b s σ H Q I a;rw [evalPart_some];refine thn (h b s σ H _ I a) λ u c ⟨x,H1,I1,r1,q1⟩=>?_;obtain ⟨i,rfl,q⟩:=q1;obtain ⟨t,rfl⟩:=r1;exact ⟨some i,H1,I1,.int i t,q⟩
def SlR (X:Cx) (r:V->Option Int->Option Int->Hp->VK->Prop):Prop:=
 ∀(pins:List (Addr×Obj)) (s:y0) (σ:St) (H:Hp) (x:V) (v vl vu:Value) (lo hi:Option Int) (sl:Addr) (Q:VK),Inv X pins σ H s->RelV x v->s.heap.IsSliceOf sl vl vu .none->A8 vl lo->A8 vu hi->r x lo hi H Q->
  ∃T id,typeLookup (.type T) "__getitem__" = E3 (some (.builtin id))/\s.TypeIs v T/\Q0 (Y0 X.prog X.w) X.A (W7 v (.ref sl)) (EP X pins σ Q) X.xe s
theorem SlR.or {r r':V->Option Int->Option Int->Hp->VK->Prop} (h:SlR X r) (h':SlR X r'):SlR X (λ x lo hi H Q=>r x lo hi H Q\/r' x lo hi H Q):=by
 intro e s σ H x v a f lo hi b Q I g d c i q;rcases q with q|q
 ·exact h e s σ H x v a f lo hi b Q I g d c i q
 ·exact h' e s σ H x v a f lo hi b Q I g d c i q
noncomputable def tSl (r:V->Option Int->Option Int->Hp->VK->Prop) (te:TE) (tl th:TO):TE:=λ σ H Q=>te σ H λ x H1=>tl σ H1 λ l H2=>th σ H2 λ u H3=>r x l u H3 Q
theorem z3j {r:V->Option Int->Option Int->Hp->VK->Prop} (hr:SlR X r) (he:PE X e te) (hl:PO X lo tl) (hu:PO X hi th):PE X (.Subscript e (.Slice lo hi none p2) pos) (tSl r te tl th):=by intro c s σ H Q I h;refine Subscript_ (thn (he c s σ H _ I h) λ v n ⟨x,H1,I1,r1,q1⟩=>?_);refine wpAny_Slice (thn (hl c n σ H1 _ I1 q1) λ d g ⟨l,H2,I2,pl,q2⟩=>thn (hu c g σ H2 _ I2 q2) λ f a ⟨u,H3,I3,pu,q3⟩=>?_);rw [evalPart_none];refine C0 ?_;have m:Inv X c σ H3 { a with heap:=a.heap.push { cls:=.type "slice",data:=.fields #[d,f,.none] } }:=I3.kept (t':=a.toks) λ b o q=>v0 _ q;obtain ⟨T,id,k,j,i⟩:=hr c { a with heap:=a.heap.push { cls:=.type "slice",data:=.fields #[d,f,.none] } } σ H3 x v d f l u a.heap.objs.size Q m r1 (Heap.IsSliceOf.new ..) pl pu q3;show Q0 (Y0 X.prog X.w) X.A (subscriptTail e (.Slice lo hi none p2) v (.ref a.heap.objs.size)) (EP X c σ Q) X.xe { a with heap:=a.heap.push { cls:=.type "slice",data:=.fields #[d,f,.none] } };exact tail_any (ops:=[.ref a.heap.objs.size,v]) j k i (by with_unfolding_all rfl)
noncomputable def cutV (xs:List V) (lo hi:Option Int):List V:=(xs.drop (HT.sIx xs.length 0 lo)).take (HT.sIx xs.length xs.length hi - HT.sIx xs.length 0 lo)
theorem z43 (xs:List V) (lo hi:Option Int):(cutV xs lo hi).length<=xs.length:=by unfold cutV;rw [j3,B6];omega
def rSlT (K:c0):V->Option Int->Option Int->Hp->VK->Prop:=λ x lo hi H Q=>∃a xs,x=.ref a/\SqT K H a xs/\
 ¬ (HT.sIx xs.length 0 lo=0/\HT.sIx xs.length xs.length hi=xs.length)/\∀p,H p=none->Q (.ref p) (upd H p (.tup (cutV xs lo hi)))
theorem sl_tup:SlR X (rSlT X.K):=by
 intro z s σ H x v u A d e y Q I p k j l h;obtain ⟨a,c,rfl,m,n,q⟩:=h;cases p;obtain ⟨t,r,g,i⟩:=I.tuple m;have f:t.toArray.size=c.length:=by rw [J0];exact r.length.symm
 refine ⟨"tuple",_,PyProof.Rows.slot_tuple_getitem.lookup,g.typeIs,?_⟩;refine HT.getItem_tuple_cut g k j l (by rw [f];exact n) ?_ (by rw [f];exact i);rw [f];refine ⟨.ref s.heap.objs.size,_,I.laid (t':=s.toks) (o:=.tup (cutV c d e)) (λ b w q=>v0 _ q) (A0 _) ?_,rfl,q _ (I.hok.fresh (A0 _))⟩;exact ⟨G0 (z43 c d e) i,_,(r.drop (HT.sIx c.length 0 d)).take (HT.sIx c.length c.length e - HT.sIx c.length 0 d),IsTupN.new _ _⟩
noncomputable def rCatT (K:c0):R2:=λ x y H Q=>∃a b xs ys,x=.ref a/\y=.ref b/\SqT K H a xs/\SqT K H b ys/\xs≠[]/\xs.length + ys.length<=sizeLine/\
 (ys=[]->Q (.ref a) H)/\(ys≠[]->∀p,H p=none->Q (.ref p) (upd H p (.tup (xs++ys))))
theorem Vals.nil_iff {xs:List V} {us:List Value} (r:Vals xs us):us=[]↔xs=[]:=by
 cases r with
 | nil=>simp
 | cons _ _=>simp
theorem zeq:OpR X (U4 .Add) (rCatT X.K):=by intro C s σ H x y v u Q I t k h;obtain ⟨a,b,m,l,rfl,rfl,j,n,p,e,f,g⟩:=h;cases t;cases k;obtain ⟨D,d,i,_⟩:=I.tuple j;obtain ⟨B,c,r,_⟩:=I.tuple n;refine HT.cat_tup i r (λ z=>p (d.nil_iff.mp z)) (λ z=>⟨.ref a,H,I,rfl,f (c.nil_iff.mp z)⟩) (λ z=>?_) (by rw [<-d.length,<-c.length];exact e);refine ⟨.ref s.heap.objs.size,_,I.laid (t':=s.toks) (o:=.tup (m++l)) (λ b A q=>v0 _ q) (A0 _) ?_,rfl,g (λ w=>z (c.nil_iff.mpr w)) _ (I.hok.fresh (A0 _))⟩;exact ⟨by rw [L0];exact e,_,d.append c,IsTupN.new _ _⟩
end
noncomputable def ixN (n:Nat) (i:Int):Option Nat:=if 0<=i then (if i < n then some i.toNat else none) else if -(n:Int)<=i then some (i + n).toNat else none
noncomputable def atI {α:Type} (xs:List α) (i:Int):Option α:=(ixN xs.length i).bind λ j=>xs[j]?
theorem zd9 {n:Nat} {i:Int} {j:Nat} (h:ixN n i=some j):seqIndex? i n=some j/\j < n/\-(n:Int)<=i/\i < n:=by
 unfold ixN at h;by_cases h0:0<=i
 ·rw [if_pos h0] at h;by_cases h1:i < n
  ·rw [if_pos h1] at h;have e:i.toNat=j:=A1 h;exact ⟨by rw [seqIndex_of h0 h1,e],by omega,by omega,h1⟩
  ·rw [if_neg h1] at h;cases h
 ·rw [if_neg h0] at h;by_cases h1:-(n:Int)<=i
  ·rw [if_pos h1] at h;have e:(i + n).toNat=j:=A1 h;exact ⟨by rw [seqIndex_neg (by omega) h1,e],by omega,h1,by omega⟩
  ·rw [if_neg h1] at h;cases h
theorem z9d {α:Type} {xs:List α} {i:Int} {v:α} (h:atI xs i=some v) :∃j,seqIndex? i xs.length=some j/\xs[j]? = some v/\j < xs.length/\-(xs.length:Int)<=i/\i < xs.length:=by
 unfold atI at h;cases e:ixN xs.length i with
 | none=>rw [e] at h;cases h
 | some j=>rw [e] at h;obtain ⟨b,c,a,d⟩:=zd9 e;exact ⟨j,b,h,c,a,d⟩
theorem z04 {α:Type} {xs:List α} {j:Nat} {v:α} (h:xs[j]? = some v):atI xs (j:Int)=some v:=by
 have a:j < xs.length:=(List.getElem?_eq_some_iff.mp h).1;have e:ixN xs.length (j:Int)=some j:=by unfold ixN;rw [if_pos (by omega),if_pos (by omega)];simp
 unfold atI;rw [e];exact h
def zd1 (b:Expr):Prop:=∀o i,c9 b false o i=operate [o,i] (W7 o i)
def IxR (X:Cx) (r:R2):Prop:=
 ∀(value slice:Expr) (pins:List (Addr×Obj)) (s:y0) (σ:St) (H:Hp) (x y:V) (v u:Value) (Q:VK),Inv X pins σ H s->RelV x v->RelV y u->r x y H Q->
  c9 slice false v u=operate [v,u] (W7 v u)->Q0 (Y0 X.prog X.w) X.A (subscriptTail value slice v u) (EP X pins σ Q) X.xe s
def MtR (X:Cx) (id:String) (r:V->List V->Hp->VK->Prop):Prop:=
 ∀(pins:List (Addr×Obj)) (s:y0) (σ:St) (H:Hp) (x:V) (xs:List V) (v:Value) (us:List Value) (Q:VK),Inv X pins σ H s->RelV x v->Vals xs us->r x xs H Q->
  Q0 (Y0 X.prog X.w) X.A (call (.builtin id) (v :: us)) (EP X pins σ Q) X.xe s
section
variable {X:Cx} {a b:Expr} {ta tb:TE} {pos:Pos}
theorem IxR.or {r r':R2} (h:IxR X r) (h':IxR X r'):IxR X (λ x y H Q=>r x y H Q\/r' x y H Q):=by
 intro d a c s σ H x y v u Q I f e q b;rcases q with q|q
 ·exact h d a c s σ H x y v u Q I f e q b
 ·exact h' d a c s σ H x y v u Q I f e q b
theorem pe_ix {r:R2} (hr:IxR X r) (ha:PE X a ta) (hb:PE X b tb) (hs:zd1 b):PE X (.Subscript a b pos) (tOp r ta tb):=by intro d s σ H Q I h;exact Subscript_ (binT ha hb I h λ v u c x y e i g f q=>hr a b d c σ e x y v u Q i g f q (hs _ _))
noncomputable def rIxL (K:c0):R2:=λ x y H Q=>∃p xs i v,x=.ref p/\y=.int i/\SqL K H p xs/\atI xs i=some v/\Q v H
noncomputable def rIxT (K:c0):R2:=λ x y H Q=>∃p xs i v,x=.ref p/\y=.int i/\SqT K H p xs/\atI xs i=some v/\Q v H
noncomputable def rIxS:R2:=λ x y H Q=>∃z i c,x=.str z/\y=.int i/\z.length<=sizeLine/\atI z.cps.toList i=some c/\Q (.str ⟨#[c]⟩) H
theorem ix_list:IxR X (rIxL X.K):=by
 intro M N f s σ H x y v u Q I B l h e;obtain ⟨p,L,i,z,rfl,rfl,A,k,q⟩:=h;cases B;obtain ⟨t,rfl⟩:=l;obtain ⟨E,r,b,G⟩:=I.list A;obtain ⟨j,a,g,F,C,m⟩:=z9d k;obtain ⟨w,d,D⟩:=r.get g;have n:=r.length;have J:=line63;have fin:EP X f σ Q w s:=⟨z,H,I,D,q⟩
 by_cases h0:0<=i
 ·have c:i.toNat=j:=by rw [seqIndex_of h0 m] at a;exact A1 a
  exact item_listR b.isList h0 (by omega) (by rw [c];simpa using d) fin e
 ·have c:(i + (E.toArray.size:Int)).toNat=j:=by rw [seqIndex_neg (by omega) C] at a;rw [J0,<-n];exact A1 a
  exact subscriptTail_builtinR (x:=w) b.isList.typeIs slot_list_getitem.lookup
   (wpAny_getItem_list_neg (Q:=λ r o=>r=w/\EP X f σ Q r o) b.isList (by omega) (by rw [J0]<;>omega) (by omega) (by rw [c];simpa using d) ⟨rfl,fin⟩) e
theorem ix_tup:IxR X (rIxT X.K):=by
 intro G J b s σ H x y v u Q I o g h m;obtain ⟨p,F,i,z,rfl,rfl,n,f,q⟩:=h;cases o;obtain ⟨t,rfl⟩:=g;obtain ⟨M,r,a,D⟩:=I.tuple n;obtain ⟨j,e,d,B,L,C⟩:=z9d f;obtain ⟨w,c,A⟩:=r.get d;have k:=r.length;have E:=line63;have fin:EP X b σ Q w s:=⟨z,H,I,A,q⟩
 exact subscriptTail_builtinR (x:=w) a.typeIs slot_tuple_getitem.lookup
  (getItem_tuple (j:=j) (Q:=λ r l=>r=w/\EP X b σ Q r l) a (by omega) (by omega) (by rw [J0,<-k];exact e) (by simpa using c) ⟨rfl,fin⟩) m
theorem ix_str:IxR X rIxS:=by
 intro B C D s σ H x y v u Q I n e h l;obtain ⟨z,i,c,rfl,rfl,w,d,q⟩:=h;obtain ⟨t,rfl⟩:=n;obtain ⟨p,rfl⟩:=e;obtain ⟨j,a,b,r,o,f⟩:=z9d d;have k:z.cps.toList.length=z.length:=by simp [Str.length]
 rw [k] at a o f;have A:=line63;exact tail_any (typeIs_str s z t) slot_str_getitem.lookup (getItem_str (c:=c) (by have m:decide (i < -(2 ^ 63:Int))=false:=decide_eq_false (by omega);have g:decide (i ≥ 2 ^ 63)=false:=decide_eq_false (by omega);rw [m,g,Q7]) (by rw [a];simpa using b) ⟨.str ⟨#[c]⟩,H,I.tok _,⟨_,rfl⟩,q⟩) l
noncomputable def rIx (K:c0):R2:=λ x y H Q=>rIxL K x y H Q\/rIxT K x y H Q\/rIxS x y H Q
theorem ix_seq:IxR X (rIx X.K):=ix_list.or (ix_tup.or ix_str)
theorem zat (its:List Value) (n j:Nat) (u:Value):E1 (·.setIfInBounds j u) { cls:=.type "list",data:=.seq its.toArray n }={ cls:=.type "list",data:=.seq (its.set j u).toArray n }:=by simp [E1]
theorem Inv.lst {pins:List (Addr×Obj)} {σ:St} {H:Hp} {s:y0} {p:Addr} {xs:List V} (I:Inv X pins σ H s) (h:H p=some (.lst xs)) :
  ∃(its:List Value) (n:Nat),Vals xs its/\s.heap.get? p=some { cls:=.type "list",data:=.seq its.toArray n }/\xs.length<=sizeLine:=by
 obtain ⟨z,its,n,r,e⟩:=I.hok p _ h;exact ⟨its,n,r,e,z⟩
theorem Inv.lstUpd {pins:List (Addr×Obj)} {σ:St} {H:Hp} {s:y0} {p:Addr} {xs ys:List V} {its its':List Value} {n n':Nat} {f:Obj->Obj} (I:Inv X pins σ H s) (h:H p=some (.lst xs))
  (ho:s.heap.get? p=some { cls:=.type "list",data:=.seq its.toArray n }) (hf:f { cls:=.type "list",data:=.seq its.toArray n }={ cls:=.type "list",data:=.seq its'.toArray n' }) (r:Vals ys its') (hz:ys.length<=sizeLine) (t:Nat) :
  Inv X pins σ (upd H p (.lst ys)) { s with heap:=s.heap.update p f,toks:=t }:=by
 have e:(s.heap.update p f).get? p=some { cls:=.type "list",data:=.seq its'.toArray n' }:=by rw [f7 f ho (by rw [hf]<;>rfl),hf]
 refine I.write (x:=p) (e:=p) (by rw [h];trivial) (.inl rfl) (λ b u a q=>(M6 _ _ (y3 a)).trans q) ⟨_,e⟩ ?_;exact ⟨hz,its',n',r,e⟩
def rSetL:V->V->V->Hp->(Hp->Prop)->Prop:=λ o i v H Q=>∃p xs k j,o=.ref p/\i=.int k/\H p=some (.lst xs)/\ixN xs.length k=some j/\Q (upd H p (.lst (xs.set j v)))
theorem z1s:PSet X rSetL:=by
 intro C s σ H o i v E G u Q I w B z h;obtain ⟨p,A,k,j,rfl,rfl,e,x,q⟩:=h;cases w;obtain ⟨t,rfl⟩:=B;obtain ⟨m,n,r,b,y⟩:=I.lst e;obtain ⟨a,D,f,l⟩:=zd9 x;have c:=r.length;have F:=line63;have g:Inv X C σ (upd H p (.lst (A.set j v))) { s with heap:=s.heap.update p (E1 (·.setIfInBounds j u)) }:=
  I.lstUpd e b (zat m n j u) (r.set z j) (by rw [List.length_set];exact y) s.toks
 by_cases h0:0<=k
 ·have d:k.toNat=j:=by rw [seqIndex_of h0 l] at a;exact A1 a
  exact PySem.W.ki_setAt b h0 (by omega) (by rw [J0,<-c];exact l) (by rw [d];exact ⟨_,g,q⟩)
 ·have d:(k + (m.toArray.size:Int)).toNat=j:=by rw [seqIndex_neg (by omega) f] at a;rw [J0,<-c];exact A1 a
  exact PySem.W.ki_setBack b (by omega) (by rw [J0,<-c];exact f) (by omega) (by rw [d];exact ⟨_,g,q⟩)
theorem z71 (lo hi:Option Int) (n:Nat):(T5 lo hi none n).1=((HT.sIx n 0 lo:Nat):Int)/\(T5 lo hi none n).2.1=((HT.sIx n n hi:Nat):Int)/\(T5 lo hi none n).2.2=1:=by
 refine ⟨?_,?_,rfl⟩
 ·cases lo with
  | none=>simp [T5,HT.sIx]
  | some i=>
   simp only [T5,HT.sIx,Option.getD_none,show (1:Int) > 0 by decide,if_true];by_cases h:i < 0
   ·simp only [h,if_true]<;>omega
   ·simp only [h,if_false]<;>omega
 ·cases hi with
  | none=>simp [T5,HT.sIx]
  | some i=>
   simp only [T5,HT.sIx,Option.getD_none,show (1:Int) > 0 by decide,if_true];by_cases h:i < 0
   ·simp only [h,if_true]<;>omega
   ·simp only [h,if_false]<;>omega
theorem z6h (its:List Value) (lo hi:Option Int):slicePick its.toArray lo hi none=((its.drop (HT.sIx its.length 0 lo)).take (HT.sIx its.length its.length hi - HT.sIx its.length 0 lo)).toArray:=by obtain ⟨b,c,a⟩:=z71 lo hi its.toArray.size;unfold slicePick;rw [b,c,a];simp only [sliceRange_one,pick_run,J0]<;>rfl
def rSlL (K:c0):V->Option Int->Option Int->Hp->VK->Prop:=λ x lo hi H Q=>∃a xs,x=.ref a/\SqL K H a xs/\∀p,H p=none->Q (.ref p) (upd H p (.lst (cutV xs lo hi)))
theorem sl_list:SlR X (rSlL X.K):=by intro w s σ H x v p y d e u Q I n j g k h;obtain ⟨a,c,rfl,l,q⟩:=h;cases n;obtain ⟨z,r,f,i⟩:=I.list l;have m:=r.length;refine ⟨"list",_,slot_list_getitem.lookup,f.isList.typeIs,?_⟩;refine wpAny_getItem_list_slice f.isList j g k .none (by simp) ?_ (by rw [J0]<;>omega);rw [z6h,<-m];refine ⟨.ref s.heap.objs.size,_,I.laid (t':=s.toks) (o:=.lst (cutV c d e)) (λ b t q=>v0 _ q) (A0 _) ?_,rfl,q _ (I.hok.fresh (A0 _))⟩;exact ⟨G0 (z43 c d e) i,_,0,(r.drop (HT.sIx c.length 0 d)).take (HT.sIx c.length c.length e - HT.sIx c.length 0 d),I0 _ rfl⟩
noncomputable def flatV:V->Bool
 | .non=>true
 | .bl _=>true
 | .int _=>true
 | .str _=>true
 | _=>false
noncomputable def eqV:V->V->Bool
 | .non,.non=>true
 | .bl a,.bl b=>a == b
 | .bl a,.int b=>(if a then 1 else 0) == b
 | .int a,.bl b=>a == (if b then 1 else 0)
 | .int a,.int b=>a == b
 | .str a,.str b=>a == b
 | _,_=>false
theorem eqAt_V {A:W1} {s:y0} {y x:V} {u v:Value} (ry:RelV y u) (rx:RelV x v) (fy:flatV y=true) (fx:flatV x=true):N8 A s u v (eqV y x):=by
 cases y with
 | non=>
  cases ry;cases x with
  | non=>cases rx;exact M4 _
  | bl b=>cases rx;exact SeqAt.EqAt.none_bool b
  | int b=>obtain ⟨t,rfl⟩:=rx;exact SeqAt.EqAt.none_int b t
  | str b=>obtain ⟨t,rfl⟩:=rx;exact SeqAt.EqAt.none_str b t
  | _=>exact absurd (show false=true from fx) R0
 | bl a=>
  cases ry;cases x with
  | non=>cases rx;exact SeqAt.EqAt.bool_none a
  | bl b=>cases rx;exact SeqAt.EqAt.bool_bool a b
  | int b=>obtain ⟨t,rfl⟩:=rx;exact SeqAt.EqAt.bool_int a b t
  | str b=>obtain ⟨t,rfl⟩:=rx;exact SeqAt.EqAt.bool_str a b t
  | _=>exact absurd (show false=true from fx) R0
 | int a=>
  obtain ⟨c,rfl⟩:=ry;cases x with
  | non=>cases rx;exact SeqAt.EqAt.int_none a c
  | bl b=>cases rx;exact SeqAt.EqAt.int_bool a c b
  | int b=>obtain ⟨t,rfl⟩:=rx;exact l9 a c b t
  | str b=>obtain ⟨t,rfl⟩:=rx;exact j9 a c b t
  | _=>exact absurd (show false=true from fx) R0
 | str a=>
  obtain ⟨c,rfl⟩:=ry;cases x with
  | non=>cases rx;exact SeqAt.EqAt.str_none a c
  | bl b=>cases rx;exact SeqAt.EqAt.str_bool a c b
  | int b=>obtain ⟨t,rfl⟩:=rx;exact i9 a c b t
  | str b=>obtain ⟨t,rfl⟩:=rx;exact g9 a c b t
  | _=>exact absurd (show false=true from fx) R0
 | _=>exact absurd (show false=true from fy) R0
noncomputable def eqU (x:V) (u:Value):Bool:=match u with
 | .none=>eqV .non x
 | .bool b=>eqV (.bl b) x
 | .int i _=>eqV (.int i) x
 | .str z _=>eqV (.str z) x
 | _=>false
theorem eqU_of {x y:V} {u:Value} (r:RelV y u) (f:flatV y=true):eqU x u=eqV y x:=by
 cases y with
 | non=>cases r;rfl
 | bl b=>cases r;rfl
 | int i=>obtain ⟨t,rfl⟩:=r;rfl
 | str z=>obtain ⟨t,rfl⟩:=r;rfl
 | _=>exact absurd (show false=true from f) R0
theorem za6 {x:V} :∀{xs:List V} {us:List Value},Vals xs us->xs.all flatV=true->us.any (eqU x)=xs.any λ y=>eqV y x
 | _,_,.nil,_=>rfl
 | y :: xs,u :: us,.cons r t,f=>by rw [List.all_cons,P4] at f;rw [w6,w6,eqU_of r f.1,za6 t f.2]
theorem z6p {A:W1} {s:y0} {x:V} {v:Value} (rx:RelV x v) (fx:flatV x=true) :∀{xs:List V} {us:List Value},Vals xs us->xs.all flatV=true->∀u∈us,N8 A s u v (eqU x u)
 | _,_,.nil,_=>λ u a=>by cases a
 | y :: xs,u :: us,.cons r t,f=>λ b a=>by
  rw [List.all_cons,P4] at f;rcases List.mem_cons.mp a with rfl|a
  ·rw [eqU_of r f.1];exact eqAt_V r rx f.1 fx
  ·exact z6p rx fx t f.2 b a
noncomputable def inV (x:V) (xs:List V):Bool:=xs.any λ y=>eqV y x
noncomputable def rIn (K:c0) (neg:Bool):R2:=λ x y H Q=>∃p xs,y=.ref p/\(SqL K H p xs\/SqT K H p xs)/\flatV x=true/\xs.all flatV=true/\Q (.bl (if neg then !inV x xs else inV x xs)) H
theorem z82:OpR X (G2 .In) (rIn X.K false):=by
 intro k s σ H x y v u Q I f g h;obtain ⟨p,j,rfl,a,e,fs,q⟩:=h;cases g;rcases a with a|a
 ·obtain ⟨b,r,c,i⟩:=I.list a;refine SeqAt.in_listAt (eqU x) c.isList (λ w d=>z6p f e r fs w (by simpa using d)) ⟨.bl _,H,I,rfl,?_⟩;rw [show b.toArray.any (eqU x)=b.any (eqU x) by simp,za6 r fs];exact q
 ·obtain ⟨b,r,c,i⟩:=I.tuple a;refine SeqAt.in_tupleAt (eqU x) c (λ w d=>z6p f e r fs w (by simpa using d)) ⟨.bl _,H,I,rfl,?_⟩;rw [show b.toArray.any (eqU x)=b.any (eqU x) by simp,za6 r fs];exact q
theorem call_len_seq:CallR X (.builtin "len") (λ xs H Q=>∃p ys,xs=[.ref p]/\(SqL X.K H p ys\/SqT X.K H p ys)/\Q (.int ys.length) H):=by
 intro j s σ H xs k Q I r h;obtain ⟨p,ys,rfl,a,q⟩:=h;obtain ⟨u,rfl,e⟩:=vals1 r;cases e;have i:=line63;rcases a with a|a
 ·obtain ⟨g,d,c,f⟩:=I.list a;have b:=d.length;exact Calls.call_len_list c.isList (by simp only [J0]<;>omega) ⟨.int ys.length,H,I.tok _,⟨s.toks + 1,by rw [J0,b]⟩,q⟩
 ·obtain ⟨g,d,c,f⟩:=I.tuple a;have b:=d.length;exact len_tuple c (by simp only [J0]<;>omega) ⟨.int ys.length,H,I.tok _,⟨s.toks + 1,by rw [J0,b]⟩,q⟩
theorem z6x:CallR X (.builtin "len") (λ xs H Q=>∃z,xs=[.str z]/\z.length<=sizeLine/\Q (.int z.length) H):=by intro b s σ H xs c Q I r h;obtain ⟨z,rfl,d,q⟩:=h;obtain ⟨u,rfl,t,rfl⟩:=vals1 r;have a:=line63;exact len_str (by omega) ⟨.int z.length,H,I.tok _,⟨_,rfl⟩,q⟩
theorem CallR.or {f:Value} {r r':List V->Hp->VK->Prop} (h:CallR X f r) (h':CallR X f r'):CallR X f (λ xs H Q=>r xs H Q\/r' xs H Q):=by
 intro a s σ H xs b Q I c q;rcases q with q|q
 ·exact h a s σ H xs b Q I c q
 ·exact h' a s σ H xs b Q I c q
theorem z2g:CallR X (.type "tuple") (λ xs H Q=>∃p ys,xs=[.ref p]/\((SqL X.K H p ys/\∀l,H l=none->Q (.ref l) (upd H l (.tup ys)))\/(SqT X.K H p ys/\Q (.ref p) H))):=by
 intro j s σ H xs v Q I r h;obtain ⟨p,ys,rfl,h⟩:=h;obtain ⟨u,rfl,n⟩:=vals1 r;cases n;rcases h with ⟨f,q⟩|⟨f,q⟩
 ·obtain ⟨g,d,c,i⟩:=I.list f;have t:=d.length;refine call_tuple_list c.isList (λ a kp=>?_) (by simp only [J0]<;>omega);have k:Inv X j σ H { s with heap:=a }:=I.kept (t':=s.toks) kp;have m:Inv X j σ (upd H a.objs.size (.tup ys)) { s with heap:=a.push { cls:=.type "tuple",data:=.seq g.toArray } }:=
   k.laid (t':=s.toks) (λ b o e=>v0 _ e) (A0 _) (show ObjOk X.prog X.w _ _ _ (.tup ys) from ⟨i,g,d,IsTupN.new _ _⟩)
  exact ⟨.ref a.objs.size,_,m,rfl,q _ (k.hok.fresh (A0 _))⟩
 ·obtain ⟨g,d,c,i⟩:=I.tuple f;exact call_tuple_same c ⟨.ref p,H,I,rfl,q⟩
def tyV (K:c0) (T:String) (x:V) (H:Hp):Prop:=match x with
 | .str _=>T = "str"
 | .int _=>T = "int"
 | .ref p=>(T = "list"/\∃xs,SqL K H p xs)\/(T = "tuple"/\∃o,K.lookup p=some o/\o.cls=.type "tuple"/\o.dict=none)\/
   (T = "dict"/\((∃kvs,H p=some (.dK kvs))\/∃kvs,H p=some (.dT kvs)))\/(T = "set"/\∃S n,H p=some (.set S n))
 | _=>False
theorem tyV_is {pins:List (Addr×Obj)} {σ:St} {H:Hp} {s:y0} {T:String} {x:V} {v:Value} (I:Inv X pins σ H s) (r:RelV x v) (ty:tyV X.K T x H) :
  s.TypeIs v T/\∀a,v=.ref a->∃ob,s.heap.get? a=some ob/\ob.dict=none:=by
 cases x with
 | str z=>obtain ⟨t,rfl⟩:=r;cases (show T = "str" from ty);exact ⟨typeIs_str s z t,λ _ e=>nomatch e⟩
 | int i=>obtain ⟨t,rfl⟩:=r;cases (show T = "int" from ty);exact ⟨typeIs_int s i t,λ _ e=>nomatch e⟩
 | ref p=>
  cases r;rcases ty with ⟨rfl,k,h⟩|⟨rfl,o,b,hc,hd⟩|⟨rfl,b⟩|⟨rfl,S,n,b⟩
  ·obtain ⟨l,_,g,_⟩:=I.list h;refine ⟨g.isList.typeIs,λ a e=>?_⟩;cases e;obtain ⟨o,n,e,c,hd,_⟩:=g;exact ⟨o,e,hd⟩
  ·refine ⟨⟨o,I.kIn p o b,hc⟩,λ a e=>?_⟩;cases e;exact ⟨o,I.kIn _ o b,hd⟩
  ·have z :∃o,s.heap.get? p=some o/\o.ExactDict:=by
    rcases b with ⟨j,b⟩|⟨j,b⟩
    ·obtain ⟨_,_,_,_,o,_,_,e,d,_⟩:=I.hok p _ b;exact ⟨o,e,d⟩
    ·obtain ⟨_,_,_,_,o,_,_,e,d,_⟩:=I.hok p _ b;exact ⟨o,e,d⟩
   obtain ⟨o,e,d⟩:=z;refine ⟨⟨o,e,d.1⟩,λ a f=>?_⟩;cases f;exact ⟨o,e,d.2.1⟩
  ·obtain ⟨o,_,_,_,e,d,_⟩:=I.hok p _ b;refine ⟨⟨o,e,d.1⟩,λ a f=>?_⟩;cases f;exact ⟨o,e,d.2.1⟩
 | _=>exact R3 ty
noncomputable def tBM0 (K:c0) (T:String) (r:V->List V->Hp->VK->Prop) (to:TE):TE:=λ σ H Q=>to σ H λ x H1=>tyV K T x H1/\r x [] H1 Q
noncomputable def tBM (K:c0) (T:String) (r:V->List V->Hp->VK->Prop) (to:TE) (t:TA):TE:=λ σ H Q=>to σ H λ x H1=>tyV K T x H1/\t σ H1 λ xs H2=>r x xs H2 Q
variable {o e:Expr} {es:List Expr} {to:TE} {t:TA} {name:Str} {apos cpos:Pos} {T id:String} {r:V->List V->Hp->VK->Prop}
theorem pe_bm0 (pa:PlainAttrs T) (slot:Slot T name id) (hty:typeOf (.builtin id)=E3 (.type "method_descriptor")) (hm:MtR X id r) (ho:PE X o to)
  (hbase:c5 o name X.env (P3 o X.env)=P3 o X.env:=by rfl) (hline:(apos.endLine == cpos.line)=true:=by rfl):PE X (.Call (.Attribute o name apos) [] [] cpos) (tBM0 X.K T r to):=by
 intro a s σ H Q I h;refine wpAny_Call_method0_late hbase hline (thn (ho a s σ H _ I h) λ v c ⟨x,H1,I1,r1,ty,q1⟩=>?_);obtain ⟨d,b⟩:=tyV_is I1 r1 ty;exact ⟨T,id,pa,slot,hty,d,b,j4 rfl (S9 (hm a c σ H1 x [] v [] Q I1 r1 .nil q1))⟩
theorem pe_bm (pa:PlainAttrs T) (slot:Slot T name id) (hty:typeOf (.builtin id)=E3 (.type "method_descriptor")) (hm:MtR X id r) (ho:PE X o to) (ha:PA X (e :: es) t)
  (hbase:c5 o name X.env (P3 o X.env)=P3 o X.env:=by rfl)
  (hfew:((y4 cpos (D1 (e :: es) X.env)).all (λ x=>!x.1) && (backToKw cpos (f9 [] X.env)).all (λ x=>x.1.isSome)
   && decide ((e :: es).length + ([]:List E7).length + (if ([]:List E7).isEmpty then 0 else 1) < 30))=true:=by rfl)
  (hline:(apos.endLine == cpos.line)=true:=by rfl) (hs:D1 (e :: es) X.env=(false,P3 e X.env) :: D1 es X.env:=by rfl) (hplain:(y4 cpos (D1 es X.env)).any (·.1)=false:=by rfl) :
  PE X (.Call (.Attribute o name apos) (e :: es) [] cpos) (tBM X.K T r to t):=by
 intro a s σ H Q I h;refine wpAny_Call_method_late hbase hfew hline rfl (thn (ho a s σ H _ I h) λ v f ⟨x,H1,I1,r1,ty,q1⟩=>?_);obtain ⟨i,c⟩:=tyV_is I1 r1 ty;refine ⟨T,id,pa,slot,hty,i,c,?_⟩;have b:=ha cpos a f σ H1 _ I1 q1;rw [hs] at b⊢;refine j4 (by show (false || (y4 cpos (D1 es X.env)).any (·.1))=false;rw [hplain]<;>rfl) (k7 ?_);exact thn b λ g d ⟨vs,H2,I2,r2,q2⟩=>hm a d σ H2 x vs v g Q I2 r1 r2 q2
end
def MtM (X:Cx) (id:String) (r:V->List V->Hp->VK->Prop):Prop:=
 ∀(pins:List (Addr×Obj)) (s:y0) (σ:St) (H:Hp) (x:V) (xs:List V) (v:Value) (us:List Value) (Q:VK),Inv X pins σ H s->RelV x v->Vals xs us->r x xs H Q->
  Q0 (Y0 X.prog X.w) X.A (call (.builtin id) (v :: us)) (EP X pins σ Q) X.xe s
theorem Vals.one :∀{x:V} {us:List Value},Vals [x] us->∃u,us=[u]/\RelV x u
 | _,_,.cons r .nil=>⟨_,rfl,r⟩
theorem Vals.zero :∀{us:List Value},Vals [] us->us=[]
 | _,.nil=>rfl
section
variable {X:Cx} {pins:List (Addr×Obj)} {σ:St} {H:Hp} {s:y0} {l b:Addr} {xs ys zs:List V}
theorem Inv.lset {its its':List Value} {n:Nat} {f:Array Value->Array Value} {t':Nat} (I:Inv X pins σ H s) (hH:H l=some (.lst xs))
  (e:s.heap.get? l=some { cls:=.type "list",data:=.seq its.toArray n }) (hf:f its.toArray=its'.toArray) (hv:Vals ys its') (hz:ys.length<=sizeLine) :
  Inv X pins σ (upd H l (.lst ys)) { s with heap:=s.heap.update l (E1 f),toks:=t' }:=by
 have q:=PySem.IsL.update e f;rw [hf] at q;refine I.write (x:=l) (e:=l) (by rw [hH];exact trivial) (.inl rfl) (λ c u b a=>(M6 s.heap (E1 f) (y3 b)).trans a) ⟨_,q⟩ ?_;exact ⟨hz,its',_,hv,q⟩
theorem Inv.lnew {its:List Value} {t':Nat} (I:Inv X pins σ H s) (hv:Vals ys its) (hz:ys.length<=sizeLine) :
  Inv X pins σ (upd H s.heap.objs.size (.lst ys)) { s with heap:=s.heap.push { cls:=.type "list",data:=.seq its.toArray },toks:=t' }:=
 I.laid (λ _ _ q=>v0 _ q) (A0 _) ⟨hz,its,0,hv,I0 _ rfl⟩
theorem Inv.fresh (I:Inv X pins σ H s):H s.heap.objs.size=none:=I.hok.fresh (A0 _)
theorem Inv.lstM (I:Inv X pins σ H s) (hH:H l=some (.lst xs)):xs.length<=sizeLine/\∃(its:List Value) (n:Nat),Vals xs its/\xs.length=its.length/\s.heap.get? l=some { cls:=.type "list",data:=.seq its.toArray n }:=by obtain ⟨z,its,n,r,e⟩:=I.hok l _ hH;exact ⟨z,its,n,r,r.length,e⟩
end
section
variable {X:Cx}
def zar:V->List V->Hp->VK->Prop:=λ x vs H Q=>∃l xs y,x=.ref l/\vs=[y]/\H l=some (.lst xs)/\xs.length < sizeLine/\Q .non (upd H l (.lst (xs++[y])))
theorem zbz:MtM X "list.append" zar:=by intro m s σ H x k v o Q I f d h;obtain ⟨l,j,y,rfl,rfl,a,g,q⟩:=h;cases f;obtain ⟨u,rfl,c⟩:=d.one;obtain ⟨z,b,n,r,i,e⟩:=I.lstM a;refine call_meets F.slot_list_append ⟨_,e,rfl⟩ F.entry_list_append (F.args_list_append_2 _ _) (PySem.list_append l b.toArray n u (by rw [J0];omega)) ⟨e,?_⟩;refine ⟨.non,_,I.lset (its':=b++[u]) a e (by simp) (r.append (.cons c .nil)) ?_,rfl,q⟩;rw [L0,c7];omega
def rClear:V->List V->Hp->VK->Prop:=λ x vs H Q=>∃l xs,x=.ref l/\vs=[]/\H l=some (.lst xs)/\Q .non (upd H l (.lst []))
theorem ze7:MtM X "list.clear" rClear:=by intro k s σ H x j v m Q I d c h;obtain ⟨l,i,rfl,rfl,a,q⟩:=h;cases d;have b:=c.zero;subst b;obtain ⟨z,f,n,r,g,e⟩:=I.lstM a;refine call_meets F.slot_list_clear ⟨_,e,rfl⟩ F.entry_list_clear (F.args_list_clear_1 _) (AutoSeq1.list_clear_list_0 l f.toArray n (by rw [J0];omega)) ⟨e,?_⟩;exact ⟨.non,_,I.lset (its':=[]) (ys:=[]) a e rfl .nil (L1 _),rfl,q⟩
noncomputable def rCat:R2:=λ x y H Q=>∃l b xs zs,x=.ref l/\y=.ref b/\H l=some (.lst xs)/\H b=some (.lst zs)/\xs.length + zs.length<=sizeLine/\∀p,H p=none->Q (.ref p) (upd H p (.lst (xs++zs)))
theorem op_cat:OpR X (U4 .Add) rCat:=by
 intro C s σ H x y v u Q I m g h;obtain ⟨l,b,B,o,rfl,rfl,j,d,w,q⟩:=h;cases m;cases g;obtain ⟨z,c,n,r,A,e⟩:=I.lstM j;obtain ⟨D,a,p,k,t,i⟩:=I.lstM d;refine PySem.P.add_list e i ?_ (by rw [J0,J0];omega);have f:c.toArray++a.toArray=(c++a).toArray:=by simp
 rw [f];exact ⟨.ref _,_,I.lnew (t':=s.toks) (r.append k) (by rw [L0];omega),rfl,q _ I.fresh⟩
end
section
variable {prog:Program} {w:P0} {A:W1} {E:Value->y0->Prop} {s:y0}
set_option maxRecDepth 100000 in
end
section
variable {κ:Type} [DecidableEq κ]
noncomputable def valV (kvs:List (κ×V)) (k:κ):Option V:=(kvs.find? λ kv=>decide (kv.1=k)).map (·.2)
noncomputable def putK (kvs:List (κ×V)) (k:κ) (v:V):List (κ×V):=
 if (kvs.any λ kv=>decide (kv.1=k))=true then kvs.map (λ kv=>if kv.1=k then (kv.1,v) else kv) else kvs++[(k,v)]
noncomputable def dropK (kvs:List (κ×V)) (k:κ):List (κ×V):=kvs.filter λ kv=>decide (kv.1≠k)
theorem z0r {p:κ×V} {r:List (κ×V)} {k:κ} (e:p.1=k):valV (p :: r) k=some p.2:=by simp [valV,U3,e]
theorem z0p {p:κ×V} {r:List (κ×V)} {k:κ} (e:¬ p.1=k):valV (p :: r) k=valV r k:=by simp [valV,U3,e]
theorem z4a (k:κ) :∀kvs:List (κ×V),(kvs.any λ kv=>decide (kv.1=k))=(valV kvs k).isSome
 | []=>rfl
 | p :: r=>by
  rw [w6];by_cases e:p.1=k
  ·simp only [z0r e,decide_eq_true e,Bool.true_or,Option.isSome_some]
  ·rw [z0p e,decide_eq_false e,Bool.false_or];exact z4a k r
theorem zbe (k j:κ) (y:V) :∀kvs:List (κ×V),valV (kvs.map λ kv=>if kv.1=k then (kv.1,y) else kv) j=(valV kvs j).map λ x=>if j=k then y else x
 | []=>rfl
 | p :: r=>by
  have a:=zbe k j y r;rw [W0];by_cases h:p.1=k
  ·rw [if_pos h];by_cases e:p.1=j
   ·rw [z0r (p:=(p.1,y)) e,z0r e,G6,if_pos (e.symm.trans h)]
   ·rw [z0p (p:=(p.1,y)) e,z0p e,a]
  ·rw [if_neg h];by_cases e:p.1=j
   ·rw [z0r (p:=p) e,z0r e,G6,if_neg (λ z=>h (e.trans z))]
   ·rw [z0p (p:=p) e,z0p e,a]
theorem z7q (k j:κ) (y:V) :∀kvs:List (κ×V),valV kvs k=none->valV (kvs++[(k,y)]) j=if j=k then some y else valV kvs j
 | [],_=>by
  by_cases e:k=j
  ·rw [if_pos e.symm];exact z0r (p:=(k,y)) e
  ·rw [if_neg (λ z=>e z.symm)];exact z0p (p:=(k,y)) e
 | p :: r,hn=>by
  rw [List.cons_append];have a:¬ p.1=k:=λ z=>by rw [z0r z] at hn;cases hn
  rw [z0p a] at hn;have b:=z7q k j y r hn;by_cases e:p.1=j
  ·rw [z0r e,z0r e,if_neg (λ z=>a (e.trans z))]
  ·rw [z0p e,z0p e,b]
theorem z6o (kvs:List (κ×V)) (k j:κ) (y:V):valV (putK kvs k y) j=if j=k then some y else valV kvs j:=by
 unfold putK;by_cases a:(kvs.any λ b=>decide (b.1=k))=true
 ·rw [if_pos a,zbe];rw [z4a] at a;by_cases e:j=k
  ·obtain ⟨x,c⟩:=Option.isSome_iff_exists.mp a;rw [if_pos e,e,c,G6,if_pos rfl]
  ·rw [if_neg e];cases valV kvs j with
   | none=>rfl
   | some x=>rw [G6,if_neg e]
 ·rw [if_neg a];refine z7q k j y kvs ?_;rw [z4a] at a;cases q:valV kvs k with
  | none=>rfl
  | some x=>rw [q] at a;exact (a rfl).elim
theorem z1k (kvs:List (κ×V)) (k:κ) (v:V):(putK kvs k v).length<=kvs.length + 1:=by
 unfold putK;split
 ·rw [D0];omega
 ·rw [L0,v1,n4];omega
theorem RelO.isSome_eq {o:Option V} {u:Option Value} (r:RelO o u):o.isSome=u.isSome:=by
 cases o with
 | none=>cases u with
  | none=>rfl
  | some _=>exact (show False from r).elim
 | some _=>cases u with
  | none=>exact (show False from r).elim
  | some _=>rfl
theorem RelO.getD {o:Option V} {u:Option Value} {d:V} {d':Value} (r:RelO o u) (rd:RelV d d'):RelV (o.getD d) (u.getD d'):=by
 cases o with
 | none=>cases u with
  | none=>exact rd
  | some _=>exact (show False from r).elim
 | some _=>cases u with
  | none=>exact (show False from r).elim
  | some _=>exact r
theorem KV.val {kvs:List (κ×V)} {vs:List (κ×Value)} (r:KV kvs vs) (k:κ):RelO (valV kvs k) (U7 vs k):=by
 unfold KV at r;induction r with
 | nil=>exact True.intro
 | @cons p q ps qs h t ih=>
  obtain ⟨c,d⟩:=h;by_cases e:p.1=k
  ·have a:q.1=k:=c.symm.trans e;have b:U7 (q :: qs) k=some q.2:=by simp [U7,U3,a]
   rw [z0r e,b];exact d
  ·have a:¬ q.1=k:=λ z=>e (c.trans z);have b:U7 (q :: qs) k=U7 qs k:=by simp [U7,U3,a]
   rw [z0p e,b];exact ih
theorem KV.any {kvs:List (κ×V)} {vs:List (κ×Value)} (r:KV kvs vs) (k:κ):(kvs.any λ kv=>decide (kv.1=k))=vs.any λ kv=>decide (kv.1=k):=by
 unfold KV at r;induction r with
 | nil=>rfl
 | cons h t ih=>rw [w6,w6,ih,h.1]
theorem KV.repl {kvs:List (κ×V)} {vs:List (κ×Value)} (r:KV kvs vs) (k:κ) {y:V} {u:Value} (ry:RelV y u) :
  KV (kvs.map λ kv=>if kv.1=k then (kv.1,y) else kv) (vs.map λ kv=>if kv.1=k then (kv.1,u) else kv):=by
 unfold KV at r⊢;induction r with
 | nil=>exact .nil
 | @cons p q ps qs h t ih=>
  rw [W0,W0];refine .cons ?_ ih;obtain ⟨a,b⟩:=h;by_cases e:p.1=k
  ·rw [if_pos e,if_pos (a.symm.trans e)];exact ⟨a,ry⟩
  ·rw [if_neg e,if_neg (λ z=>e (a.trans z))];exact ⟨a,b⟩
theorem KV.put {kvs:List (κ×V)} {vs:List (κ×Value)} (r:KV kvs vs) (k:κ) {y:V} {u:Value} (ry:RelV y u):KV (putK kvs k y) (stored vs k u):=by
 unfold putK stored;rw [r.any k];by_cases e:(vs.any λ a=>decide (a.1=k))=true
 ·rw [if_pos e,if_pos e];exact r.repl k ry
 ·rw [if_neg e,if_neg e];exact Paired.snoc r ⟨rfl,ry⟩
theorem KV.drop {kvs:List (κ×V)} {vs:List (κ×Value)} (r:KV kvs vs) (k:κ):KV (dropK kvs k) (without vs k):=by
 unfold KV at r⊢;unfold dropK without;induction r with
 | nil=>exact .nil
 | @cons p q ps qs h t ih=>
  obtain ⟨c,d⟩:=h;rw [F5,F5];by_cases e:p.1=k
  ·have a:¬ decide (p.1≠k)=true:=by simp [e]
   have b:¬ decide (q.1≠k)=true:=by simp [c.symm.trans e]
   rw [if_neg a,if_neg b];exact ih
  ·have f:¬ q.1=k:=λ z=>e (c.trans z);have a:decide (p.1≠k)=true:=by simp [e]
   have b:decide (q.1≠k)=true:=by simp [f]
   rw [if_pos a,if_pos b];exact .cons ⟨c,d⟩ ih
theorem KV.length {kvs:List (κ×V)} {vs:List (κ×Value)} (r:KV kvs vs):kvs.length=vs.length:=C7 r
theorem ze3 (kvs:List (κ×V)) (k:κ):(dropK kvs k).length<=kvs.length:=Z0 _ _
end
theorem kV_is {P:Program} {w:P0} {k:Key} {u:Value} (r:RelV (kV k) u):(z0f P w).is k u=true:=by
 cases k with
 | inl i=>obtain ⟨t,e⟩:=(show∃t,u=D5 i t from r);subst e;exact z8o P w i t
 | inr x=>obtain ⟨t,e⟩:=(show∃t,u=Y7 x t from r);subst e;exact z8b P w x t
theorem z7t {P:Program} {w:P0} :∀{ks:List Key} {us:List Value},Vals (ks.map kV) us->ItemsAre (z0f P w) ks us
 | [],_,r=>by rw [L6] at r;cases r;exact .nil
 | k :: ks,_,r=>by
  rw [W0] at r;cases r with
  | cons h t=>exact .cons (kV_is h) (z7t t)
abbrev KT (H:Hp):List (List Key×V)->List (List Key×Addr×Value)->Prop:=U6 λ p q=>p.1=q.1/\H q.2.1=some (.tup (p.1.map kV))/\RelV p.2 q.2.2
theorem KT.val {H:Hp} {kvs:List (List Key×V)} {xs:List (List Key×Addr×Value)} (r:KT H kvs xs) (k:List Key):RelO (valV kvs k) ((e8 xs k).map (·.2)):=by
 induction r with
 | nil=>exact True.intro
 | @cons p q ps qs h t ih=>
  obtain ⟨c,_,d⟩:=h;by_cases e:p.1=k
  ·have a:q.1=k:=c.symm.trans e;have b:e8 (q :: qs) k=some q.2:=by simp [e8,U3,a]
   rw [z0r e,b];exact d
  ·have a:¬ q.1=k:=λ z=>e (c.trans z);have b:e8 (q :: qs) k=e8 qs k:=by simp [e8,U3,a]
   rw [z0p e,b];exact ih
theorem KT.repl {H:Hp} {kvs:List (List Key×V)} {xs:List (List Key×Addr×Value)} (r:KT H kvs xs) (k:List Key) {y:V} {u:Value} (ry:RelV y u) :
  KT H (kvs.map λ kv=>if kv.1=k then (kv.1,y) else kv) (xs.map (putAt k u)):=by
 induction r with
 | nil=>exact .nil
 | @cons p q ps qs h t ih=>
  rw [W0,W0];refine .cons ?_ ih;obtain ⟨a,b,c⟩:=h;unfold putAt;by_cases e:p.1=k
  ·rw [if_pos e,if_pos (a.symm.trans e)];exact ⟨a,b,ry⟩
  ·rw [if_neg e,if_neg (λ z=>e (a.trans z))];exact ⟨a,b,c⟩
theorem KT.put {H:Hp} {kvs:List (List Key×V)} {xs:List (List Key×Addr×Value)} (r:KT H kvs xs) (k:List Key) {b:Addr} {y:V} {u:Value} (hb:H b=some (.tup (k.map kV))) (ry:RelV y u) :
  KT H (putK kvs k y) (storedH xs k b u):=by
 have e:(kvs.any λ a=>decide (a.1=k))=(e8 xs k).isSome:=by rw [z4a,(r.val k).isSome_eq,j6]
 unfold putK storedH;rw [e];by_cases q:(e8 xs k).isSome=true
 ·rw [if_pos q,if_pos q];exact r.repl k ry
 ·rw [if_neg q,if_neg q];exact Paired.snoc r ⟨rfl,hb,ry⟩
theorem KT.keeps {H H':Hp} {kvs:List (List Key×V)} {xs:List (List Key×Addr×Value)} (r:KT H kvs xs) (ht :∀b ys,H b=some (.tup ys)->H' b=some (.tup ys)):KT H' kvs xs:=
 Paired.mapP r λ _ _ z=>⟨z.1,ht _ _ z.2.1,z.2.2⟩
section
variable {P:Program} {w:P0} {H:Hp} {h:Heap} {a:Addr}
theorem rd_of {u:HO} (ok:HOk P w H h) (e:Rd H a u):ObjOk P w H h a u:=e.ok ok
theorem dk_rd {kvs:List (Key×V)} (ok:HOk P w H h) (e:Rd H a (.dK kvs)):kvs.length<=sizeLine/\(a == c4)=false/\∃vs,KV kvs vs/\h.DictOf (z0f P w) a vs:=
 show ObjOk P w H h a (.dK kvs) from rd_of ok e
theorem dk_of {kvs:List (Key×V)} (ok:HOk P w H h) (e:H a=some (.dK kvs)):kvs.length<=sizeLine/\(a == c4)=false/\∃vs,KV kvs vs/\h.DictOf (z0f P w) a vs:=dk_rd ok (.inl e)
theorem key_of {ks:List Key} (ok:HOk P w H h) (e:H a=some (.tup (ks.map kV))):(A5 (z0f P w)).is h ks a:=by
 obtain ⟨_,d,r,⟨o,f,b,n,c⟩,_⟩:=(show ObjOk P w H h a (.tup (ks.map kV)) from ok a _ e)
 exact ⟨o,d.toArray,n,f,b,c,by simpa using z7t r⟩
theorem dt_rd {kvs:List (List Key×V)} (ok:HOk P w H h) (e:Rd H a (.dT kvs)):kvs.length<=sizeLine/\(a == c4)=false/\
  ∃xs,KT H kvs xs/\h.DictOfH (A5 (z0f P w)) a xs:=by
 obtain ⟨z,y,xs,r,o,i,d,k,c,f,j,g⟩:=(show ObjOk P w H h a (.dT kvs) from rd_of ok e)
 refine ⟨z,y,xs,r,o,i,d,k,c,f,j,λ x b=>?_,g⟩;have all :∀{l:List (List Key×V)} {m:List (List Key×Addr×Value)},KT H l m->∀x∈m,(A5 (z0f P w)).is h x.1 x.2.1:=by
  intro l m q;induction q with
  | nil=>intro x b;exact nomatch b
  | @cons p q ps qs hq t ih=>
   intro x b;rcases List.mem_cons.mp b with e|b
   ·subst e;exact key_of ok (by rw [<-hq.1];exact hq.2.1)
   ·exact ih x b
 exact all r x b
theorem dt_of {kvs:List (List Key×V)} (ok:HOk P w H h) (e:H a=some (.dT kvs)):kvs.length<=sizeLine/\(a == c4)=false/\
  ∃xs,KT H kvs xs/\h.DictOfH (A5 (z0f P w)) a xs:=dt_rd ok (.inl e)
end
def DGet (H:Hp) (a:Addr) (y:V) (r:Option V):Prop:=
 (∃kvs k,Rd H a (.dK kvs)/\y=kV k/\r=valV kvs k)\/∃kvs k b,Rd H a (.dT kvs)/\y=.ref b/\H b=some (.tup (k.map kV))/\r=valV kvs k
def DPut (H:Hp) (a:Addr) (y v:V) (H':Hp):Prop:=
 (∃kvs k,H a=some (.dK kvs)/\y=kV k/\kvs.length < sizeLine/\H'=upd H a (.dK (putK kvs k v)))\/
 ∃kvs k b,H a=some (.dT kvs)/\y=.ref b/\H b=some (.tup (k.map kV))/\kvs.length < sizeLine/\H'=upd H a (.dT (putK kvs k v))
theorem DGet.k {H:Hp} {a:Addr} {kvs:List (Key×V)} {k:Key} (e:H a=some (.dK kvs)):DGet H a (kV k) (valV kvs k):=.inl ⟨kvs,k,.inl e,rfl,rfl⟩
theorem DPut.k {H:Hp} {a:Addr} {kvs:List (Key×V)} {k:Key} {v:V} (e:H a=some (.dK kvs)) (hl:kvs.length < sizeLine):DPut H a (kV k) v (upd H a (.dK (putK kvs k v))):=.inl ⟨kvs,k,e,rfl,hl,rfl⟩
section
variable {X:Cx} {pins:List (Addr×Obj)} {σ:St} {H:Hp} {s:y0} {a:Addr} {y v:V} {u r:Value} {o:Option V} {A:W1} {E:Value->y0->Prop}
theorem Inv.big (I:Inv X pins σ H s):c4 < s.heap.objs.size:=by have h:P1 < s.heap.objs.size:=(I.mod.glob.keeps I.bk).lt;exact V5 (by decide) h
theorem zbs {Q:Value->y0->Prop} (hu:A.units + 1 < cLine) (I:Inv X pins σ H s) (g:DGet H a y (some v)) (ry:RelV y u) (h :∀w' s',Inv X pins σ H s'->RelV v w'->Q w' s') :
  Q0 (Y0 X.prog X.w) A (W7 (.ref a) u) Q E s:=by
 rcases g with ⟨m,k,e,j,l⟩|⟨m,k,b,e,j,eb,l⟩
 ·subst j;obtain ⟨z,hd,t,d,f⟩:=dk_rd I.hok e;obtain ⟨w',c,i⟩:=RelO.some_of (v:=v) (o:=U7 t k) (by rw [l];exact d.val k);exact wpAny_getItem_of (kV_is ry) f.mapOf c (h w' _ (I.tok _) i)
 ·subst j;cases (show u=C1 b from ry);obtain ⟨z,hd,q,d,f⟩:=dt_rd I.hok e;obtain ⟨w',c,i⟩:=RelO.some_of (v:=v) (o:=(e8 q k).map (·.2)) (by rw [l];exact d.val k);obtain ⟨p,r,n⟩:=Option.map_eq_some_iff.mp c;refine wpAny_getItem_heap (w5 hu) (key_of I.hok eb) f r ?_;rw [n];exact h w' _ (I.tok _) i
theorem d_in {Q:Value->y0->Prop} (hu:A.units + 1 < cLine) (I:Inv X pins σ H s) (g:DGet H a y o) (ry:RelV y u) (h :∀s',Inv X pins σ H s'->Q (.bool o.isSome) s') :
  Q0 (Y0 X.prog X.w) A (G2 .In u (.ref a)) Q E s:=by
 rcases g with ⟨i,k,e,f,l⟩|⟨i,k,b,e,f,eb,l⟩
 ·subst f;obtain ⟨z,hd,m,c,d⟩:=dk_rd I.hok e;refine wpAny_in_of (kV_is ry) hd d.mapOf ?_;rw [<-(c.val k).isSome_eq,<-l];exact h _ (I.tok _)
 ·subst f;cases (show u=C1 b from ry);obtain ⟨z,hd,j,c,d⟩:=dt_rd I.hok e;refine wpAny_in_heap (w5 hu) (key_of I.hok eb) hd d ?_;have q:=(c.val k).isSome_eq;rw [j6] at q;rw [<-q,<-l];exact h _ (I.tok _)
theorem zf0 {Q:Value->y0->Prop} (hu:A.units + 1 < cLine) (I:Inv X pins σ H s) (g:DGet H a y o) (ry:RelV y u) (h :∀s',Inv X pins σ H s'->Q (.bool (!o.isSome)) s') :
  Q0 (Y0 X.prog X.w) A (G2 .NotIn u (.ref a)) Q E s:=by
 rcases g with ⟨i,k,e,f,l⟩|⟨i,k,b,e,f,eb,l⟩
 ·subst f;obtain ⟨z,hd,m,c,d⟩:=dk_rd I.hok e;refine wpAny_notIn_of (kV_is ry) hd d.mapOf ?_;rw [<-(c.val k).isSome_eq,<-l];exact h _ (I.tok _)
 ·subst f;cases (show u=C1 b from ry);obtain ⟨z,hd,j,c,d⟩:=dt_rd I.hok e;refine wpAny_notIn_heap (w5 hu) (key_of I.hok eb) hd d ?_;have q:=(c.val k).isSome_eq;rw [j6] at q;rw [<-q,<-l];exact h _ (I.tok _)
theorem z7x {h':Heap} {t':Nat} {ob:HO} (I:Inv X pins σ H s) (mu:Mut (H a)) (hs:R5 a s.heap h') (he :∃q,h'.get? a=some q) (new:ObjOk X.prog X.w (upd H a ob) h' a ob) :
  Inv X pins σ (upd H a ob) { s with heap:=h',toks:=t' }:=
 I.write (x:=a) (e:=a) mu (.inl rfl) (λ b q c z=>(hs.2 b c).trans z) he new
theorem dk_new {P:Program} {w:P0} {H':Hp} {h':Heap} {kvs:List (Key×V)} {vs:List (Key×Value)} (z:kvs.length<=sizeLine) (hd:(a == c4)=false) (rel:KV kvs vs) (dd:h'.DictOf (z0f P w) a vs) :
  ObjOk P w H' h' a (.dK kvs):=⟨z,hd,vs,rel,dd⟩
theorem zbx {H':Hp} {Q:Unit->y0->Prop} (hu:A.units + 1 < cLine) (I:Inv X pins σ H s) (g:DPut H a y v H') (ry:RelV y u) (rv:RelV v r) (h :∀s',Inv X pins σ H' s'->Q () s') :
  Q0 (Y0 X.prog X.w) A (setItem (.ref a) u r) Q E s:=by
 rcases g with ⟨f,k,e,n,l,m⟩|⟨f,k,b,e,n,eb,l,m⟩
 ·subst n m;obtain ⟨z,hd,M,d,x⟩:=dk_of I.hok e;have o:M.length<=sizeLine:=by rw [<-d.length];exact z
  have p:(putK f k v).length<=sizeLine:=by have:=z1k f k v;omega
  refine wpAny_setItem_pairs (hsz:=o) (kV_is ry) x λ C j t=>h _ ?_;have F :∃q,C.get? a=some q:=let ⟨q,_,_,i,_⟩:=j;⟨q,i⟩;exact z7x I (by rw [e];exact True.intro) t F (dk_new p hd (d.put k rv) j)
 ·subst n m;cases (show u=C1 b from ry);obtain ⟨z,hd,L,d,x⟩:=dt_of I.hok e;have o:L.length<=sizeLine:=by rw [<-C7 d];exact z
  have p:(putK f k v).length<=sizeLine:=by have:=z1k f k v;omega
  refine wpAny_setItem_heap (hsz:=o) (w5 hu) (key_of I.hok eb) x λ C j t=>h _ ?_;obtain ⟨q,J,N,i,D,G,O,_,K⟩:=j;refine z7x I (by rw [e];exact True.intro) t ⟨q,i⟩ ⟨p,hd,_,(d.put k eb rv).keeps λ c P B=>?_,q,J,N,i,D,G,O,K⟩;rw [upd_ne (ne_of B e (λ z=>nomatch z))];exact B
end
section
variable {X:Cx} {pins:List (Addr×Obj)} {σ:St} {H:Hp} {s:y0} {a:Addr} {kvs:List (Key×V)} {k:Key} {u:Value} {A:W1} {E:Value->y0->Prop}
theorem d_pop {v:V} {more:List Value} {Q:Value->y0->Prop} (I:Inv X pins σ H s) (e:H a=some (.dK kvs)) (ry:RelV (kV k) u) (l:valV kvs k=some v) (hm:more=[]\/∃x,more=[x])
  (h :∀w' s',Inv X pins σ (upd H a (.dK (dropK kvs k))) s'->RelV v w'->Q w' s'):Q0 (Y0 X.prog X.w) A (call (.builtin "dict.pop") (.ref a :: u :: more)) Q E s:=by
 obtain ⟨z,hd,d,b,f⟩:=dk_of I.hok e;obtain ⟨w',p,r⟩:=RelO.some_of (v:=v) (o:=U7 d k) (by rw [<-l];exact b.val k);have n:(keyPart u).isSome=true:=by
  cases k with
  | inl i=>obtain ⟨t,q⟩:=(show∃t,u=D5 i t from ry);subst q;rfl
  | inr x=>obtain ⟨t,q⟩:=(show∃t,u=Y7 x t from ry);subst q;rfl
 have y:argsOk "dict.pop" ⟨.ref a :: u :: more,[]⟩:=by
  rcases hm with q|⟨x,q⟩
  ·subst q;exact PySem.F.args_dict_pop_2 _ _
  ·subst q;exact PySem.F.args_dict_pop_3 _ _ _
 refine K8 m9 f.typeIs PySem.F.entry_dict_pop y (meets_dict_pop_there (z0f X.prog X.w) a (kV_is ry) more hm n)
  ⟨d,w',f,by rw [<-b.length];exact z,p,λ g c m=>h w' _ ?_ r⟩
 have j :∃q,g.get? a=some q:=let ⟨q,_,_,hq,_⟩:=c;⟨q,hq⟩;exact z7x I (by rw [e];exact True.intro) m j (dk_new (G0 (ze3 kvs k) z) hd (b.drop k) c)
end
def NoSl (i:Expr):Prop:=∀ov iv,c9 i false ov iv=operate [ov,iv] (W7 ov iv)
theorem zer {prog:Program} {w:P0} {A:W1} {E:Value->y0->Prop} {s:y0} {env:Env} {value slice:Expr} {pos:Pos} {T id:String} {Q:Value->y0->Prop}
  (hl:typeLookup (.type T) "__getitem__" = E3 (some (.builtin id))) (hs:NoSl slice)
  (h:Q0 (Y0 prog w) A (P3 value env) (λ o s₁=>Q0 (Y0 prog w) A (P3 slice env) (λ i s₂=>s₂.TypeIs o T/\Q0 (Y0 prog w) A (W7 o i) Q E s₂) E s₁) E s) :
  Q0 (Y0 prog w) A (P3 (.Subscript value slice pos) env) Q E s:=by
 refine Subscript_ (B3 h (λ o s₁ e=>B3 e (λ i s₂ a=>?_) λ _ _ x=>x) λ _ _ x=>x);obtain ⟨c,a⟩:=a;unfold subscriptTail;refine o0 ?_;rw [getitemInPython_of_ne c.not_modules];refine o0 (wpAny_specialOf c hl ?_);have fin:Q0 (Y0 prog w) A (c9 slice false o i) (λ r b=>Q0 (Y0 prog w) A (letTemporaryGo value o r >>= λ _=>E3 r) Q E b) E s₂:=by rw [hs o i];exact wpAny_operating (B3 a (λ r b d=>o0 (wpAny_letTemporaryGo (C0 d))) λ _ _ x=>x)
 first
  | exact C0 (o0 fin)
  | exact o0 (C0 (o0 fin))
  | exact o0 fin
theorem z8f {X:Cx} {pins:List (Addr×Obj)} {σ:St} {H:Hp} {s:y0} {a:Addr} {y:V} {o:Option V} (I:Inv X pins σ H s) (g:DGet H a y o):s.TypeIs (.ref a) "dict":=by
 rcases g with ⟨d,k,e,_,_⟩|⟨d,k,b,e,_,_,_⟩
 ·obtain ⟨_,_,h,_,c⟩:=dk_rd I.hok e;exact c.typeIs
 ·obtain ⟨_,_,f,_,c⟩:=dt_rd I.hok e;exact c.typeIs
noncomputable def tDGet (td ty:TE):TE:=λ σ H Q=>td σ H λ x H1=>ty σ H1 λ y H2=>∃a v,x=.ref a/\DGet H2 a y (some v)/\Q v H2
noncomputable def tDIn (ty td:TE):TE:=λ σ H Q=>ty σ H λ y H1=>td σ H1 λ x H2=>∃a o,x=.ref a/\DGet H2 a y o/\Q (.bl o.isSome) H2
noncomputable def zeo (ty td:TE):TE:=λ σ H Q=>ty σ H λ y H1=>td σ H1 λ x H2=>∃a o,x=.ref a/\DGet H2 a y o/\Q (.bl (!o.isSome)) H2
noncomputable def sDPut (td ty tv:TE):TS:=λ D σ H=>tv σ H λ v H1=>td σ H1 λ x H2=>ty σ H2 λ y H3=>∃a H4,x=.ref a/\DPut H3 a y v H4/\D.nx σ H4
section
variable {X:Cx} {o i e value:Expr} {pos pos' tpos:Pos} {td ty tv:TE}
theorem z5j (hu:X.A.units + 1 < cLine) (ho:PE X o td) (hi:PE X i ty) (hs:NoSl i):PE X (.Subscript o i pos) (tDGet td ty):=by intro b s σ H Q I h;refine zer PySem.F.slot_dict_getitem.lookup hs (thn (ho b s σ H _ I h) λ u c ⟨x,H1,I1,rx,q1⟩=>thn (hi b c σ H1 _ I1 q1) λ l j ⟨y,H2,I2,ry,a,v,ex,g,q2⟩=>?_);subst ex;obtain rfl:u=C1 a:=rx;exact ⟨z8f I2 g,zbs hu I2 g ry λ f k d e=>⟨v,H2,d,e,q2⟩⟩
theorem pc_din (hu:X.A.units + 1 < cLine) (hi:PE X i ty) (ho:PE X o td):PC X .In i o (tDIn ty td):=by intro b s σ H Q I h;refine thn (hi b s σ H _ I h) λ j c ⟨y,H1,I1,ry,q1⟩=>thn (ho b c σ H1 _ I1 q1) λ u f ⟨x,H2,I2,rx,a,ov,ex,g,q2⟩=>?_;subst ex;obtain rfl:u=C1 a:=rx;exact d_in hu I2 g ry λ e d=>⟨.bl ov.isSome,H2,d,rfl,q2⟩
theorem zcj (hu:X.A.units + 1 < cLine) (hi:PE X i ty) (ho:PE X o td):PC X .NotIn i o (zeo ty td):=by intro b s σ H Q I h;refine thn (hi b s σ H _ I h) λ j c ⟨y,H1,I1,ry,q1⟩=>thn (ho b c σ H1 _ I1 q1) λ u f ⟨x,H2,I2,rx,a,ov,ex,g,q2⟩=>?_;subst ex;obtain rfl:u=C1 a:=rx;exact zf0 hu I2 g ry λ e d=>⟨.bl (!ov.isSome),H2,d,rfl,q2⟩
theorem z5h (hu:X.A.units + 1 < cLine) (ho:PE X o td) (hi:PE X i ty) (hv:PE X value tv) (hs:V7 value (some (.Subscript o i pos')) pos.line X.env=E3 false) :
  PS X (.Assign [.Subscript o i pos'] value pos) (sDPut td ty tv):=by
 intro b s σ H D I h;refine wpAny_Assign_Subscript (thn (hv b s σ H _ I h) λ r d ⟨v,H1,I1,rv,q1⟩=>thn (ho b d σ H1 _ I1 q1) λ u c ⟨x,H2,I2,rx,q2⟩=>thn (hi b c σ H2 _ I2 q2) λ j f ⟨y,H3,I3,ry,a,H4,ex,g,q3⟩=>?_) hs;subst ex;obtain rfl:u=C1 a:=rx;exact zbx hu I3 g ry rv λ k e=>⟨σ,H4,e,q3⟩
end
theorem zbg {P:Program} {w:P0} {H:Hp} (h:Heap) (hb:c4 < h.objs.size):ObjOk P w H (h.push { cls:=.type "dict",data:=.dict #[] }) h.objs.size (.dK []):=
 ⟨L1 _,beq_eq_false_iff_ne.mpr (y3 (O0 hb)),[],.nil,B9 h⟩
noncomputable def tDNewK:TE:=λ _ H Q=>∀p,H p=none->Q (.ref p) (upd H p (.dK []))
section
variable {X:Cx} {pos:Pos}
theorem z75:PE X (.Dict [] [] pos) tDNewK:=λ b s σ H Q I h=>wpAny_Dict_empty ⟨.ref s.heap.objs.size,_,I.laid (a:=s.heap.objs.size) (o:=.dK []) (t':=s.toks) (λ _ _ q=>v0 _ q) (A0 _) (zbg s.heap I.big),rfl,h _ (I.hok.fresh (A0 _))⟩
end
noncomputable def tPairs:List (TE×TE)->St->Hp->(List (V×V)->Hp->Prop)->Prop
 | [],_,H,Q=>Q [] H
 | (tk,tv) :: r,σ,H,Q=>tk σ H λ x H1=>tv σ H1 λ y H2=>tPairs r σ H2 λ ps H3=>Q ((x,y) :: ps) H3
abbrev VV:List (V×V)->List (Value×Value)->Prop:=U6 λ p q=>RelV p.1 q.1/\RelV p.2 q.2
def PPs (X:Cx) (pos:Pos) (keys:List (Option Expr)) (values:List Expr) (trs:List (TE×TE)):Prop:=
 ∀(pins:List (Addr×Obj)) (s:y0) (σ:St) (H:Hp) (Q:List (V×V)->Hp->Prop),Inv X pins σ H s->tPairs trs σ H Q->
  Q0 (Y0 X.prog X.w) X.A (evalPairs (pairTrees keys values X.env pos)) (λ vs s'=>∃ps H',Inv X pins σ H' s'/\VV ps vs/\Q ps H') X.xe s
theorem zd7 {X:Cx} {pos:Pos}:PPs X pos [] [] []:=λ a s σ H Q I h=>pairTrees_nil_walk ⟨[],H,I,.nil,h⟩
theorem zal {X:Cx} {pos:Pos} {k v:Expr} {ks:List (Option Expr)} {vs:List Expr} {tk tv:TE} {trs:List (TE×TE)} (hk:PE X k tk) (hv:PE X v tv) (hr:PPs X pos ks vs trs) :
  PPs X pos (some k :: ks) (v :: vs) ((tk,tv) :: trs):=λ a s σ H Q I h=>
 pairTrees_cons_walk (thn (hk a s σ H _ I h) λ u c ⟨x,H1,I1,rx,q1⟩=>thn (hv a c σ H1 _ I1 q1) λ f b ⟨y,H2,I2,ry,q2⟩=>thn (hr a b σ H2 _ I2 q2) λ e d ⟨ps,H3,I3,rel,q3⟩=>⟨(x,y) :: ps,H3,I3,.cons ⟨rx,ry⟩ rel,q3⟩)
noncomputable def mergeK (kvs more:List (Key×V)):List (Key×V):=more.foldl (λ acc kv=>putK acc kv.1 kv.2) kvs
theorem KV.merge :∀{more:List (Key×V)} {rs:List (Key×Value)} {kvs:List (Key×V)} {vs:List (Key×Value)},KV more rs->KV kvs vs->KV (mergeK kvs more) (merged vs rs):=by
 intro more rs kvs vs r;unfold KV at r;induction r generalizing kvs vs with
 | nil=>intro q;exact q
 | @cons p q ps qs h t ih=>
  intro a;have e:KV (putK kvs p.1 p.2) (stored vs q.1 q.2):=by have:=a.put p.1 h.2;rw [<-h.1];exact this
  exact ih e
theorem z2d :∀(more kvs:List (Key×V)),(mergeK kvs more).length<=kvs.length + more.length
 | [],kvs=>by show kvs.length<=kvs.length + 0;omega
 | p :: r,kvs=>by have a:=z2d r (putK kvs p.1 p.2);have b:=z1k kvs p.1 p.2;show (mergeK (putK kvs p.1 p.2) r).length<=_;rw [v1];omega
theorem z5q {P:Program} {w:P0} :∀{kvs:List (Key×V)} {ws:List (Value×Value)},VV (kvs.map λ kv=>(kV kv.1,kv.2)) ws->∃rs,Carries (z0f P w) ws rs/\KV kvs rs
 | [],_,r=>by rw [L6] at r;cases r;exact ⟨[],True.intro,.nil⟩
 | p :: kvs,_,r=>by
  rw [W0] at r;cases r with
  | @cons a b as bs h t=>obtain ⟨rs,c,q⟩:=z5q (P:=P) (w:=w) t;obtain ⟨e,d⟩:=b;exact ⟨(p.1,d) :: rs,⟨kV_is h.1,rfl,c⟩,.cons ⟨rfl,h.2⟩ q⟩
noncomputable def tDisp (trs:List (TE×TE)):TE:=λ σ H Q=>∀p,H p=none->tPairs trs σ (upd H p (.dK [])) λ ps H2=>H2 p=some (.dK [])/\∃kvs:List (Key×V),ps=kvs.map (λ kv=>(kV kv.1,kv.2))/\kvs.length<=15/\Q (.ref p) (upd H2 p (.dK (mergeK [] kvs)))
theorem zdb {X:Cx} {pos:Pos} {keys:List (Option Expr)} {values:List Expr} {trs:List (TE×TE)} (h:PPs X pos keys values trs) (hall:keys.all (·.isSome)=true) (hl:keys.length=values.length) (h0:keys≠[])
  (h15:keys.length<=15):PE X (.Dict keys values pos) (tDisp trs):=by
 intro p s σ H Q I q;have l:=I.hok.fresh (A0 s.heap.objs.size);have r:=I.laid (a:=s.heap.objs.size) (o:=.dK []) (h':=s.heap.push { cls:=.type "dict",data:=.dict #[] }) (t':=s.toks) (λ _ _ q=>v0 _ q) (A0 _) (zbg s.heap I.big);refine wpAny_Dict_walk (knd:=z0f X.prog X.w) hall hl h0 h15 (thn (h p _ σ _ _ r (q _ l)) λ v t ⟨ps,H2,I2,rel,e,kvs,ep,lk,q2⟩=>?_);subst ep;obtain ⟨f,c,d⟩:=z5q (P:=X.prog) (w:=X.w) rel;obtain ⟨z,hd,u,i,n⟩:=dk_of I2.hok e;cases i;refine ⟨f,c,n,λ h' b m=>⟨.ref s.heap.objs.size,_,?_,rfl,q2⟩⟩;have k:(mergeK [] kvs).length<=sizeLine:=by have g:=z2d kvs [];rw [n4] at g;rw [B5];omega
 have j :∃q,h'.get? s.heap.objs.size=some q:=let ⟨q,_,_,hq,_⟩:=b;⟨q,hq⟩;exact z7x I2 (by rw [e];exact True.intro) m j (dk_new k hd (d.merge .nil) b)
structure M1 (X:Cx) (o:Expr) (m:Str) (apos:Pos) (e:Expr) (cpos:Pos):Prop where
 base:c5 o m X.env (P3 o X.env)=P3 o X.env
 few:((y4 cpos (D1 [e] X.env)).all (λ x=>!x.1) && (backToKw cpos (f9 [] X.env)).all (λ x=>x.1.isSome)
  && decide (([e]:List Expr).length + ([]:List E7).length + (if ([]:List E7).isEmpty then 0 else 1) < 30))=true
 line:(apos.endLine == cpos.line)=true
 trees:y4 cpos (D1 [e] X.env)=[(false,P3 e X.env)]
structure M2 (X:Cx) (o:Expr) (m:Str) (apos:Pos) (e f:Expr) (cpos:Pos):Prop where
 base:c5 o m X.env (P3 o X.env)=P3 o X.env
 few:((y4 cpos (D1 [e,f] X.env)).all (λ x=>!x.1) && (backToKw cpos (f9 [] X.env)).all (λ x=>x.1.isSome)
  && decide (([e,f]:List Expr).length + ([]:List E7).length + (if ([]:List E7).isEmpty then 0 else 1) < 30))=true
 line:(apos.endLine == cpos.line)=true
 trees:y4 cpos (D1 [e,f] X.env)=[(false,P3 e X.env),(false,P3 f X.env)]
def IsD (H:Hp) (a:Addr):Prop:=(∃kvs,Rd H a (.dK kvs))\/∃kvs,Rd H a (.dT kvs)
theorem isD_at {X:Cx} {pins:List (Addr×Obj)} {σ:St} {H:Hp} {s:y0} {a:Addr} (I:Inv X pins σ H s) (d:IsD H a) :
  s.TypeIs (.ref a) "dict"/\(∀b,C1 a=.ref b->∃ob,s.heap.get? b=some ob/\ob.dict=none)/\(a == c4)=false:=by
 rcases d with ⟨h,e⟩|⟨h,e⟩
 ·obtain ⟨_,hd,j,_,c⟩:=dk_rd I.hok e;refine ⟨c.typeIs,λ b q=>?_,hd⟩;cases q;obtain ⟨ob,_,_,g,f,_⟩:=c;exact ⟨ob,g,f.2.1⟩
 ·obtain ⟨_,hd,i,_,c⟩:=dt_rd I.hok e;refine ⟨c.typeIs,λ b q=>?_,hd⟩;cases q;obtain ⟨ob,_,_,g,f,_⟩:=c;exact ⟨ob,g,f.2.1⟩
section
variable {X:Cx} {pins:List (Addr×Obj)} {σ:St} {H:Hp} {s:y0} {a:Addr} {y d:V} {u r:Value} {o:Option V} {A:W1} {E:Value->y0->Prop}
theorem d_get2 {Q:Value->y0->Prop} (hu:A.units + 1 < cLine) (I:Inv X pins σ H s) (g:DGet H a y o) (ry:RelV y u) (rd:RelV d r) (h :∀w' s',Inv X pins σ H s'->RelV (o.getD d) w'->Q w' s') :
  Q0 (Y0 X.prog X.w) A (call (.builtin "dict.get") [.ref a,u,r]) Q E s:=by
 rcases g with ⟨j,k,e,i,l⟩|⟨j,k,b,e,i,eb,l⟩
 ·subst i;obtain ⟨z,hd,n,f,c⟩:=dk_rd I.hok e;refine K8 F6 c.typeIs Z8 (W8 _ _ _) (meets_dict_get_default (z0f X.prog X.w) a (kV_is ry) hd r) ⟨_,c.mapOf,h _ _ (I.tok _) ?_⟩;rw [l];exact (f.val k).getD rd
 ·subst i;cases (show u=C1 b from ry);obtain ⟨z,hd,m,f,c⟩:=dt_rd I.hok e;refine K8 F6 c.typeIs Z8 (W8 _ _ _) (meetsH_dict_get_default (A5 (z0f X.prog X.w)) a b hd r) ⟨w5 hu,k,m,key_of I.hok eb,c,h _ _ (I.tok _) ?_⟩;rw [l];exact (f.val k).getD rd
end
noncomputable def tDGet2 (td ty tx:TE):TE:=λ σ H Q=>td σ H λ x H1=>∃a,x=.ref a/\IsD H1 a/\ty σ H1 λ y H2=>tx σ H2 λ z H3=>∃o,DGet H3 a y o/\Q (o.getD z) H3
noncomputable def tDPop1 (td ty:TE):TE:=λ σ H Q=>td σ H λ x H1=>∃a,x=.ref a/\IsD H1 a/\ty σ H1 λ y H2=>∃kvs k v,H2 a=some (.dK kvs)/\y=kV k/\valV kvs k=some v/\Q v (upd H2 a (.dK (dropK kvs k)))
section
variable {X:Cx} {o e f:Expr} {apos cpos:Pos} {td ty tx:TE}
theorem zdp (hu:X.A.units + 1 < cLine) (ho:PE X o td) (he:PE X e ty) (hf:PE X f tx) (m:M2 X o "get" apos e f cpos):PE X (.Call (.Attribute o "get" apos) [e,f] [] cpos) (tDGet2 td ty tx):=by
 intro b s σ H Q I h;refine wpAny_Call_method m.base m.few m.line p6 F6 PySem.F.type_dict_get (thn (ho b s σ H _ I h) λ u k ⟨x,H1,I1,rx,a,ex,d,q1⟩=>?_);subst ex;obtain rfl:u=C1 a:=rx;obtain ⟨n,j,_⟩:=isD_at I1 d;refine ⟨n,j,?_⟩;rw [m.trees];refine j4 rfl (k7 (G3 (thn (he b k σ H1 _ I1 q1) λ t c ⟨y,H2,I2,ry,q2⟩=>G3 (thn (hf b c σ H2 _ I2 q2) λ q r ⟨z,H3,I3,rz,ov,g,q3⟩=>V3 ?_))));exact d_get2 hu I3 g ry rz λ p v i l=>⟨_,H3,i,l,q3⟩
theorem zdw (ho:PE X o td) (he:PE X e ty) (m:M1 X o "pop" apos e cpos):PE X (.Call (.Attribute o "pop" apos) [e] [] cpos) (tDPop1 td ty):=by intro b s σ H Q I h;refine wpAny_Call_method m.base m.few m.line p6 m9 PySem.F.type_dict_pop (thn (ho b s σ H _ I h) λ u c ⟨x,H1,I1,rx,a,ex,d,q1⟩=>?_);subst ex;obtain rfl:u=C1 a:=rx;obtain ⟨i,j,_⟩:=isD_at I1 d;refine ⟨i,j,?_⟩;rw [m.trees];refine j4 rfl (k7 (G3 (thn (he b c σ H1 _ I1 q1) λ r p ⟨y,H2,I2,ry,kvs,k,v,ea,ey,l,q2⟩=>V3 ?_)));subst ey;exact d_pop I2 ea ry l (.inl rfl) λ n q f g=>⟨v,_,f,g,q2⟩
end
end L2
namespace Att
open PySem PySem.W PySem.Calls PyProof.Rows
theorem z3s {P:T0} {h:Heap} :∀(ns:List Int) (vs:List Value),WellAll P h vs (ns.map WData.int)->C3 vs ns:=by
 intro ns;induction ns with
 | nil=>intro vs w;rw [L6] at w;cases w;exact .nil
 | cons n ns ih=>
  intro vs w;rw [W0] at w;cases w with
  | cons a b=>cases a;exact .cons _ _ (ih _ b)
theorem zcs {l:OpenLaw} {n:Nat} (hn:l.most=some n) {P:T0} {h:Heap} {args:List WData} {vals:List Value}
  (hpre:l.row.toRowW.claim.pre args=true) (hwl:WellAll P h vals args) :
  ∃a vs ns,vals=[C1 a]/\args=[WData.list (ns.map WData.int)]/\h.get? a=some { cls:=.type "list",data:=.seq vs.toArray }/\C3 vs ns/\ns.length<=n:=by
 have f:WShape.hasAll [] args [.list .int]=true:=(pre_splitW hpre).1;have e:l.pre.holds [] { args:=args }=true:=(pre_splitW hpre).2;obtain ⟨d,r,rfl,m,i⟩:=hasAllW_cons f;obtain rfl:=hasAllW_nil i;obtain ⟨o,rfl,j⟩:=hasW_list m;obtain ⟨ns,rfl⟩:=items_int j;have g:ns.length<=n:=by
  unfold OpenLaw.pre at e;have c:(WTm.not (.lt (.lit (.int (n:Int))) (.len (.arg 0)))).holds [] { args:=[.list (ns.map .int)] }=true:=by have c:=(holds_andW e).1;rw [hn] at c;exact c
  have b:=condW_of c (w_not (w_lt w_lit (w_len_list (w_arg rfl))));rw [D0] at b;refine t8 λ q=>?_;have k:(n:Int) < ((ns.length:Nat):Int):=by omega
  first
   | (rw [decide_eq_true k] at b;exact absurd b (by decide))
   | (simp at b;omega)
 cases hwl with
 | cons w1 w2=>
  cases w2;cases w1 with
  | list ho hall=>exact ⟨_,_,ns,rfl,rfl,ho,z3s ns _ hall,g⟩
theorem zbv (l:OpenLaw) (args:List WData):l.row.toRowW.claim.post args (.bool true) args=true:=
 postW_of (r:=l.row.toRowW) (X:=(true == true))
  (show WShape.has [] (.bool true) .bool=true by first|rfl|decide|simp [WShape.has,WShape.arms,WShape.armsAll])
  (show (WTm.eq .res (.lit (.bool true))).value [] { args:=args,res:=some (.bool true),after:=args }=some (.bool (true == true)) from w_eq_bool (w_res rfl) w_lit) rfl
theorem attach_call {l:OpenLaw} {n:Nat} {q:Program} {loose:List Str} {XP:(Str->Option Value)->Heap->Prop} {YP:P0->Heap->Prop} {d:DefRec}
  (hn:l.most=some n) (hdf:d.params.defaults=[])
  (call :∀(w:P0) (s₀ s₁:y0) (mg mb:Str->Option Value) (fa:Addr) (o:Obj) (pm cd doc:Value) (a:Addr) (vs:List Value) (ns:List Int),
   Ground q loose [] XP w s₀ mg mb s₁.heap->YP w s₁.heap->
   s₁.heap.get? fa=some o->o.data=.func (docDef d.name d.params d.body d.scope pm cd doc)->s₁.heap.CodeRec cd d.name->mg d.name=some (.ref fa)->
   s₁.heap.get? a=some { cls:=.type "list",data:=.seq vs.toArray }->C3 vs ns->ns.length<=n->s₁.gens = #[]->
   i5 (Y0 l.prog w) J8 (.call (.ref fa) ⟨[.ref a],[]⟩) (λ r s'=>r=.ok (.ret (.bool true))/\OldK s₁.heap s'.heap/\s'.os=s₁.os/\P6 s'.gens) s₁) :
  WalkO q loose XP YP l.row.toRowW d [] (λ f vs=>PySem.call f vs):=by
 intro w s₀ s₁ mg mb G Y fa o pm cd doc x kV p hd s b g i E D C j B z u A;obtain rfl:x=.none:=Dflts.none b hdf;obtain rfl:kV=.none:=Dflts.noKw b;obtain ⟨a,vs,ns,rfl,rfl,k,h,v⟩:=zcs hn j u;refine enter_call (w4 (call w s₀ s₁ mg mb fa o pm cd doc a vs ns G Y p (fd_plain hd) s g k h v i) λ r s' t=>?_);obtain ⟨rfl,e,m,y⟩:=t;exact ⟨.inl ⟨.bool true,.bool true,[],rfl,λ _=>rfl,.bool true,zbv l _,λ _=>⟨X6,λ _ c=>(nomatch c)⟩⟩,e,m,y⟩
end Att
namespace L2
open PySem PySem.Spec PyProof.Rows
theorem z83 :∀{vs:List Value} {ns:List Int},C3 vs ns->Vals (ns.map V.int) vs
 | _,_,.nil=>.nil
 | _,_,.cons n t h=>.cons ⟨t,rfl⟩ (z83 h)
noncomputable def z6c (s:Stmt):Arguments:=match s with
 | .FunctionDef _ a _ _ _ _ _ _ _ _=>a
 | _=>{ posonlyargs:=[],args:=[],vararg:=none,kwonlyargs:=[],kw_defaults:=[],kwarg:=none,defaults:=[] }
noncomputable def z36 (s:Stmt):List Stmt:=match s with
 | .FunctionDef _ _ b _ _ _ _ _ _ _=>b
 | _=>[]
noncomputable def z07 (s:Stmt):Scope:=match s with
 | .FunctionDef _ _ _ _ _ _ sc _ _ _=>sc
 | _=>{ kind:=.function,names:=[],isGenerator:=false,isCoroutine:=false }
noncomputable abbrev CX0:CXT:=λ _ _ _ _ _ _=>False
noncomputable abbrev E0:XK:=λ _ _ _=>False
theorem pass0 {X:Cx}:Passes CX0 X E0:=λ _ _ _ _ _ _ _ h=>h.elim
structure Fun (K:c0) (x qual:Str) (st:Stmt) (f:Addr) (fd:FuncData):Prop where
 ex :∃(oc:Value) (od:Option Addr) (kV doc pm:Value) (an:Option Addr) (cdv ct:Value) (osl:Array (Option Value)),
  fd=Z4 x qual (z6c st) (z36 st) (z07 st) .none kV doc pm an cdv ct/\K.lookup f=some ⟨oc,od,.func fd,osl⟩/\S6 K cdv qual=true
 kp:X3 K (.ref f)=true
section
variable {P:Program} {w:P0} {K:c0} {mg:Str->Option Value} {base:Heap}
theorem Fun.ok {x qual:Str} {st:Stmt} {f:Addr} {fd:FuncData} {N ps:List Str} {k:Nat} {sp:Sp} (F:Fun K x qual st f fd) (S:FnScope N ps (z07 st)) (len :∀vs H Q E,sp vs H Q E->vs.length=ps.length)
  (hbody :∀(cdv:Value) (A:W1) (outer:List Env) (s:y0) (H:Hp) (vs:List V) (Q:VK) (E:XK),Room k (A.deeper (R7 qual (z07 st) s.heap.objs.size f cdv))->sp vs H Q E->
   ∃t,PSs (cxOf CX0 P w K mg base N qual (z07 st) f cdv A outer s H E).nox (z36 st) t/\t { nx:=λ _ H'=>Q .non H',rt:=Q } (start N vs) H):FnOk P w K mg base CX0 (k + 1) f fd ps sp:=by
 obtain ⟨i,j,kV,e,g,l,cdv,n,m,rfl,b,c⟩:=F.ex;refine fn_of b c S len λ A outer s H vs Q E d a=>?_;obtain ⟨t,h,q⟩:=hbody cdv A outer s H vs Q E d a;exact ⟨t,h.nox,q⟩
theorem Fun.binds {x qual:Str} {st:Stmt} {f:Addr} {fd:FuncData} {ps:List Str} (F:Fun K x qual st f fd)
  (h :∀(kV doc pm:Value) (an:Option Addr) (cdv ct:Value) (us:List Value),us.length=ps.length->bindArgs (Z4 x qual (z6c st) (z36 st) (z07 st) .none kV doc pm an cdv ct) ⟨us,[]⟩=E3 (ps.zip us)):Binds K fd ps []:=by
 obtain ⟨c,b,kV,doc,pm,an,cdv,ct,d,rfl,a,e⟩:=F.ex;exact .all (h kV doc pm an cdv ct)
theorem fun_mk {x qual:Str} {st:Stmt} {f:Addr} {oc:Value} {od an:Option Addr} {osl:Array (Option Value)} {kV doc pm cdv ct:Value} (l:K.lookup f=some ⟨oc,od,.func (Z4 x qual (z6c st) (z36 st) (z07 st) .none kV doc pm an cdv ct),osl⟩)
  (c:S6 K cdv qual=true) (k:X3 K (.ref f)=true):Fun K x qual st f (Z4 x qual (z6c st) (z36 st) (z07 st) .none kV doc pm an cdv ct):=⟨⟨oc,od,kV,doc,pm,an,cdv,ct,osl,rfl,l,c⟩,k⟩
end
theorem hu_of {A:W1} {k:Nat} (hr:Room k A):A.units + 1 < cLine:=F1 (Nat.add_le_add_left (by decide:1<=64) _) hr.units
section
variable {X:Cx}
theorem pv (i:Nat) {x:Str} {pos:Pos} (hN:X.N[i]? = some x:=by rfl) (hv:Vis X.env.scope x:=by first|exact N1 rfl|exact G1 (N1 rfl)|exact G1 (G1 rfl)) (hd:(x == ("__debug__" : Str))=false:=by decide)
  (hcd:(x == ("__classdict__" : Str))=false:=by decide):PE X (.Name x pos) (tVar i):=pe_var hN hv hd hcd
end
theorem iteF {A B:Prop} (h:B):if false=true then A else B:=by rw [if_neg R0];exact h
theorem iteT {A B:Prop} (h:A):if true=true then A else B:=by rw [if_pos rfl];exact h
theorem ite2 {c A B:Prop} [Decidable c] (h1:c->A) (h2:¬ c->B):if c then A else B:=by
 by_cases h:c
 ·rw [if_pos h];exact h1 h
 ·rw [if_neg h];exact h2 h
def Same (H H':Hp):Prop:=∀b o,H b=some o->H' b=some o
theorem Same.refl (H:Hp):Same H H:=λ _ _ h=>h
theorem Same.trans {H H1 H2:Hp} (a:Same H H1) (b:Same H1 H2):Same H H2:=λ c o h=>b c o (a c o h)
theorem Same.free {H H':Hp} (e:Same H H') {l:Addr} (h:H' l=Option.none):H l=Option.none:=by
 cases q:H l with
 | none=>rfl
 | some o=>rw [e l o q] at h;cases h
theorem Same.seq {K:c0} {H H':Hp} {a:Addr} {xs:List V} (e:Same H H') (h:SqL K H a xs):SqL K H' a xs:=by
 rcases h with (h|⟨o,h⟩)|h
 ·exact .inl (.inl (e _ _ h))
 ·exact .inl (.inr ⟨o,e _ _ h⟩)
 ·exact .inr h
section
variable {κ:Type} [DecidableEq κ]
theorem zcb {p:κ×V} {r:List (κ×V)} {k:κ} (e:p.1=k):dropK (p :: r) k=dropK r k:=by unfold dropK;rw [F5,if_neg (by simp [e])]
theorem zcd {p:κ×V} {r:List (κ×V)} {k:κ} (e:¬ p.1=k):dropK (p :: r) k=p :: dropK r k:=by unfold dropK;rw [F5,if_pos (by simp [e])]
end
end L2
set_option maxHeartbeats 4000000
namespace L2
open PySem PySem.Spec PyProof.Rows
section
variable {prog:Program} {w:P0} {A:W1} {R:Result->y0->Prop} {s:y0}
theorem zck {elt target iter:Expr} {ifs:List Expr} {scope:Scope} {pos:Pos} {it acc:Value} {env:Env} (J:Nat->y0->Prop)
  (turn :∀n s,J n s->Q0 (Y0 prog w) A (n8 it) (λ r s₁=>match r with
   | none=>R (.ok .next) s₁
   | some v=>Q0 (Y0 prog w) A (F7 target it v) (λ _ s₂=>Q0 (Y0 prog w) A (assign target env v) (λ _ s₃=>
     Q0 (Y0 prog w) A (forIn ifs true λ c r=>if r=true then do let ok <-isTrue c env (P3 c env);E3 (N3 ok) else E3 (N3 r)) (λ ok s₄=>
      if ok=true then Q0 (Y0 prog w) A (P3 elt env) (λ x s₅=>Q0 (Y0 prog w) A (call (.builtin "list.append") [acc,x]) (λ _ s₆=>∃m,m < n/\J m s₆) (λ _ _=>False) s₅) (λ _ _=>False) s₄
      else∃m,m < n/\J m s₄) (λ _ _=>False) s₃) (λ _ _=>False) s₂) (λ _ _=>False) s₁) (λ _ _=>False) s)
  (n:Nat) (h:J n s):i5 (Y0 prog w) A (.compLoop (.ListComp elt [⟨target,iter,ifs,0⟩] scope pos) 0 it acc env) R s:=by
 refine codeAny_loop rfl J (λ n s e=>?_) n h;show Q0 _ A ((compTurn (.ListComp elt [⟨target,iter,ifs,0⟩] scope pos) 0 it acc env).onRaise (λ x=>do noteFrame x env;theTreesLotGoes x)) _ _ s;refine wpAny_noted ?_;rw [compTurn_list];refine o0 (wpAny_standAt (o0 (B3 (turn n s e) (λ r s₁ b=>?_) λ _ _ f=>f.elim)));cases r with
 | none=>exact C0 b
 | some v=>
  refine o0 (B3 b (λ _ s₂ g=>o0 (B3 g (λ _ s₃ d=>o0 (B3 d (λ ok s₄ a=>?_) λ _ _ f=>f.elim)) λ _ _ f=>f.elim)) λ _ _ f=>f.elim);cases ok with
  | false=>exact C0 ⟨rfl,a⟩
  | true=>exact o0 (o0 (B3 a (λ x s₅ i=>o0 (B3 i (λ _ s₆ j=>C0 (C0 ⟨rfl,j⟩)) λ _ _ f=>f.elim)) λ _ _ f=>f.elim))
end
theorem z1o {env:Env} :∀(names:List (Str×L5)) (acc:List (Str×Addr)),(∀y∈names,y.2=O1->∃c,env.cells.lookup y.1=some c)->(∀y c,acc.lookup y=some c->env.cells.lookup y=some c)->
  ∃cl,(forIn names acc λ (x:Str×L5) (r:List (Str×Addr))=>(match x with
    | (name,kind)=>if (kind == O1)=true then do let c <-cellOf env name;E3 (N3 ((name,c) :: r)) else E3 (N3 r):Sem (ForInStep (List (Str×Addr)))))=E3 cl/\
   (∀y c,cl.lookup y=some c->env.cells.lookup y=some c)/\(∀y,((y,O1)∈names\/∃c,acc.lookup y=some c)->∃c,cl.lookup y=some c)
 | [],acc,_,ha=>⟨acc,by rw [X8],ha,λ y h=>h.elim (λ z=>nomatch z) id⟩
 | (n,k) :: r,acc,hf,ha=>by
  rw [D8];dsimp only;by_cases hk:k=O1
  ·subst hk;obtain ⟨c,i⟩:=hf (n,.free) V1 rfl;have e:cellOf env n=E3 c:=by unfold cellOf;rw [i]
   rw [if_pos (by rfl),e];obtain ⟨cl,g,b,f⟩:=z1o r ((n,c) :: acc) (λ y a=>hf y (P2 _ a)) (λ y d hd=>by
    rw [L3] at hd;by_cases a:(y == n)=true
    ·rw [a] at hd;have:=eq_of_beq a;subst this;cases hd;exact i
    ·rw [j8] at a;rw [a] at hd;exact ha y d hd)
   refine ⟨cl,g,b,λ y a=>f y ?_⟩;rcases a with a|⟨d,hd⟩
   ·rcases List.mem_cons.mp a with z|z
    ·cases z;exact .inr ⟨c,by rw [L3];simp⟩
    ·exact .inl z
   ·refine .inr ?_;rw [L3];by_cases a:(y == n)=true
    ·rw [a];exact ⟨c,rfl⟩
    ·rw [j8] at a;rw [a];exact ⟨d,hd⟩
  ·rw [if_neg (by simpa using hk)];obtain ⟨cl,g,b,f⟩:=z1o r acc (λ y a=>hf y (P2 _ a)) ha;refine ⟨cl,g,b,λ y a=>f y ?_⟩;rcases a with a|a
   ·rcases List.mem_cons.mp a with z|z
    ·cases z;exact absurd rfl hk
    ·exact .inl z
   ·exact .inr a
theorem z9b {scope:Scope} {env:Env} (hf :∀y∈scope.names,y.2=O1->∃c,env.cells.lookup y.1=some c) :
  ∃cl,J9 scope env=E3 cl/\(∀y c,cl.lookup y=some c->env.cells.lookup y=some c)/\(∀y,(y,O1)∈scope.names->∃c,cl.lookup y=some c):=by
 obtain ⟨cl,e,a,b⟩:=z1o (env:=env) scope.names [] hf (λ _ _ z=>nomatch z);refine ⟨cl,?_,a,λ y d=>b y (.inl d)⟩;simp only [J9];rw [e];rfl
theorem mem_of_lookup {κ:Type} {y:Str} {k:κ} :∀{l:List (Str×κ)},l.lookup y=some k->(y,k)∈l
 | (n,c) :: r,h=>by
  rw [L3] at h;by_cases hy:(y == n)=true
  ·rw [hy] at h;cases h;rw [eq_of_beq hy];exact V1
  ·rw [j8] at hy;rw [hy] at h;exact P2 _ (mem_of_lookup h)
theorem z34 {scope:Scope} {env:Env} (hcell :∀y∈scope.names,y.2≠NameKind.cell) {y:Str} {k:L5} (h:(K6 scope env).names.lookup y=some k) (hk:k=.cell\/k=.free):(y,O1)∈scope.names:=by
 have m:=mem_of_lookup h;unfold K6 at m;obtain ⟨⟨n,c⟩,a,e⟩:=List.mem_map.mp m;dsimp only at e;by_cases hc:(c == O1)=true
 ·have:=eq_of_beq hc;subst this;split at e<;>(injection e with e1 e2;subst e1;exact a)
 ·rw [if_neg (by simp [hc])] at e;injection e with e1 e2;subst e1 e2;rcases hk with rfl|rfl
  ·exact absurd rfl (hcell _ a)
  ·exact absurd rfl hc
noncomputable abbrev cxComp (X:Cx) (scope:Scope) (cl:List (Str×Addr)) (N:List Str) (C:Addr) (s₂:y0) (H₂:Hp) (fp:List Addr):Cx:=
 { X with N:=N,s₀:=s₂,H₀:=H₂,env:=compEnvC scope cl C X.env,outer:=X.stack,stack:=X.stack,ex:=fp,fn:=λ _=>false,pn:=[],xe:=λ _ _=>False }
def PF (X:Cx) (ifs:List Expr) (t:TT):Prop:=
 ∀(pins:List (Addr×Obj)) (s:y0) (σ:St) (H:Hp) (Q:Bool->Hp->Prop),Inv X pins σ H s->t σ H Q->
  Q0 (Y0 X.prog X.w) X.A (forIn ifs true λ c r=>if r=true then do let ok <-isTrue c X.env (P3 c X.env);E3 (N3 ok) else E3 (N3 r)) (TP X pins σ Q) X.xe s
theorem pf_nil {X:Cx}:PF X [] (λ _ H Q=>Q true H):=λ _ _ _ H _ I h=>wpAny_tests_nil ⟨H,I,h⟩
theorem pf_one {X:Cx} {c:Expr} {t:TT} (h:PT X c t):PF X [c] t:=λ a s σ H Q I q=>wpAny_tests_one (h a s σ H Q I q)
theorem Vals.snoc {xs:List V} {us:List Value} {x:V} {u:Value} (r:Vals xs us) (q:RelV x u):Vals (xs++[x]) (us++[u]):=Vals.append r (.cons q .nil)
def TagOf (H:Hp) (x:V) (T:String):Prop:=match x with
 | .non=>T = "NoneType"
 | .bl _=>T = "bool"
 | .int _=>T = "int"
 | .str _=>T = "str"
 | .ref a=>((∃xs,H a=some (.lst xs))/\T = "list")\/((∃xs,H a=some (.tup xs))/\T = "tuple")\/((∃kvs,H a=some (.dK kvs))/\T = "dict")
 | _=>False
noncomputable def instB (T C:String):Bool:=T == C || (T == "bool" && C == "int")
theorem TagOf.ty {K:c0} {H:Hp} {x:V} {T:String} (h:TagOf H x T):TyOf K H x (.type T):=by
 cases x with
 | non=>cases (show T = "NoneType" from h);exact .non
 | bl b=>cases (show T = "bool" from h);exact .bl b
 | int i=>cases (show T = "int" from h);exact .int i
 | str z=>cases (show T = "str" from h);exact .str z
 | ref a=>
  rcases h with ⟨⟨c,e⟩,rfl⟩|⟨⟨c,e⟩,rfl⟩|⟨⟨c,e⟩,rfl⟩
  ·exact .lst e
  ·exact .tup e
  ·exact .dK e
 | _=>exact h.elim
theorem TagOf.one {H:Hp} {x:V} {T:String} (h:TagOf H x T):T = "NoneType"\/T = "bool"\/T = "int"\/T = "str"\/T = "list"\/T = "tuple"\/T = "dict":=by
 cases x with
 | non=>exact .inl h
 | bl b=>exact .inr (.inl h)
 | int i=>exact .inr (.inr (.inl h))
 | str z=>exact .inr (.inr (.inr (.inl h)))
 | ref a=>rcases h with ⟨_,rfl⟩|⟨_,rfl⟩|⟨_,rfl⟩<;>simp
 | _=>exact h.elim
noncomputable def isiC:List String:=["int","str","bool","tuple","list"]
theorem kit_of (K:c0) {T C:String} (h:T = "NoneType"\/T = "bool"\/T = "int"\/T = "str"\/T = "list"\/T = "tuple"\/T = "dict") (hC:C∈isiC):PySem.W.kitOne K (.type T) (.type C)=some (instB T C):=by
 have hC:C = "int"\/C = "str"\/C = "bool"\/C = "tuple"\/C = "list":=by simpa [isiC] using hC
 rcases h with rfl|rfl|rfl|rfl|rfl|rfl|rfl<;>rcases hC with rfl|rfl|rfl|rfl|rfl<;>kernel_rfl
section
variable {X:Cx}
theorem z0i:CallR X (.builtin "isinstance") (λ xs H Q=>∃x C T,xs=[x,.ty C]/\TagOf H x T/\C∈isiC/\Q (.bl (instB T C)) H):=by intro g s σ H xs i Q I r h;obtain ⟨x,C,T,rfl,a,f,q⟩:=h;obtain ⟨u,b,rfl,e,d⟩:=vals2 r;cases (show b=F4 C from d);exact zce I e a.ty (kit_of X.K a.one f) λ c=>⟨.bl _,H,I.tok c,rfl,q⟩
theorem zcc {ys:List V} {its:List Value} (rv:Vals ys its) (hb :∀y∈ys,∃b,y=V.bl b):((Z1 its.length).all λ i=>decide (ys[i]? = some (V.bl true)))=ys.all λ y=>decide (y=V.bl true):=by
 have e:=rv.length;rw [Bool.eq_iff_iff,List.all_eq_true,List.all_eq_true];constructor
 ·intro h y d;obtain ⟨i,a,rfl⟩:=List.getElem_of_mem d;have:=h i (List.mem_range.mpr (by omega));simpa [a] using this
 ·intro h i a;have c:i < ys.length:=by have:=List.mem_range.mp a;omega
  have:=h ys[i] (C6 c);simpa [c] using this
theorem z1u (hc:X.calm=true):CallR X (.builtin "all") (λ xs H Q=>∃p ys,xs=[.ref p]/\SqL X.K H p ys/\(∀y∈ys,∃b,y=V.bl b)/\Q (.bl (ys.all λ y=>decide (y=V.bl true))) H):=by
 intro O s σ H xs P Q I r h;obtain ⟨p,ys,rfl,D,l,q⟩:=h;obtain ⟨u,rfl,E⟩:=vals1 r;cases E;obtain ⟨m,f,d,J⟩:=I.list D;have C:p≠s.heap.objs.size:=by obtain ⟨o,e,_⟩:=d.isList;exact O0 (F0 e)
 refine call_all_walk (G5 d.isList ?_);refine ⟨s.heap.objs.size,_,_,_,_,_,λ i=>decide (ys[i]? = some (V.bl true)),rfl,Walks.list (show X.A.in1.handled=none from I.ok.hd hc) s.heap.objs.size p C m.toArray,⟨⟨_,I0 _ rfl,rfl,rfl⟩,d.isList.at λ o e=>v0 _ e⟩,?_,?_⟩
 ·intro i v L M N a F;have a:m[i]? = some v:=by simpa using a
  obtain ⟨w,e⟩:=List.getElem?_eq_some_iff.mp a;have c:i < ys.length:=by rw [f.length];exact w
  obtain ⟨b,j⟩:=l ys[i] (C6 c);obtain ⟨u,k,g⟩:=f.get (i:=i) (x:=ys[i]) (by simp [c]);rw [a] at k;cases k;rw [j] at g;cases (show v=L8 b from g);have:decide (ys[i]? = some (V.bl true))=b:=by rw [M0 c,j];cases b<;>simp
  exact c3 (this ▸ F)
 ·intro G n B;have e:=zcc f l;rw [<-J0] at e;refine ⟨.bl _,H,I.kept (t':=n) λ b o z=>B b o ?_ (v0 _ z),rfl,e.symm ▸ q⟩;intro t;rw [List.mem_singleton.mp t] at z;exact absurd (F0 z) (X2 _)
def CDivB (i j:Int):Prop:=0 < j/\j < 2 ^ 64
theorem z7b:OpR X (U4 .FloorDiv) (rI CDivB λ i j=>.int (i / j)):=opI λ i j _ _ _ _ _ a q=>by
 obtain ⟨b,c⟩:=a;refine floordiv_int (by omega) ?_ (.inl (PyProof.noPylong_of_log2 ?_))
 ·rw [Int.fdiv_eq_ediv_of_nonneg _ (by omega)];exact q
 ·have:j.natAbs.log2 < 64:=(Nat.log2_lt (by omega)).mpr (by omega);omega
structure KDict (K:c0) (P:T0) (a:Addr) (kvs:List (Str×V)):Prop where
 ex :∃es n,K.lookup a=some ⟨.type "dict",none,.dict es n,#[]⟩/\U6 (λ (p:Str×V) (e:DictEntry)=>(∃t,e.key=.str p.1 t)/\e.hash=b0 P p.1/\RelV p.2 e.val) kvs es.toList
 lo:(a == c4)=false
theorem zbl {kvs:List (Str×V)} {P:T0} :∀{es:List DictEntry},U6 (λ (p:Str×V) (e:DictEntry)=>(∃t,e.key=.str p.1 t)/\e.hash=b0 P p.1/\RelV p.2 e.val) kvs es->∀z,
  RelO (kvs.lookup z) (findBy o6 es.toArray z):=by
 intro es r;induction r with
 | nil=>intro z;exact True.intro
 | @cons p e kvs es h t a=>
  intro z;obtain ⟨⟨f,d⟩,g,c⟩:=h;have a:=a z;unfold findBy at a⊢;rw [List.find?_toArray] at a⊢;rw [U3,L3];have b:o6 z e.key=(z == p.1):=by rw [d];show (p.1 == z)=_;rw [Bool.eq_iff_iff,beq_iff_eq,beq_iff_eq];exact ⟨λ q=>q.symm,λ q=>q.symm⟩
  cases hz:(z == p.1) with
  | true=>rw [b,hz];exact c
  | false=>rw [b,hz];exact a
theorem KDict.mapOf {a:Addr} {kvs:List (Str×V)} (D:KDict X.K X.w.params a kvs) {h:Heap} (k:X.K.In h) :∃f,h.MapOf (strKind X.prog X.w) a f/\∀z,RelO (kvs.lookup z) (f z):=by
 obtain ⟨c,n,d,r⟩:=D.ex;have b:PySem.W.KeysLit X.w.params c.toList:=by
  clear d D;generalize c.toList=l at r;induction r with
  | nil=>exact True.intro
  | cons h t ih=>obtain ⟨⟨e,b⟩,i,j⟩:=h;exact ⟨⟨_,e,b,i⟩,ih⟩
 have g :∀z,RelO (kvs.lookup z) (findBy o6 c.toList.toArray z):=zbl r;exact ⟨_,PySem.W.mapOf_K (prog:=X.prog) k d b,λ z=>by simpa using g z⟩
theorem zdx {a:Addr} {kvs:List (Str×V)} (D:KDict X.K X.w.params a kvs):OpR X (G2 .In) (λ x y H Q=>∃z,x=.str z/\y=.ref a/\Q (.bl (kvs.lookup z).isSome) H):=by intro g s σ H x y v u Q I e d h;obtain ⟨z,rfl,rfl,q⟩:=h;obtain ⟨t,rfl⟩:=e;cases d;obtain ⟨f,b,c⟩:=D.mapOf I.kIn;refine wpAny_in_of (z7 X.prog X.w z t) D.lo b ⟨.bl _,H,I.tok _,rfl,?_⟩;have:=c z;rw [RelO.isSome_eq this] at q;exact q
theorem ix_kd {a:Addr} {kvs:List (Str×V)} (D:KDict X.K X.w.params a kvs):IxR X (λ x y H Q=>∃z v,x=.ref a/\y=.str z/\kvs.lookup z=some v/\Q v H):=by
 intro k l m s σ H x y v u Q I j d h i;obtain ⟨z,r,rfl,rfl,e,q⟩:=h;cases j;obtain ⟨t,rfl⟩:=d;obtain ⟨f,c,g⟩:=D.mapOf I.kIn;have b:=g z;rw [e] at b;cases ef:f z with
 | none=>rw [ef] at b;exact b.elim
 | some u=>rw [ef] at b;exact tail_any c.typeIs slot_dict_getitem.lookup (wpAny_getItem_of (z7 X.prog X.w z t) c ef ⟨r,H,I.tok _,b,q⟩) i
structure KDictT (K:c0) (P:T0) (a:Addr) (kvs:List ((Str×Str)×V)):Prop where
 ex :∃es n,K.lookup a=some ⟨.type "dict",none,.dict es n,#[]⟩/\U6 (λ (p:(Str×Str)×V) (e:DictEntry)=>(∃(b:Addr) (t t':Tok) (m:Nat),e.key=.ref b/\K.lookup b=some ⟨.type "tuple",none,.seq #[.str p.1.1 t,.str p.1.2 t'] m,#[]⟩)/\
  e.hash=X0 (d0 [b0 P p.1.1,b0 P p.1.2])/\RelV p.2 e.val) kvs es.toList
 nd:(kvs.map (·.1)).Nodup
 lo:(a == c4)=false
theorem zbr {prog:Program} {w:P0} {K:c0} {h:Heap} (k:K.In h) :∀{kvs:List ((Str×Str)×V)} {es:List DictEntry},
  U6 (λ (p:(Str×Str)×V) (e:DictEntry)=>(∃(b:Addr) (t t':Tok) (m:Nat),e.key=.ref b/\K.lookup b=some ⟨.type "tuple",none,.seq #[.str p.1.1 t,.str p.1.2 t'] m,#[]⟩)/\
   e.hash=X0 (d0 [b0 w.params p.1.1,b0 w.params p.1.2])/\RelV p.2 e.val) kvs es->
  ∃xs:List (List Str×Addr×Value),es=xs.map (entryOfKey (A5 (strKind prog w)))/\(∀x∈xs,(A5 (strKind prog w)).is h x.1 x.2.1)/\xs.map (·.1)=kvs.map (λ p=>[p.1.1,p.1.2])/\
   ∀a b,RelO (kvs.lookup (a,b)) ((e8 xs [a,b]).map (·.2)):=by
 intro kvs es r;induction r with
 | nil=>exact ⟨[],rfl,λ x f=>absurd f B0,rfl,λ a b=>True.intro⟩
 | @cons p e kvs es hpe t ih=>
  obtain ⟨xs,q,o,u,y⟩:=ih;obtain ⟨⟨b,D,C,m,j,v⟩,g,n⟩:=hpe;refine ⟨([p.1.1,p.1.2],b,e.val) :: xs,?_,?_,?_,?_⟩
  ·rw [W0,<-q];congr 1;obtain ⟨s,A,B⟩:=e;have j:A=.ref b:=j;have g:s=_:=g;subst j g;rfl
  ·intro x f;rcases List.mem_cons.mp f with rfl|f
   ·exact ⟨_,_,m,k _ _ v,rfl,rfl,.cons (z7 prog w _ _) (.cons (z7 prog w _ _) .nil)⟩
   ·exact o x f
  ·rw [W0,W0,u]
  ·intro c d;have:=y c d;rw [L3];unfold e8 at this⊢;rw [U3];by_cases hcd:(c,d)=p.1
   ·have l:((c,d) == p.1)=true:=by rw [beq_iff_eq];exact hcd
    rw [l];have i:decide ([p.1.1,p.1.2]=[c,d])=true:=by rw [<-hcd];simp
    rw [i];exact n
   ·have l:((c,d) == p.1)=false:=by rw [beq_eq_false_iff_ne];exact hcd
    rw [l];have i:decide ([p.1.1,p.1.2]=[c,d])=false:=by rw [decide_eq_false_iff_not];intro z;injection z with z1 z;injection z with z2 _;exact hcd (Prod.ext z1.symm z2.symm)
    rw [i];exact this
theorem z3u :∀{l:List (Str×Str)},l.Nodup->(l.map λ p=>[p.1,p.2]).Nodup
 | [],_=>List.nodup_nil
 | p :: r,h=>by obtain ⟨c,b⟩:=List.nodup_cons.mp h;rw [W0];refine List.nodup_cons.mpr ⟨λ m=>c ?_,z3u b⟩;obtain ⟨q,a,e⟩:=List.mem_map.mp m;injection e with e1 e;injection e with e2 _;have:q=p:=Prod.ext e1 e2;exact this ▸ a
theorem KDictT.dict {a:Addr} {kvs:List ((Str×Str)×V)} (D:KDictT X.K X.w.params a kvs) {h:Heap} (k:X.K.In h) :∃xs,h.DictOfH (A5 (strKind X.prog X.w)) a xs/\∀c d,RelO (kvs.lookup (c,d)) ((e8 xs [c,d]).map (·.2)):=by obtain ⟨f,n,j,r⟩:=D.ex;obtain ⟨xs,i,b,e,g⟩:=zbr (prog:=X.prog) (w:=X.w) k r;refine ⟨xs,⟨_,f,n,k _ _ j,⟨rfl,rfl,rfl⟩,rfl,i,b,?_⟩,g⟩;rw [e];have:=z3u D.nd;rw [g3] at this;exact this
theorem zff {pins:List (Addr×Obj)} {σ:St} {H:Hp} {s:y0} {p:Addr} {c d:Str} (I:Inv X pins σ H s) (hp:H p=some (.tup [.str c,.str d])):(A5 (strKind X.prog X.w)).is s.heap [c,d] p:=by
 obtain ⟨_,f,a,⟨o,b,e,n,hd⟩,_⟩:=(show ObjOk X.prog X.w H s.heap p (.tup [.str c,.str d]) from I.hok p _ hp)
 cases a with
 | cons r1 a=>
  cases a with
  | cons r2 a=>cases a;obtain ⟨g,rfl⟩:=r1;obtain ⟨h,rfl⟩:=r2;exact ⟨o,_,n,b,e,hd,.cons (z7 X.prog X.w _ _) (.cons (z7 X.prog X.w _ _) .nil)⟩
theorem z77 {a:Addr} {kvs:List ((Str×Str)×V)} (hu:X.A.units + 1 < cLine) (D:KDictT X.K X.w.params a kvs) :
  OpR X (G2 .NotIn) (λ x y H Q=>∃p c d,x=.ref p/\H p=some (.tup [.str c,.str d])/\y=.ref a/\Q (.bl (!(kvs.lookup (c,d)).isSome)) H):=by
 intro l s σ H x y v u Q I i g h;obtain ⟨p,c,d,rfl,f,rfl,q⟩:=h;cases i;cases g;obtain ⟨j,b,e⟩:=D.dict I.kIn;refine wpAny_notIn_heap (k:=[c,d]) hu (zff I f) D.lo b ⟨.bl _,H,I.tok _,rfl,?_⟩;have:=RelO.isSome_eq (e c d);rw [j6] at this;rw [this] at q;exact q
end
structure Cal (P:Program) (w:P0) (K:c0) (mg:Str->Option Value) (base:Heap) (x:Str) (ps:List Str) (k:Nat) (sp:Sp):Prop where
 ex :∃f fd,FnOk P w K mg base CX0 k f fd ps sp/\mg x=some (.ref f)/\X3 K (.ref f)=true/\Binds K fd ps []
section
variable {X:Cx} {x:Str} {ps:List Str} {k:Nat} {sp:Sp} {e:Expr} {es:List Expr} {t:TA} {p pos:Pos}
theorem pe_cal (c:Cal X.prog X.w X.K X.mg X.base x ps k sp) (hr:Room k X.A) (hg:Gl X x) (ha:PA X (e :: es) t) (hn:x≠"__name__":=by decide) (hdb:(x == ("__debug__" : Str))=false:=by decide)
  (he:D1 (e :: es) X.env=(false,P3 e X.env) :: D1 es X.env:=by rfl) (hpl:(y4 pos (D1 es X.env)).any (·.1)=false:=by rfl):PE X (.Call (.Name x p) (e :: es) [] pos) (tCall sp [] E0 t):=by
 obtain ⟨f,g,F,b,a,d⟩:=c.ex;exact zek F hr hg b a d .nil pass0 ha hdb he hpl
end
structure TX (K:c0) (mg:Str->Option Value):Prop where
 of :∀{n:Str} {v:Value},F3 K P1 n=some (some v)->mg n=some v
 no :∀{n:Str},F3 K P1 n=some none->mg n=none
theorem TX.mk' {K:c0} {mg:Str->Option Value} {h:Heap} (X:K.In h) (G:h.Ns P1 mg):TX K mg:=⟨λ e=>PySem.W.mg_of X G e,λ e=>PySem.W.mg_none_of X G e⟩
section
variable {X:Cx}
noncomputable def rAdd4 (K:c0):R2:=λ x y H Q=>(∃i j,x=.int i/\y=.int j/\Q (.int (i + j)) H)\/(∃i j,x=.str i/\y=.str j/\i.length + j.length<=sizeLine/\Q (.str (i++j)) H)\/rCat x y H Q\/rCatT K x y H Q
theorem opAdd:OpR X (U4 .Add) (rAdd4 X.K):=op_add.or (op_add_str.or (op_cat.or zeq))
theorem opEq:OpR X (G2 .Eq) rEq:=op_eq
theorem opNe:OpR X (G2 .NotEq) rNe:=op_ne
theorem z0s:CallR X (.builtin "len") (λ xs H Q=>(∃p ys,xs=[.ref p]/\(SqL X.K H p ys\/SqT X.K H p ys)/\Q (.int ys.length) H)\/∃z,xs=[.str z]/\z.length<=sizeLine/\Q (.int z.length) H):=call_len_seq.or z6x
end
noncomputable def z0o (x:V) (g:Int):Bool:=match x with
 | .int i=>decide (-g<=i) && decide (i<=g)
 | _=>false
noncomputable def tupOf (H:Hp) (x:V):Option (List V):=match x with
 | .ref a=>(match H a with|some (.tup xs)=>some xs|_=>none)
 | _=>none
theorem z9t {H H':Hp} {x:V} {T:String} (t:TagOf H x T) (e:Same H H'):tupOf H' x=tupOf H x:=by
 cases x with
 | ref a=>rcases t with ⟨⟨b,h⟩,_⟩|⟨⟨b,h⟩,_⟩|⟨⟨b,h⟩,_⟩<;>(unfold tupOf;dsimp only;rw [h,e a _ h])
 | _=>rfl
theorem TagOf.same {H H':Hp} {x:V} {T:String} (t:TagOf H x T) (e:Same H H'):TagOf H' x T:=by
 cases x with
 | ref a=>
  rcases t with ⟨⟨b,h⟩,z⟩|⟨⟨b,h⟩,z⟩|⟨⟨b,h⟩,z⟩
  ·exact .inl ⟨⟨b,e a _ h⟩,z⟩
  ·exact .inr (.inl ⟨⟨b,e a _ h⟩,z⟩)
  ·exact .inr (.inr ⟨⟨b,e a _ h⟩,z⟩)
 | _=>exact t
theorem TagOf.tuple {H:Hp} {x:V} (t:TagOf H x "tuple") :∃a xs,x=.ref a/\H a=some (.tup xs):=by
 cases x with
 | ref a=>
  rcases t with ⟨_,z⟩|⟨⟨xs,h⟩,_⟩|⟨_,z⟩
  ·exact absurd z (by decide)
  ·exact ⟨a,xs,rfl,h⟩
  ·exact absurd z (by decide)
 | non=>exact absurd (show "tuple" = "NoneType" from t) (by decide)
 | bl b=>exact absurd (show "tuple" = "bool" from t) (by decide)
 | int i=>exact absurd (show "tuple" = "int" from t) (by decide)
 | str z=>exact absurd (show "tuple" = "str" from t) (by decide)
 | _=>exact t.elim
theorem TagOf.int {H:Hp} {x:V} (t:TagOf H x "int") :∃i,x=.int i:=by
 cases x with
 | ref a=>rcases t with ⟨_,z⟩|⟨_,z⟩|⟨_,z⟩<;>exact absurd z (by decide)
 | non=>exact absurd (show "int" = "NoneType" from t) (by decide)
 | bl b=>exact absurd (show "int" = "bool" from t) (by decide)
 | int i=>exact ⟨i,rfl⟩
 | str z=>exact absurd (show "int" = "str" from t) (by decide)
 | _=>exact t.elim
theorem TagOf.str {H:Hp} {x:V} (t:TagOf H x "str") :∃z,x=.str z:=by
 cases x with
 | ref a=>rcases t with ⟨_,z⟩|⟨_,z⟩|⟨_,z⟩<;>exact absurd z (by decide)
 | non=>exact absurd (show "str" = "NoneType" from t) (by decide)
 | bl b=>exact absurd (show "str" = "bool" from t) (by decide)
 | int i=>exact absurd (show "str" = "int" from t) (by decide)
 | str z=>exact ⟨z,rfl⟩
 | _=>exact t.elim
theorem noInt {H:Hp} {x:V} {T:String} (t:TagOf H x T) (h:T≠"int") (g:Int):z0o x g=false:=by
 cases x with
 | int i=>exact absurd t h
 | _=>rfl
theorem noTup {H:Hp} {x:V} {T:String} (t:TagOf H x T) (h:T≠"tuple"):tupOf H x=none:=by
 cases x with
 | ref a=>
  rcases t with ⟨⟨b,e⟩,_⟩|⟨_,z⟩|⟨⟨b,e⟩,_⟩
  ·unfold tupOf;dsimp only;rw [e]
  ·exact absurd z h
  ·unfold tupOf;dsimp only;rw [e]
 | _=>rfl
theorem z4s {H:Hp} {x:V} {T:String} (t:TagOf H x T) {C:String} (h:C≠"int"):instB T C=decide (T=C):=by
 unfold instB;have:(C == "int")=false:=by simpa using h
 rw [this,p7,Q7,Bool.beq_eq_decide_eq]
def Flat (H:Hp) (x:V):Prop:=∀xs,tupOf H x=some xs->xs.length<=1000/\∀y∈xs,∃T,TagOf H y T
theorem z6t {α β:Type} [BEq α] [LawfulBEq α] {l:List (α×β)} {a:α} {b:β} (h:l.lookup a=some b):(a,b)∈l:=by
 induction l with
 | nil=>cases h
 | cons p r ih=>
  obtain ⟨c,d⟩:=p;rw [L3] at h;cases hc:(a == c) with
  | true=>rw [hc] at h;cases h;rw [eq_of_beq hc];exact V1
  | false=>rw [hc] at h;exact P2 _ (ih h)
theorem z2r {names:List (Str×L5)} {Q:Str×L5->Prop} (h:(names.all λ y=>y.2 != O1)=true) :∀y∈names,y.2=O1->Q y:=λ y a e=>by have:=List.all_eq_true.mp h y a;rw [e] at this;exact absurd this (by decide)
theorem Same.upd {H:Hp} {p:Addr} {o:HO} (h:H p=none):Same H (upd H p o):=λ b u e=>by rw [upd_ne (z0e e h)];exact e
theorem Same.seqT {K:c0} {H H':Hp} {a:Addr} {xs:List V} (e:Same H H') (h:SqT K H a xs):SqT K H' a xs:=by
 rcases h with (h|⟨o,h⟩)|h
 ·exact .inl (.inl (e _ _ h))
 ·exact .inl (.inr ⟨o,e _ _ h⟩)
 ·exact .inr h
theorem za2 {H:Hp} {x:V} {xs:List V} (h:tupOf H x=some xs) :∃a,x=.ref a/\H a=some (.tup xs):=by
 unfold tupOf at h;cases x with
 | ref a=>
  dsimp only at h;split at h
  ·rename_i ys e;exact ⟨a,rfl,by rw [e,A1 h]⟩
  ·cases h
 | _=>cases h
end L2
namespace L2
open PySem PySem.Spec PyProof.Rows
open Builtin.Str (occurrences partsBetween strKind)
section
variable {X:Cx}
theorem z86 {vl:Value} {lo:Option Int} (p:A8 vl lo) :∃l:Option (Int×Tok),vl=partValue l/\l.map (·.1)=lo:=by
 cases p with
 | none=>exact ⟨none,rfl,rfl⟩
 | int i t=>exact ⟨some (i,t),rfl,rfl⟩
end
end L2
namespace L2
open PySem PySem.Spec PyProof.Rows
section
variable {X:Cx}
def rSlS:V->Option Int->Option Int->Hp->VK->Prop:=λ x lo hi H Q=>∃z,x=.str z/\z.length<=sizeLine/\Q (.str (Txt.slice z lo hi)) H
theorem sl_str:SlR X rSlS:=by
 intro o s σ H x v j p r m n Q I g d b f h;obtain ⟨z,rfl,c,q⟩:=h;obtain ⟨t,rfl⟩:=g;obtain ⟨l,rfl,i⟩:=z86 b;obtain ⟨u,rfl,e⟩:=z86 f;subst i e;refine ⟨"str",_,F.slot_str_getitem.lookup,typeIs_str _ _ _,wpAny_getItem_str_slice (l:=l) (u:=u) (st:=none) d rfl
  (post_val_or_str ⟨G0 (Txt.slice_le z _ _) c,λ a k=>⟨.str (Txt.slice z _ _),H,I.tok k,⟨a,rfl⟩,q⟩⟩)⟩
theorem slSeq:SlR X (λ x lo hi H Q=>rSlL X.K x lo hi H Q\/rSlT X.K x lo hi H Q\/rSlS x lo hi H Q):=sl_list.or (sl_tup.or sl_str)
end
def RowAt (H:Hp) (r:Addr):Prop:=∃a b c:Int,H r=some (.lst [.int a,.int b,.int c])/\0<=c/\c < 536870909
def Kept (r:Addr) (H H':Hp):Prop:=∀b o,b≠r->H b=some o->H' b=some o
theorem Kept.set {r:Addr} {H:Hp} {o:HO}:Kept r H (upd H r o):=λ b u n h=>by rw [upd_ne n];exact h
structure Rw (r:Addr) (H H':Hp):Prop where
 k:Kept r H H'
 r:RowAt H' r
section
variable {r:Addr} {σ:St} {H0:Hp} {K:c0}
theorem g_name {i:Nat} {v:V} {σ:St} {H:Hp} {Q:St->Hp->Prop} (h:Q (σ.set i (some v)) H):gName i v σ H Q:=h
theorem t_nx {nx ct bk:St->Hp->Prop} {rt:VK} {σ:St} {H:Hp} (h:nx σ H):Ends.nx { nx:=nx,rt:=rt,bk:=bk,ct:=ct } σ H:=h
end
end L2
namespace L2
open PySem
section
variable {prog:Program} {w:P0} {A:W1} {E:Value->y0->Prop} {s:y0}
theorem tupOn {it t:Addr} {i:Nat} {its:Array Value} {x:Value} {Q:Value->y0->Prop} (a:s.heap.IsTupleIter it t i) (b:s.heap.IsTuple t its) (c:its[i]? = some x)
  (q :∀h',h'.IsTupleIter it t (i + 1)->R5 it s.heap h'->Q x { s with heap:=h' }):Q0 (Y0 prog w) A (i4 (.ref it)) Q E s:=by
 obtain ⟨o,e,g,d⟩:=id a;obtain ⟨p,h,_,n,f⟩:=b;unfold i4;refine o0 (i7 (name:=M3 "__next__") a.typeIs S4 (g7 S4 a.typeIs o9 (show Q0 _ _ (field (.ref it) 0 >>= _) _ _ s from o0 (S5 e d (x:=.ref t) rfl ?_)) (a9 _)));show Q0 _ _ (if (C1 t == V4)=true then _ else (field (.ref it) 1 >>= _)) _ _ s;rw [if_neg (by exact R0)];refine o0 (S5 e d (x:=.int i 0) rfl (show Q0 _ _ (seqItems? (.ref t) >>= _) _ _ s from o0 (D9 h f ?_)));simp only [b8,c];refine o0 (wpAny_setField e d (by simp) (C0 ⟨x,rfl,C0 (q _ ⟨_,f7 _ e (Obj.isFreed_of_fields (Obj.data_mapFields d _)),(Obj.cls_mapFields ..).trans g,?_⟩ (W2 ..))⟩));rw [Obj.data_mapFields d];simp [L4]
theorem tupOff {it t:Addr} {i:Nat} {its:Array Value} {Q:Value->y0->Prop} (hh:A.handled=none) (a:s.heap.IsTupleIter it t i) (b:s.heap.IsTuple t its) (c:its[i]? = none)
  (q :∀h' e,Heap.ExtBut it s.heap h'->(∃o,h'.get? e=some o/\o.cls=.type "StopIteration")->E (.ref e) { s with heap:=h' }):Q0 (Y0 prog w) A (i4 (.ref it)) Q E s:=by
 obtain ⟨o,f,j,d⟩:=id a;obtain ⟨p,h,_,n,g⟩:=b;unfold i4;refine o0 (i7 (name:=M3 "__next__") a.typeIs S4 (g7 S4 a.typeIs o9 (show Q0 _ _ (field (.ref it) 0 >>= _) _ _ s from o0 (S5 f d (x:=.ref t) rfl ?_)) (a9 _)));show Q0 _ _ (if (C1 t == V4)=true then _ else (field (.ref it) 1 >>= _)) _ _ s;rw [if_neg (by exact R0)];refine o0 (S5 f d (x:=.int i 0) rfl (show Q0 _ _ (seqItems? (.ref t) >>= _) _ _ s from o0 (D9 h g ?_)));simp only [b8,c];refine o0 (k8 (o0 (wpAny_setField f d (by simp) (show Q0 _ _ (newExc (.type "StopIteration") [] >>= _) _ _ _ from o0 ?_))));simp only [newExc,newTuple];refine o0 (Z3 (o0 (m:=firstArgMember _ _) (b9 (a:=V4) (by first|rfl|(simp only [firstArgMember];rfl)) (Z3 ?_ (by size_fits)))) (by size_fits));simp only [raiseNew];refine o0 (wpAny_handled ?_);first|rw [show A.in1.handled=none from hh]|rw [hh]
 exact o0 (C0 (wpAny_throw (q _ _ (((W2 ..).extBut.push _).push _) ⟨_,I0 _ rfl,rfl⟩)))
structure ZApart (z T U i j a b:Addr):Prop where
 dis:[z,T,U,i,j].Nodup
 fa:a∉[z,T,U,i,j]
 fb:b∉[z,T,U,i,j]
structure ZAt (h:Heap) (z T U i j a b:Addr) (n:Nat) (f:Value):Prop where
 z:IsZip h z T U f
 t:IsPair h T (.ref i) (.ref j)
 u :∃p q,IsPair h U p q
 i:h.IsTupleIter i a n
 j:h.IsTupleIter j b n
end
end L2
namespace L2
open PySem PySem.Spec PyProof.Rows
inductive Dt where
 | non|bl (b:Bool)|int (i:Int)|str (z:Str)|tup (ds:List Dt)
mutual
noncomputable def IsDt (K:c0) (H:Hp):Dt->V->Prop
 | .non,v=>v=.non
 | .bl b,v=>v=.bl b
 | .int i,v=>v=.int i
 | .str z,v=>v=.str z
 | .tup ds,v=>∃a xs,v=.ref a/\SqT K H a xs/\IsDts K H ds xs
noncomputable def IsDts (K:c0) (H:Hp):List Dt->List V->Prop
 | [],xs=>xs=[]
 | d :: ds,xs=>∃x r,xs=x :: r/\IsDt K H d x/\IsDts K H ds r
end
mutual
noncomputable def Dt.deep:Dt->Nat
 | .tup ds=>Dt.deeps ds + 1
 | _=>0
noncomputable def Dt.deeps:List Dt->Nat
 | []=>0
 | d :: ds=>max d.deep (Dt.deeps ds)
noncomputable def Dt.plain:Dt->Bool
 | .int _=>true
 | .str _=>true
 | .tup ds=>Dt.plains ds
 | _=>false
noncomputable def Dt.plains:List Dt->Bool
 | []=>true
 | d :: ds=>d.plain && Dt.plains ds
end
section
variable {X:Cx}
theorem Inv.turnedL {pins:List (Addr×Obj)} {σ:St} {H:Hp} {s:y0} {h':Heap} {t':Nat} {fp:List Addr} (I:Inv X pins σ H s) (k :∀b o,b∉fp->s.heap.get? b=some o->h'.get? b=some o) (hf :∀b∈fp,FpOk X pins H b) :
  Inv X pins σ H { s with heap:=h',toks:=t' }:=by
 have f :∀b u,H b=some u->b∉fp:=λ b u e z=>by have:=(hf b z).1;rw [this] at e;cases e
 refine I.step (g':=s.gens) (d':=s.drawn) (ch:=fp) (λ b d=>⟨(hf b d).2.2.2.1,(hf b d).2.1,(hf b d).2.2.2.2.1,(hf b d).2.2.2.2.2⟩) (λ b o _ _ a e _=>k b o a e) (λ b o _ _ a e _=>⟨o.slots,k b o a e⟩) (λ _ _ _ _ n=>n)
  (λ b o a e=>⟨o,k b o a e⟩) (λ _ _ e=>e) (λ _ _ _ e=>e) (λ b l e=>⟨#[],by rw [e];simp⟩) (λ m g=>?_) (λ b u e=>?_) I.bare
 ·obtain ⟨o,i,h,j,r⟩:=g;exact ⟨o,i,h,k _ o (λ z=>(hf _ z).2.1 rfl) j,r⟩
 ·refine (I.hok b u e).stay (λ c v a q=>k c v ?_ q) (λ _ q=>q) λ _ _ q=>q;rcases a with z|z
  ·rw [z];exact f b u e
  ·exact f c _ z
theorem Inv.turnedLaid {pins:List (Addr×Obj)} {σ:St} {H:Hp} {s:y0} {h':Heap} {t':Nat} {fp:List Addr} {a:Addr} {o:HO} (I:Inv X pins σ H s) (k :∀b o,b∉fp->s.heap.get? b=some o->h'.get? b=some o) (hf :∀b∈fp,FpOk X pins H b)
  (hp:s.heap.objs.size<=a) (new:ObjOk X.prog X.w (upd H a o) h' a o):Inv X pins σ (upd H a o) { s with heap:=h',toks:=t' }:=by
 have p:H a=none:=I.hok.fresh hp;have h :∀b u,H b=some u->b∉fp:=λ b u e z=>by have:=(hf b z).1;rw [this] at e;cases e
 have g :∀b u,H b=some u->upd H a o b=some u:=λ b u e=>by rw [upd_ne (z0e e p)];exact e
 refine I.step (g':=s.gens) (d':=s.drawn) (ch:=fp) (λ b d=>⟨(hf b d).2.2.2.1,(hf b d).2.1,(hf b d).2.2.2.2.1,(hf b d).2.2.2.2.2⟩) (λ b o _ _ f e _=>k b o f e) (λ b o _ _ f e _=>⟨o.slots,k b o f e⟩)
  (λ b u _ e n=>by rw [upd_ne (λ z=>by subst z;exact absurd (F0 e) (Nat.not_lt.mpr hp))];exact n)
  (λ b o f e=>⟨o,k b o f e⟩) (λ _ _ e=>g _ _ e) (λ _ _ _ e=>g _ _ e) (λ b x e=>⟨#[],by rw [g _ _ e];simp⟩) (λ m i=>?_) (λ b u e=>?_) I.bare
 ·obtain ⟨o,j,t,l,r⟩:=i;exact ⟨o,j,t,k _ o (λ z=>(hf _ z).2.1 rfl) l,r⟩
 ·by_cases d:b=a
  ·subst d;rw [z02] at e;cases e;exact new
  ·rw [upd_ne d] at e;refine (I.hok b u e).stay (λ c v f q=>k c v ?_ q) (λ c q=>g _ _ q) λ c y q=>g _ _ q;rcases f with z|z
   ·rw [z];exact h b u e
   ·exact h c _ z
theorem z0z {o e:Expr} {es:List Expr} {to:TE} {t:TA} {apos cpos:Pos} (ho:PE X o to) (ha:PA X (e :: es) t)
  (hbase:c5 o "append" X.env (P3 o X.env)=P3 o X.env:=by rfl)
  (hfew:((y4 cpos (D1 (e :: es) X.env)).all (λ x=>!x.1) && (backToKw cpos (f9 [] X.env)).all (λ x=>x.1.isSome)
   && decide ((e :: es).length + ([]:List E7).length + (if ([]:List E7).isEmpty then 0 else 1) < 30))=true:=by rfl)
  (hline:(apos.endLine == cpos.line)=true:=by rfl) (hs:D1 (e :: es) X.env=(false,P3 e X.env) :: D1 es X.env:=by rfl) (hplain:(y4 cpos (D1 es X.env)).any (·.1)=false:=by rfl) :
  PE X (.Call (.Attribute o "append" apos) (e :: es) [] cpos) (tBM X.K "list" zar to t):=pe_bm U8 PySem.F.slot_list_append PySem.F.type_list_append zbz ho ha hbase hfew hline hs hplain
end
theorem SqT.wrote {K:c0} {H:Hp} {l a:Addr} {o:HO} {zs xs:List V} (e:H l=some (.lst zs)) (h:SqT K H a xs):SqT K (upd H l o) a xs:=by
 rcases h with (h|⟨ob,h⟩)|h
 ·exact .inl (.inl (by rw [upd_ne (ne_of h e (by intro z;cases z))];exact h))
 ·exact .inl (.inr ⟨ob,by rw [upd_ne (ne_of h e (by intro z;cases z))];exact h⟩)
 ·exact .inr h
theorem iteP {c A B:Prop} [Decidable c] (hc:c) (h:A):if c then A else B:=by rw [if_pos hc];exact h
theorem iteN {c A B:Prop} [Decidable c] (hc:¬ c) (h:B):if c then A else B:=by rw [if_neg hc];exact h
theorem ze0 {names:List (Str×L5)} {n:Str} {Q:Str×L5->Prop} (h:(names.all λ y=>y.2 != O1 || y.1 == n)=true) (q :∀k,Q (n,k)) :∀y∈names,y.2=O1->Q y:=λ y c e=>by
 have:=List.all_eq_true.mp h y c;rw [e] at this;have:(y.1 == n)=true:=by simpa using this
 obtain ⟨a,b⟩:=y;rw [beq_iff_eq] at this;have:a=n:=this;subst this;exact q b
noncomputable def CXE (P:Program) (w:P0) (base:Heap):CXT:=λ outer H s E e s'=>∃(ea:Addr) (cls a0:Value) (B:Heap) (H':Hp),e=.ref ea/\s'.os=s.os/\P6 s'.gens/\Un (frs outer) [] H H' s.heap s'.heap/\HOk P w H' s'.heap/\H' ea=none/\
 base.StaysIn B/\Heap.FlyingW B outer ea cls a0 s'.heap/\(∀b o,s'.heap.get? b=some o->b∉frs outer->((∃u,H' b=some u)\/∃u,s.heap.get? b=some u)->B.get? b=some o)/\E cls none H'
structure CalE (P:Program) (w:P0) (K:c0) (mg:Str->Option Value) (base:Heap) (x:Str) (ps:List Str) (k:Nat) (sp:Sp):Prop where
 ex :∃f fd,FnOk P w K mg base (CXE P w base) k f fd ps sp/\mg x=some (.ref f)/\X3 K (.ref f)=true/\Binds K fd ps []
end L2
set_option maxHeartbeats 400000
namespace L2
open PySem PySem.Spec PyProof.Rows PySem.W PySem.Calls PySem.Builtin PySem.Builtin.ObjectAttr PySem.Builtin.Getset_descriptor
end L2
namespace L2
open PySem PySem.Spec PyProof.Rows PySem.W
end L2
namespace L2
open PySem PySem.Spec PyProof.Rows
end L2
set_option maxHeartbeats 4000000
namespace L2
open PySem PySem.Spec PyProof.Rows
noncomputable def cStG (σ:St) (fr:List (Nat×Str)) (us:List (Option V)):St:=us++fr.map λ p=>(σ[p.1]?).join
noncomputable def tCompG (wi:TI) (n:Nat) (fr:List (Nat×Str)) (g:TG) (tc:TT) (te:TE):TE:=λ σ H Q=>wi σ H λ J H1=>∃W:Nat->Nat->List V->Hp->Prop,(∃m,W 0 m [] H1)/\∀i m ys H,W i m ys H->
 (J.stop i H/\ys.length<=sizeLine/\∀p,H p=none->Q (.ref p) (upd H p (.lst ys)))\/
 (J.go i H/\ys.length<=sizeLine/\∀v H',J.yld i H v H'->g v (cStG σ fr (U2 n none)) H' λ σ6 H6=>∃us,us.length=n/\σ6=cStG σ fr us/\tc (cStG σ fr us) H6 λ b H2=>if b=true then te (cStG σ fr us) H2 λ y H3=>∃m',m' < m/\W (i + 1) m' (ys++[y]) H3 else∃m',m' < m/\W (i + 1) m' ys H2)
section
variable {X:Cx}
theorem zef {scope:Scope} {cl:List (Str×Addr)} {N:List Str} {C:Addr} {s₂:y0} {H₂:Hp} {fp:List Addr} {x:Str} {px:Pos} (i:Nat) (hN:N.Nodup) (hi:N[i]? = some x) (hx:scope.names.lookup x=some .local):PG (cxComp X scope cl N C s₂ H₂ fp) (.Name x px) (gName i):=
 z11 hN hi (.inl (lookup_relabel_local hx)) (.inr (lookup_relabel_local hx))
theorem za3 {xs:List Str} {tg:Expr} {g:TG} {pos:Pos} {elt iter:Expr} {ifs:List Expr} {scope:Scope} {fr:List (Nat×Str)} {wi:TI} {tc:TT} {te:TE} {use:Option (Value->Sem Unit)} {QQ:Value->y0->Prop} {pins:List (Addr×Obj)} {s:y0} {σ:St} {H:Hp} {Q:VK} {pp:Pos} (hcalm:X.calm=true) (hi:PI X tg iter wi)
  (hfr :∀p∈fr,X.N[p.1]? = some p.2/\(X.env.kindOf p.2=some .cell\/X.env.kindOf p.2=some .free))
  (hfree :∀y∈scope.names,y.2=O1->X.env.kindOf y.1=some .cell\/X.env.kindOf y.1=some .free)
  (hfs :∀p∈fr,(p.2,O1)∈scope.names/\((K6 scope X.env).names.lookup p.2=some .cell\/(K6 scope X.env).names.lookup p.2=some .free))
  (hcell :∀y∈scope.names,y.2≠NameKind.cell) (hkind:scope.kind=.function) (hnames :∀y∈scope.names,y.2=NameKind.local->scope.names.lookup y.1=some .local)
  (hg :∀cl C s₂ H₂ fp,PG (cxComp X scope cl (xs++fr.map (·.2)) C s₂ H₂ fp) tg g)
  (ht :∀cl C s₂ H₂ fp,PF (cxComp X scope cl (xs++fr.map (·.2)) C s₂ H₂ fp) ifs tc) (he :∀cl C s₂ H₂ fp,PE (cxComp X scope cl (xs++fr.map (·.2)) C s₂ H₂ fp) elt te)
  (hs :∀x,O4 iter X.env x=E3 x) (I:Inv X pins σ H s) (h:tCompG wi xs.length fr g tc te σ H Q)
  (hend :∀(D:Addr) (s4:y0) (H4:Hp),Inv X pins σ H4 s4->(∃m,s4.heap.Ns (D + 1) m)->H4 (D + 1)=none->D + 1≠X.env.locals->X.s₀.heap.objs.size<=D + 1->(D + 1∉X.fs/\(∀x c,X.env.cells.lookup x=some c->c≠D + 1)/\∀p∈X.pn++pins,p.1≠D + 1)->Q (.ref D) H4->compPost (Y0 X.prog X.w) X.A X.xe use QQ (.ref D) (D + 1) (.ok .next) s4) :
  Q0 (Y0 X.prog X.w) X.A (comprehension (.ListComp elt [⟨tg,iter,ifs,0⟩] scope pos) scope X.env pp (newList []) false (firstIter [⟨tg,iter,ifs,0⟩] X.env) use) QQ X.xe s:=by
 obtain ⟨cl,d4,U,b3⟩:=z9b (scope:=scope) (env:=X.env) λ y P hk=>I.ok.has y.1 (hfree y P hk);refine wpAny_comprehension_free (use:=use) rfl hs d4 hkind hnames (thn (hi pins s σ H _ I h) λ xv s₁ h₁=>thn h₁ λ g1 s₂ h₂=>?_);obtain ⟨it,fp,tn,J,L,e,f,T,b5,O,W,⟨m0,w0⟩,d9⟩:=h₂;subst e
 -- the list that is filled,the block's names
 refine Z3 (wpAny_newFunctionEnv hcell (by intro y P;simp at P) (λ h₁ a5 a2=>?_) hkind);dsimp only at a5 a2⊢;generalize hD:s₂.heap.objs.size=D at a5 a2⊢;generalize hG:s₂.heap.push { cls:=.type "list",dict:=none,data:=.seq ([]:List Value).toArray }=G at a5 a2⊢;have hC:G.objs.size=D + 1:=by rw [<-hG,S3,hD]
 generalize hCC:G.objs.size=C at a5 a2 hC⊢;subst hC;have a6 :∀b∈fp,b < D:=λ b a=>by obtain ⟨o,e,_⟩:=T.obj _ _ b5 b a;rw [<-hD];exact F0 e
 have a0 :∀b o,s₂.heap.get? b=some o->h₁.get? b=some o:=λ b o e=>a2.extBut b o (O0 (i1 (by rw [<-hD];exact F0 e))) (v0 _ (hG ▸ v0 _ e));have d6:G.get? D=some { cls:=.type "list",dict:=none,data:=.seq ([]:List Value).toArray }:=by rw [<-hG,<-hD];exact I0 _ rfl
 have f0:h₁.PlainList D #[]:=⟨0,a2.extBut _ _ (O0 (A2 D)) (v0 _ d6)⟩
 have d2 :∀y c,cl.lookup y=some c->c < D:=λ y c e=>by obtain ⟨v,q⟩:=f.cell y c (U y c e);rw [<-hD];exact q.lt
 have f7 :∀b∈frs X.stack,b < D:=λ b a=>by
  rcases List.mem_cons.mp (f.stkSub b a) with e|a
  ·rw [e,<-hD];exact f.lt
  ·rw [<-hD];exact Nat.lt_of_not_le λ z=>f.nofs z a
 have c5 :∀b∈fp,b∉frs X.stack:=λ b a d3=>by
  rcases List.mem_cons.mp (f.stkSub b d3) with e|z
  ·exact (O b a).2.1 e
  ·exact (O b a).2.2.1 z
 generalize hX':cxComp X scope cl (xs++fr.map (·.2)) (D + 1) s₂ L fp=X';have f6:X'.Ok:=by
  subst hX';refine ⟨f.ok.mod,hkind,f.ok.glob,f.ok.blt,(by show s₂.heap.objs.size<=D + 1;omega),λ y z c R M=>f.ok.inj y z c (U _ _ R) (U _ _ M),λ y P=>?_,(λ _ _ z=>Bool.noConfusion z),f.ok.hd,f.ok.frames,.inl rfl,λ b a=>⟨?_,λ y c e=>?_⟩,λ b o e=>f.bs b o e,?_,λ b o e a=>?_,c5,f.env0.funs,f.stkFree⟩
  ·rcases P with P|P
   ·exact b3 y (z34 hcell P (.inl rfl))
   ·exact b3 y (z34 hcell P (.inr rfl))
  ·exact O0 (i1 (a6 b a))
  ·exact (O b a).2.2.2.2.1 y c (U y c e)
  ·exact G0 f.ok.bsz f.sz
  ·rcases (O b a).2.2.2.1 with z|z
   ·exact f.ok.noex b o e z
   ·exact absurd (U0 (F0 (f.ok.bs b o e).1) z) (X2 _)
 have Z:X'.env.locals=D + 1:=by subst hX';rfl
 have a3:X'.env.cells=cl:=by subst hX';rfl
 have a7:X'.fs=frs X.stack:=by subst hX';rfl
 have b7:X'.pn=[]:=by subst hX';rfl
 have a4:X'.s₀=s₂:=by subst hX';rfl
 have d1:X'.H₀=L:=by subst hX';rfl
 have b6:X'.ex=fp:=by subst hX';rfl
 have d0:X'.N=xs++fr.map (·.2):=by subst hX';rfl
 have c2:X'.A=X.A:=by subst hX';rfl
 have F:X'.prog=X.prog/\X'.w=X.w/\X'.K=X.K/\X'.calm=true:=by subst hX';exact ⟨rfl,rfl,rfl,hcalm⟩
 have b2:X'.xe=λ _ _=>False:=by subst hX';rfl
 have c0:X'.env=compEnvC scope cl (D + 1) X.env:=by subst hX';rfl
 have f9:PF X' ifs tc:=hX' ▸ ht cl (D + 1) s₂ L fp;have d5:PE X' elt te:=hX' ▸ he cl (D + 1) s₂ L fp;have e5:PG X' tg g:=hX' ▸ hg cl (D + 1) s₂ L fp;have fresh :∀b,D<=b->L b=none:=λ b a=>f.hok.fresh (by rw [hD];exact a);have start :∀t,Inv X' [] (cStG σ fr (U2 xs.length none)) L { s₂ with heap:=h₁,toks:=t }:=λ t=>by
  refine ⟨f6,by rw [a4],f.bare,?_,⟨_,by rw [Z];exact a5,λ i y v R M e3=>?_⟩,λ y c e=>?_,by rw [Z];exact fresh _ (N5 _),λ y c e=>?_,λ p B=>?_,?_,?_⟩
  ·rw [a7,b6,d1,a4];exact Un.kept a0
  ·rw [d0] at R;by_cases a1:i < xs.length
   ·exfalso;unfold cStG at M;rw [Y2 (by rw [D3];exact a1),D6,if_pos a1] at M;cases M
   ·have a1:xs.length<=i:=t8 a1;rw [V2 a1,S0] at R;unfold cStG at M;rw [V2 (by rw [D3];exact a1),D3,S0] at M;generalize i - xs.length=i at R M;cases ej:fr[i]? with
    | none=>rw [ej] at R;cases R
    | some p=>
     rw [ej] at R;obtain rfl:p.2=y:=A1 R;have a9:(σ[p.1]?).join=some v:=by rw [ej] at M;exact A1 M
     have e4:σ[p.1]? = some (some v):=by
      cases q:σ[p.1]? with
      | none=>rw [q] at a9;cases a9
      | some z=>rw [q] at a9;exact congrArg some a9
     have B:=x0 ej;obtain ⟨m,hn,hl⟩:=f.loc;obtain ⟨u,r,l⟩:=hl p.1 p.2 v (hfr p B).1 e4 (by rcases (hfr p B).2 with z|z;exact .inr (.inl z);exact .inr (.inr z));refine ⟨u,r,.inr ⟨?_,?_⟩⟩
     ·rw [c0];exact (hfs p B).2
     ·rcases l with ⟨z,_⟩|⟨_,c,ec,q⟩
      ·exfalso;rcases (hfr p B).2 with z'|z'<;>(rw [z] at z';cases z')
      ·obtain ⟨c',c1⟩:=b3 p.2 (hfs p B).1;have:=U _ _ c1;rw [ec] at this;cases this;obtain ⟨o,ho,hd⟩:=q;exact ⟨c,by rw [a3];exact c1,o,a0 _ _ ho,hd⟩
  ·rw [a3] at e;obtain ⟨v,o,ho,hd⟩:=f.cell y c (U y c e);exact ⟨v,o,a0 _ _ ho,hd⟩
  ·rw [a3] at e;exact f.freeC y c (U y c e)
  ·rw [b7] at B;exact nomatch B
  ·rw [F.1,F.2.1];exact f.hok.kept a0
  ·rw [d0];unfold cStG;simp
 have FP :∀{pins':List (Addr×Obj)} {H':Hp},(∀b∈fp,H' b=none)->(∀p∈pins',p.1=D)->∀b∈fp,FpOk X' pins' H' b:=λ hn B b a=>by
  refine ⟨hn b a,?_,?_,.inl (by rw [b6];exact a),λ y c e=>?_,λ p c4=>?_⟩
  ·rw [Z];exact O0 (i1 (a6 b a))
  ·rw [a7];exact c5 b a
  ·rw [a3] at e;exact (O b a).2.2.2.2.1 y c (U y c e)
  ·rw [b7] at c4;rw [B p c4];exact X1 (a6 b a)
 -- the turns
 have loop :∀s₃:y0,s₃={ s₂ with heap:=h₁,toks:=s₂.toks + ([]:List (Str×Value)).length }->
   i5 (Y0 X.prog X.w) X.A (.compLoop (.ListComp elt [⟨tg,iter,ifs,0⟩] scope pos) 0 (.ref it) (.ref D) (compEnvC scope cl (D + 1) X.env))
    (compPost (Y0 X.prog X.w) X.A X.xe use QQ (.ref D) (D + 1)) s₃:=by
  rintro s₃ rfl;rw [<-c0,<-F.1,<-F.2.1,<-c2];refine zck (λ k s'=>∃i ys its H',Inv X' [] (cStG σ fr (U2 xs.length none)) H' s'/\tn i s'.heap/\(∀b∈fp,H' b=none)/\s'.heap.PlainList D its.toArray/\Vals ys its/\H' D=none/\W i k ys H') ?_ m0
   ⟨0,[],[],L,start _,T.keep _ _ _ b5 λ b a o e=>a0 b o e,λ b a=>(O b a).1,f0,.nil,fresh _ (A0 _),w0⟩
  rintro n s3 ⟨i,ys,its,H3,I3,st3,fr3,ac3,rv3,hD3,w3⟩;obtain ⟨na,g0⟩:=id ac3;have c6:Inv X' [(D,{ cls:=.type "list",data:=.seq its.toArray na })] (cStG σ fr (U2 xs.length none)) H3 s3:=I3.pins_of λ p B=>by rw [List.mem_singleton] at B;subst B;refine ⟨g0,hD3,by rw [Z];exact O0 (A2 D),by rw [a7];exact λ z=>X2 _ (f7 D z),λ v z=>nomatch z⟩
  have hT:=T;rw [<-F.1,<-F.2.1,<-F.2.2.1] at hT;rcases d9 i n ys H3 w3 with ⟨f4,b4,qn⟩|⟨go,b4,step⟩
  ·refine thn (hT.done X' rfl rfl rfl F.2.2.2 i _ s3 _ H3 _ c6 (FP fr3 (by intro p B;rw [List.mem_singleton.mp B])) st3 f4) λ r s4 ⟨hr,I4⟩=>?_;subst hr;obtain ⟨m4,e0,_⟩:=id I4.loc;obtain ⟨h',c7⟩ :∃h',h'=s4.heap:=⟨_,rfl⟩
   have c9:R5 (D + 1) s4.heap h':=by rw [c7];exact ⟨rfl,λ _ _=>rfl⟩
   have d7:D≠D + 1:=O0 (A2 D);have f3:=(I4.pin (D,_) (N0 _ V1))
   have f1:h'.get? D=some { cls:=.type "list",data:=.seq its.toArray na }:=(c9.2 D d7).trans f3.1;have un:Un (frs X.stack) fp L H3 s₂.heap s4.heap:=by have:=I4.base;rw [a7,b6,d1,a4] at this;exact this
   have kp :∀b o,b≠D + 1->s4.heap.get? b=some o->h'.get? b=some o:=λ b o a e=>(c9.2 b a).trans e;have b0 :∀b o,s₂.heap.get? b=some o->b≠D + 1/\b≠D:=λ b o e=>by have:=F0 e;rw [hD] at this;exact ⟨O0 (i1 this),O0 this⟩
   have d8:Un (frs X.stack) fp L (upd H3 D (.lst ys)) s₂.heap h':=by
    refine ⟨λ b o e n a Y=>kp b o (b0 b o e).1 (un.keep b o e n a Y),λ b o e n a Y=>?_,λ b o e n Y=>by rw [upd_ne (b0 b o e).2];exact un.free b o e n Y,λ b o e Y=>?_,λ b xs e=>?_,λ b o u e=>?_,λ b ps e=>?_⟩
    ·obtain ⟨sl,z⟩:=un.slot b o e n a Y;exact ⟨sl,kp _ _ (b0 b o e).1 z⟩
    ·obtain ⟨o',z⟩:=un.there b o e Y;exact ⟨o',kp _ _ (b0 b o e).1 z⟩
    ·rw [upd_ne (z0e e (fresh D (A0 _)))];exact un.tups b xs e
    ·rw [upd_ne (z0e e (fresh D (A0 _)))];exact un.frzs b o u e
    ·rw [upd_ne (z0e e (fresh D (A0 _)))];exact un.tbls b ps e
   have b8:H3 (D + 1)=none:=by have:=I4.free;rw [Z] at this;exact this
   have f8:HOk X.prog X.w (upd H3 D (.lst ys)) h':=λ b u e=>by
    by_cases a:b=D
    ·subst a;rw [z02] at e;cases e;exact ⟨b4,its,na,rv3,f1⟩
    ·rw [upd_ne a] at e;have z:=I4.hok b u e;rw [F.1,F.2.1] at z;refine z.stay (λ c v hc q=>kp c v ?_ q) (λ c q=>by rw [upd_ne (z0e q hD3)];exact q) λ c xs q=>by rw [upd_ne (z0e q hD3)];exact q
     rintro rfl;rcases hc with rfl|hc
     ·rw [b8] at e;cases e
     ·rw [b8] at hc;cases hc
   subst c7;have I5:Inv X pins σ (upd H3 D (.lst ys)) s4:=f.call' (s':=s4) (ch:=fp) (by have:=I4.os;rw [a4] at this;exact this) d8 f8 I4.bare (λ b a=>⟨(O b a).2.2.2.1,(O b a).2.1,(O b a).2.2.2.2.1,(O b a).2.2.2.2.2⟩);show compPost (Y0 X'.prog X'.w) X'.A X.xe use QQ (.ref D) (D + 1) (.ok .next) s4;rw [F.1,F.2.1,c2];refine hend D s4 _ I5 ⟨m4,Z ▸ e0⟩ ?_ ?_ ?_ ?_ (qn D hD3)
   ·rw [upd_ne (X1 (A2 D))];exact b8
   ·exact X1 (i1 (by rw [<-hD];exact f.lt))
   ·exact G0 f.sz (by rw [hD];exact N5 D)
   ·refine ⟨λ z=>f.nofs (by rw [hD];exact N5 D) z,λ y c e=>?_,λ p B=>?_⟩
    ·obtain ⟨v,q⟩:=f.cell y c e;exact O0 (i1 (by rw [<-hD];exact q.lt))
    ·exact O0 (i1 (by rw [<-hD];exact F0 (f.pin p B).1))
  ·refine thn (hT.item X' rfl rfl rfl F.2.2.2 i _ s3 _ H3 _ c6 (FP fr3 (by intro p B;rw [List.mem_singleton.mp B])) st3 go) λ r s4 ⟨u,hr,h4⟩=>?_;subst hr;refine thn h4 λ _ s5 ⟨v,H5,I5,r5,y5,st5,fr5⟩=>?_;have e7:=I5.pinned (FP fr5 (by intro p B;rw [List.mem_singleton.mp B])) (T.obj _ _ st5);have g5:=e5 _ s5 (cStG σ fr (U2 xs.length none)) H5 v u _ e7 r5 (step v H5 y5);rw [b2] at g5;refine thn g5 λ _ s6 ⟨σ6,H6,I6,us,hus,e6,q6⟩=>?_;subst e6;have t6:=f9 _ s6 _ H6 _ I6 q6;rw [b2] at t6;refine thn t6 λ ok s7 ⟨H7,I7,q7⟩=>?_;have c8 :∀{H8:Hp} {E:y0} {ys':List V} {its':List Value} {pl:List (Addr×Obj)},Inv X' (pl++pinsAt fp s5.heap) (cStG σ fr us) H8 E->E.heap.PlainList D its'.toArray->Vals ys' its'->H8 D=none->(∃m',m' < n/\W (i + 1) m' ys' H8)->
     ∃m,m < n/\∃i ys its H',Inv X' [] (cStG σ fr (U2 xs.length none)) H' E/\tn i E.heap/\(∀b∈fp,H' b=none)/\E.heap.PlainList D its.toArray/\Vals ys its/\H' D=none/\W i m ys H':=λ {H8 E ys' its' pl} S b1 rv8 a8 ⟨m',hm,w8⟩=>by
    refine ⟨m',hm,i + 1,ys',its',H8,(S.pins_of (pins':=[]) (λ p B=>absurd B B0)).weak (by unfold cStG;simp [hus]) ?_,T.keep _ _ _ st5 λ b a o e=>(S.pin (b,o) (N0 _ (N0 _ (z0x a e)))).1,λ b a=>?_,b1,rv8,a8,w8⟩
    ·intro j z e;unfold cStG at e⊢;by_cases hj:j < xs.length
     ·rw [Y2 (by rw [D3];exact hj),D6,if_pos hj] at e;cases e
     ·have hj:xs.length<=j:=t8 hj;rw [V2 (by rw [D3];exact hj),D3] at e;rw [V2 (by rw [hus];exact hj),hus];exact e
    ·obtain ⟨o,e,d⟩:=T.obj _ _ st5 b a;exact (S.pin (b,o) (N0 _ (N0 _ (z0x a e)))).2.1
   have b9 :∀{H8:Hp} {E:y0} {σ8:St},Inv X' ([(D,{ cls:=.type "list",data:=.seq its.toArray na })]++pinsAt fp s5.heap) σ8 H8 E->E.heap.PlainList D its.toArray/\H8 D=none:=λ S=>
    have z:=S.pin (D,_) (N0 _ (J4 _ V1))
    ⟨⟨na,z.1⟩,z.2.1⟩
   cases ok with
   | false=>rw [if_neg R0] at q7⊢;exact c8 I7 (b9 I7).1 rv3 (b9 I7).2 q7
   | true=>
    rw [if_pos rfl] at q7⊢;have t7:=d5 _ s7 _ H7 _ I7 q7;rw [b2] at t7;refine thn t7 λ y E ⟨vy,H8,S,r8,q8⟩=>?_;obtain ⟨b1,a8⟩:=b9 S;refine wpAny_list_append_plain (hsz:=by have:=rv3.length;rw [J0,<-this];exact b4) b1 λ h9 c3 e8=>?_;have I9:Inv X' ([]++pinsAt fp s5.heap) (cStG σ fr us) H8 E:=S.pins_of λ p B=>(S.pin p (N0 _ (N0 _ B)))
    have f5:Inv X' ([]++pinsAt fp s5.heap) (cStG σ fr us) H8 { E with heap:=h9 }:=by
     refine I9.turned (t':=E.toks) (it:=D) (λ b o a e=>(e8.2 b a).trans e) a8 (by rw [Z];exact O0 (A2 D)) (.inr (by rw [a4,hD];exact A0 _)) (λ y' c e=>?_) λ p B=>?_
     ·rw [a3] at e;exact O0 (d2 y' c e)
     ·rw [b7] at B;exact O0 (a6 _ (z7k B).1)
    have e9:its.toArray.push y=(its++[y]).toArray:=by simp
    rw [e9] at c3;exact c8 f5 c3 (rv3.snoc r8) a8 q8
 exact codeAny_compStart_list (loop _ rfl) (T.self _ 0 _ _ _ (T.keep _ _ _ b5 λ b a o e=>a0 b o e) (loop _ rfl))
theorem zeg {xs:List Str} {tg:Expr} {g:TG} {pos:Pos} {elt iter:Expr} {ifs:List Expr} {scope:Scope} {fr:List (Nat×Str)} {wi:TI} {tc:TT} {te:TE} (hcalm:X.calm=true) (hi:PI X tg iter wi)
  (hfr :∀p∈fr,X.N[p.1]? = some p.2/\(X.env.kindOf p.2=some .cell\/X.env.kindOf p.2=some .free))
  (hfree :∀y∈scope.names,y.2=O1->X.env.kindOf y.1=some .cell\/X.env.kindOf y.1=some .free)
  (hfs :∀p∈fr,(p.2,O1)∈scope.names/\((K6 scope X.env).names.lookup p.2=some .cell\/(K6 scope X.env).names.lookup p.2=some .free))
  (hcell :∀y∈scope.names,y.2≠NameKind.cell) (hkind:scope.kind=.function) (hnames :∀y∈scope.names,y.2=NameKind.local->scope.names.lookup y.1=some .local)
  (hg :∀cl C s₂ H₂ fp,PG (cxComp X scope cl (xs++fr.map (·.2)) C s₂ H₂ fp) tg g)
  (ht :∀cl C s₂ H₂ fp,PF (cxComp X scope cl (xs++fr.map (·.2)) C s₂ H₂ fp) ifs tc) (he :∀cl C s₂ H₂ fp,PE (cxComp X scope cl (xs++fr.map (·.2)) C s₂ H₂ fp) elt te)
  (hs :∀x,O4 iter X.env x=E3 x:=by intro _;rfl):PE X (.ListComp elt [⟨tg,iter,ifs,0⟩] scope pos) (tCompG wi xs.length fr g tc te):=by
 intro t s σ H Q I h;rw [eval_ListComp];refine za3 hcalm hi hfr hfree hfs hcell hkind hnames hg ht he hs I h λ D n j k a i f d ⟨c,hc,hp⟩ q=>?_;obtain ⟨m,a⟩:=a;exact ⟨m,a,λ r l=>⟨.ref D,j,k.turned (t':=n.toks) (it:=D + 1) (λ b o c e=>(l.2 b c).trans e) i f (.inr d) hc hp,rfl,q⟩⟩
theorem z5s {xs:List Str} {tg:Expr} {g:TG} {pos:Pos} {elt iter:Expr} {ifs:List Expr} {scope:Scope} {fr:List (Nat×Str)} {wi:TI} {tc:TT} {te:TE} {i:Nat} {y:Str} {py spos:Pos} (hNy:X.N.Nodup) (hiy:X.N[i]? = some y) (hy:Loc X.env.scope y) (hcalm:X.calm=true) (hi:PI X tg iter wi)
  (hfr :∀p∈fr,X.N[p.1]? = some p.2/\(X.env.kindOf p.2=some .cell\/X.env.kindOf p.2=some .free))
  (hfree :∀y∈scope.names,y.2=O1->X.env.kindOf y.1=some .cell\/X.env.kindOf y.1=some .free)
  (hfs :∀p∈fr,(p.2,O1)∈scope.names/\((K6 scope X.env).names.lookup p.2=some .cell\/(K6 scope X.env).names.lookup p.2=some .free))
  (hcell :∀y∈scope.names,y.2≠NameKind.cell) (hkind:scope.kind=.function) (hnames :∀y∈scope.names,y.2=NameKind.local->scope.names.lookup y.1=some .local)
  (hg :∀cl C s₂ H₂ fp,PG (cxComp X scope cl (xs++fr.map (·.2)) C s₂ H₂ fp) tg g)
  (ht :∀cl C s₂ H₂ fp,PF (cxComp X scope cl (xs++fr.map (·.2)) C s₂ H₂ fp) ifs tc) (he :∀cl C s₂ H₂ fp,PE (cxComp X scope cl (xs++fr.map (·.2)) C s₂ H₂ fp) elt te)
  (hs :∀x,O4 iter X.env x=E3 x:=by intro _;rfl) (hw:V7 (.ListComp elt [⟨tg,iter,ifs,0⟩] scope pos) (some (.Name y py)) spos.line X.env=E3 true:=by rfl) (hf:X.fn y=true\/X.env.scope.names.lookup y=some .local:=by first|exact .inl rfl|exact .inr rfl|assumption) :
  PS X (.Assign [.Name y py] (.ListComp elt [⟨tg,iter,ifs,0⟩] scope pos) spos) (tAsg (tCompG wi xs.length fr g tc te) (gName i)):=by
 intro r s σ H D I h;rw [exec_Assign_Name_used y py _ spos hw];refine o0 (wpAny_standAt (o0 ?_));show Q0 _ _ (do let _ <-comprehension (.ListComp elt [⟨tg,iter,ifs,0⟩] scope pos) scope X.env (firstIterPos [⟨tg,iter,ifs,0⟩] pos) (newList []) (firstAsync [⟨tg,iter,ifs,0⟩]) (firstIter [⟨tg,iter,ifs,0⟩] X.env) (some (assign (.Name y py) X.env));E3 ()) _ _ _;refine o0 (za3 hcalm hi hfr hfree hfs hcell hkind hnames hg ht he hs I h λ A t l n c J k E ⟨d,hc,hp⟩ q=>?_);obtain ⟨m,c⟩:=c;obtain ⟨o,F,M,G,hd,K,u⟩:=c;have w:Inv X ((A + 1,o) :: r) σ l t:=n.pins_of λ p a=>by
  rcases List.mem_cons.mp a with rfl|a
  ·exact ⟨G,J,k,d,λ v z=>by rw [hd] at z;cases z⟩
  ·exact n.pin p (N0 _ a)
 refine thn (z11 (pos:=py) hNy hiy hy hf _ t σ l (.ref A) (.ref A) D.nx w rfl q) λ _ f ⟨σ5,H5,I6,q6⟩=>?_;have j:=I6.pin (A + 1,o) (N0 _ V1);have B:Inv X r σ5 H5 f:=I6.pins_of λ p a=>I6.pin p (N0 _ (P2 _ a));refine ⟨m,⟨o,F,M,j.1,hd,K,u⟩,λ O L=>?_⟩;exact C0 (C0 ⟨σ5,H5,B.turned (t':=f.toks) (it:=A + 1) (λ b o d e=>(L.2 b d).trans e) j.2.1 k (.inr E) hc hp,q6⟩)
end
end L2
set_option maxHeartbeats 400000
namespace L2
open PySem PySem.Spec PyProof.Rows
theorem z5y {t rest:TS} {D:Ends} {σ:St} {H:Hp} (R:St->Hp->Prop) (hr :∀σ1 H1,R σ1 H1->rest D σ1 H1) (h:(∀σ1 H1,R σ1 H1->rest D σ1 H1)->t { D with nx:=rest D } σ H):tSeq t rest D σ H:=h hr
theorem z0b {te:TE} {g:TG} {rest:TS} {D:Ends} {σ:St} {H:Hp} (h:te σ H λ x H1=>g x σ H1 (rest D)):tSeq (tAsg te g) rest D σ H:=h
structure Runs (J:It) (H1:Hp) (n:Nat) (Item:Nat->V->Hp->Prop):Prop where
 go :∀i,i < n->∀H,Same H1 H->J.go i H
 stop :∀H,Same H1 H->J.stop n H
 item :∀i,i < n->∀H v H',Same H1 H->J.yld i H v H'->Same H H'/\Item i v H'
theorem z14 (p:Nat->Bool) (n:Nat):(Z1 (n + 1)).filter p=(Z1 n).filter p++(if p n=true then [n] else []):=by rw [C8,C2,F5];cases p n<;>rfl
inductive All2 {α β:Type} (R:α->β->Prop):List α->List β->Prop
 | nil:All2 R [] []
 | cons {a:α} {b:β} {xs:List α} {ys:List β}:R a b->All2 R xs ys->All2 R (a :: xs) (b :: ys)
theorem z3c {α β:Type} {R:α->β->Prop} :∀{xs:List α} {ys:List β} {x:α} {y:β},All2 R xs ys->R x y->All2 R (xs++[x]) (ys++[y])
 | [],_,x,y,.nil,h=>.cons h .nil
 | _ :: _,_,x,y,.cons a r,h=>.cons a (z3c r h)
theorem z01 {α β:Type} {R S:α->β->Prop} (h :∀a b,R a b->S a b) :∀{xs:List α} {ys:List β},All2 R xs ys->All2 S xs ys
 | [],_,.nil=>.nil
 | _ :: _,_,.cons a r=>.cons (h _ _ a) (z01 h r)
theorem z03 {α β:Type} {R:α->β->Prop} :∀{xs:List α} {ys:List β},All2 R xs ys->ys.length=xs.length
 | [],_,.nil=>rfl
 | _ :: _,_,.cons _ r=>congrArg (· + 1) (z03 r)
theorem z10 {α β:Type} {f:α->β} :∀{xs:List α} {ys:List β},All2 (λ x y=>y=f x) xs ys->ys=xs.map f
 | [],_,.nil=>rfl
 | _ :: _,_,.cons a r=>by rw [W0,z10 r,a]
theorem z0y {α β:Type} (p:α->Bool) (f:α->β) (d:α) :∀xs:List α,((Z1 xs.length).filter λ i=>p (xs[i]?.getD d)).map (λ i=>f (xs[i]?.getD d))=(xs.filter p).map f:=by
 intro xs;have h:(Z1 xs.length).map (λ i=>xs[i]?.getD d)=xs:=by
  apply List.ext_getElem
  ·simp
  ·intro i b a;simp only [E5,List.getElem_range,M0 a,Option.getD_some]
 have e:(xs.filter p).map f=((((Z1 xs.length).map (λ i=>xs[i]?.getD d))).filter p).map f:=by rw [h]
 rw [e,List.filter_map,g3];rfl
theorem z42 (ns:List Int) :∀j,j<=ns.length->preSum (λ i=>ns[i]?.getD 0) j=(ns.take j).sum
 | 0,_=>by rw [List.take_zero];rfl
 | j + 1,h=>by show preSum (λ i=>ns[i]?.getD 0) j + ns[j]?.getD 0=_;rw [z42 ns j (Nat.le_of_succ_le h),List.take_succ_eq_append_getElem h,List.sum_append,M0 h];simp
structure QE (X:Cx) (e:Expr) (t:TE):Prop where
 run:PE X e t
structure QA (X:Cx) (es:List Expr) (t:TA):Prop where
 run:PA X es t
structure QPs (X:Cx) (pos:Pos) (ks:List (Option Expr)) (vs:List Expr) (t:List (TE×TE)):Prop where
 run:PPs X pos ks vs t
structure QS (X:Cx) (st:Stmt) (t:TS):Prop where
 run:PS X st t
structure QSs (X:Cx) (sts:List Stmt) (t:TS):Prop where
 run:PSs X sts t
section
variable {X:Cx} {pos:Pos}
theorem q_of {sts:List Stmt} {t:TS} {G:TS->Prop} (q:QSs X sts t) (g:G t) :∃t,PSs X sts t/\G t:=⟨t,q.run,g⟩
theorem z2e {st:Stmt} {t:TS} (h:QS X st t):QSs X [st] t:=⟨z06 h.run⟩
theorem z0c {st:Stmt} {rest:List Stmt} {t u:TS} (h:QS X st t) (r:QSs X rest u):QSs X (st :: rest) (tSeq t u):=⟨z05 h.run r.run⟩
theorem qs_set {i:Nat} {x:Str} {e:Expr} {te:TE} {pos':Pos} (hN:X.N.Nodup) (hi:X.N[i]? = some x) (hx:Loc X.env.scope x) (he:QE X e te) (hs:V7 e (some (.Name x pos')) pos.line X.env=E3 false:=by rfl) (hf:X.fn x=true\/X.env.scope.names.lookup x=some .local:=by first|exact .inl rfl|exact .inr rfl|assumption) :
  QS X (.Assign [.Name x pos'] e pos) (tAsg te (gName i)):=⟨ps_set hN hi hx he.run hs hf⟩
theorem qs_for {tg iter:Expr} {body:List Stmt} {wi:TI} {g:TG} {tb:TS} (hp:PassesOwn (Y0 X.prog X.w) X.A X.env X.xe) (hc:X.calm=true) (hi:PI X tg iter wi) (hg:PG X tg g) (hb:QSs X body tb)
  (hs :∀x,O4 iter X.env x=E3 x:=by intro _;rfl):QS X (.For tg iter body [] pos) (tFor wi g tb):=⟨ps_for hp hc hi hg hb.run hs⟩
theorem qe_lst {es:List Expr} {t:TA} (h:QA X es t):QE X (.List es pos) (tLst t):=⟨pe_lst h.run⟩
theorem qe_tup {es:List Expr} {t:TA} {x1} (h:QA X es t):QE X (.Tuple es x1 pos) (tTup t):=⟨pe_tup h.run⟩
theorem qa_nil:QA X [] tNil:=⟨pa_nil⟩
theorem z1l {e:Expr} {es:List Expr} {te:TE} {t:TA} (ha:QE X e te) (hr:QA X es t) (hs:D1 (e :: es) X.env=(false,P3 e X.env) :: D1 es X.env:=by rfl):QA X (e :: es) (tCons te t):=⟨z00 ha.run hr.run hs⟩
theorem zf6:QPs X pos [] [] []:=⟨zd7⟩
theorem zdv {k v:Expr} {ks:List (Option Expr)} {vs:List Expr} {tk tv:TE} {trs:List (TE×TE)} (hk:QE X k tk) (hv:QE X v tv) (hr:QPs X pos ks vs trs):QPs X pos (some k :: ks) (v :: vs) ((tk,tv) :: trs):=⟨zal hk.run hv.run hr.run⟩
theorem zf9 {keys:List (Option Expr)} {values:List Expr} {trs:List (TE×TE)} (h:QPs X pos keys values trs) (hall:keys.all (·.isSome)=true) (hl:keys.length=values.length) (h0:keys≠[]) (h15:keys.length<=15):QE X (.Dict keys values pos) (tDisp trs):=⟨zdb h.run hall hl h0 h15⟩
theorem qe_op {a b:Expr} {ta tb:TE} {op:Operator} {r:R2} (ho:OpR X (U4 op) r) (ha:QE X a ta) (hb:QE X b tb):QE X (.BinOp a op b pos) (tOp r ta tb):=⟨pe_op ho ha.run hb.run⟩
theorem qe_ix {a b:Expr} {ta tb:TE} {r:R2} (hr:IxR X r) (ha:QE X a ta) (hb:QE X b tb) (hs:zd1 b):QE X (.Subscript a b pos) (tOp r ta tb):=⟨pe_ix hr ha.run hb.run hs⟩
end
theorem z0q {X:Cx} {K:c0} (h:X.K=K):IxR X (rIx K):=h ▸ ix_seq
theorem z09 {α β:Type} {R:α->β->Prop} :∀{xs:List α} {ys:List β} {i:Nat} {y:β},All2 R xs ys->ys[i]? = some y->∃x,xs[i]? = some x/\R x y
 | _,_,i,y,.nil,e=>by simp at e
 | _,_,0,y,.cons a _,e=>by rw [Q1] at e;cases e;exact ⟨_,Q1,a⟩
 | _,_,i + 1,y,.cons _ r,e=>by rw [B1] at e;obtain ⟨x,b,c⟩:=z09 r e;exact ⟨x,by rw [B1];exact b,c⟩
end L2
set_option maxHeartbeats 4000000
namespace L2
open PySem PySem.Spec PyProof.Rows
section
variable {prog:Program} {w:P0} {A:W1} {E:Value->y0->Prop} {s:y0}
theorem z47 (hh:A.handled=none) (it t:Addr) (ne:t≠it) (items:Array Value):Draws prog w A it [it,t] items.size (λ i v=>items[i]? = some v) (λ i h=>h.IsTupleIter it t i/\h.IsTuple t items) where
 live:=λ i h a=>a.1.elim λ o z=>⟨o,z.1⟩
 frame:=λ i h b a k=>⟨a.1.elim λ o z=>⟨o,k it (by simp) o z.1,z.2⟩,a.2.elim λ o z=>⟨o,k t (by simp) o z.1,z.2⟩⟩
 item:=λ i s Q E c a q=>tupOn a.1 a.2 (Q4 c) λ b d sb=>q _ b s.toks (Q4 c) ⟨d,a.2.elim λ o z=>⟨o,(sb.2 t ne).trans z.1,z.2⟩⟩ sb
 done:=λ s Q E a q=>tupOff hh a.1 a.2 (by simp) λ b e x y=>q b e x y
theorem zf5 (a:Addr) (xs:Array Value):Meets (O6.«enumerate.__new__» ⟨[.type "enumerate",.ref a],[]⟩) (λ _ R s=>s.heap.IsTuple a xs/\R (.ok (.ret (.ref (s.heap.objs.size + 1))))
  { s with heap:=(s.heap.push { cls:=.type "tuple_iterator",data:=.fields #[.ref a,.int 0 0] }).push { cls:=.type "enumerate",data:=.fields #[.none,.bool false,.ref s.heap.objs.size,L4 0,.none,.none] } }):=
 .of_wp λ j w A R s h=>by
  obtain ⟨f,g,d,i,e⟩:=s;obtain ⟨k,h⟩:=h;have m:=sub_enumerate;have b:Heap.IsTuple (Shared.heap ⟨f,g,d,i,e⟩) a xs:=k
  wp_walk using v4 b
  intro Γ p l;show Q0 (Y0 j w) A.in1 (E3 _) _ _ _;refine C0 ?_;generalize List.drop 1 ((Γ.code,p) :: Γ.below)=L;split
  ·rename_i c _ _ _ _;cases c == F4 "enumerate" with
   | true=>
    wp_walk using v4 b
    refine ⟨_,rfl,?_⟩;simpa [S3,k4] using h
   | false=>
    wp_walk using v4 b
    refine ⟨_,rfl,?_⟩;simpa [S3,k4] using h
  ·wp_walk using v4 b
   refine ⟨_,rfl,?_⟩;simpa [S3,k4] using h
theorem zdj {a:Addr} {xs:Array Value} {Q:Value->y0->Prop} (ha:s.heap.IsTuple a xs)
  (q :∀h',IsEnum h' (s.heap.objs.size + 1) s.heap.objs.size 0 .none->h'.IsTupleIter s.heap.objs.size a 0->h'.objs.size=s.heap.objs.size + 2->(∀c o,s.heap.get? c=some o->h'.get? c=some o)->Q (.ref (s.heap.objs.size + 1)) { s with heap:=h' }) :
  Q0 (Y0 prog w) A (call (.type "enumerate") [.ref a]) Q E s:=by
 refine callType_new F.called_enumerate (by decide) (F.typeCall_enumerate_1 _) (F.newCall_enumerate_1 _) (λ g=>F.args_object_init_2 g _) F.entry_enumerate_new (zf5 a xs) ⟨ha,?_⟩;generalize hn:s.heap.objs.size=n at q⊢;generalize h0:s.heap.push { cls:=.type "tuple_iterator",data:=.fields #[.ref a,.int 0 0] }=k0;have d:k0.objs.size=n + 1:=by rw [<-h0,S3,hn]
 have f:k0.get? n=some { cls:=.type "tuple_iterator",data:=.fields #[.ref a,.int 0 0] }:=by rw [<-h0,<-hn];exact I0 _ rfl
 have b:(k0.push { cls:=.type "enumerate",data:=.fields #[.none,.bool false,.ref n,L4 0,.none,.none] }).get? (n + 1)=some { cls:=.type "enumerate",data:=.fields #[.none,.bool false,.ref n,L4 0,.none,.none] }:=by rw [<-d];exact I0 _ rfl
 exact ⟨⟨_,b,rfl⟩,q _ b ⟨_,v0 _ f,rfl,rfl⟩ (by rw [S3,d]) λ c o e=>v0 _ (by rw [<-h0];exact v0 _ e)⟩
end
noncomputable def IteL (K:c0) (a:Addr):It:=
  ⟨λ i H=>∃xs x,SqL K H a xs/\xs[i]? = some x,
   λ i H v H'=>∃p,H p=none/\v=.ref p/\∀xs,SqL K H a xs->∃x,xs[i]? = some x/\H'=upd H p (.tup [.int i,x]),
   λ i H=>∃xs,SqL K H a xs/\xs.length=i⟩
theorem w_0:(0:Nat)<=sizeLine:=by decide
theorem w_1:(1:Nat)<=sizeLine:=by decide
theorem w_2:(2:Nat)<=sizeLine:=by decide
theorem w_3:(3:Nat)<=sizeLine:=by decide
theorem w_4:(4:Nat)<=sizeLine:=by decide
theorem w_5:(5:Nat)<=sizeLine:=by decide
theorem w_7:(7:Nat)<=sizeLine:=by decide
theorem zb1 {P:Program} {w:P0} {K:c0} {elts:List Expr} {x1:Nat} {pos:Pos} {e it a:Addr} (ne:e≠it) (nae:a≠e) (nai:a≠it):Turn P w K (.Tuple elts x1 pos) (IteL K a) [e,it] e (λ n h=>(∃old,IsEnum h e it (n:Nat) old)/\h.IsListIter it a n) where
 mem:=by simp
 obj:=λ n h g c f=>by
  simp only [A3,B0,or_false] at f;rcases f with rfl|rfl
  ·obtain ⟨⟨old,z⟩,_⟩:=g;exact ⟨_,z,λ v z=>by cases (show Z9 _=Data.cell v from z)⟩
  ·obtain ⟨_,o,e,_,d⟩:=g;exact ⟨o,e,λ v z=>by rw [d] at z;cases z⟩
 keep:=λ n h N g k=>by obtain ⟨⟨old,z⟩,o,e1,e2⟩:=g;exact ⟨⟨old,k e (by simp) _ z⟩,o,k it (by simp) _ e1,e2⟩
 item:=by
  intro X G J F f n a6 s σ H E I p g r;subst G J F;obtain ⟨R,x,m,S⟩:=r;obtain ⟨i,C,j,_⟩:=I.list m;have j:s.heap.IsList a i.toArray:=j.isList;obtain ⟨u,T,ru⟩:=C.get S;have D:=Draws.list (prog:=X.prog) (w:=X.w) (A:=X.A.in1) (I.ok.hd f) it a nai i.toArray;have a4:n < i.toArray.size:=by have:=(List.getElem?_eq_some_iff.mp T).1;simpa using this
  obtain ⟨⟨old,M⟩,U⟩:=g;refine wpAny_pyNext_enum_itemD D M ⟨U,j⟩ a4 ne (by simp [ne,nae.symm]) λ y N t l a1 a3 tT hz B=>?_;have l:i[n]? = some y:=by simpa using l
  rw [T] at l;cases l;have a5:e < s.heap.objs.size:=F0 M;have a2:it < s.heap.objs.size:=by obtain ⟨o,z,_⟩:=U;exact F0 z
  have Q:s.heap.objs.size≠e:=X1 a5;have nT:s.heap.objs.size∉[e,it]:=by simp only [A3,B0,or_false,not_or];exact ⟨Q,X1 a2⟩
  refine ⟨_,rfl,F9 a1 λ L a0 sb=>?_⟩;have Y :∀b o,b∉[e,it]->s.heap.get? b=some o->L.get? b=some o:=λ b o q z=>by simp only [A3,B0,or_false,not_or] at q;exact (sb.2 b q.1).trans (B b o q.1 q.2 z)
  have O:=(sb.2 _ Q).trans tT;have Z:=a3.1.elim λ o z=>(⟨o,(sb.2 it ne.symm).trans z.1,z.2⟩:L.IsListIter it a (n + 1))
  have fr:H s.heap.objs.size=none:=I.hok.fresh (A0 _);refine ⟨.ref s.heap.objs.size,upd H s.heap.objs.size (.tup [.int n,x]),I.turnedLaid (t':=t + 1) Y p (A0 _) ⟨w_2,[.int n t,u],.cons ⟨t,rfl⟩ (.cons ru .nil),⟨_,O,rfl,_,rfl⟩,_,O,rfl⟩,rfl,⟨_,fr,rfl,λ a8 a7=>⟨x,?_,rfl⟩⟩,⟨⟨_,a0⟩,Z⟩,λ c f=>?_⟩
  ·rw [I.list_inj a7 m];exact S
  ·rw [upd_ne (λ (z:c=s.heap.objs.size)=>nT (z ▸ f))];exact (p c f).1
 done:=by
  intro X G J F f n a6 s σ H E I p g r;subst G J F;obtain ⟨R,m,rfl⟩:=r;obtain ⟨i,C,j,_⟩:=I.list m;have j:s.heap.IsList a i.toArray:=j.isList;have D:=Draws.list (prog:=X.prog) (w:=X.w) (A:=X.A.in1) (I.ok.hd f) it a nai i.toArray;have W:=WalksT.enumerateD D e ne (by simp [ne,nae.symm]) (by simp);have V:i.toArray.size=R.length:=by simpa using C.length.symm
  exact W.done s _ E (by rw [V];exact ⟨g.1,g.2,j⟩) λ N tk B=>⟨rfl,I.turnedL (t':=tk) (λ c o f e=>B c o f e) p⟩
 self:=λ _ _ _ _ _ g h=>g.1.elim λ old z=>J6 z h
noncomputable def ieL (K:c0) (ta:TA):TI:=λ σ H R=>ta σ H λ vs H1=>∃a xs,vs=[.ref a]/\SqL K H1 a xs/\R (IteL K a) H1
theorem ze4 {X:Cx} {elts:List Expr} {x1:Nat} {tpos:Pos} {e:Expr} {ta:TA} {p pos:Pos} (hg:Gl X "enumerate") (hm:X.mg "enumerate" = none) (ha:PA X [e] ta) (hs:D1 [e] X.env=[(false,P3 e X.env)]:=by rfl) :
  PI X (.Tuple elts x1 tpos) (.Call (.Name "enumerate" p) [e] [] pos) (ieL X.K ta):=by
 intro t s σ H R I h;refine Call_ (ld_blt I hg hm boot_enumerate (O3 (thn (ha pos t s σ H _ I h) λ z d ⟨vs,H1,I1,r1,q1⟩=>?_) (by rw [hs];rfl) rfl));obtain ⟨a,y,m,r,q⟩:=q1;subst m;obtain ⟨u,rfl,n⟩:=vals1 r1;cases (show u=C1 a from n);obtain ⟨v,x,b,_⟩:=I1.list r;have b:d.heap.IsList a v.toArray:=b.isList;have f:a < d.heap.objs.size:=by obtain ⟨o,e,_⟩:=id b;exact F0 e
 refine call_enumerate_list b λ w j k _ l=>?_;refine J6 j ?_;refine ⟨_,_,_,_,H1,rfl,I1.kept (t':=d.toks) l,zb1 (X1 (A2 _)) (O0 (i1 f)) (O0 f),⟨⟨_,j⟩,k⟩,λ c i=>?_,q⟩;have g:d.heap.objs.size<=c:=by
  simp only [A3,B0,or_false] at i;rcases i with rfl|rfl
  ·exact y8 _ _
  ·exact A0 _
 exact I1.fpOk g (I1.hok.fresh g)
noncomputable def IteT (K:c0) (a:Addr):It:=
  ⟨λ i H=>∃xs x,SqT K H a xs/\xs[i]? = some x,
   λ i H v H'=>∃p,H p=none/\v=.ref p/\∀xs,SqT K H a xs->∃x,xs[i]? = some x/\H'=upd H p (.tup [.int i,x]),
   λ i H=>∃xs,SqT K H a xs/\xs.length=i⟩
theorem z9q {P:Program} {w:P0} {K:c0} {elts:List Expr} {x1:Nat} {pos:Pos} {e it a:Addr} (ne:e≠it) (nae:a≠e) (nai:a≠it):Turn P w K (.Tuple elts x1 pos) (IteT K a) [e,it] e (λ n h=>(∃old,IsEnum h e it (n:Nat) old)/\h.IsTupleIter it a n) where
 mem:=by simp
 obj:=λ n h g c f=>by
  simp only [A3,B0,or_false] at f;rcases f with rfl|rfl
  ·obtain ⟨⟨old,z⟩,_⟩:=g;exact ⟨_,z,λ v z=>by cases (show Z9 _=Data.cell v from z)⟩
  ·obtain ⟨_,o,e,_,d⟩:=g;exact ⟨o,e,λ v z=>by rw [d] at z;cases z⟩
 keep:=λ n h N g k=>by obtain ⟨⟨old,z⟩,o,e1,e2⟩:=g;exact ⟨⟨old,k e (by simp) _ z⟩,o,k it (by simp) _ e1,e2⟩
 item:=by
  intro X G J F f n a6 s σ H E I p g r;subst G J F;obtain ⟨R,x,m,S⟩:=r;obtain ⟨i,C,j,_⟩:=I.tuple m;have j:s.heap.IsTuple a i.toArray:=j;obtain ⟨u,T,ru⟩:=C.get S;have D:=z47 (prog:=X.prog) (w:=X.w) (A:=X.A.in1) (I.ok.hd f) it a nai i.toArray;have a4:n < i.toArray.size:=by have:=(List.getElem?_eq_some_iff.mp T).1;simpa using this
  obtain ⟨⟨old,M⟩,U⟩:=g;refine wpAny_pyNext_enum_itemD D M ⟨U,j⟩ a4 ne (by simp [ne,nae.symm]) λ y N t l a1 a3 tT hz B=>?_;have l:i[n]? = some y:=by simpa using l
  rw [T] at l;cases l;have a5:e < s.heap.objs.size:=F0 M;have a2:it < s.heap.objs.size:=by obtain ⟨o,z,_⟩:=U;exact F0 z
  have Q:s.heap.objs.size≠e:=X1 a5;have nT:s.heap.objs.size∉[e,it]:=by simp only [A3,B0,or_false,not_or];exact ⟨Q,X1 a2⟩
  refine ⟨_,rfl,F9 a1 λ L a0 sb=>?_⟩;have Y :∀b o,b∉[e,it]->s.heap.get? b=some o->L.get? b=some o:=λ b o q z=>by simp only [A3,B0,or_false,not_or] at q;exact (sb.2 b q.1).trans (B b o q.1 q.2 z)
  have O:=(sb.2 _ Q).trans tT;have Z:=a3.1.elim λ o z=>(⟨o,(sb.2 it ne.symm).trans z.1,z.2⟩:L.IsTupleIter it a (n + 1))
  have fr:H s.heap.objs.size=none:=I.hok.fresh (A0 _);refine ⟨.ref s.heap.objs.size,upd H s.heap.objs.size (.tup [.int n,x]),I.turnedLaid (t':=t + 1) Y p (A0 _) ⟨w_2,[.int n t,u],.cons ⟨t,rfl⟩ (.cons ru .nil),⟨_,O,rfl,_,rfl⟩,_,O,rfl⟩,rfl,⟨_,fr,rfl,λ a8 a7=>⟨x,?_,rfl⟩⟩,⟨⟨_,a0⟩,Z⟩,λ c f=>?_⟩
  ·rw [I.tuple_inj a7 m];exact S
  ·rw [upd_ne (λ (z:c=s.heap.objs.size)=>nT (z ▸ f))];exact (p c f).1
 done:=by
  intro X G J F f n a6 s σ H E I p g r;subst G J F;obtain ⟨R,m,rfl⟩:=r;obtain ⟨i,C,j,_⟩:=I.tuple m;have j:s.heap.IsTuple a i.toArray:=j;have D:=z47 (prog:=X.prog) (w:=X.w) (A:=X.A.in1) (I.ok.hd f) it a nai i.toArray;have W:=WalksT.enumerateD D e ne (by simp [ne,nae.symm]) (by simp);have V:i.toArray.size=R.length:=by simpa using C.length.symm
  exact W.done s _ E (by rw [V];exact ⟨g.1,g.2,j⟩) λ N tk B=>⟨rfl,I.turnedL (t':=tk) (λ c o f e=>B c o f e) p⟩
 self:=λ _ _ _ _ _ g h=>g.1.elim λ old z=>J6 z h
noncomputable def ieT (K:c0) (ta:TA):TI:=λ σ H R=>ta σ H λ vs H1=>∃a xs,vs=[.ref a]/\SqT K H1 a xs/\R (IteT K a) H1
theorem zec {X:Cx} {elts:List Expr} {x1:Nat} {tpos:Pos} {e:Expr} {ta:TA} {p pos:Pos} (hg:Gl X "enumerate") (hm:X.mg "enumerate" = none) (ha:PA X [e] ta) (hs:D1 [e] X.env=[(false,P3 e X.env)]:=by rfl) :
  PI X (.Tuple elts x1 tpos) (.Call (.Name "enumerate" p) [e] [] pos) (ieT X.K ta):=by
 intro t s σ H R I h;refine Call_ (ld_blt I hg hm boot_enumerate (O3 (thn (ha pos t s σ H _ I h) λ z d ⟨vs,H1,I1,r1,q1⟩=>?_) (by rw [hs];rfl) rfl));obtain ⟨a,y,m,r,q⟩:=q1;subst m;obtain ⟨u,rfl,n⟩:=vals1 r1;cases (show u=C1 a from n);obtain ⟨v,x,b,_⟩:=I1.tuple r;have b:d.heap.IsTuple a v.toArray:=b;have f:a < d.heap.objs.size:=by obtain ⟨o,e,_⟩:=id b;exact F0 e
 refine zdj b λ w j k _ l=>?_;refine J6 j ?_;refine ⟨_,_,_,_,H1,rfl,I1.kept (t':=d.toks) l,z9q (X1 (A2 _)) (O0 (i1 f)) (O0 f),⟨⟨_,j⟩,k⟩,λ c i=>?_,q⟩;have g:d.heap.objs.size<=c:=by
  simp only [A3,B0,or_false] at i;rcases i with rfl|rfl
  ·exact y8 _ _
  ·exact A0 _
 exact I1.fpOk g (I1.hok.fresh g)
theorem zc3 {K:c0} {a:Addr} {xs:List V} {g:TG} {tb:TS} {D:Ends} {σ:St} {H:Hp} (Pv:Nat->St->Hp->Prop) (h0:Pv 0 σ H) (hl :∀i σ H,Pv i σ H->SqT K H a xs)
  (hs :∀i x σ H p,xs[i]? = some x->Pv i σ H->H p=none->g (.ref p) σ (upd H p (.tup [.int i,x])) λ σ2 H2=>tb { D with nx:=Pv (i + 1),ct:=Pv (i + 1),bk:=D.nx } σ2 H2) (hd :∀σ H,Pv xs.length σ H->D.nx σ H) :
  ∃W:Nat->Nat->St->Hp->Prop,(∃m,W 0 m σ H)/\∀i m σ H,W i m σ H->
   ((IteT K a).stop i H/\D.nx σ H)\/((IteT K a).go i H/\∃N:St->Hp->Prop,(∀σ' H',N σ' H'->∃m',m' < m/\W (i + 1) m' σ' H')/\∀x H',(IteT K a).yld i H x H'->g x σ H' λ σ2 H2=>tb { D with nx:=N,ct:=N,bk:=D.nx } σ2 H2):=by
 refine ⟨λ i m σ H=>m=xs.length - i/\i<=xs.length/\Pv i σ H,⟨xs.length,by simp,L1 _,h0⟩,?_⟩;rintro i m σ H ⟨rfl,hi,p⟩;have b:=hl i σ H p;by_cases hlt:i < xs.length
 ·refine .inr ⟨⟨xs,xs[i],b,by simp [hlt]⟩,Pv (i + 1),λ σ' H' f=>⟨xs.length - (i + 1),by omega,rfl,hlt,f⟩,λ v H' y=>?_⟩;obtain ⟨t,j,rfl,h⟩:=y;obtain ⟨d,c,rfl⟩:=h xs b;exact hs i d σ H t c p j
 ·have e:i=xs.length:=by omega
  subst e;exact .inl ⟨⟨xs,b,rfl⟩,hd σ H p⟩
end L2
set_option maxHeartbeats 400000
namespace L2
open PySem PySem.Spec PyProof.Rows
section
variable {X:Cx}
theorem zcz (hc:X.calm=true):CallR X (.builtin "sum") (λ xs H Q=>∃(p:Addr) (ns:List Int),xs=[.ref p]/\SqL X.K H p (ns.map V.int)/\Q (.int ns.sum) H):=by
 intro F s σ H xs G Q I r h;obtain ⟨p,ns,rfl,C,q⟩:=h;obtain ⟨u,rfl,D⟩:=vals1 r;cases D;obtain ⟨f,l,d,E⟩:=I.list C;have B:p≠s.heap.objs.size:=by obtain ⟨o,e,_⟩:=d.isList;exact O0 (F0 e)
 have k:f.length=ns.length:=by have:=l.length;rw [D0] at this;exact this.symm
 refine call_sum_walkAnyS (G5 d.isList ?_);refine ⟨s.heap.objs.size,_,_,_,_,_,_,λ i=>ns[i]?.getD 0,rfl,(Walks.list (show X.A.in1.handled=none from I.ok.hd hc) s.heap.objs.size p B f.toArray).toS,⟨⟨_,I0 _ rfl,rfl,rfl⟩,d.isList.at λ o e=>v0 _ e⟩,?_,?_,?_⟩
 ·intro b c;simp only [A3,B0,or_false] at c;rcases c with rfl|rfl
  ·rw [S3];exact A2 _
  ·obtain ⟨o,e,_⟩:=d.isList;exact F0 (v0 _ e)
 ·intro i v a;have a:f[i]? = some v:=by simpa using a
  obtain ⟨w,e⟩:=List.getElem?_eq_some_iff.mp a;have j:i < ns.length:=by rw [<-k];exact w
  obtain ⟨u,m,g⟩:=l.get (i:=i) (x:=.int ns[i]) (by simp [j]);rw [a] at m;cases m;obtain ⟨t,g⟩:=g;exact ⟨t,by show v=D5 (ns[i]?.getD 0) t;rw [M0 j];exact g⟩
 ·intro y t' n;have e:preSum (λ i=>ns[i]?.getD 0) f.toArray.size=ns.sum:=by rw [J0,k,z42 ns _ (A0 _),K3]
  rw [e,n.eq_with];refine ⟨.int _,H,I.kept (t':=y.toks) λ b o z=>n.heap b o ?_ (v0 _ z),⟨_,rfl⟩,q⟩;intro c;rw [List.mem_singleton.mp c] at z;exact absurd (F0 z) (X2 _)
end
mutual
noncomputable def IsPd (K:c0) (H:Hp):PyData->V->Prop
 | .none,v=>v=.non
 | .bool b,v=>v=.bl b
 | .int i,v=>v=.int i
 | .str z,v=>v=.str z
 | .list ds,v=>∃a xs,v=.ref a/\SqL K H a xs/\IsPds K H ds xs
 | .tuple ds,v=>∃a xs,v=.ref a/\SqT K H a xs/\IsPds K H ds xs
 | .dict _,_=>False
noncomputable def IsPds (K:c0) (H:Hp):List PyData->List V->Prop
 | [],xs=>xs=[]
 | d :: ds,xs=>∃x r,xs=x :: r/\IsPd K H d x/\IsPds K H ds r
end
section
variable {X:Cx} {pins:List (Addr×Obj)} {σ:St} {H:Hp} {s:y0}
mutual
theorem z73 (I:Inv X pins σ H s) :∀(d:PyData) (v:V) (u:Value),IsPd X.K H d v->RelV v u->∃as,Reads s.heap u d as
 | .none,v,u,h,r=>by cases (show v=.non from h);cases (show u=.none from r);exact ⟨_,.none⟩
 | .bool b,v,u,h,r=>by cases (show v=.bl b from h);cases (show u=.bool b from r);exact ⟨_,.bool b⟩
 | .int i,v,u,h,r=>by cases (show v=.int i from h);obtain ⟨t,rfl⟩:=r;exact ⟨_,.int i t⟩
 | .str z,v,u,h,r=>by cases (show v=.str z from h);obtain ⟨t,rfl⟩:=r;exact ⟨_,.str z t⟩
 | .list ds,v,u,h,r=>by obtain ⟨a,j,rfl,e,q⟩:=h;cases (show u=.ref a from r);obtain ⟨m,g,c,_⟩:=I.list e;obtain ⟨o,k,p,n,l⟩:=c.isList;obtain ⟨as,f⟩:=z57 I ds j m q g;exact ⟨_,.list k p l f⟩
 | .tuple ds,v,u,h,r=>by obtain ⟨a,j,rfl,e,q⟩:=h;cases (show u=.ref a from r);obtain ⟨m,g,c,_⟩:=I.tuple e;obtain ⟨o,k,p,n,l⟩:=c;obtain ⟨as,f⟩:=z57 I ds j m q g;exact ⟨_,.tuple k p l f⟩
 | .dict _,v,u,h,r=>h.elim
theorem z57 (I:Inv X pins σ H s) :∀(ds:List PyData) (xs:List V) (us:List Value),IsPds X.K H ds xs->Vals xs us->∃as,ReadsAll s.heap us ds as
 | [],xs,us,h,r=>by cases (show xs=[] from h);cases r;exact ⟨_,.nil⟩
 | d :: ds,xs,us,h,r=>by
  obtain ⟨x,t,rfl,a,b⟩:=h;cases r with
  | cons r1 r2=>obtain ⟨as,e⟩:=z73 I d x _ a r1;obtain ⟨bs,c⟩:=z57 I ds t _ b r2;exact ⟨_,.cons e c⟩
end
end
mutual
noncomputable def plainP:PyData->Bool
 | .none=>true
 | .bool _=>false
 | .int _=>true
 | .str z=>(PyData.str z).canLay0
 | .list ds=>z67 ds
 | .tuple ds=>z67 ds
 | .dict _=>false
noncomputable def z67:List PyData->Bool
 | []=>true
 | d :: ds=>plainP d && z67 ds
end
mutual
theorem z4b :∀d:PyData,plainP d=true->d.canLay0=true
 | .none,_=>rfl
 | .bool _,h=>by cases h
 | .int _,_=>rfl
 | .str _,h=>h
 | .list ds,h=>z3h ds h
 | .tuple ds,h=>z3h ds h
 | .dict _,h=>by cases h
theorem z3h :∀ds:List PyData,z67 ds=true->PyData.canLayAll0 ds=true
 | [],_=>rfl
 | d :: ds,h=>by have h:(plainP d && z67 ds)=true:=h;rw [P4] at h;show (d.canLay0 && PyData.canLayAll0 ds)=true;rw [z4b d h.1,z3h ds h.2];rfl
end
section
variable {X:Cx}
noncomputable def rNeP (K:c0):R2:=λ x y H Q=>∃d e,IsPd K H d x/\IsPd K H e y/\plainP d=true/\plainP e=true/\d.depth<=60/\Q (.bl (!d.eqv e)) H
theorem room60 {A:W1} {k m n:Nat} (hr:Room k A) (h:m<=60):A.units + min m n < cLine:=F1 (Nat.add_le_add_left (G0 (Nat.min_le_left _ _) (G0 h (by decide:60<=64))) _) hr.units
theorem op_neP {k:Nat} (hr:Room k X.A):OpR X (G2 .NotEq) (rNeP X.K):=by intro n s σ H x y v u Q I l c h;obtain ⟨d,e,hd,b,f,j,i,q⟩:=h;obtain ⟨m,a⟩:=z73 I d x v hd l;obtain ⟨bs,g⟩:=z73 I e y u b c;exact SeqAt.compareNe_reads a g (z4b _ f) (z4b _ j) (room60 hr i) ⟨.bl _,H,I,rfl,q⟩
end
end L2
set_option maxHeartbeats 1000000
namespace L2
open PySem PySem.Spec PyProof.Rows
section
variable {prog:Program} {w:P0} {A:W1} {E:Value->y0->Prop} {s:y0}
theorem z7n:entryFor table "dict.update.loop" = some O6.«dict.update.loop»:=by kernel_rfl
theorem zbb {l:Addr} {items:Array Value} {n:Nat} {sl:Array (Option Value)} {Q:Option Value->y0->Prop} (h:s.heap.get? l=some { cls:=.type "tuple",data:=.seq items n,slots:=sl }) (hh:A.handled=none)
  (q :∀h' tk,(∀b o,s.heap.get? b=some o->h'.get? b=some o)->Q none { s with heap:=h',toks:=tk }):Q0 (Y0 prog w) A (getAttr? (.ref l) (M3 "keys")) Q E s:=by
 unfold getAttr?;refine o0 (wpAny_mkText ?_);unfold getAttrBy? getAttrBy;have d:B7 { s with toks:=s.toks + 1 } (.ref l) "tuple":=⟨_,h,rfl⟩
 refine o0 (wpAny_attempt (E2 (o0 (G8 d ?_))));rw [show typeLookup (F4 "tuple") (M3 "__getattribute__")=E3 (some (.builtin "tuple.__getattribute__")) from rfl];refine o0 (C0 ?_);show Q0 _ _ (getAttrByItsOwn (.ref l) (.str (M3 "keys") s.toks) (.type "tuple") (.builtin "tuple.__getattribute__") false false) _ _ _;unfold getAttrByItsOwn;refine o0 (show Q0 _ _ (E3 none) _ _ _ from C0 ?_);refine o0 (wpAny_attempt (E2 ?_));show Q0 _ _ (boundAndCalled (.builtin "tuple.__getattribute__") (.ref l) (.str (M3 "keys") s.toks)) _ _ _;unfold boundAndCalled;rw [show bindSpecial (.builtin "tuple.__getattribute__") (.ref l)=E3 (Value.builtin "tuple.__getattribute__",[C1 l]) from rfl];refine o0 (C0 ?_);show Q0 _ _ (call (.builtin "tuple.__getattribute__") [.ref l,.str (M3 "keys") s.toks]) _ _ _;refine call_meets F.slot_tuple_getattribute d am_entry_tuple_getattribute (F.args_tuple_getattribute_2 _ _) (meets_getattribute_miss_tuple l items n sl (M3 "keys") s.toks rfl (by decide +kernel) (by decide +kernel)) ⟨h,hh,λ h' tk e c=>?_⟩;obtain ⟨t,u,f⟩:=c.there;have a:B7 { s with heap:=h',toks:=tk } (.ref e) "AttributeError":=⟨_,f,rfl⟩
 show Q0 _ _ (getattributeRaised (.ref l) _ (.type "tuple") (.ref e) none false false) _ _ _;unfold getattributeRaised;refine o0 (wpAny_isInstance a rfl ?_);show Q0 _ _ (hookBehind (.type "tuple") none >>= _) _ _ _;rw [show hookBehind (.type "tuple") none=E3 none from rfl];refine o0 (C0 ?_);show Q0 _ _ (throw (C1 e) >>= _) _ _ _;refine o0 (wpAny_throw ?_);show Q0 _ _ (isInstance (.ref e) (.type "AttributeError") >>= _) _ _ _;refine o0 (wpAny_isInstance a rfl ?_);exact C0 (q h' tk c.keeps)
theorem z7w (a:Args):(N6 "dict.update.loop" a).quiet=true:=plainId_quiet (by decide +kernel) _
def PairOf (prog:Program) (w:P0) (h:Heap) (p:Key×Value) (u:Value):Prop:=∃a kv,u=.ref a/\h.IsTuple a #[kv,p.2]/\(z0f prog w).is p.1 kv=true
theorem PairOf.kept {h h':Heap} {p:Key×Value} {u:Value} {L:List Addr} (k :∀b o,b∉L->h.get? b=some o->h'.get? b=some o) (nt :∀b∈L,∀o,h.get? b=some o->o.cls≠.type "tuple") (x:PairOf prog w h p u):PairOf prog w h' p u:=by obtain ⟨a,f,e,⟨o,d,c,n,g⟩,i⟩:=x;exact ⟨a,f,e,⟨o,k a o (λ z=>nt a z o d c) d,c,n,g⟩,i⟩
theorem z9z {a:Addr} {items:Array Value} {Q:List Value->y0->Prop} (h:s.heap.IsTuple a items) (q:Q items.toList s):Q0 (Y0 prog w) A (i8 (.ref a)) Q E s:=by obtain ⟨o,b,c,n,d⟩:=h;unfold i8;refine o0 (G8 (T:="tuple") ⟨o,b,c⟩ ?_);show Q0 _ _ (seqItems? (.ref a) >>= _) _ _ _;exact o0 (D9 b d (C0 q))
theorem z7l {d it l:Addr} {items:Array Value} (ndi:d≠it) (ndl:d≠l) (nil':it≠l) :∀(ps:List (Key×Value)) (i:Nat) (kvs:List (Key×Value)) (A:W1) (R:Result->y0->Prop) (s:y0),A.handled=none->s.heap.IsTupleIter it l i->s.heap.IsTuple l items->
  All2 (PairOf prog w s.heap) ps (items.toList.drop i)->a5 (z0f prog w) s.heap d kvs->kvs.length + ps.length<=sizeLine->
  (∀h' tk,a5 (z0f prog w) h' d (ps.foldl (λ acc p=>stored acc p.1 p.2) kvs)->(∀b o,b≠d->b≠it->s.heap.get? b=some o->h'.get? b=some o)->R (.ok (.ret .none)) { s with heap:=h',toks:=tk })->
  i5 (Y0 prog w) A (N6 "dict.update.loop" { pos:=[.ref d,.ref it,.int (i:Nat) 0,.none],kw:=[] }) R s
 | [],i,kvs,A,R,s,hh,si,sl,al,r,hz,q=>by
  have T:items[i]? = none:=by
   cases hd:items.toList.drop i with
   | nil=>have:=List.drop_eq_nil_iff.mp hd;rw [V0] at this;exact d5 this
   | cons u us=>rw [hd] at al;cases al
  refine Y3 z7n ?_;show Q0 _ _ (n8 (.ref it) >>= _) _ _ s;refine o0 (wpAny_pyNext_tuple_end (show (A.under _).handled=none from hh) si sl T λ h' J=>?_);show Q0 _ _ ((do Builtin.Dict.addKeywords d [];ret .none):Sem m7) _ _ _;refine o0 (show Q0 _ _ (E3 ()) _ _ _ from C0 ?_);have E:a5 (z0f prog w) h' d kvs:=by obtain ⟨o,t,v,f,m⟩:=r;exact ⟨o,t,v,J d o ndi f,m⟩
  exact C0 (q h' s.toks E λ b o _ k e=>J b o k e)
 | p :: ps,i,kvs,A,R,s,hh,si,sl,al,r,hz,q=>by
  cases hd:items.toList.drop i with
  | nil=>rw [hd] at al;cases al
  | cons u us=>
   rw [hd] at al;cases al with
   | cons pu al=>
    have P:items.toList[i]? = some u:=by have:=congrArg (λ l=>l[0]?) hd;simpa using this
    have hu:items[i]? = some u:=by simpa using P
    have a3:items.toList.drop (i + 1)=us:=by have:=congrArg List.tail hd;simpa using this
    obtain ⟨a,B,rfl,N,V⟩:=pu;refine Y3 z7n ?_;show Q0 _ _ (n8 (.ref it) >>= _) _ _ s;refine o0 (wpAny_pyNext_tuple_item si sl hu λ f Q F=>?_);have K :∀o,s.heap.get? it=some o->o.cls≠.type "tuple":=λ o e z=>by obtain ⟨W,n,c,_⟩:=si;rw [e] at n;cases n;rw [z] at c;exact absurd c (by decide)
    have Z :∀(h:Heap) (kvs:List (Key×Value)),a5 (z0f prog w) h d kvs->∀o,h.get? d=some o->o.cls≠.type "tuple":=λ h kvs r o e z=>by obtain ⟨W,t,v,n,c,_⟩:=r;rw [e] at n;cases n;have:=c.1;rw [z] at this;exact absurd this (by decide)
    have C :∀b o,b∉[it]->s.heap.get? b=some o->f.get? b=some o:=λ b o k e=>(F.2 b (λ z=>k (by rw [z];exact List.mem_singleton.mpr rfl))).trans e;have X:f.IsTuple a #[B,p.2]:=by obtain ⟨o,j,g,e3⟩:=N;exact ⟨o,C a o (λ z=>K o (List.mem_singleton.mp z ▸ j) g) j,g,e3⟩
    have a2:All2 (PairOf prog w f) ps us:=z01 (λ x y z=>PairOf.kept C (λ b k o e=>K o (List.mem_singleton.mp k ▸ e)) z) al;have L:a5 (z0f prog w) f d kvs:=by obtain ⟨o,t,v,j,g⟩:=r;exact ⟨o,t,v,(F.2 d ndi).trans j,g⟩
    have S:f.IsTuple l items:=by obtain ⟨o,j,g⟩:=sl;exact ⟨o,(F.2 l (y3 nil')).trans j,g⟩
    refine o0 (E2 (o0 (wpAny_tryCatch (z9z (s:={ s with heap:=f }) X ?_))));show Q0 _ _ (t9 [B,p.2] (dictSet d B p.2)) _ _ _;refine E2 (wpAny_dictSet_pairs V L (λ m U D=>?_) (G0 (y8 _ _) hz));refine C0 ⟨z7w _,?_⟩;have G :∀b o,b∉[d]->f.get? b=some o->m.get? b=some o:=λ b o k e=>(D.2 b (λ z=>k (by rw [z];exact List.mem_singleton.mpr rfl))).trans e;have a0:All2 (PairOf prog w m) ps us:=z01 (λ x y z=>PairOf.kept G (λ b k o e=>Z f kvs L o (List.mem_singleton.mp k ▸ e)) z) a2;have Y:m.IsTupleIter it l (i + 1):=by obtain ⟨o,j,g⟩:=Q;exact ⟨o,(D.2 it (y3 ndi)).trans j,g⟩
    have O:m.IsTuple l items:=by obtain ⟨o,j,g⟩:=S;exact ⟨o,(D.2 l (y3 ndl)).trans j,g⟩
    have a1:(stored kvs p.1 p.2).length + ps.length<=sizeLine:=by
     have:(stored kvs p.1 p.2).length<=kvs.length + 1:=by
      unfold stored;split
      ·rw [D0];exact N5 _
      ·rw [L0];exact A0 _
     rw [v1] at hz;omega
    exact z7l ndi ndl nil' ps (i + 1) (stored kvs p.1 p.2) A R { s with heap:=m,toks:=s.toks + 1 } hh Y O (by rw [a3];exact a0) U a1 λ h' tk E M=>q h' tk E λ b o H I e=>M b o H I (G b o (λ z=>H (List.mem_singleton.mp z)) (C b o (λ z=>I (List.mem_singleton.mp z)) e))
theorem z6k {h:Heap} {D:Addr} (e:h.get? D=some { cls:=.type "dict",data:=.dict #[] }):a5 (z0f prog w) h D []:=by obtain ⟨o,c,b,a,r⟩:=B9 (knd:=z0f prog w) h;rw [I0 _ rfl] at a;cases a;exact ⟨_,c,b,e,r⟩
theorem z3t {D l:Addr} {items:Array Value} {n:Nat} {sl:Array (Option Value)} {ps:List (Key×Value)} {Q:y0->Prop} {A':W1} (hd:s.heap.get? D=some { cls:=.type "dict",data:=.dict #[] }) (hl:s.heap.get? l=some { cls:=.type "tuple",data:=.seq items n,slots:=sl }) (hh:A.handled=none) (hh':A'.handled=none)
  (al:All2 (PairOf prog w s.heap) ps items.toList) (hz:ps.length<=sizeLine)
  (q :∀h' tk,a5 (z0f prog w) h' D (merged [] ps)->(∀b o,b≠D->s.heap.get? b=some o->h'.get? b=some o)->Q { s with heap:=h',toks:=tk }) :
  Q0 (Y0 prog w) A (O6.«dict.__init__» { pos:=[.ref D,.ref l] }) (λ fin s'=>match fin with
   | .done f=>wants (λ r s₂=>r=V4/\Q s₂) E (.ok f) s'
   | .again c'=>c'.quiet=true/\i5 (Y0 prog w) A' c' (wants (λ r s₂=>r=V4/\Q s₂) E) s') (λ e s'=>wants (λ r s₂=>r=V4/\Q s₂) E (.error e) s') s:=by
 have t:D≠l:=λ z=>by rw [z,hl] at hd;exact absurd (show F4 "tuple" = F4 "dict" from congrArg Obj.cls (A1 hd)) (by decide)
 unfold O6.«dict.__init__» Builtin.Dict.selfAndRest;refine o0 (o0 (wpAny_notOrdered_dict ⟨_,hd,rfl⟩ ?_));refine o0 (show Q0 _ _ (E3 D) _ _ _ from C0 (C0 ?_));show Q0 _ _ (c8 "dict.__init__" D (.ref l) [] .none) _ _ _;unfold c8;refine o0 (G8 (T:="tuple") ⟨_,hl,rfl⟩ ?_);show Q0 _ _ (getAttr? (.ref l) (M3 "keys") >>= _) _ _ _;refine o0 (zbb hl hh λ h tk a=>?_);show Q0 _ _ (rule _ >>= _) _ _ _;refine o0 (k8 (o0 (v4 (items:=items) ⟨_,a _ _ hl,rfl,_,rfl⟩ ?_)));refine C0 ⟨z7w _,?_⟩;have k:=F0 (a _ _ hd);have p:=F0 (a _ _ hl);have c :∀b o,s.heap.get? b=some o->(h.push { cls:=.type "tuple_iterator",data:=.fields #[.ref l,.int 0 0] }).get? b=some o:=λ b o e=>v0 _ (a b o e);refine z7l (d:=D) (it:=h.objs.size) (l:=l) (items:=items) (O0 k) t (X1 p) ps 0 [] A' _ _ hh' ⟨_,I0 _ rfl,rfl,rfl⟩ ⟨_,c _ _ hl,rfl,_,rfl⟩ ?_ ?_ (by simpa using hz) λ h' i m j=>⟨rfl,q h' i m λ b o g e=>j b o g (λ z=>?_) (c b o e)⟩
 ·rw [n5];exact z01 (λ x y z=>PairOf.kept (L:=[]) (λ b o _ e=>c b o e) (λ b g=>absurd g B0) z) al
 ·exact z6k (c _ _ hd)
 ·rw [z] at e;exact absurd (F0 (a _ _ e)) (X2 _)
end
section
variable {X:Cx}
theorem z9g {pins:List (Addr×Obj)} {σ:St} {H:Hp} {s:y0} (I:Inv X pins σ H s) :∀{kvs:List (Key×V)} {ys:List V} {its:List Value},All2 (λ (p:Key×V) y=>∃b,y=.ref b/\SqT X.K H b [kV p.1,p.2]) kvs ys->Vals ys its->
  ∃ps,KV kvs ps/\All2 (PairOf X.prog X.w s.heap) ps its
 | [],_,_,.nil,r=>by cases r;exact ⟨[],.nil,.nil⟩
 | p :: kvs,_,_,.cons ⟨b,e,sb⟩ al,r=>by
  cases r with
  | cons r1 r2=>
   subst e;obtain ⟨ps,c,d⟩:=z9g I al r2;obtain ⟨its,a,tb,_⟩:=I.tuple sb;cases a with
   | cons ra a=>
    cases a with
    | cons rb a=>cases a;rename_i u1 u2;exact ⟨(p.1,u2) :: ps,.cons ⟨rfl,rb⟩ c,.cons ⟨b,u1,r1,tb,kV_is ra⟩ d⟩
theorem z62 (kvs:List (Key×V)) :∀more:List (Key×V),(mergeK kvs more).length<=kvs.length + more.length
 | []=>A0 _
 | p :: more=>by have a:=z62 (putK kvs p.1 p.2) more;have b:=z1k kvs p.1 p.2;show (mergeK (putK kvs p.1 p.2) more).length<=_;rw [v1];omega
end
end L2
set_option maxHeartbeats 400000
namespace L2
open PySem PySem.Spec PyProof.Rows
structure RunsR (S:Hp->Hp->Prop) (J:It) (H1:Hp) (n:Nat) (Item:Nat->V->Hp->Prop):Prop where
 go :∀i,i < n->∀H,S H1 H->J.go i H
 stop :∀H,S H1 H->J.stop n H
 item :∀i,i < n->∀H v H',S H1 H->J.yld i H v H'->S H H'/\Item i v H'
theorem z2q {S:Hp->Hp->Prop} {J:It} {H1:Hp} {n m:Nat} {Item:Nat->V->Hp->Prop} {fr:List (Nat×Str)} {g:TG} {tc:TT} {te:TE} {σ:St} {Q:VK} (s0:S H1 H1) (st :∀a b c,S a b->S b c->S a c) (p:Nat->Bool) (R:Nat->V->Hp->Prop) (hR :∀i y H H',S H H'->R i y H->R i y H') (r:RunsR S J H1 n Item) (hn:n<=sizeLine)
  (body :∀i,i < n->∀v H,S H1 H->Item i v H->∀(KT:VK) (KF:Hp->Prop),(p i=true->∀y H',S H H'->R i y H'->KT y H')->(p i=false->∀H',S H H'->KF H')->
   g v (cStG σ fr (U2 m none)) H λ σ6 H6=>∃us,us.length=m/\σ6=cStG σ fr us/\tc (cStG σ fr us) H6 λ b H2=>if b=true then te (cStG σ fr us) H2 KT else KF H2)
  (hQ :∀l H' ys,S H1 H'->H' l=none->All2 (λ i y=>R i y H') ((Z1 n).filter p) ys->Q (.ref l) (upd H' l (.lst ys))) :
  ∃W:Nat->Nat->List V->Hp->Prop,(∃m,W 0 m [] H1)/\∀i k ys H,W i k ys H->
   (J.stop i H/\ys.length<=sizeLine/\∀p,H p=none->Q (.ref p) (upd H p (.lst ys)))\/
   (J.go i H/\ys.length<=sizeLine/\∀v H',J.yld i H v H'->g v (cStG σ fr (U2 m none)) H' λ σ6 H6=>∃us,us.length=m/\σ6=cStG σ fr us/\tc (cStG σ fr us) H6 λ b H2=>if b=true then te (cStG σ fr us) H2 λ y H3=>∃m',m' < k/\W (i + 1) m' (ys++[y]) H3 else∃m',m' < k/\W (i + 1) m' ys H2):=by
 refine ⟨λ i k ys H'=>k=n - i/\i<=n/\S H1 H'/\All2 (λ i y=>R i y H') ((Z1 i).filter p) ys,⟨n,by simp,L1 _,s0,.nil⟩,?_⟩;rintro i k ys H' ⟨rfl,hi,sm,fa⟩;have j:ys.length<=sizeLine:=by rw [z03 fa];have:=Z0 p (Z1 i);rw [k5] at this;omega
 by_cases hlt:i < n
 ·refine .inr ⟨r.go i hlt H' sm,j,λ v H2 y=>?_⟩;obtain ⟨d,o⟩:=r.item i hlt H' v H2 sm y;refine body i hlt v H2 (st _ _ _ sm d) o _ _ (λ h y H3 f q=>⟨n - (i + 1),by omega,rfl,hlt,st _ _ _ (st _ _ _ sm d) f,?_⟩) (λ h H3 f=>⟨n - (i + 1),by omega,rfl,hlt,st _ _ _ (st _ _ _ sm d) f,?_⟩)
  ·rw [z14,if_pos h];exact z3c (z01 (λ a b z=>hR a b _ _ (st _ _ _ d f) z) fa) q
  ·rw [z14,if_neg (by rw [h];decide),O2];exact z01 (λ a b z=>hR a b _ _ (st _ _ _ d f) z) fa
 ·have e:i=n:=by omega
  subst e;exact .inl ⟨r.stop H' sm,j,λ l s=>hQ l H' ys sm s fa⟩
theorem zab {S:Hp->Hp->Prop} {K:c0} {a:Addr} {xs:List V} {H1:Hp} (hs :∀H,S H1 H->S H H) (hq :∀H,S H1 H->SqL K H a xs):RunsR S (Itl K a) H1 xs.length (λ i v _=>xs[i]? = some v):=
 ⟨λ i b H s=>⟨xs,xs[i],hq H s,by simp [b]⟩,λ H s=>⟨xs,hq H s,A0 _⟩,λ i b H v c s y=>by obtain ⟨e,y⟩:=y;subst e;exact ⟨hs _ s,y xs (hq _ s)⟩⟩
theorem zc7 {S:Hp->Hp->Prop} {K:c0} {a:Addr} {xs:List V} {H1:Hp} (hs :∀H,S H1 H->S H H) (hq :∀H,S H1 H->SqT K H a xs):RunsR S (Itt K a) H1 xs.length (λ i v _=>xs[i]? = some v):=
 ⟨λ i b H s=>⟨xs,xs[i],hq H s,by simp [b]⟩,λ H s=>⟨xs,hq H s,A0 _⟩,λ i b H v c s y=>by obtain ⟨e,y⟩:=y;subst e;exact ⟨hs _ s,y xs (hq _ s)⟩⟩
def Ris (xs:Array Nat):Prop:=xs.toList.Pairwise (· < ·)
theorem Ris.lt {xs:Array Nat} (r:Ris xs) {i k:Nat} (h:i < k) (hk:k < xs.size):xs[i]'(V5 h hk) < xs[k]:=by have:=(List.pairwise_iff_getElem.mp r) i k (by simpa using V5 h hk) (by simpa using hk) h;simpa using this
theorem zep {xs:Array Nat} {i d:Nat} (h:i < xs.size):xs.getD i d=xs[i]:=by simp [Array.getD,h]
theorem z6m {xs:Array Nat} {j:Nat} (r:Ris xs) :∀(f lo hi:Nat),lo<=hi->hi<=xs.size->hi - lo<=f->(∀i (h:i < xs.size),i < lo->xs[i] < j)->(∀i (h:i < xs.size),hi<=i->j<=xs[i])->
  K5 xs j f lo hi<=xs.size/\(∀i (h:i < xs.size),i < K5 xs j f lo hi->xs[i] < j)/\(∀i (h:i < xs.size),K5 xs j f lo hi<=i->j<=xs[i])
 | 0,lo,hi,h1,h2,h3,ha,hb=>by
  have:lo=hi:=by omega
  subst this;exact ⟨h2,ha,hb⟩
 | f + 1,lo,hi,h1,h2,h3,ha,hb=>by
  unfold K5;by_cases z:lo < hi
  ·rw [if_pos z];have a:(lo + hi) / 2 < xs.size:=by omega
   dsimp only;rw [zep a];by_cases y:xs[(lo + hi) / 2] < j
   ·rw [if_pos y];refine z6m r f _ _ (by omega) h2 (by omega) (λ i h b=>?_) hb;by_cases e:i=(lo + hi) / 2
    ·subst e;exact y
    ·exact V5 (r.lt (by omega) a) y
   ·rw [if_neg y];refine z6m r f _ _ (by omega) (by omega) (by omega) ha λ i h b=>?_;by_cases e:i=(lo + hi) / 2
    ·subst e;omega
    ·exact G0 (Nat.not_lt.mp y) (V6 (r.lt (by omega) h))
  ·rw [if_neg z];have:lo=hi:=by omega
   subst this;exact ⟨h2,ha,hb⟩
theorem zad {xs:Array Nat} (r:Ris xs) (j:Nat):Y1 xs j<=xs.size/\(∀i (h:i < xs.size),i < Y1 xs j->xs[i] < j)/\(∀i (h:i < xs.size),Y1 xs j<=i->j<=xs[i]):=
 z6m r _ _ _ (L1 _) (A0 _) (A0 _) (λ i h z=>absurd z (P8 _)) (λ i h z=>absurd h (Nat.not_lt.mpr z))
theorem z3p {α:Type} (xs:Array α) (p:Nat) (x:α) (hp:p<=xs.size):(G7 xs p x).toList=xs.toList.take p++x :: xs.toList.drop p:=by unfold G7;simp [y9]
theorem Ris.insert {xs:Array Nat} (r:Ris xs) {j:Nat} (h:¬ xs[Y1 xs j]? = some j):Ris (G7 xs (Y1 xs j) j):=by
 obtain ⟨p,m,g⟩:=zad r j;unfold Ris;rw [z3p _ _ _ p];refine List.pairwise_append.mpr ⟨r.sublist (List.take_sublist _ _),List.pairwise_cons.mpr ⟨λ y o=>?_,r.sublist (List.drop_sublist _ _)⟩,λ a w b f=>?_⟩
 ·obtain ⟨i,d,e⟩:=List.mem_drop_iff_getElem.mp o;have l:Y1 xs j + i < xs.size:=by simpa [Nat.add_comm] using d
  have c:xs[Y1 xs j + i]=y:=by simpa using e
  have le:=g _ l (by omega);rw [c] at le;rcases Nat.lt_or_eq_of_le le with z|z
  ·exact z
  ·exfalso;have f:Y1 xs j < xs.size:=by omega
   have x:=g _ f (A0 _);have:xs[Y1 xs j]=j:=by
    by_cases i0:i=0
    ·subst i0;exact c.trans z.symm
    ·have:=r.lt (show Y1 xs j < Y1 xs j + i by omega) l;rw [c] at this;omega
   exact h (by rw [Q4 f,this])
 ·obtain ⟨i,d,e⟩:=List.mem_take_iff_getElem.mp w;have n:i < xs.size:=by have:=d;simp at this;omega
  have q:i < Y1 xs j:=by have:=d;simp at this;omega
  have lt:=m i n q;have c:xs[i]=a:=by simpa using e
  rw [c] at lt;rcases List.mem_cons.mp f with z|z
  ·rw [z];exact lt
  ·obtain ⟨k,u,t⟩:=List.mem_drop_iff_getElem.mp z;have s:Y1 xs j + k < xs.size:=by simpa [Nat.add_comm] using u
   have v:xs[Y1 xs j + k]=b:=by simpa using t
   have:=g _ s (by omega);rw [v] at this;omega
theorem zcf (n:Nat):Ris (Array.range n):=by unfold Ris;rw [Array.toList_range];exact z9
def z64 (t:z6) (j:Nat):Prop:=¬ t.place[Y1 t.place j]? = some j
theorem z5p {t:z6} {j:Nat} (h :∀i,t.slot j≠.live i):z64 t j:=λ e=>by refine h (Y1 t.place j) ?_;unfold SetTable.slot;dsimp only;rw [if_pos (by rw [e];exact beq_self_eq_true _)]
theorem z3d {t:z6} {hs:Nat->Int} {h:Int} :∀(f:Nat) (p:SetTable.Probe) (j:Nat) (d:Option Nat),(∀k,p.dummy=some k->z64 t k)->M8 t hs h f p=some (.empty j d)->z64 t j/\∀k,d=some k->z64 t k
 | 0,p,j,d,hd,e=>by cases e
 | f + 1,p,j,d,hd,e=>by
  unfold M8 at e;cases q:t.slot p.j with
  | empty=>rw [q] at e;cases e;exact ⟨z5p (λ i z=>by rw [q] at z;cases z),hd⟩
  | dummy=>rw [q] at e;refine z3d f _ j d (λ k z=>?_) e;unfold R9 at z;dsimp only at z;split at z<;>(cases z;exact z5p λ i z=>by rw [q] at z;cases z)
  | live i=>
   rw [q] at e;dsimp only at e;split at e
   ·cases e
   ·refine z3d f _ j d (λ k z=>?_) e;unfold R9 at z;dsimp only at z;split at z<;>exact hd k z
theorem z8c {t:z6} {h:Int} {s:Nat} {b:Bool} (e:t.freeSlot h=some (s,b)):z64 t s:=by
 unfold SetTable.freeSlot at e;cases q:t.probe (λ _=>h + 1) h (t.probeStart h) with
 | none=>rw [q] at e;cases e
 | some m=>
  rw [q] at e;cases m with
  | candidate a b c=>cases e
  | empty j d=>
   have:=z3d _ _ j d (λ k z=>by cases z) q;cases e;cases d with
   | none=>exact this.1
   | some k=>exact this.2 k rfl
def Tidy (l:Bool) (t:z6):Prop:=t.led=l/\Ris t.place
theorem Tidy.standIn {l:Bool} {t:z6} (h:Tidy l t) (n:Nat):Tidy l (t.standIn n):=⟨h.1,zcf n⟩
theorem Tidy.layNew {l:Bool} {t:z6} (h:Tidy l t) (es:Array (Int×Value)) (k:Int) (x:Value):Tidy l (layNew t es k x).2.1:=by
 unfold PySem.layNew;cases q:t.freeSlot k with
 | none=>exact h.standIn _
 | some s=>
  obtain ⟨s,b⟩:=s;dsimp only;have a:Tidy l (t.put s).1:=⟨h.1,Ris.insert h.2 (z8c q)⟩
  unfold SetTable.orStandIn;split
  ·exact a
  ·exact a.standIn _
theorem Tidy.relayAll {l:Bool} {t:z6} (h:Tidy l t) (es:Array (Int×Value)) (n:Nat):Tidy l (G9 t es n).2.1:=by
 unfold PySem.relayAll;cases q:t.relaid (es.map (·.1)) n with
 | none=>exact h.standIn _
 | some p=>
  obtain ⟨j,o⟩:=p;dsimp only;split
  ·unfold SetTable.relaid SetTable.laid at q;cases q2:SetTable.layClean (SetTable.sizeAbove n - 1) (es.map (·.1)) with
   | none=>rw [q2] at q;cases q
   | some ow=>rw [q2] at q;cases q;refine ⟨h.1,?_⟩;show (List.map _ _).Pairwise _;rw [j5];refine List.Pairwise.filterMap _ (λ a b e c g d hd=>?_) (z9);obtain ⟨m,_,f⟩:=Option.map_eq_some_iff.mp g;obtain ⟨k,_,i⟩:=Option.map_eq_some_iff.mp hd;rw [<-f,<-i];exact e
  ·exact h.standIn _
end L2
set_option maxHeartbeats 1000000
namespace L2
open PySem PySem.Spec PyProof.Rows
noncomputable def intOf:Value->Int
 | .int i _=>i
 | _=>0
theorem z4h {vs:List Value} {ns:List Int} (h:C3 vs ns):ns=vs.map intOf/\∀v∈vs,∃i t,v=.int i t:=by
 induction h with
 | nil=>exact ⟨rfl,λ v a=>by cases a⟩
 | cons n t r ih=>
  refine ⟨by rw [ih.1];rfl,λ v a=>?_⟩;rcases List.mem_cons.mp a with e|a
  ·exact ⟨n,t,e⟩
  ·exact ih.2 v a
theorem zb0 :∀vs:List Value,(∀v∈vs,∃i t,v=.int i t)->C3 vs (vs.map intOf)
 | [],_=>.nil
 | v :: vs,h=>by obtain ⟨i,t,e⟩:=h v (.head _);subst e;exact .cons i t (zb0 vs λ v a=>h v (.tail _ a))
theorem z7u {vs vs':List Value} {ns:List Int} (h:C3 vs ns) (p:vs'.Perm vs) :∃ns',C3 vs' ns'/\ns'.Perm ns:=by obtain ⟨e,k⟩:=z4h h;refine ⟨vs'.map intOf,zb0 vs' λ v a=>k v (p.mem_iff.mp a),?_⟩;rw [e];exact p.map _
theorem z9p {vs:List Value} {ns:List Int} (h:C3 vs ns):ns.length=vs.length:=by rw [(z4h h).1,D0]
theorem zby {vs:List Value} {ns:List Int} (h:C3 vs ns) (n:Int) (t:Tok):C3 (vs++[.int n t]) (ns++[n]):=by
 induction h with
 | nil=>exact .cons n t .nil
 | cons m u r ih=>exact .cons m u ih
section
variable {prog:Program} {w:P0} {A:W1} {E:Value->y0->Prop} {s:y0}
def SetAt (prog:Program) (w:P0) (l:Bool) (h:Heap) (a:Addr) (ns:List Int):Prop:=
 ∃es ep t,h.get? a=some { cls:=.type "set",dict:=none,data:=.set es ep t,slots:=#[] }/\ElemsOf (N4 prog w) es.toList/\C3 (es.toList.map (·.2)) ns/\ns.Nodup/\es.size < scanBound/\t.fits es.size=true/\Tidy l t
theorem z84 {l:Bool} {h:Heap} {a:Addr} {es0 es:Array (Int×Value)} {ep:Nat} {t0 t:z6} {ns:List Int} (ho:h.get? a=some { cls:=.type "set",dict:=none,data:=.set es0 ep t0,slots:=#[] })
  (hel:ElemsOf (N4 prog w) es.toList) (hi:C3 (es.toList.map (·.2)) ns) (nd:ns.Nodup) (hb:es.size < scanBound) (hf:t.fits es.size=true) (ht:Tidy l t) :
  (h.update a (T7 es t)).get? a=some { cls:=.type "set",dict:=none,data:=.set es (ep + 1) t,slots:=#[] }/\SetAt prog w l (h.update a (T7 es t)) a ns:=by
 have g:(h.update a (T7 es t)).get? a=some { cls:=.type "set",dict:=none,data:=.set es (ep + 1) t,slots:=#[] }:=f7 (T7 es t) ho rfl;exact ⟨g,es,ep + 1,t,g,hel,hi,nd,hb,hf,ht⟩
theorem ze9 {es:List (Int×Value)} {ns:List Int} {v:Int} (hi:C3 (es.map (·.2)) ns) (h:es.findIdx? (λ e=>(N4 prog w).is v e.2)=none):¬ v∈ns:=λ a=>by
 obtain ⟨e,k⟩:=z4h hi;rw [e] at a;obtain ⟨y,c,j⟩:=List.mem_map.mp a;obtain ⟨p,f,g⟩:=List.mem_map.mp c;obtain ⟨i,t,b⟩:=k y c;have:=List.findIdx?_eq_none_iff.mp h p f;have d:v=i:=by rw [<-j,b];rfl
 have:(N4 prog w).is v p.2=false:=by simpa using this
 rw [g,b,d,intKind_is] at this;cases this
theorem zf3 {es:List (Int×Value)} {ns:List Int} {v:Int} {j:Nat} (hi:C3 (es.map (·.2)) ns) (h:es.findIdx? (λ e=>(N4 prog w).is v e.2)=some j):v∈ns:=by obtain ⟨a,b,_⟩:=List.findIdx?_eq_some_iff_getElem.mp h;obtain ⟨t,e⟩:=Value.isInt_shape (show M9 v es[j].2=true from b);rw [(z4h hi).1];exact List.mem_map.mpr ⟨es[j].2,List.mem_map.mpr ⟨es[j],C6 a,rfl⟩,by rw [e];rfl⟩
theorem zao {ns:List Int} {v:Int} (h:ns.Nodup) (n:¬ v∈ns):(ns++[v]).Nodup:=by refine List.nodup_append.mpr ⟨h,by simp,λ a c b d e=>?_⟩;rw [List.mem_singleton.mp d] at e;exact n (e ▸ c)
noncomputable def addI (ns:List Int) (v:Int):List Int:=if v∈ns then ns else ns++[v]
theorem zf8 {l:Bool} {a:Addr} {v:Int} {tk:Tok} {ns:List Int} {Q:Bool->y0->Prop} (hS:SetAt prog w l s.heap a ns) (hroom:ns.length + 1 < scanBound)
  (h :∀b h' ns',R5 a s.heap h'->SetAt prog w l h' a ns'->ns'.Perm (addI ns v)->Q b { s with heap:=h' }):Q0 (Y0 prog w) A (setAddHashed a (.int v tk) ((N4 prog w).hash v)) Q E s:=by
 obtain ⟨f,ep,t,m,u,n,nd,U,G,P⟩:=hS;have X:f.size=ns.length:=by rw [z9p n,D0,V0]
 have S:(N4 prog w).is v (.int v tk)=true:=intKind_is prog w v tk;unfold setAddHashed setAddHashedIn;refine E2 (o0 (wpAny_setState_of m rfl G ?_));dsimp only;rw [byScan_of rfl U u];simp only [↓reduceIte];unfold setAddByScan;refine o0 (o0 (k8 (o0 (wpAny_setScan_of S m rfl G u ?_))));cases hr:List.findIdx? (λ e=>(N4 prog w).is v e.2) f.toList with
 | some j=>refine C0 (C0 ?_);have:=h false s.heap ns (Heap.SameBut.refl a s.heap) ⟨f,ep,t,m,u,n,nd,U,G,P⟩ (by unfold addI;rw [if_pos (zf3 n hr)]);exact this
 | none=>
  dsimp only;have g:=layNew_perm t f ((N4 prog w).hash v) (.int v tk);have H:=layNew_fits t f ((N4 prog w).hash v) (.int v tk);have p:=P.layNew f ((N4 prog w).hash v) (.int v tk);generalize layNew t f ((N4 prog w).hash v) (.int v tk)=L at g H p⊢;obtain ⟨c,d,wd,Y⟩:=L;dsimp only at g H p⊢;rw [Array.toList_push] at g;have N:ElemsOf (N4 prog w) c.toList:=(u.push S rfl).perm g;have y :∃k,C3 (c.toList.map (·.2)) k/\k.Perm (ns++[v]):=z7u (zby n v tk) (by have:=g.map (λ e:Int×Value=>e.2);rwa [N2] at this);obtain ⟨k,y,D⟩:=y;have V:=ze9 n hr;have M:k.Nodup:=D.nodup_iff.mpr (zao nd V);have J:addI ns v=ns++[v]:=if_neg V;have C:c.size < scanBound:=by rw [<-V0,g.length_eq,L0,V0,X];exact hroom
  have T :∀(b:Bool) {F:y0} {Q':Unit->y0->Prop},Q' () F->Q0 (Y0 prog w) A (match b with|true=>rule "set.scan.the-table-gave-way" | false=>E3 ()) Q' E F:=λ b F Q' q=>by cases b with|false=>exact C0 q|true=>exact k8 q
  have a2:Q0 (Y0 prog w) A (do
    storeSet a c d
    if (!wd && d.tooFull)=true then do
      (match (G9 d c (p4 c.size)).2.2 with|true=>rule "set.scan.the-table-gave-way" | false=>E3 ())
      storeSet a (G9 d c (p4 c.size)).1 (G9 d c (p4 c.size)).2.1
      E3 (some true)
     else E3 (some true)) (λ r o=>∃b,r=some b/\Q b o) E s:=by
   obtain ⟨K,S1⟩:=z84 (prog:=prog) (w:=w) m N y M C H p;have sb:=W2 s.heap a (T7 c d);refine o0 (wpAny_storeSet_of m rfl ?_ (fits_of_scanBound C));split
   ·have i:=relayAll_perm d c (p4 c.size);have I:=relayAll_fits d c (p4 c.size);have B:=p.relayAll c (p4 c.size);generalize G9 d c (p4 c.size)=L2 at i I B⊢;obtain ⟨a1,t2,Z⟩:=L2;dsimp only at i I B⊢;obtain ⟨a0,W,R⟩:=z7u y (i.map (λ e:Int×Value=>e.2));have O:a1.size < scanBound:=by rw [<-V0,i.length_eq,V0];exact C
    refine o0 (T Z (o0 (wpAny_storeSet_of K rfl ?_ (fits_of_scanBound O))));obtain ⟨_,S2⟩:=z84 (prog:=prog) (w:=w) K (N.perm i) W (R.nodup_iff.mpr M) O I B;exact C0 ⟨true,rfl,h true _ a0 (sb.trans (W2 _ a _)) S2 (by rw [J];exact R.trans D)⟩
   ·exact C0 ⟨true,rfl,h true _ k sb S1 (by rw [J];exact D)⟩
  refine o0 (T Y ?_);have fin:=B3 a2 (Q':=λ r o=>Q0 (Y0 prog w) A (match r with|some added=>E3 added|none=>setAddHashedIn a (.int v tk) ((N4 prog w).hash v) 99999) Q E o) (E':=E) (λ r o x=>by obtain ⟨b,e,q⟩:=x;subst e;exact C0 q) (λ e o x=>x);by_cases z:d.plain=true
  ·rw [if_pos z];exact o0 (b9 (show hashByValue 8 (D5 v tk)=E3 true from rfl) fin)
  ·rw [if_neg z];exact o0 (C0 fin)
end
theorem zco {ns ms:List Int} (p:ns.Perm ms) (v:Int):(addI ns v).Perm (addI ms v):=by
 unfold addI;by_cases z:v∈ns
 ·rw [if_pos z,if_pos (p.mem_iff.mp z)];exact p
 ·rw [if_neg z,if_neg (λ y=>z (p.mem_iff.mpr y))];exact p.append_right [v]
theorem z22 :∀(vs:List Int) {ns ms:List Int},ns.Perm ms->(vs.foldl addI ns).Perm (vs.foldl addI ms)
 | [],_,_,p=>p
 | v :: vs,_,_,p=>z22 vs (zco p v)
theorem zbf (ns:List Int) (v:Int):(addI ns v).length<=ns.length + 1:=by
 unfold addI;split
 ·exact N5 _
 ·rw [L0];exact A0 _
section
variable {prog:Program} {w:P0} {A:W1} {E:Value->y0->Prop} {s:y0}
theorem SetAt.at' {l:Bool} {h h':Heap} {a:Addr} {ns:List Int} (k :∀o,h.get? a=some o->h'.get? a=some o) (x:SetAt prog w l h a ns):SetAt prog w l h' a ns:=by obtain ⟨c,b,t,e,r⟩:=x;exact ⟨c,b,t,k _ e,r⟩
theorem z7i (a:Args):(N6 "set.update.loop" a).quiet=true:=plainId_quiet (by decide +kernel) _
noncomputable def set0 (w:P0):Obj:={ cls:=.type "set",dict:=none,data:=.set #[] 0 (.fresh 0 0 (!w.params.followText "set-order")) }
theorem zde (a:Value) {Q₁:Value->y0->Prop} (h:Q₁ (.ref s.heap.objs.size) { s with heap:=s.heap.push (set0 w) }):i5 (Y0 prog w) A (.call (.builtin "set.__new__") ⟨[.type "set",a],[]⟩) (wants Q₁ E) s:=by refine S7 F.plain_set_new F.entry_set_new (b9 (F.newCall_set_1 a) ?_);show Q0 _ _ (Builtin.Frozenset.newClass "set" ⟨[.type "set",a],[]⟩ >>= _) _ _ _;refine o0 (o0 (show Q0 _ _ (E3 true) _ _ _ from C0 ?_));show Q0 _ _ (isSubtype (.type "set") (.type "set") >>= _) _ _ _;refine o0 (b9 sub_set_self ?_);refine C0 ?_;show Q0 _ _ (newSet (.type "set") >>= _) _ _ _;unfold newSet setsByText;refine o0 (o0 (o0 (wpAny_askSetting (C0 ?_))));exact o0 (wpAny_alloc (C0 (C0 h)))
theorem zfd {h:Heap} {a:Addr} (e:h.get? a=some (set0 w)):SetAt prog w (!w.params.followText "set-order") h a []:=
 ⟨#[],0,_,e,λ x b=>by simp at b,.nil,List.nodup_nil,by decide,by rfl,rfl,X6⟩
end
section
variable {X:Cx}
theorem z2i :∀(vs ns:List Int),(vs.foldl addI ns).length<=ns.length + vs.length
 | [],ns=>A0 _
 | v :: vs,ns=>by have a:=z2i vs (addI ns v);have b:=zbf ns v;show (vs.foldl addI (addI ns v)).length<=_;rw [v1];omega
end
end L2
set_option maxHeartbeats 400000
namespace HT
open PySem PySem.Spec PyProof.Rows L2
variable {prog:Program} {w:P0} {A:W1} {E:Value->y0->Prop} {s:y0}
end HT
namespace L2
open PySem PySem.Spec PyProof.Rows
theorem qs_if {X:Cx} {pos:Pos} {c:Expr} {a b:List Stmt} {t:TT} {ta tb:TS} (hc:PT X c t) (ha:QSs X a ta) (hb:QSs X b tb):QS X (.If c a b pos) (tIfS t ta tb):=⟨ps_if hc ha.run hb.run⟩
theorem zdq {f:List V->Hp->VK->Prop} {te tb:TE} {r:R2} {σ:St} {H:Hp} {Q:Bool->Hp->Prop} (h:te σ H λ x H1=>f [x] H1 λ y H2=>tb σ H2 λ z H3=>r y z H3 λ b H4=>∃k,b=.bl k/\Q k H4):tTest (tOp r (tCB f (tCons te tNil)) tb) σ H Q:=h
theorem z0u {c:TT} {a b:TS} {D:Ends} {σ:St} {H:Hp} (h:c σ H λ k H1=>if k=true then a D σ H1 else b D σ H1):tIfS c a b D σ H:=h
theorem z8k {K:c0} {a:Addr} {xs:List V} {H1:Hp} (hq:SqL K H1 a xs):RunsR Same (IteL K a) H1 xs.length (λ i v H=>∃x p,xs[i]? = some x/\v=.ref p/\H p=some (.tup [.int (i:Nat),x])):=by refine ⟨λ i b H s=>⟨xs,xs[i],s.seq hq,by simp [b]⟩,λ H s=>⟨xs,s.seq hq,rfl⟩,λ i b H v e s y=>?_⟩;obtain ⟨p,c,rfl,f⟩:=y;obtain ⟨x,d,rfl⟩:=f xs (s.seq hq);exact ⟨Same.upd c,x,p,d,rfl,z02⟩
end L2
set_option maxHeartbeats 1000000
namespace L2
open PySem PySem.Spec PyProof.Rows
section
variable {prog:Program} {w:P0} {A:W1} {E:Value->y0->Prop} {s:y0}
theorem zbh {b:Bool} {S it l:Addr} {items:Array Value} (nsi:S≠it) (nsl:S≠l) (nil':it≠l) :∀(ms:List Int) (i:Nat) (ns:List Int) (A:W1) (R:Result->y0->Prop) (s:y0),A.handled=none->s.heap.IsListIter it l i->s.heap.IsList l items->
  C3 (items.toList.drop i) ms->SetAt prog w b s.heap S ns->ns.length + ms.length < scanBound->
  (∀h' tk ns',SetAt prog w b h' S ns'->ns'.Perm (ms.foldl addI ns)->(∀c o,c≠S->c≠it->s.heap.get? c=some o->h'.get? c=some o)->R (.ok (.ret .none)) { s with heap:=h',toks:=tk })->
  i5 (Y0 prog w) A (N6 "set.update.loop" { pos:=[.ref S,.ref it],kw:=[] }) R s
 | [],i,ns,A,R,s,hh,si,sl,al,dd,hz,q=>by
  have D:items[i]? = none:=by
   cases hd:items.toList.drop i with
   | nil=>have:=List.drop_eq_nil_iff.mp hd;rw [V0] at this;exact d5 this
   | cons u us=>rw [hd] at al;cases al
  refine Y3 o5 ?_;show Q0 _ _ (n8 (.ref it) >>= _) _ _ s;refine o0 (L7 (show (A.under _).handled=none from hh) si sl D λ h' t=>?_);exact C0 (q h' s.toks ns (dd.at' λ o e=>t S o nsi e) (List.Perm.refl _) λ c o _ H e=>t c o H e)
 | m :: ms,i,ns,A,R,s,hh,si,sl,al,dd,hz,q=>by
  cases hd:items.toList.drop i with
  | nil=>rw [hd] at al;cases al
  | cons u us=>
   rw [hd] at al;cases al with
   | cons _ tk al=>
    have z:items.toList[i]? = some (.int m tk):=by have:=congrArg (λ l=>l[0]?) hd;simpa using this
    have I:items[i]? = some (.int m tk):=by simpa using z
    have M:items.toList.drop (i + 1)=us:=by have:=congrArg List.tail hd;simpa using this
    refine Y3 o5 ?_;show Q0 _ _ (n8 (.ref it) >>= _) _ _ s;refine o0 (y7 si sl I λ g B j=>?_);have C:g.IsList l items:=by obtain ⟨o,d,a⟩:=sl;exact ⟨o,(j.2 l (y3 nil')).trans d,a⟩
    have J:SetAt prog w b g S ns:=dd.at' λ o e=>(j.2 S nsi).trans e;rw [v1] at hz;refine o0 (E2 (show Q0 _ _ (setAdd S (.int m tk)) _ _ _ from ?_));unfold setAdd;refine E2 (o0 ((N4 prog w).pyHash (k:=m) (intKind_is prog w m tk) ?_));refine zf8 (s:={ s with heap:=g,toks:=s.toks + 1 }) J (F1 (by omega) hz) λ c f r h E v=>?_;refine C0 ⟨z7i _,?_⟩;have G:f.IsListIter it l (i + 1):=by obtain ⟨o,d,a⟩:=B;exact ⟨o,(h.2 it (y3 nsi)).trans d,a⟩
    have y:f.IsList l items:=by obtain ⟨o,d,a⟩:=C;exact ⟨o,(h.2 l (y3 nsl)).trans d,a⟩
    have N:r.length<=ns.length + 1:=by rw [v.length_eq];exact zbf ns m
    refine zbh nsi nsl nil' ms (i + 1) r A R { s with heap:=f,toks:=s.toks + 1 } hh G y (by rw [M];exact al) E (by omega) λ h' F ns' K L x=>q h' F ns' K (L.trans (z22 ms v)) λ c o n p e=>x c o n p ((h.2 c n).trans ((j.2 c p).trans e))
theorem z5g:isSubtype (.type "list") (.type "set")=E3 false:=by rw [isSubtype_type];kernel_rfl
theorem z3v:isSubtype (.type "list") (.type "frozenset")=E3 false:=by rw [isSubtype_type];kernel_rfl
theorem z78 {l:Addr} {items:Array Value} {ns:List Int} {Q:Value->y0->Prop} (hh:A.handled=none) (ht:s.heap.IsList l items) (hi:C3 items.toList ns) (hb:ns.length < scanBound)
  (h :∀h' tk ns',SetAt prog w (!w.params.followText "set-order") h' s.heap.objs.size ns'->ns'.Perm (ns.foldl addI [])->(∀b o,s.heap.get? b=some o->h'.get? b=some o)->Q (.ref s.heap.objs.size) { s with heap:=h',toks:=tk }) :
  Q0 (Y0 prog w) A (call (.type "set") [.ref l]) Q E s:=by
 obtain ⟨c,R,M⟩:=F.called_set.mro;have O:=F.called_set.made;have Y:=F.called_set.sub;refine m8 (codeAny_of_tree (show Q0 _ _ (callAny (.type "set") _) _ _ _ from C0 ⟨Code.quiet_builtin _ (by decide +kernel),Y3 F.entry_type_call ?_⟩));rw [j00 (weight_type_call_type "set" [.ref l] []) rfl];have N:=F.called_set.notType;have J:=F.called_set.canCreate;have P:=F.typeCall_set_1 (.ref l)
 (repeat (any_goals (first|assumption|wp_step)));refine w4 (zde (.ref l) (E:=E) (Q₁:=λ t m=>t=.ref s.heap.objs.size/\m={ s with heap:=s.heap.push (set0 w) }) ⟨rfl,rfl⟩) λ r m d=>?_
 cases r with
 | error e=>exact d
 | ok fl=>
  cases fl with
  | next=>exact d.elim
  | brk=>exact d.elim
  | cont=>exact d.elim
  | ret t=>
   obtain ⟨rfl,rfl⟩:=d;have i:(s.heap.push (set0 w)).get? s.heap.objs.size=some (set0 w):=I0 _ rfl;have z:B7 { s with heap:=s.heap.push (set0 w) } (.ref s.heap.objs.size) "set":=⟨_,i,rfl⟩
   have U:=F.called_set.init.lookup;have L:=F.called_set.init.bind (.ref s.heap.objs.size)
   (repeat (any_goals (first|assumption|wp_step)))
   have v:i5 (Y0 prog w) A.in1 (.call (.builtin "set.__init__") ⟨[.ref s.heap.objs.size,.ref l],[]⟩) (wants (λ r j=>r=.none/\Q (.ref s.heap.objs.size) j) E) { s with heap:=s.heap.push (set0 w) }:=by
    refine S7 F.called_set.init.plain F.entry_set_init (check_set_init_1 z ?_);obtain ⟨o,g,p,n,hd⟩:=ht;obtain ⟨K,x,X,I⟩:=o;dsimp only at p hd;subst p hd;have D:(s.heap.push (set0 w)).get? l=some { cls:=.type "list",dict:=x,data:=.seq items n,slots:=I }:=v0 _ g;have Z:=z5g;have V:=z3v;have W:(F4 "list" == F4 "dict")=false:=by decide
    have T:(s.heap.push (set0 w)).get? s.heap.objs.size=some { cls:=.type "set",dict:=none,data:=.set #[] 0 (.fresh 0 0 (!w.params.followText "set-order")),slots:=#[] }:=i;have B:(s.heap.push (set0 w)).IsList l items:=⟨_,D,rfl,n,rfl⟩
    have q:l < s.heap.objs.size:=F0 g;unfold O6.«set.__init__» noKeywords Y6;generalize hPI:pyIter=PI
    wp_walk
    subst hPI;refine G5 B (o0 (wpAny_runValue ?_));have k :∀b o,s.heap.get? b=some o->((s.heap.push (set0 w)).push { cls:=.type "list_iterator",data:=.fields #[.ref l,.int 0 0] }).get? b=some o:=λ b o e=>v0 _ (v0 _ e);have f:(s.heap.push (set0 w)).objs.size=s.heap.objs.size + 1:=S3 _ _;refine zbh (S:=s.heap.objs.size) (it:=(s.heap.push (set0 w)).objs.size) (l:=l) (items:=items) (by rw [f];exact O0 (A2 _)) (X1 q) (by rw [f];exact X1 (i1 q)) ns 0 [] _ _ _ (by simp [hh]) ⟨_,I0 _ rfl,rfl,rfl⟩ ⟨_,k _ _ g,rfl,n,rfl⟩ (by rw [n5];exact hi) (zfd (v0 _ i)) (by simpa using hb) λ h' tk ns' C H y=>?_;refine C0 (C0 ⟨rfl,h h' tk ns' C H λ b o e=>y b o (O0 (F0 e)) (by rw [f];exact O0 (i1 (F0 e))) (k b o e)⟩)
   refine w4 v λ u j a=>?_;cases u with
   | error e=>exact a
   | ok f2=>
    cases f2 with
    | next=>exact a.elim
    | brk=>exact a.elim
    | cont=>exact a.elim
    | ret r=>obtain ⟨rfl,G⟩:=a;exact C0 (C0 G)
end
section
variable {X:Cx}
noncomputable def tLSet (K:c0) (te:TE):TE:=λ σ H Q=>te σ H λ x H1=>∃(a:Addr) (ns:List Int),x=.ref a/\SqL K H1 a (ns.map V.int)/\ns.length < 100/\Q (.int ((ns.foldl addI []).length:Nat)) H1
theorem zcn {e:Expr} {te:TE} {p1 p2 c1 c2:Pos} (hcalm:X.calm=true) (g1:Gl X "len") (m1:X.mg "len" = none) (g2:Gl X "set") (m2:X.mg "set" = none) (b1:a4 "len" = some (.builtin "len")) (b2:a4 "set" = some (.type "set")) (ha:PE X e te)
  (he:D1 [e] X.env=[(false,P3 e X.env)]:=by rfl):PE X (.Call (.Name "len" p1) [.Call (.Name "set" p2) [e] [] c2] [] c1) (tLSet X.K te):=by
 intro v s σ H Q I h;have g:X.A.handled=none:=I.ok.hd hcalm;refine n3 (ld_blt I g1 m1 b1 ?_ (by decide) (by decide));refine X4 ?_ rfl rfl;refine (show Q0 _ _ (r9 ((false,P3 (.Call (.Name "set" p2) [e] [] c2) X.env) :: [])) _ _ s from G3 ?_);refine n3 (ld_blt I g2 m2 b2 ?_ (by decide) (by decide));refine O3 ?_ he rfl;rw [he];refine (show Q0 _ _ (r9 ((false,P3 e X.env) :: [])) _ _ s from G3 (thn (ha v s σ H _ I h) λ u r ⟨x,H1,I1,r1,a,ns,ex,sq,hl,q⟩=>?_));subst ex;cases r1;refine V3 ?_;obtain ⟨D,p,j,w⟩:=I1.list sq;refine z78 g j.isList (by simpa using z3k p) (V5 hl (by decide)) λ d b y n k c=>V3 ?_;obtain ⟨l,C,t,m,_,i,nd,z,o,_⟩:=n;have f:l.size=(ns.foldl addI []).length:=by rw [<-k.length_eq,z9p i,D0,V0]
 have B:(ns.foldl addI []).length < 100:=by have:=z2i ns [];rw [n4,z5] at this;omega
 refine call_len_set (s:={ r with heap:=d,toks:=b }) m ⟨rfl,rfl,rfl⟩ rfl o (by omega) ?_;rw [f];exact ⟨.int ((ns.foldl addI []).length:Nat),H1,(I1.kept (t':=b + 1 + 1) c),⟨_,rfl⟩,q⟩
end
theorem z0m {K:c0} {a:Addr} {xs:List V} {tl te:TE} {tc:TT} {g:TG} {m:Nat} {fr:List (Nat×Str)} {σ:L2.St} {H H1:Hp} {Q:VK} (p:Nat->Bool) (R:Nat->V->Hp->Prop) (hR :∀i y H H',Same H H'->R i y H->R i y H') (htl :∀R:VK,R (.ref a) H1->tl σ H R) (hq:SqL K H1 a xs) (hn:xs.length<=sizeLine)
  (body :∀i,i < xs.length->∀v H,Same H1 H->xs[i]? = some v->∀(KT:VK) (KF:Hp->Prop),(p i=true->∀y H',Same H H'->R i y H'->KT y H')->(p i=false->∀H',Same H H'->KF H')->
   g v (cStG σ fr (U2 m none)) H λ σ6 H6=>∃us,us.length=m/\σ6=cStG σ fr us/\tc (cStG σ fr us) H6 λ b H2=>if b=true then te (cStG σ fr us) H2 KT else KF H2)
  (hQ :∀l H' ys,Same H1 H'->H' l=none->All2 (λ i y=>R i y H') ((Z1 xs.length).filter p) ys->Q (.ref l) (upd H' l (.lst ys))):tCompG (iList K tl) m fr g tc te σ H Q:=
 htl _ ⟨a,rfl,⟨xs,hq⟩,z2q (Same.refl _) (λ _ _ _ a b=>a.trans b) p R hR (zab (S:=Same) (λ _ _=>Same.refl _) λ H s=>s.seq hq) hn body hQ⟩
theorem zcp {K:c0} {a:Addr} {xs:List V} {ta:TA} {te:TE} {tc:TT} {g:TG} {m:Nat} {fr:List (Nat×Str)} {σ:L2.St} {H H1:Hp} {Q:VK} (p:Nat->Bool) (R:Nat->V->Hp->Prop) (hR :∀i y H H',Same H H'->R i y H->R i y H') (hta :∀T:List V->Hp->Prop,T [.ref a] H1->ta σ H T) (hq:SqL K H1 a xs) (hn:xs.length<=sizeLine)
  (body :∀i,i < xs.length->∀v H,Same H1 H->(∃x p,xs[i]? = some x/\v=.ref p/\H p=some (.tup [.int (i:Nat),x]))->∀(KT:VK) (KF:Hp->Prop),(p i=true->∀y H',Same H H'->R i y H'->KT y H')->(p i=false->∀H',Same H H'->KF H')->
   g v (cStG σ fr (U2 m none)) H λ σ6 H6=>∃us,us.length=m/\σ6=cStG σ fr us/\tc (cStG σ fr us) H6 λ b H2=>if b=true then te (cStG σ fr us) H2 KT else KF H2)
  (hQ :∀l H' ys,Same H1 H'->H' l=none->All2 (λ i y=>R i y H') ((Z1 xs.length).filter p) ys->Q (.ref l) (upd H' l (.lst ys))):tCompG (ieL K ta) m fr g tc te σ H Q:=
 hta _ ⟨a,xs,rfl,hq,z2q (Same.refl _) (λ _ _ _ a b=>a.trans b) p R hR (z8k hq) hn body hQ⟩
theorem z87 {K:c0} {a:Addr} {xs:List V} {tl te:TE} {tc:TT} {g:TG} {m:Nat} {fr:List (Nat×Str)} {σ:L2.St} {H H1:Hp} {Q:VK} (p:Nat->Bool) (R:Nat->V->Hp->Prop) (hR :∀i y H H',Same H H'->R i y H->R i y H') (htl :∀R:VK,R (.ref a) H1->tl σ H R) (hq:SqT K H1 a xs) (hn:xs.length<=sizeLine)
  (body :∀i,i < xs.length->∀v H,Same H1 H->xs[i]? = some v->∀(KT:VK) (KF:Hp->Prop),(p i=true->∀y H',Same H H'->R i y H'->KT y H')->(p i=false->∀H',Same H H'->KF H')->
   g v (cStG σ fr (U2 m none)) H λ σ6 H6=>∃us,us.length=m/\σ6=cStG σ fr us/\tc (cStG σ fr us) H6 λ b H2=>if b=true then te (cStG σ fr us) H2 KT else KF H2)
  (hQ :∀l H' ys,Same H1 H'->H' l=none->All2 (λ i y=>R i y H') ((Z1 xs.length).filter p) ys->Q (.ref l) (upd H' l (.lst ys))):tCompG (iTup K tl) m fr g tc te σ H Q:=
 htl _ ⟨a,rfl,⟨xs,hq⟩,z2q (Same.refl _) (λ _ _ _ a b=>a.trans b) p R hR (zc7 (S:=Same) (λ _ _=>Same.refl _) λ H s=>s.seqT hq) hn body hQ⟩
theorem e_cb1 {f:List V->Hp->VK->Prop} {te:TE} {σ:L2.St} {H:Hp} {Q:VK} (h:te σ H λ x H1=>f [x] H1 Q):tCB f (tCons te tNil) σ H Q:=h
theorem t_test {r:R2} {ta tb:TE} {σ:L2.St} {H:Hp} {Q:Bool->Hp->Prop} (h:ta σ H λ x H1=>tb σ H1 λ y H2=>r x y H2 λ x H3=>∃c,x=.bl c/\Q c H3):tTest (tOp r ta tb) σ H Q:=h
theorem t_or {t u:TT} {σ:L2.St} {H:Hp} {Q:Bool->Hp->Prop} (h:t σ H λ c H1=>if c=true then Q true H1 else u σ H1 Q):tOr t u σ H Q:=h
theorem sq_if {c:TT} {a b rest:TS} {D:Ends} {σ:L2.St} {H:Hp} (h:c σ H λ k H1=>if k=true then a { D with nx:=rest D } σ H1 else b { D with nx:=rest D } σ H1):tSeq (tIfS c a b) rest D σ H:=h
theorem sq_ret {te:TE} {D:Ends} {σ:L2.St} {H:Hp} (h:te σ H D.rt):tRet te D σ H:=h
section
variable {X:Cx} {pins:List (Addr×Obj)} {σ:St} {H:Hp} {s:y0} {a:Addr} {u v:HO}
theorem Inv.retold (I:Inv X pins σ H s) (e:H a=some u) (nt :∀xs,u≠.tup xs) (nb :∀ps,u≠.tbl ps) (no :∀c,u≠.own c) (nf :∀o w,X.H₀ a≠some (.frz o w)) (ok:ObjOk X.prog X.w (upd H a v) s.heap a v):Inv X pins σ (upd H a v) s:=by
 have d :∀{b:Addr},H b=none->b≠a:=λ n z=>by rw [z,e] at n;cases n
 refine ⟨I.ok,I.os,I.bare,⟨I.base.keep,I.base.slot,λ b o q n j=>?_,I.base.there,λ b xs q=>?_,λ b o w q=>?_,λ b ps q=>?_⟩,I.loc,I.cell,?_,λ x c q=>?_,λ p h=>?_,λ b o q=>?_,I.len⟩
 ·have z:=I.base.free b o q n j;rw [upd_ne (d z)];exact z
 ·have z:=I.base.tups b xs q;rw [upd_ne (λ y=>by rw [y,e] at z;exact nt xs (A1 z))];exact z
 ·have z:=I.base.frzs b o w q;rw [upd_ne (λ y=>by rw [y] at q;exact nf o w q)];exact z
 ·obtain ⟨g,z⟩:=I.base.tbls b ps q;exact ⟨g,by rw [upd_ne (λ y=>by rw [y,e] at z;exact nb _ (A1 z))];exact z⟩
 ·rw [upd_ne (d I.free)];exact I.free
 ·rw [upd_ne (d (I.freeC x c q))];exact I.freeC x c q
 ·obtain ⟨k,f,i⟩:=I.pin p h;exact ⟨k,by rw [upd_ne (d f)];exact f,i⟩
 ·by_cases z:b=a
  ·subst z;rw [z02] at q;cases q;exact ok
  ·rw [upd_ne z] at q;refine (I.hok b o q).stay (λ _ _ _ y=>y) (λ c y=>?_) λ c xs y=>?_
   ·rw [upd_ne (λ x=>by rw [x,e] at y;exact no b (A1 y))];exact y
   ·rw [upd_ne (λ x=>by rw [x,e] at y;exact nt xs (A1 y))];exact y
theorem Inv.noFrz {kvs:List (Key×V)} (I:Inv X pins σ H s) (e:H a=some (.dK kvs)) :∀o w,X.H₀ a≠some (.frz o w):=λ o w q=>by have z:=I.base.frzs a o w q;rw [e] at z;cases z
theorem Inv.freeze {kvs:List (Key×V)} {ob:Obj} (I:Inv X pins σ H s) (e:H a=some (.dK kvs)) (ho:s.heap.get? a=some ob):Inv X pins σ (upd H a (.frz ob (.dK kvs))) s:=
 I.retold e (λ _ z=>by cases z) (λ _ z=>by cases z) (λ _ z=>by cases z) (I.noFrz e) ⟨ho,(show ObjOk X.prog X.w H s.heap a (.dK kvs) from I.hok a _ e)⟩
end
theorem z4n {α β:Type} {F:α->β->Prop} :∀{l:List α} {m:List β} {i:Nat} {x:α},U6 F l m->l[i]? = some x->∃y,m[i]? = some y/\F x y
 | _,_,i,x,.nil,e=>by simp at e
 | _,_,0,x,.cons a _,e=>by rw [Q1] at e;cases e;exact ⟨_,Q1,a⟩
 | _,_,i + 1,x,.cons _ r,e=>by rw [B1] at e;obtain ⟨y,b,c⟩:=z4n r e;exact ⟨y,by rw [B1];exact b,c⟩
theorem frz_at {X:Cx} {pins:List (Addr×Obj)} {σ:St} {H:Hp} {s:y0} {a:Addr} {ob:Obj} {kvs:List (Key×V)} {es:Array DictEntry} {ep:Nat} (I:Inv X pins σ H s) (hob:ob.data=.dict es ep) (e:H a=some (.frz ob (.dK kvs))) :
  ∃vs,KV kvs vs/\vs.length=kvs.length/\s.heap.DictAt (z0f X.prog X.w) a vs ep:=by
 obtain ⟨g,_,_,vs,c,h⟩:=(show ObjOk X.prog X.w H s.heap a (.frz ob (.dK kvs)) from I.hok a _ e)
 obtain ⟨j,f⟩:=h.dictAt;refine ⟨vs,c,c.length.symm,?_⟩;obtain ⟨o,k,d,i,b,l⟩:=id f;rw [g] at d;cases d;rw [hob] at b;cases b;exact f
noncomputable def addT (ns:List Str) (v:Str):List Str:=if v∈ns then ns else ns++[v]
theorem z6r (ns:List Str) (v:Str):(addT ns v).length=if v∈ns then ns.length else ns.length + 1:=by
 unfold addT;by_cases z:v∈ns
 ·rw [if_pos z,if_pos z]
 ·rw [if_neg z,if_neg z,L0];rfl
theorem ze5 (ns:List Str) (v k:Str):(decide (k∈ns) || decide (k=v))=decide (k∈addT ns v):=by
 unfold addT;by_cases z:v∈ns
 ·rw [if_pos z];by_cases y:k=v
  ·rw [y,decide_eq_true z];rfl
  ·rw [decide_eq_false y,Q7]
 ·rw [if_neg z];by_cases y:k=v
  ·rw [decide_eq_true y,Bool.or_true,decide_eq_true (by rw [y];exact List.mem_append.mpr (.inr (List.mem_singleton.mpr rfl)))]
  ·rw [decide_eq_false y,Q7];by_cases x:k∈ns
   ·rw [decide_eq_true x,decide_eq_true (List.mem_append.mpr (.inl x))]
   ·rw [decide_eq_false x,decide_eq_false (λ w=>(List.mem_append.mp w).elim x λ u=>y (List.mem_singleton.mp u))]
section
variable {prog:Program} {w:P0} {A:W1} {E:Value->y0->Prop} {s:y0}
theorem z63 {h h':Heap} {a:Addr} {M:Str->Bool} {n:Nat} (k :∀o,h.get? a=some o->h'.get? a=some o) (x:Z5 (W3 prog w) h a M n):Z5 (W3 prog w) h' a M n:=by obtain ⟨o,c,b,t,e,r⟩:=x;exact ⟨o,c,b,t,k _ e,r⟩
theorem zdl {h:Heap} {a:Addr} (e:h.get? a=some (set0 w)):Z5 (W3 prog w) h a (λ k=>decide (k∈([]:List Str))) ([]:List Str).length:=
 ⟨_,#[],0,_,e,⟨rfl,rfl,rfl⟩,rfl,λ x b=>by simp at b,λ k=>⟨λ z=>absurd (of_decide_eq_true z) B0,λ ⟨e,he,_⟩=>by simp at he⟩,by decide,by rfl,rfl⟩
theorem z9a {S it l:Addr} {items:Array Value} (nsi:S≠it) (nsl:S≠l) (nil':it≠l) :∀(ms:List Str) (i:Nat) (ns:List Str) (A:W1) (R:Result->y0->Prop) (s:y0),A.handled=none->s.heap.IsListIter it l i->s.heap.IsList l items->
  StrsAre (items.toList.drop i) ms->Z5 (W3 prog w) s.heap S (λ k=>decide (k∈ns)) ns.length->ns.length + ms.length < scanBound->
  (∀h' tk ns',Z5 (W3 prog w) h' S (λ k=>decide (k∈ns')) ns'.length->ns'=ms.foldl addT ns->(∀c o,c≠S->c≠it->s.heap.get? c=some o->h'.get? c=some o)->R (.ok (.ret .none)) { s with heap:=h',toks:=tk })->
  i5 (Y0 prog w) A (N6 "set.update.loop" { pos:=[.ref S,.ref it],kw:=[] }) R s
 | [],i,ns,A,R,s,hh,si,sl,al,dd,hz,q=>by
  have E:items[i]? = none:=by
   cases hd:items.toList.drop i with
   | nil=>have:=List.drop_eq_nil_iff.mp hd;rw [V0] at this;exact d5 this
   | cons u us=>rw [hd] at al;cases al
  refine Y3 o5 ?_;show Q0 _ _ (n8 (.ref it) >>= _) _ _ s;refine o0 (L7 (show (A.under _).handled=none from hh) si sl E λ h' t=>?_);exact C0 (q h' s.toks ns (z63 (λ o e=>t S o nsi e) dd) rfl λ c o _ I e=>t c o I e)
 | m :: ms,i,ns,A,R,s,hh,si,sl,al,dd,hz,q=>by
  cases hd:items.toList.drop i with
  | nil=>rw [hd] at al;cases al
  | cons u us=>
   rw [hd] at al;cases al with
   | cons _ tk al=>
    have B:items.toList[i]? = some (.str m tk):=by have:=congrArg (λ l=>l[0]?) hd;simpa using this
    have J:items[i]? = some (.str m tk):=by simpa using B
    have N:items.toList.drop (i + 1)=us:=by have:=congrArg List.tail hd;simpa using this
    refine Y3 o5 ?_;show Q0 _ _ (n8 (.ref it) >>= _) _ _ s;refine o0 (y7 si sl J λ j C h=>?_);have D:j.IsList l items:=by obtain ⟨o,a,b⟩:=sl;exact ⟨o,(h.2 l (y3 nil')).trans a,b⟩
    have K:=z63 (prog:=prog) (w:=w) (λ o e=>(h.2 S nsi).trans e) dd;rw [v1] at hz;refine o0 (E2 (show Q0 _ _ (setAdd S (.str m tk)) _ _ _ from ?_));unfold setAdd;have r:(W3 prog w).is m (.str m tk)=true:=PySem.strKind_is prog w m tk;refine E2 (o0 ((W3 prog w).pyHash (k:=m) r ?_));refine wpAny_setAddHashed_of (s:={ s with heap:=j,toks:=s.toks + 1 }) r rfl K (F1 (by omega) hz) λ f g d=>?_;refine C0 ⟨z7i _,?_⟩;have G:Z5 (W3 prog w) f S (λ k=>decide (k∈addT ns m)) (addT ns m).length:=by
     rw [z6r];have a:(λ v=>decide (v∈ns) || decide (v=m))=λ k=>decide (k∈addT ns m):=funext λ k=>ze5 ns m k;rw [a] at d;by_cases z:m∈ns
     ·rw [if_pos z];rw [if_pos (decide_eq_true z)] at d;exact d
     ·rw [if_neg z];rw [if_neg (by rw [decide_eq_false z];decide)] at d;exact d
    have H:f.IsListIter it l (i + 1):=by obtain ⟨o,a,b⟩:=C;exact ⟨o,(g.2 it (y3 nsi)).trans a,b⟩
    have y:f.IsList l items:=by obtain ⟨o,a,b⟩:=D;exact ⟨o,(g.2 l (y3 nsl)).trans a,b⟩
    have O:(addT ns m).length<=ns.length + 1:=by rw [z6r];split<;>omega
    refine z9a nsi nsl nil' ms (i + 1) (addT ns m) A R { s with heap:=f,toks:=s.toks + 1 } hh H y (by rw [N];exact al) G (by omega) λ h' F ns' L M x=>q h' F ns' L M λ c o n p e=>x c o n p ((g.2 c n).trans ((h.2 c p).trans e))
theorem z5t {l:Addr} {items:Array Value} {ns:List Str} {Q:Value->y0->Prop} (hh:A.handled=none) (ht:s.heap.IsList l items) (hi:StrsAre items.toList ns) (hb:ns.length < scanBound)
  (h :∀h' tk ns',Z5 (W3 prog w) h' s.heap.objs.size (λ k=>decide (k∈ns')) ns'.length->ns'=ns.foldl addT []->(∀b o,s.heap.get? b=some o->h'.get? b=some o)->Q (.ref s.heap.objs.size) { s with heap:=h',toks:=tk }) :
  Q0 (Y0 prog w) A (call (.type "set") [.ref l]) Q E s:=by
 obtain ⟨c,T,N⟩:=F.called_set.mro;have P:=F.called_set.made;have Z:=F.called_set.sub;refine m8 (codeAny_of_tree (show Q0 _ _ (callAny (.type "set") _) _ _ _ from C0 ⟨Code.quiet_builtin _ (by decide +kernel),Y3 F.entry_type_call ?_⟩));rw [j00 (weight_type_call_type "set" [.ref l] []) rfl];have O:=F.called_set.notType;have K:=F.called_set.canCreate;have R:=F.typeCall_set_1 (.ref l)
 (repeat (any_goals (first|assumption|wp_step)));refine w4 (zde (.ref l) (E:=E) (Q₁:=λ u p=>u=.ref s.heap.objs.size/\p={ s with heap:=s.heap.push (set0 w) }) ⟨rfl,rfl⟩) λ r p d=>?_
 cases r with
 | error e=>exact d
 | ok fl=>
  cases fl with
  | next=>exact d.elim
  | brk=>exact d.elim
  | cont=>exact d.elim
  | ret u=>
   obtain ⟨rfl,rfl⟩:=d;have i:(s.heap.push (set0 w)).get? s.heap.objs.size=some (set0 w):=I0 _ rfl;have B:B7 { s with heap:=s.heap.push (set0 w) } (.ref s.heap.objs.size) "set":=⟨_,i,rfl⟩
   have V:=F.called_set.init.lookup;have M:=F.called_set.init.bind (.ref s.heap.objs.size)
   (repeat (any_goals (first|assumption|wp_step)))
   have x:i5 (Y0 prog w) A.in1 (.call (.builtin "set.__init__") ⟨[.ref s.heap.objs.size,.ref l],[]⟩) (wants (λ r j=>r=.none/\Q (.ref s.heap.objs.size) j) E) { s with heap:=s.heap.push (set0 w) }:=by
    refine S7 F.called_set.init.plain F.entry_set_init (check_set_init_1 B ?_);obtain ⟨o,g,q,n,hd⟩:=ht;obtain ⟨L,y,Y,J⟩:=o;dsimp only at q hd;subst q hd;have G:(s.heap.push (set0 w)).get? l=some { cls:=.type "list",dict:=y,data:=.seq items n,slots:=J }:=v0 _ g;have a0:=z5g;have W:=z3v;have X:(F4 "list" == F4 "dict")=false:=by decide
    have U:(s.heap.push (set0 w)).get? s.heap.objs.size=some { cls:=.type "set",dict:=none,data:=.set #[] 0 (.fresh 0 0 (!w.params.followText "set-order")),slots:=#[] }:=i;have C:(s.heap.push (set0 w)).IsList l items:=⟨_,G,rfl,n,rfl⟩
    have t:l < s.heap.objs.size:=F0 g;unfold O6.«set.__init__» noKeywords Y6;generalize hPI:pyIter=PI
    wp_walk
    subst hPI;refine G5 C (o0 (wpAny_runValue ?_));have m :∀b o,s.heap.get? b=some o->((s.heap.push (set0 w)).push { cls:=.type "list_iterator",data:=.fields #[.ref l,.int 0 0] }).get? b=some o:=λ b o e=>v0 _ (v0 _ e);have f:(s.heap.push (set0 w)).objs.size=s.heap.objs.size + 1:=S3 _ _;refine z9a (S:=s.heap.objs.size) (it:=(s.heap.push (set0 w)).objs.size) (l:=l) (items:=items) (by rw [f];exact O0 (A2 _)) (X1 t) (by rw [f];exact X1 (i1 t)) ns 0 [] _ _ _ (by simp [hh]) ⟨_,I0 _ rfl,rfl,rfl⟩ ⟨_,m _ _ g,rfl,n,rfl⟩ (by rw [n5];exact hi) (zdl (v0 _ i)) (by simpa using hb) λ h' tk ns' D I z=>?_;refine C0 (C0 ⟨rfl,h h' tk ns' D I λ b o e=>z b o (O0 (F0 e)) (by rw [f];exact O0 (i1 (F0 e))) (m b o e)⟩)
   refine w4 x λ v j a=>?_;cases v with
   | error e=>exact a
   | ok f2=>
    cases f2 with
    | next=>exact a.elim
    | brk=>exact a.elim
    | cont=>exact a.elim
    | ret r=>obtain ⟨rfl,H⟩:=a;exact C0 (C0 H)
end
section
variable {X:Cx}
noncomputable def tLSetS (K:c0) (te:TE):TE:=λ σ H Q=>te σ H λ x H1=>∃(a:Addr) (ns:List Str),x=.ref a/\SqL K H1 a (ns.map V.str)/\ns.length < 100/\Q (.int ((ns.foldl addT []).length:Nat)) H1
theorem z2h :∀(vs ns:List Str),(vs.foldl addT ns).length<=ns.length + vs.length
 | [],ns=>A0 _
 | v :: vs,ns=>by
  have a:=z2h vs (addT ns v);have b:(addT ns v).length<=ns.length + 1:=by rw [z6r];split<;>omega
  show (vs.foldl addT (addT ns v)).length<=_;rw [v1];omega
theorem z6e :∀{ns:List Str} {us:List Value},Vals (ns.map V.str) us->StrsAre us ns
 | [],_,.nil=>.nil
 | n :: ns,_,.cons a r=>by obtain ⟨t,rfl⟩:=a;exact .cons n t (z6e r)
theorem zb5 {e:Expr} {te:TE} {p1 p2 c1 c2:Pos} (hcalm:X.calm=true) (g1:Gl X "len") (m1:X.mg "len" = none) (g2:Gl X "set") (m2:X.mg "set" = none) (b1:a4 "len" = some (.builtin "len")) (b2:a4 "set" = some (.type "set")) (ha:PE X e te)
  (he:D1 [e] X.env=[(false,P3 e X.env)]:=by rfl):PE X (.Call (.Name "len" p1) [.Call (.Name "set" p2) [e] [] c2] [] c1) (tLSetS X.K te):=by
 intro v s σ H Q I h;have f:X.A.handled=none:=I.ok.hd hcalm;refine n3 (ld_blt I g1 m1 b1 ?_ (by decide) (by decide));refine X4 ?_ rfl rfl;refine (show Q0 _ _ (r9 ((false,P3 (.Call (.Name "set" p2) [e] [] c2) X.env) :: [])) _ _ s from G3 ?_);refine n3 (ld_blt I g2 m2 b2 ?_ (by decide) (by decide));refine O3 ?_ he rfl;rw [he];refine (show Q0 _ _ (r9 ((false,P3 e X.env) :: [])) _ _ s from G3 (thn (ha v s σ H _ I h) λ u r ⟨x,H1,I1,r1,a,ns,ex,sq,hl,q⟩=>?_));subst ex;cases r1;refine V3 ?_;obtain ⟨E,p,i,y⟩:=I1.list sq;refine z5t f i.isList (by simpa using z6e p) (V5 hl (by decide)) λ d b z l j c=>V3 ?_;subst j;obtain ⟨o,w,D,t,k,g,hd,_,_,B,n,m⟩:=l;have C:(ns.foldl addT []).length < 100:=by have:=z2h ns [];rw [n4,z5] at this;omega
 refine call_len_set (s:={ r with heap:=d,toks:=b }) k g hd n (by omega) ?_;rw [m];exact ⟨.int ((ns.foldl addT []).length:Nat),H1,(I1.kept (t':=b + 1 + 1) c),⟨_,rfl⟩,q⟩
end
noncomputable def Itc (x:Str):It:=⟨λ i _=>i < x.cps.size,λ i H v H'=>H'=H/\∃c,x.cps[i]? = some c/\v=.str ⟨#[c]⟩,λ i _=>x.cps.size<=i⟩
theorem zdn {P:Program} {w:P0} {K:c0} {tg:Expr} {x:Str} {it:Addr} {t:Tok}:Turn P w K tg (Itc x) [it] it (λ i h=>h.IsStrIter it "str_ascii_iterator" x t i) where
 mem:=by simp
 obj:=λ i h a b f=>by
  obtain rfl:b=it:=by simpa using f
  obtain ⟨o,e,c,d⟩:=a;exact ⟨o,e,λ v z=>by rw [d] at z;cases z⟩
 keep:=λ i h g a k=>by obtain ⟨o,e,r⟩:=a;exact ⟨o,k it (by simp) o e,r⟩
 item:=by intro X y A p F i G s σ H E I j a l;subst y A p;obtain ⟨n,u,J,m,q,B⟩:=j it (by simp);have D:x.cps[i]? = some x.cps[i]:=Q4 l;refine wpAny_pyNext_ascii_item a D λ g C sb=>?_;have M:Inv X G σ H { s with heap:=g,toks:=s.toks + 1 }:=I.turned (t':=s.toks + 1) (λ b o f e=>(sb.2 b f).trans e) n u m q B;obtain ⟨o,e,c,d⟩:=id C;exact ⟨_,rfl,go_of (s:={ s with heap:=g,toks:=s.toks + 1 }) e c d (by decide) ⟨.str ⟨#[x.cps[i]]⟩,H,M,⟨_,rfl⟩,⟨rfl,_,D,rfl⟩,C,λ b f=>(j b f).1⟩⟩
 done:=by intro X y A p F i G s σ H E I j a l;subst y A p;obtain ⟨n,u,J,m,q,B⟩:=j it (by simp);exact wpAny_pyNext_ascii_end (I.ok.hd F) a (d5 l) λ g L=>⟨rfl,I.turned (t':=s.toks) (λ b o f e=>L b o f e) n u m q B⟩
 self:=λ _ _ _ _ _ a h=>wpAny_pyIter_striter_ascii a h
noncomputable def iStr (tl:TE):TI:=λ σ H R=>tl σ H λ v H1=>∃x:Str,v=.str x/\x.cps.all (· < 128)=true/\R (Itc x) H1
theorem pi_str {X:Cx} {tg l:Expr} {tl:TE} (hl:PE X l tl):PI X tg l (iStr tl):=by
 intro c s σ H R I h;refine thn (hl c s σ H _ I h) λ v a ⟨y,H1,I1,r1,x,e,ha,q⟩=>?_;subst e;obtain ⟨t,rfl⟩:=r1;refine wpAny_pyIter_ascii ha ?_;refine ⟨a.heap.objs.size,[a.heap.objs.size],_,_,H1,rfl,I1.kept (t':=a.toks) λ b o e=>v0 _ e,zdn,⟨_,I0 _ rfl,rfl,rfl⟩,λ b d=>?_,q⟩;obtain rfl:b=a.heap.objs.size:=by simpa using d
 exact I1.fpOk (A0 _) (I1.hok.fresh (A0 _))
theorem zc5 {x:Str} {H1:Hp}:RunsR Same (Itc x) H1 x.cps.size (λ i v _=>∃c,x.cps[i]? = some c/\v=.str ⟨#[c]⟩):=
 ⟨λ i a H s=>a,λ H s=>A0 _,λ i a H v b s y=>by obtain ⟨e,y⟩:=y;subst e;exact ⟨Same.refl _,y⟩⟩
theorem tcompS {x:Str} {tl te:TE} {tc:TT} {g:TG} {m:Nat} {fr:List (Nat×Str)} {σ:L2.St} {H H1:Hp} {Q:VK} (p:Nat->Bool) (R:Nat->V->Hp->Prop) (hR :∀i y H H',Same H H'->R i y H->R i y H') (htl :∀R:VK,R (.str x) H1->tl σ H R) (ha:x.cps.all (· < 128)=true) (hn:x.cps.size<=sizeLine)
  (body :∀i,i < x.cps.size->∀v H,Same H1 H->(∃c,x.cps[i]? = some c/\v=.str ⟨#[c]⟩)->∀(KT:VK) (KF:Hp->Prop),(p i=true->∀y H',Same H H'->R i y H'->KT y H')->(p i=false->∀H',Same H H'->KF H')->
   g v (cStG σ fr (U2 m none)) H λ σ6 H6=>∃us,us.length=m/\σ6=cStG σ fr us/\tc (cStG σ fr us) H6 λ b H2=>if b=true then te (cStG σ fr us) H2 KT else KF H2)
  (hQ :∀l H' ys,Same H1 H'->H' l=none->All2 (λ i y=>R i y H') ((Z1 x.cps.size).filter p) ys->Q (.ref l) (upd H' l (.lst ys))):tCompG (iStr tl) m fr g tc te σ H Q:=
 htl _ ⟨x,rfl,ha,z2q (Same.refl _) (λ _ _ _ a b=>a.trans b) p R hR zc5 hn body hQ⟩
theorem zfa {K:c0} {te:TE} {σ:L2.St} {H:Hp} {Q:VK} (h:te σ H λ x H1=>∃(a:Addr) (ns:List Str),x=.ref a/\SqL K H1 a (ns.map V.str)/\ns.length < 100/\Q (.int ((ns.foldl addT []).length:Nat)) H1):tLSetS K te σ H Q:=h
theorem tB_not {te:TE} {σ:L2.St} {H:Hp} {Q:Bool->Hp->Prop} (h:te σ H λ x H1=>∃c,x=.bl c/\Q (!c) H1):tNot (tB te) σ H Q:=h
end L2
set_option maxHeartbeats 400000
namespace L2
open PySem PySem.Spec PyProof.Rows
end L2
set_option maxHeartbeats 1000000
namespace L2
open PySem PySem.Spec PyProof.Rows
section
variable {X:Cx}
theorem zbp {o:Expr} {to:TE} {apos cpos:Pos} (ho:PE X o to) (hbase:c5 o "clear" X.env (P3 o X.env)=P3 o X.env:=by rfl) (hline:(apos.endLine == cpos.line)=true:=by rfl):PE X (.Call (.Attribute o "clear" apos) [] [] cpos) (tBM0 X.K "list" rClear to):=
 pe_bm0 U8 PySem.F.slot_list_clear PySem.F.type_list_clear ze7 ho hbase hline
noncomputable def rNeL0 (K:c0):R2:=λ x y H Q=>∃a b xs,x=.ref a/\y=.ref b/\SqL K H a xs/\SqL K H b []/\Q (.bl (decide (xs≠[]))) H
theorem z7p {k:Nat} (hr:Room k X.A):OpR X (G2 .NotEq) (rNeL0 X.K):=by
 intro D s σ H x y v u Q I r l h;obtain ⟨a,b,n,rfl,rfl,t,o,q⟩:=h;cases r;cases l;obtain ⟨C,c,d,_⟩:=I.list t;obtain ⟨B,m,g,_⟩:=I.list o;cases m;have f:X.A.units < cLine:=Nat.lt_of_succ_lt (hu_of hr);have p:=c.length;cases n with
 | nil=>cases c;exact S8 (e:=λ _=>true) d.isList g.isList rfl f (λ j i _=>absurd i (P8 _)) X.prog X.w _ _ ⟨.bl _,H,I,rfl,q⟩
 | cons z zs=>refine SeqAt.RcNeAt.lists_lengths d.isList g.isList ?_ f X.prog X.w _ _ ⟨.bl _,H,I,rfl,q⟩;rw [J0,<-p];rfl
end
structure ZLAt (h:Heap) (z T U i j a b:Addr) (n:Nat) (f:Value):Prop where
 z:IsZip h z T U f
 t:IsPair h T (.ref i) (.ref j)
 u :∃p q,IsPair h U p q
 i:h.IsListIter i a n
 j:h.IsListIter j b n
end L2
namespace L2
open PySem PySem.Spec PyProof.Rows PySem.NumText
end L2
namespace L2
open PySem PySem.Spec PyProof.Rows
end L2
open PySem PySem.W PyProof.Rows
set_option maxHeartbeats 4000000
namespace TJ
section
variable (p:Program) (w:P0) (n₀:Nat) (ann:Option Value) (code:Code) (q:Pos)
theorem zc6 {n m:Nat} :∀{s s' s'':y0} {t t' t'':N9},segGo i3 p w n₀ ann 1 n s t=some (s',t')->segGo i3 p w n₀ ann 1 m s' t'=some (s'',t'')->
  segGo i3 p w n₀ ann 1 (n + m) s t=some (s'',t''):=by
 induction n with
 | zero=>
  intro s s' s'' t t' t'' h k;obtain ⟨rfl,rfl⟩:s=s'/\t=t':=by simpa [segGo] using h
  rw [z5];exact k
 | succ n ih=>
  intro s s' s'' t t' t'' h k;rw [show n + 1 + m=n + m + 1 by omega];unfold segGo at h⊢;cases he:endAt 1 t with
  | some f=>rw [he] at h;cases h
  | none=>
   rw [he] at h;cases hk:stepOk n₀ ann t with
   | false=>rw [hk] at h;cases h
   | true=>
    rw [hk] at h;cases hs:step (denote i3) p w s t with
    | halt o s₂=>rw [hs] at h;cases h
    | go s₂ t₂=>rw [hs] at h;exact ih h k
def Steps (c:Nat) (s:y0) (t:N9) (s':y0) (t':N9):Prop:=∃n,n<=c/\segGo i3 p w n₀ ann 1 n s t=some (s',t')
def Goes {α:Type} (c:Nat) (x:Sem α) (s:y0) (pos:Pos) (a:α) (s':y0) (pos':Pos):Prop:=
 ∀(K:α->Sem Fin) (H:Value->Sem Fin) (gd:Bool->Bool) (lv:List Value->List Value),
  Steps p w n₀ ann c s ⟨x.wrap K H gd lv,code,pos,[topFrame q]⟩ s' ⟨K a,code,pos',[topFrame q]⟩
end
section
variable {p:Program} {w:P0} {n₀:Nat} {ann:Option Value} {code:Code} {q:Pos}
theorem Steps.trans {c d:Nat} {s s' s'':y0} {t t' t'':N9} (h:Steps p w n₀ ann c s t s' t') (k:Steps p w n₀ ann d s' t' s'' t''):Steps p w n₀ ann (c + d) s t s'' t'':=by obtain ⟨n,a,h⟩:=h;obtain ⟨m,b,k⟩:=k;exact ⟨n + m,by omega,zc6 p w n₀ ann h k⟩
theorem Steps.refl {s:y0} {t:N9}:Steps p w n₀ ann 0 s t s t:=⟨0,A0 _,rfl⟩
theorem Steps.le {c d:Nat} {s s':y0} {t t':N9} (h:Steps p w n₀ ann c s t s' t') (l:c<=d):Steps p w n₀ ann d s t s' t':=let ⟨n,a,b⟩:=h;⟨n,G0 a l,b⟩
theorem Steps.one {s s':y0} {t t':N9} (he:endAt 1 t=none) (hk:stepOk n₀ ann t=true) (hs:step (denote i3) p w s t=.go s' t'):Steps p w n₀ ann 1 s t s' t':=by refine ⟨1,A0 _,?_⟩;unfold segGo;rw [he,hk,hs];rfl
variable {α β:Type} {s s' s'':y0} {pos pos' pos'':Pos} {a:α} {b:β} {c d:Nat}
theorem Goes.pure:Goes p w n₀ ann code q 0 (q9 a:Sem α) s pos a s pos:=λ _ _ _ _=>.refl
theorem Goes.le {x:Sem α} (h:Goes p w n₀ ann code q c x s pos a s' pos') (l:c<=d):Goes p w n₀ ann code q d x s pos a s' pos':=λ K H e b=>(h K H e b).le l
theorem Goes.bind {x:Sem α} {f:α->Sem β} (h:Goes p w n₀ ann code q c x s pos a s' pos') (k:Goes p w n₀ ann code q d (f a) s' pos' b s'' pos''):Goes p w n₀ ann code q (c + d) (x >>= f) s pos b s'' pos'':=by
 intro K H i g;have e:(x >>= f).wrap K H i g=x.wrap (λ a=>(f a).wrap K H i g) H i g:=by rw [Sem.bind_eq_wrap',Sem.wrap_wrap];rfl
 rw [e];exact (h _ H i g).trans (k K H i g)
theorem Goes.keep {x:Sem α} {vs:List Value} (h:Goes p w n₀ ann code q c x s pos a s' pos'):Goes p w n₀ ann code q c (x.keep vs) s pos a s' pos':=by intro K H d b;rw [Sem.keep_eq_wrap,Sem.wrap_wrap];exact h K H _ _
theorem Goes.holding {x:Sem α} {vs:List Value} (h:Goes p w n₀ ann code q c x s pos a s' pos'):Goes p w n₀ ann code q c (t9 vs x) s pos a s' pos':=by rw [holding_eq_keep];exact h.keep
theorem Goes.rule {tag:String}:Goes p w n₀ ann code q 1 (PySem.rule tag) s pos () s pos:=λ _ _ _ _=>.one rfl rfl rfl
theorem Goes.at' {pos₁:Pos}:Goes p w n₀ ann code q 1 (standAt pos₁) s pos () s pos₁:=λ _ _ _ _=>.one rfl rfl rfl
theorem Goes.loadPart {A:Addr} {o:Obj} {part:Option Value} (ho:s.heap.get? A=some o):Goes p w n₀ ann code q 1 (loadPart A part) s pos o s pos:=λ K H e b=>.one rfl rfl (by obtain ⟨heap,f,a,d,c⟩:=s;show (match heap.get? A with|some o=>Step.go _ _|none=>_)=_;have ho:heap.get? A=some o:=ho;rw [ho];rfl)
theorem Goes.updatePart {A:Addr} {o:Obj} {f:Obj->Obj} {part:Option Value} (ho:s.heap.get? A=some o) (hn:Nat.ble n₀ A=true):Goes p w n₀ ann code q 1 (updatePart A part f) s pos () { s with heap:=s.heap.update A f } pos:=λ K H e b=>
 .one rfl (by
  show (_ && (Nat.ble n₀ A || _ || _ || _))=true;rw [hn];rfl) (by
  obtain ⟨heap,g,a,d,c⟩:=s;have ho:heap.get? A=some o:=ho;show (if (heap.get? A).isSome=true then Step.go _ _ else _)=_;rw [ho];rfl)
theorem Goes.leaf {x:Sem α} {sT sT':SharedT} (n:Nat) (h :∀K H gd lv,segGoT i3 p w n₀ ann 1 n sT ⟨x.wrap K H gd lv,code,pos,[topFrame q]⟩=some (sT',⟨K a,code,pos',[topFrame q]⟩)) :
  Goes p w n₀ ann code q n x sT.abs pos a sT'.abs pos':=λ K H gd lv=>⟨n,A0 _,segGo_of (h K H gd lv)⟩
end
end TJ
open PySem PySem.W PyProof.Rows
namespace TJ
section
variable {p:Program} {w:P0} {n₀:Nat} {ann:Option Value} {code:Code} {q:Pos} {s:y0} {pos:Pos}
theorem Goes.forIn {γ β:Type} {c:Nat} {f:γ->β->Sem (ForInStep β)} {b:β} :∀{l:List γ},(∀x∈l,Goes p w n₀ ann code q c (f x b) s pos (.yield b) s pos)->Goes p w n₀ ann code q (l.length * c) (ForIn.forIn l b f) s pos b s pos
 | [],_=>by rw [X8];exact Goes.pure.le (L1 _)
 | x :: l,h=>by rw [D8];have k:=Goes.forIn (l:=l) λ y a=>h y (P2 _ a);have e:=Goes.bind (f:=λ r=>match r with | .done b=>(q9 b:Sem β) | .yield b=>ForIn.forIn l b f) (h x V1) k;exact e.le (by rw [v1,Nat.add_mul];omega)
theorem Goes.entries {d:Addr} {o:Obj} {es:Array DictEntry} {ep:Nat} {part:Option Value} (ho:s.heap.get? d=some o) (hd:o.data=.dict es ep):Goes p w n₀ ann code q 1 (dictEntries d part) s pos es s pos:=by unfold dictEntries;refine (Goes.bind (d:=0) (Goes.loadPart ho) ?_);rw [hd];exact Goes.pure
theorem Goes.epoch {d:Addr} {o:Obj} {es:Array DictEntry} {ep:Nat} {part:Option Value} (ho:s.heap.get? d=some o) (hd:o.data=.dict es ep):Goes p w n₀ ann code q 1 (dictEpoch d part) s pos ep s pos:=by unfold dictEpoch;refine (Goes.bind (d:=0) (Goes.loadPart ho) ?_);rw [hd];exact Goes.pure
theorem Goes.mayTell {a:Addr} {stored:List Value} {cq:Nat} (hq:Goes p w n₀ ann code q cq (C5 8 (.ref a)) s pos true s pos) (hs :∀v∈stored,Goes p w n₀ ann code q cq (C5 8 v) s pos true s pos) :
  Goes p w n₀ ann code q (cq + stored.length * cq) (tableMayTell (.ref a) stored) s pos false s pos:=by
 unfold tableMayTell;split
 ·exact Goes.pure.le (L1 _)
 ·refine Goes.bind hq ?_;simp only [Bool.not_true,a6,if_false];refine (Goes.bind (a:=(none,())) (d:=0) (Goes.forIn λ v b=>?_) ?_).le (A0 _)
  ·refine (Goes.bind (d:=0) (hs v b) ?_).le (A0 _);simp only [Bool.not_true,a6,if_false];exact Goes.pure
  ·exact Goes.pure
theorem Goes.find_none {d a:Addr} {o:Obj} {es:Array DictEntry} {ep:Nat} {h:Int} {cq ce:Nat} (ho:s.heap.get? d=some o) (hd:o.data=.dict es ep)
  (hq:Goes p w n₀ ann code q cq (C5 8 (.ref a)) s pos true s pos)
  (hk :∀e∈es.toList,∃b,e.key=.ref b/\b≠a/\Goes p w n₀ ann code q cq (C5 8 (.ref b)) s pos true s pos/\Goes p w n₀ ann code q ce (eqBool (.ref b) (.ref a)) s pos false s pos) :
  Goes p w n₀ ann code q (2 + cq + es.size * (cq + ce + 10)) (dictFind d (.ref a) h) s pos none s pos:=by
 have m :∀(i:Nat) (e:DictEntry),es[i]? = some e->e∈es.toList:=λ i e u=>Array.mem_toList_iff.mpr (C9 u);have t:¬ (es.any λ e=>e.key == C1 a && e.hash != h)=true:=by rw [<-Array.any_toList,List.any_eq_true];rintro ⟨e,hin,hc⟩;obtain ⟨b,f,g,_⟩:=hk e hin;simp only [f,P4,beq_iff_eq,Value.ref.injEq] at hc;exact g hc.1
 have l :∀v∈(J5 es.size (λ i=>es[i]?.map (·.hash)) h).filterMap (λ i=>es[i]?.map (·.key)),∃b,v=.ref b/\b≠a/\Goes p w n₀ ann code q cq (C5 8 v) s pos true s pos:=by
  intro v k;obtain ⟨i,_,j⟩:=List.mem_filterMap.mp k;cases hei:es[i]? with
  | none=>rw [hei] at j;cases j
  | some e=>
   rw [hei] at j;obtain rfl:e.key=v:=by simpa using j
   obtain ⟨b,f,g,x,_⟩:=hk e (m i e hei);exact ⟨b,f,g,f ▸ x⟩
 have n:(J5 es.size (λ i=>es[i]?.map (·.hash)) h).length<=es.size:=by unfold J5;exact G0 (Z0 _ _) (by rw [k5];exact A0 _)
 have B:((J5 es.size (λ i=>es[i]?.map (·.hash)) h).filterMap (λ i=>es[i]?.map (·.key))).length<=es.size:=G0 (List.length_filterMap_le _ _) n;unfold dictFind;refine Goes.holding ?_;refine (Goes.bind (d:=1 + cq + es.size * (cq + ce + 10)) (Goes.entries ho hd) ?_).le (by omega);dsimp only;rw [if_neg (show ¬ ((C1 a :: (J5 es.size (λ i=>es[i]?.map (·.hash)) h).filterMap (λ i=>es[i]?.map (·.key))).all carriedByValue)=true by simp [carriedByValue])];rw [if_neg t];have A:¬ (((J5 es.size (λ i=>es[i]?.map (·.hash)) h).filterMap (λ i=>es[i]?.map (·.key))) == [C1 a])=true:=by intro e;have e:=eq_of_beq e;obtain ⟨b,f,g,_⟩:=l (.ref a) (by rw [e];exact List.mem_singleton.mpr rfl);exact g (by injection f with f;exact f.symm)
 rw [if_neg A];refine (Goes.bind (d:=1 + es.size * (ce + 10)) (Goes.mayTell hq λ v k=>(let ⟨_,_,_,z⟩:=l v k;z)) ?_).le ?_
 ·rw [if_neg (by simp)];refine (Goes.bind (a:=(none,none)) (d:=0) (Goes.forIn (c:=ce + 10) λ i j=>?_) ?_).le ?_
  ·cases hei:es[i]? with
   | none=>exact Goes.pure.le (L1 _)
   | some e=>
    dsimp only;split
    ·obtain ⟨b,f,g,_,r⟩:=hk e (m i e hei);rw [f];refine (Goes.bind (d:=ce + 2) (Goes.epoch ho hd) (Goes.bind (d:=2) r (Goes.bind (d:=1) (Goes.epoch ho hd) ?_))).le (by omega);rw [if_neg (by simp)];rw [if_neg (by simp)];refine Goes.bind (d:=0) Goes.rule ?_;rw [if_neg (by simp)];exact Goes.pure
    ·exact Goes.pure.le (L1 _)
  ·exact Goes.pure
  ·have:=D7 (ce + 10) n;omega
 ·have:=D7 cq B;have y:es.size * (cq + ce + 10)=es.size * cq + es.size * (ce + 10):=by rw [<-Nat.mul_add,Nat.add_assoc]
  rw [y];omega
end
end TJ
open PySem PySem.W PyProof.Rows
namespace TJ
noncomputable abbrev dObj (es:Array DictEntry) (ep:Nat):Obj:={ cls:=.type "dict",data:=.dict es ep }
noncomputable abbrev KV3:=Addr×Value×Int
noncomputable def ent (x:KV3):DictEntry:=⟨x.2.2,.ref x.1,x.2.1⟩
noncomputable def unh (a:Addr):Sem Value:=do rule "hash.unhashable";raiseError "TypeError" s!"unhashable type: '{← typeNameOf (.ref a)}'"
noncomputable def z7g (d:Addr) (vs:List (Value×Value)):Sem PUnit:=forIn vs N7 λ (x:Value×Value) (_:PUnit)=>(do dictSet d x.1 x.2;E3 (N3 N7):Sem (ForInStep PUnit))
section
variable {p:Program} {w:P0} {n₀:Nat} {ann:Option Value} {code:Code} {q:Pos} {pos:Pos} {F:Obj->Nat->SharedT} {d:Addr}
structure Fam (n₀:Nat) (d:Addr) (F:Obj->Nat->SharedT):Prop where
 le:Nat.ble n₀ d=true
 get :∀es ep tk,(F (dObj es ep) tk).abs.heap.get? d=some (dObj es ep)
 upd :∀es ep tk (e:DictEntry),({ (F (dObj es ep) tk).abs with heap:=(F (dObj es ep) tk).abs.heap.update d (a7 (·.push e)) }:y0)=(F (dObj (es.push e) (ep + 1)) tk).abs
theorem Goes.updKeys (Z:Fam n₀ d F) {es:Array DictEntry} {ep tk:Nat} {e:DictEntry} {part:Option Value} (hsz:es.size < sizeLine) :
  Goes p w n₀ ann code q 3 (updateDictKeys d (·.push e) part) (F (dObj es ep) tk).abs pos () (F (dObj (es.push e) (ep + 1)) tk).abs pos:=by
 unfold updateDictKeys;refine (Goes.bind (d:=2) (Goes.loadPart (Z.get es ep tk)) ?_);dsimp only;have u:=Goes.updatePart (p:=p) (w:=w) (ann:=ann) (code:=code) (q:=q) (pos:=pos) (part:=part) (f:=a7 (·.push e)) (Z.get es ep tk) Z.le;rw [Z.upd es ep tk e] at u;refine Goes.bind (d:=1) u ?_;unfold lookBehind;refine Goes.bind (d:=0) (Goes.loadPart (Z.get _ _ tk)) ?_;have a:(dObj (es.push e) (ep + 1)).data.pastItsLine=none:=by unfold Data.pastItsLine;dsimp only;rw [if_neg (by rw [Array.size_push];omega)]
 rw [a];exact Goes.pure
theorem Goes.set (Z:Fam n₀ d F) {a:Addr} {v:Value} {es:Array DictEntry} {ep tk k cp cq ce:Nat} {hsh:Int} (hsz:es.size < sizeLine)
  (hpy:Goes p w n₀ ann code q cp (pyHash (.ref a)) (F (dObj es ep) tk).abs pos hsh (F (dObj es ep) (tk + k)).abs pos)
  (hq:Goes p w n₀ ann code q cq (C5 8 (.ref a)) (F (dObj es ep) (tk + k)).abs pos true (F (dObj es ep) (tk + k)).abs pos)
  (hk :∀e∈es.toList,∃b,e.key=.ref b/\b≠a/\Goes p w n₀ ann code q cq (C5 8 (.ref b)) (F (dObj es ep) (tk + k)).abs pos true (F (dObj es ep) (tk + k)).abs pos/\
   Goes p w n₀ ann code q ce (eqBool (.ref b) (.ref a)) (F (dObj es ep) (tk + k)).abs pos false (F (dObj es ep) (tk + k)).abs pos) :
  Goes p w n₀ ann code q (cp + (2 + cq + es.size * (cq + ce + 10)) + 4) (dictSet d (.ref a) v) (F (dObj es ep) tk).abs pos () (F (dObj (es.push ⟨hsh,.ref a,v⟩) (ep + 1)) (tk + k)).abs pos:=by
 unfold dictSet;refine Goes.holding ?_;refine (Goes.bind (d:=(2 + cq + es.size * (cq + ce + 10)) + 4) hpy ?_).le (by omega);unfold dictSetHashed;refine Goes.holding ?_;refine Goes.bind (d:=4) (Goes.find_none (h:=hsh) (Z.get es ep (tk + k)) rfl hq hk) ?_;exact Goes.bind (d:=3) Goes.rule (Goes.updKeys Z hsz)
theorem zfb {γ β:Type} {f:γ->β->Sem (ForInStep β)} {x:γ} {xs:List γ} {b b' b'':β} {c c':Nat} {s s' s'':y0} (h:Goes p w n₀ ann code q c (f x b) s pos (.yield b') s' pos) (k:Goes p w n₀ ann code q c' (forIn xs b' f) s' pos b'' s'' pos) :
  Goes p w n₀ ann code q (c + c') (forIn (x :: xs) b f) s pos b'' s'' pos:=by
 rw [D8];exact Goes.bind (f:=λ r=>match r with | .done b=>(q9 b:Sem β) | .yield b=>forIn xs b f) h k
theorem Goes.loop (Z:Fam n₀ d F) {cp cq ce N:Nat} (all:List KV3) (hN:all.length<=N) (hN':N < sizeLine) (hnd:(all.map (·.1)).Nodup)
  (hQ :∀x∈all,∀oD tk,Goes p w n₀ ann code q cq (C5 8 (.ref x.1)) (F oD tk).abs pos true (F oD tk).abs pos)
  (hE:all.Pairwise λ x y=>∀oD tk,Goes p w n₀ ann code q ce (eqBool (.ref x.1) (.ref y.1)) (F oD tk).abs pos false (F oD tk).abs pos)
  (hH :∀x∈all,∀oD tk,Goes p w n₀ ann code q cp (pyHash (.ref x.1)) (F oD tk).abs pos x.2.2 (F oD (tk + 3)).abs pos) :
  ∀(todo done:List KV3) (tk:Nat),all=done++todo->
   Goes p w n₀ ann code q (todo.length * (cp + (2 + cq + N * (cq + ce + 10)) + 4)) (z7g d (todo.map λ x=>(C1 x.1,x.2.1)))
    (F (dObj (done.map ent).toArray done.length) tk).abs pos () (F (dObj (all.map ent).toArray all.length) (tk + 3 * todo.length)).abs pos:=by
 intro todo;induction todo with
 | nil=>intro done tk e;rw [O2] at e;subst e;unfold z7g;rw [L6,X8];exact Goes.pure.le (L1 _)
 | cons x todo ih=>
  intro done tk e;have h:x∈all:=by rw [e];exact N0 _ V1
  have f:=ih (done++[x]) (tk + 3) (by rw [e,List.append_assoc];rfl);unfold z7g at f⊢;rw [W0];have c:(done.map ent).toArray.size<=N:=by rw [J0,D0];rw [e,L0] at hN;omega
  have g:=Goes.set (p:=p) (w:=w) (ann:=ann) (code:=code) (q:=q) (pos:=pos) (v:=x.2.1) (ep:=done.length) Z (F1 c hN') (hH x h _ tk) (hQ x h _ _) (es:=(done.map ent).toArray) (ce:=ce) (by
   intro s r;obtain ⟨y,a,rfl⟩:=List.mem_map.mp r;have o:y∈all:=by rw [e];exact J4 _ a
   have k:y.1≠x.1:=by rw [e,N2,W0] at hnd;intro q;exact (List.nodup_append.mp hnd).2.2 y.1 (List.mem_map.mpr ⟨y,a,rfl⟩) x.1 V1 q
   rw [e] at hE;exact ⟨y.1,rfl,k,hQ y o _ _,(List.pairwise_append.mp hE).2.2 y a x V1 _ _⟩)
  have l:((done.map ent).toArray.push ⟨x.2.2,.ref x.1,x.2.1⟩)=((done++[x]).map ent).toArray:=by rw [List.push_toArray,N2];rfl
  have n:done.length + 1=(done++[x]).length:=by rw [L0];rfl
  rw [l,n] at g;have m:tk + 3 * (x :: todo).length=(tk + 3) + 3 * todo.length:=by rw [v1];omega
  rw [m];have i:Goes p w n₀ ann code q (_ + 0) (do dictSet d (C1 x.1,x.2.1).1 (C1 x.1,x.2.1).2;q9 (N3 N7):Sem (ForInStep PUnit)) _ pos (N3 N7) _ pos:=Goes.bind g Goes.pure;have j:=zfb (b:=N7) (xs:=todo.map λ x=>(C1 x.1,x.2.1)) i f;refine j.le ?_;rw [v1,Nat.add_mul];have:=D7 (cq + ce + 10) c;omega
noncomputable def z6v (acc:Nat):Int:=if acc == 2 ^ 64 - 1 then 1546275796 else if acc < 2 ^ 63 then acc else (acc:Int) - (2 ^ 64:Nat)
theorem z53 (acc:Nat) (h:acc < 2 ^ 64):-(2:Int) ^ 63<=z6v acc/\z6v acc < 2 ^ 63:=by
 unfold z6v;split
 ·constructor<;>decide
 ·split
  ·constructor<;>omega
  ·constructor<;>omega
theorem z3q (hs:List Int):-(2:Int) ^ 63<=d0 hs/\d0 hs < 2 ^ 63:=
 z53 _ (Nat.mod_lt _ (by decide))
theorem Goes.pyHashT {a:Addr} {s s':y0} {hs:List Int} {tok:Tok} (h1:Goes p w n₀ ann code q 1 (cRoomFor "hash" [.ref a]) s pos () s pos)
  (h2:Goes p w n₀ ann code q 1 (specialOf (.ref a) "__hash__") s pos (some (.builtin "tuple.__hash__")) s pos)
  (h3:Goes p w n₀ ann code q 22 (U5 (.ref a) "__hash__" (unh a)) s pos (some (.int (d0 hs) tok)) s' pos) :
  Goes p w n₀ ann code q 25 (pyHash (.ref a)) s pos (X0 (d0 hs)) s' pos:=by
 have e:pyHash (.ref a)=pyHashByItsType (.ref a):=rfl;rw [e];unfold pyHashByItsType;refine Goes.bind (d:=24) h1 ?_;refine Goes.bind (d:=23) h2 ?_;rw [if_neg (by rw [beq_builtin_none];exact R0)];refine Goes.bind (d:=22) h2 ?_;show Goes p w n₀ ann code q 22 (U5 (.ref a) "__hash__" (unh a) >>= _) s pos _ s' pos;refine Goes.bind (d:=0) h3 ?_;have r:(decide (-(2:Int) ^ 63<=d0 hs) && decide (d0 hs < 2 ^ 63))=true:=by have r:=z3q hs;rw [decide_eq_true r.1,decide_eq_true r.2];rfl
 show Goes p w n₀ ann code q 0 (if (decide (-(2:Int) ^ 63<=d0 hs) && decide (d0 hs < 2 ^ 63))=true then _ else _) s' pos _ s' pos;have b:X0 (d0 hs)=(if (d0 hs == -1)=true then -2 else d0 hs):=by unfold X0;rw [if_pos r]
 rw [if_pos r,b];exact Goes.pure
theorem Goes.subDict {pairs:List (Sem Value×Sem Value)} {s s₁ s':y0} {vs:List (Value×Value)} {c c':Nat} {d:Addr} (hlen:pairs.length<=15) (hd:s.heap.objs.size=d)
  (h1:Goes p w n₀ ann code q c (evalPairs pairs) { s with heap:=s.heap.push { cls:=.type "dict",data:=.dict #[] } } pos vs s₁ pos)
  (h2:Goes p w n₀ ann code q c' (z7g d vs) s₁ pos () s' pos):Goes p w n₀ ann code q (1 + (c + c')) (subDict pairs) s pos d s' pos:=by
 subst hd;unfold PySem.subDict;refine Goes.bind (a:=s.heap.objs.size) (λ _ _ _ _=>.one rfl rfl rfl) ?_;refine (Goes.bind (d:=0) (a:=()) (Goes.holding ?_) Goes.pure);rw [if_pos hlen];refine Goes.bind h1 ?_;exact Goes.holding (Goes.bind (d:=0) h2 Goes.pure)
theorem Goes.execs1 {st:Stmt} {env:Env} {s s':y0} {pos':Pos} {c:Nat} (h:Goes p w n₀ ann code q c (exec st env) s pos .next s' pos'):Goes p w n₀ ann code q c (execs [st] env) s pos .next s' pos':=by rw [execs_cons];exact Goes.bind (d:=0) h Goes.pure
theorem Goes.seg {l:List Stmt} {env:Env} {s s':y0} {pos':Pos} {c:Nat} (h:Goes p w n₀ ann code q c (execs l env) s pos .next s' pos') :∃n,n<=c + 1/\segRun i3 p w n₀ ann 1 n s (piecesOf l env code pos [topFrame q])=some (.next,s',code,pos'):=by obtain ⟨n,a,h⟩:=h doneF deadEnd id id;exact ⟨n + 1,by omega,seg_go h rfl⟩
end
theorem zdg {p q:Program} {loose:List Str} {Xt:y0->Bool} {α:Type} {Yf:y0->α} {Ya:P0->α} {N:Nat} {H₀:T0->Heap} {gs₀:Array GenState} {d₀:Drawn} {k₀ m₀:Nat} {ann:Option Value} {S:P0->T2->y0}
  (opens :∀w:P0,(fencedOpening i3 p w N).map (λ s=>(s.heap,s.gens,s.drawn,s.toks))=some (H₀ w.params,gs₀,d₀,k₀))
  (sizes :∀w:P0,(((H₀ w.params).isNs P1 && gs₀.size == 0),(H₀ w.params).objs.size,(H₀ w.params).nsMap P1 "__annotations__")=(true,m₀,ann))
  (runs :∀(w:P0) (os:T2),∃M,M<=N/\topRun i3 p w m₀ ann M ⟨H₀ w.params,gs₀,d₀,k₀,os⟩ (topStub p)=some (S w os))
  (looks1 :∀(w:P0) (os:T2),(staticsOk (g6 p.main.body) (H₀ w.params) (S w os).heap && namesBound p (S w os).heap && gensDone (S w os) && laidKept (H₀ w.params) (S w os).heap)=true)
  (looks2 :∀(w:P0) (os:T2),openSeen q loose (g6 p.main.body) Xt true (S w os)=openGood q loose) (looks3 :∀(w:P0) (os:T2),Yf (S w os)=Ya w):LeftO p q loose Xt Yf Ya N:=by
 intro w;obtain ⟨⟨h,c,b,k,os⟩,e,a⟩:=Option.map_eq_some_iff.mp (opens w);simp only [Prod.mk.injEq] at a;obtain ⟨rfl,rfl,rfl,rfl⟩:=a;have z:=sizes w;simp only [Prod.mk.injEq] at z;obtain ⟨d,f,g⟩:=z;obtain ⟨M,i,r⟩:=runs w os;have r:=topRun_mono (N - M) _ _ _ _ r;rw [Nat.add_sub_cancel' i] at r;have t:topFrom i3 p w N ⟨H₀ w.params,c,b,k,os⟩=some (S w os):=by unfold topFrom;dsimp only;rw [d,f,g,r];show (match (staticsOk (g6 p.main.body) (H₀ w.params) (S w os).heap && namesBound p (S w os).heap && gensDone (S w os) && laidKept (H₀ w.params) (S w os).heap) with|true=>some (S w os)|false=>none)=_;rw [looks1 w os]
 unfold openEnds;rw [e];show (topFrom i3 p w N _).map _=_;rw [t];show some (_,_)=some (_,_);rw [looks2 w os,looks3 w os]
theorem z9h {p:Program} {w:P0} {n₀:Nat} {ann:Option Value} {env:Env} {q:Pos} {c N:Nat} {s s' r:y0} {l rest:List Stmt} {b:Code} {pos pos':Pos} (h:Goes p w n₀ ann b q c (execs l env) s pos .next s' pos')
  (k:topRun i3 p w n₀ ann N s' (restOf rest env b pos' [topFrame q])=some r) :∃M,M<=c + 1 + N/\topRun i3 p w n₀ ann M s (restOf (l++rest) env b pos [topFrame q])=some r:=by
 obtain ⟨n,a,g⟩:=Goes.seg h;exact ⟨n + N,by omega,piece_app g k⟩
end TJ
open PySem PySem.Spec PyProof.Rows
namespace L2
noncomputable abbrev fnX (x q:Str) (s:Stmt) (m:Str) (k c:Nat):FuncData:=Z4 x q (z6c s) (z36 s) (z07 s) .none .none .none (.str m k) none (.ref c) .none
noncomputable abbrev fY (x q:Str) (s:Stmt):=fnX x q s "law_talejudge_k13_zones_told" 623
noncomputable abbrev fO (x q:Str) (s:Stmt) (m:Str) (k c:Nat):Obj:=⟨.type "function",none,.func (fnX x q s m k c),#[]⟩
noncomputable abbrev fL (x q:Str) (s:Stmt):=fO x q s "law_talejudge_k13_zones_told" 623
noncomputable abbrev cO (x q:Str) (i l n a j:Nat):Obj:=
 ⟨.type "code",none,.fields #[.str x i,.str q (i + 1),.str "/claim/cut.py" (i + 2),.int l 0,.int n 0,.int 0 0,.int 0 0,.int 3 0,.ref a,.bool true,.int 181 0,.ref (a + 1),.none,.ref (a + 2),.ref (a + 3),.ref (a + 4),.int j 0,.int l 0,.str "/claim/cut.py" (j + 1)],#[]⟩
noncomputable abbrev cP (x q:Str) (i l n a j:Nat):Obj:=
 ⟨.type "code",none,.fields #[.str x i,.str q (i + 1),.str "/claim/cut.py" (i + 2),.int l 0,.int n 0,.int 0 0,.int 0 0,.int 3 0,.ref a,.bool true,.int 181 0,.ref (a + 1),.none,.none,.none,.ref (a + 2),.int j 0,.int l 0,.str "/claim/cut.py" (j + 1)],#[]⟩
noncomputable abbrev kR (P:T0) (x:Str) (i a:Nat):DictEntry:=⟨b0 P x,.str x i,.ref a⟩
section
variable {P:Program} {w:P0} {K:c0} {mg:Str->Option Value} {base:Heap} {x q:Str} {st:Stmt} {f:Addr} {fd:FuncData} {k:Nat} {ps:List Str} {sp:Sp}
theorem z0d {m:Str} {i c:Nat} (l:K.lookup f=some (fO x q st m i c):=by kernel_rfl) (hc:S6 K (.ref c) q=true:=by kernel_rfl) (hk:X3 K (.ref f)=true:=by kernel_rfl):Fun K x q st f (fnX x q st m i c):=fun_mk l hc hk
theorem cal_mk (T:TX K mg) (F:Fun K x q st f fd) (g:F3 K P1 x=some (some (.ref f))) (b:Binds K fd ps []) (G:FnOk P w K mg base CX0 k f fd ps sp):Cal P w K mg base x ps k sp:=⟨⟨f,fd,G,T.of g,F.kp,b⟩⟩
end
section
variable {p:List Value->Prop}
theorem us1 (h :∀a,p [a]) :∀us:List Value,us.length=1->p us | [a],_=>h a
theorem us2 (h :∀a b,p [a,b]) :∀us:List Value,us.length=2->p us | [a,b],_=>h a b
theorem us3 (h :∀a b c,p [a,b,c]) :∀us:List Value,us.length=3->p us | [a,b,c],_=>h a b c
theorem us5 (h :∀a b c d e,p [a,b,c,d,e]) :∀us:List Value,us.length=5->p us | [a,b,c,d,e],_=>h a b c d e
end
end L2
set_option maxHeartbeats 1000000
namespace L2
open PySem PySem.Spec PyProof.Rows
section
variable {prog:Program} {w:P0} {A:W1} {E:Value->y0->Prop} {s:y0}
theorem sort1 {a:Addr} {v:Value} {n0:Nat} {P:m7->y0->Prop} (ho:s.heap.get? a=some (Q2 "list" #[v] n0))
  (h :∀(h':Heap) (e:Nat),(∀b o,b≠a->s.heap.get? b=some o->h'.get? b=some o)->h'.get? a=some (Q2 "list" #[v] e)->P (.done (.ret .none)) { s with heap:=h' }) :
  Q0 (Y0 prog w) A (O6.«list.sort» ⟨[.ref a],[]⟩) P E s:=by
 obtain ⟨f,i⟩ :∃f,(s.heap.update a (E1 λ _=>(#[]:Array Value))).get? a=some (Q2 "list" #[] f):=⟨_,i6 ho λ _=>#[]⟩
 rw [list_sort_plain];refine o0 (listItems_at ho rfl (o0 (Q5 ho rfl (o0 (d9 i rfl (o0 (wpAny_newTuple (o0 (d8 (E2 ?_) (L1 _))) (show 1<=sizeLine by decide))))) (show 1<=_ by decide) (L1 _))));dsimp only;generalize hh3:((s.heap.update a (E1 λ _=>(#[]:Array Value))).push (Q2 "tuple" #[v] 0)).push (Q2 "list" #[] 0)=h3;have j:=W2 s.heap a (E1 λ _=>(#[]:Array Value));have k :∀b o,b≠a->s.heap.get? b=some o->h3.get? b=some o:=λ b o n e=>by rw [<-hh3];exact v0 _ (v0 _ ((j.2 b n).trans e))
 have c:h3.get? a=some (Q2 "list" #[] f):=by rw [<-hh3];exact v0 _ (v0 _ i)
 rw [if_pos (show (#[v]:Array Value).size < 2 by simp)];refine o0 (C0 ?_);rw [if_pos (show (#[v]:Array Value).size < 2 by simp)];refine (show Q0 _ _ (E3 ((),B8 general' ((#[v]:Array Value).zip #[v]) #[] 7 none) >>= _) _ _ _ from o0 (C0 ?_));dsimp only;have g:Array.map (λ x=>x.snd) (f8 (B8 general' ((#[v]:Array Value).zip #[v]) #[] 7 none)) = #[v]:=by show Array.map (λ x=>x.snd) ((#[v]:Array Value).zip #[v]) = #[v];simp
 refine o0 (d9 c rfl (o0 (Q5 c rfl ?_ (L1 _) ?_)))
 ·simp only [bne_self_eq_false,a6,if_false];rw [g];obtain ⟨d,l⟩ :∃d,(h3.update a (E1 λ _=>(#[v]:Array Value))).get? a=some (Q2 "list" #[v] d):=⟨_,i6 c λ _=>#[v]⟩
  exact C0 (h _ d (λ b o n e=>(M6 _ _ (y3 n)).trans (k b o n e)) l)
 ·rw [g];exact (show 1<=_ by decide)
end
section
variable {X:Cx}
theorem z6s:CallR X (.builtin "sorted") (λ xs H Q=>∃(a:Addr) (y:V),xs=[.ref a]/\SqL X.K H a [y]/\∀l,H l=none->Q (.ref l) (upd H l (.lst [y]))):=by intro B s σ H xs F Q I w h;obtain ⟨a,y,rfl,C,q⟩:=h;obtain ⟨u,rfl,D⟩:=vals1 w;cases D;obtain ⟨J,f,p,E⟩:=I.list C;obtain ⟨v,rfl,G⟩:=vals1 f;refine Calls.call_function_entry kind_sorted plain_sorted entry_sorted (args_sorted1 _) ?_;unfold O6.«sorted»;obtain ⟨o,r,A,n,hd⟩:=p.isList;refine o0 (m:=checkCount "sorted" 1 1 _) (C0 (o0 (wpAny_collect_seq a (.inl rfl) r A hd (λ c x=>?_) (show 1<=_ by decide))));have d:(c.push (Q2 "list" #[v] 0)).get? c.objs.size=some (Q2 "list" #[v] 0):=I0 _ rfl;have g:Inv X B σ H { s with heap:=c }:=I.kept (t':=s.toks) x;refine o0 (d8 (o0 (E2 (g7 slot_list_sort ⟨_,d,rfl⟩ entry_list_sort (sort1 (s:={ s with heap:=c.push (Q2 "list" #[v] 0) }) d λ k e j t=>⟨_,rfl,?_⟩) (args_list_sort _)))) (show 1<=_ by decide));have i :∀b o,c.get? b=some o->k.get? b=some o:=λ b o z=>j b o (O0 (F0 z)) (v0 _ z);exact C0 ⟨_,rfl,.ref c.objs.size,_,g.laid (t':=s.toks) (o:=.lst [y]) i (A0 _) ⟨(show 1<=sizeLine by decide),_,e,f,t⟩,rfl,q _ (g.hok.fresh (A0 _))⟩
end
variable {X:Cx}
def rDictT (K:c0):List V->Hp->VK->Prop:=λ xs H Q=>∃a ys kvs,xs=[.ref a]/\H a=some (.tup ys)/\All2 (λ (p:Key×V) y=>∃b,y=.ref b/\SqT K H b [kV p.1,p.2]) kvs ys/\∀p,H p=none->Q (.ref p) (upd H p (.dK (mergeK [] kvs)))
theorem zaj (hc:X.calm=true):CallR X (.type "dict") (rDictT X.K):=by
 intro T s σ H W us Q I r h;obtain ⟨a,P,f,rfl,J,m,q⟩:=h;obtain ⟨u,rfl,M⟩:=vals1 r;cases (show u=C1 a from M);have l:X.A.handled=none:=I.ok.hd hc;have G:H s.heap.objs.size=none:=I.hok.fresh (A0 _);have big:=I.big;have fin :∀(d:List (Key×Value)) (h':Heap) (c:Nat),KV f d->f.length<=sizeLine->a5 (z0f X.prog X.w) h' s.heap.objs.size (merged [] d)->(∀b o,b≠s.heap.objs.size->(s.heap.push { cls:=.type "dict",data:=.dict #[] }).get? b=some o->h'.get? b=some o)->
   EP X T σ Q (.ref s.heap.objs.size) { s with heap:=h',toks:=c }:=λ d h' c g O j i=>by
  refine ⟨.ref s.heap.objs.size,_,I.laid (a:=s.heap.objs.size) (o:=.dK (mergeK [] f)) (h':=h') (t':=c) (λ b o e=>i b o (O0 (F0 e)) (v0 _ e)) (A0 _) ?_,rfl,q _ G⟩;exact dk_new (G0 (z62 [] f) (by simpa using O)) (beq_eq_false_iff_ne.mpr (y3 (O0 big))) (KV.merge g .nil) j
 have C:P.length=f.length:=z03 m;obtain ⟨z,a1,R,⟨o,B,t,n,D⟩,Y,p,k⟩:=I.hok a _ J;rw [B] at p;cases p;obtain ⟨d,g,N⟩:=z9g I m R;obtain ⟨U,V,Z,a0⟩:=o;dsimp only at t D k;subst t D k;refine callType_codes F.kt_called_dict (F.kt_typeCall_dict_1 _) F.entry_dict_init (kt_code_dict_new _ (Q₁:=λ E v=>E=.ref s.heap.objs.size/\v={ s with heap:=s.heap.push { cls:=.type "dict",data:=.dict #[] } }) ⟨rfl,rfl⟩) ?_;rintro E v ⟨rfl,rfl⟩;refine ⟨⟨_,I0 _ rfl,rfl⟩,F.args_dict_init_2 _ _,?_⟩;refine z3t (s:={ s with heap:=s.heap.push { cls:=.type "dict",data:=.dict #[] } }) (I0 _ rfl) (v0 _ B) l l (by simpa using z01 (λ x y z=>PairOf.kept (L:=[]) (λ b o _ e=>v0 _ e) (λ b S=>absurd S B0) z) N) (by rw [<-C7 g,<-C];exact z) λ h' c j i=>fin d h' c g (by rw [<-C];exact z) j i
variable {X:Cx}
theorem z7r (hc:X.calm=true):CallR X (.builtin "max") (λ xs H Q=>∃(p:Addr) (ns:List Int),xs=[.ref p]/\SqL X.K H p (ns.map V.int)/\ns≠[]/\∀M,M∈ns->(∀a∈ns,a<=M)->Q (.int M) H):=by
 intro F s σ H xs G Q I r h;obtain ⟨p,ns,rfl,z,n,q⟩:=h;obtain ⟨u,rfl,A⟩:=vals1 r;cases A;obtain ⟨y,x,l,E⟩:=I.list z;have d:C3 y ns:=z3k x;obtain ⟨xs,e⟩:=d.allInts.items;have b:ns=xs.toList.map (·.1):=by rw [<-d.numsOf,<-nums_intItems,<-e]
 have m:0 < xs.size:=by have c:=List.length_pos_iff.mpr n;rw [b,D0,V0] at c;exact c
 have f:=l.isList;rw [e] at f;refine max_intList (I.ok.hd hc) f m λ v C B i w=>?_;obtain ⟨t,rfl⟩:=intItems_at i;obtain ⟨D,k⟩:=argBest_gt (numAt xs) (xs.size - 1);refine ⟨.int _,H,I.kept w,⟨_,rfl⟩,q _ ?_ λ a g=>?_⟩
 ·rw [b,numAt_eq];exact getD_mem (by rw [D0,V0];omega)
 ·rw [b] at g;obtain ⟨j,o,rfl⟩:=mem_getD g;rw [D0,V0] at o;rw [<-numAt_eq];exact k j (by omega)
theorem z2p (hc:X.calm=true):CallR X (.builtin "min") (λ xs H Q=>∃(p:Addr) (ns:List Int),xs=[.ref p]/\SqL X.K H p (ns.map V.int)/\ns≠[]/\∀M,M∈ns->(∀a∈ns,M<=a)->Q (.int M) H):=by
 intro F s σ H xs G Q I r h;obtain ⟨p,ns,rfl,z,n,q⟩:=h;obtain ⟨u,rfl,A⟩:=vals1 r;cases A;obtain ⟨y,x,l,E⟩:=I.list z;have d:C3 y ns:=z3k x;obtain ⟨xs,e⟩:=d.allInts.items;have b:ns=xs.toList.map (·.1):=by rw [<-d.numsOf,<-nums_intItems,<-e]
 have m:0 < xs.size:=by have c:=List.length_pos_iff.mpr n;rw [b,D0,V0] at c;exact c
 have f:=l.isList;rw [e] at f;refine min_intList (I.ok.hd hc) f m λ v C B i w=>?_;obtain ⟨t,rfl⟩:=intItems_at i;obtain ⟨D,k⟩:=argBest_lt (numAt xs) (xs.size - 1);refine ⟨.int _,H,I.kept w,⟨_,rfl⟩,q _ ?_ λ a g=>?_⟩
 ·rw [b,numAt_eq];exact getD_mem (by rw [D0,V0];omega)
 ·rw [b] at g;obtain ⟨j,o,rfl⟩:=mem_getD g;rw [D0,V0] at o;rw [<-numAt_eq];exact k j (by omega)
end L2
set_option maxHeartbeats 4000000
namespace L2
open PySem PySem.Spec PyProof.Rows
noncomputable def Itms (a:Addr) (ob:Obj) (kvs:List (Key×V)):It:=
 ⟨λ i H=>H a=some (.frz ob (.dK kvs))/\i < kvs.length,λ i H x H'=>∃p k v,H p=none/\x=.ref p/\kvs[i]? = some (k,v)/\H'=upd H p (.tup [kV k,v]),λ i H=>H a=some (.frz ob (.dK kvs))/\kvs.length<=i⟩
theorem zb4 {P:Program} {w:P0} {K:c0} {elts:List Expr} {x1:Nat} {pos:Pos} {a it:Addr} {ob:Obj} {kvs:List (Key×V)} {es:Array DictEntry} {ep:Nat} (hob:ob.data=.dict es ep):Turn P w K (.Tuple elts x1 pos) (Itms a ob kvs) [it] it (λ i h=>∃ok ov,IsItemIter h it a i kvs.length ep ok ov) where
 mem:=by simp
 obj:=λ i h d b f=>by
  obtain rfl:b=it:=by simpa using f
  obtain ⟨ok,ov,e⟩:=d;exact ⟨_,e,λ v z=>by cases (show Z9 _=Data.cell v from z)⟩
 keep:=λ i h F d k=>by obtain ⟨ok,ov,e⟩:=d;exact ⟨ok,ov,k it (by simp) _ e⟩
 item:=by
  intro X y A q g i a3 s σ H E I j d n;subst y A q;obtain ⟨m,L⟩:=n;obtain ⟨vs,N,l,C⟩:=frz_at I hob m;have M:kvs[i]? = some kvs[i]:=M0 L;obtain ⟨⟨k',u⟩,hu,B,Z⟩:=z4n N M;obtain ⟨ok,ov,d⟩:=d;rw [<-l] at d;have a1:it < s.heap.objs.size:=F0 d;have O:s.heap.objs.size≠it:=X1 a1;refine wpAny_pyNext_items_item d C hu λ G F a2 a0 tT hz T=>?_;refine ⟨_,rfl,wpAny_letOwnedTupleGo_items a0 λ R D sb=>?_⟩;have S:RelV (kV kvs[i].1) G:=by
   have B:kvs[i].1=k':=B;rw [B];rcases z0j a2 with ⟨i,t,r,p⟩|⟨x,t,r,p⟩
   ·rw [r,p];exact ⟨t,rfl⟩
   ·rw [r,p];exact ⟨t,rfl⟩
  have Q :∀b o,b∉[it]->s.heap.get? b=some o->R.get? b=some o:=λ b o f z=>by have f:b≠it:=λ z=>f (List.mem_singleton.mpr z);exact (sb.2 b f).trans (T b o f z)
  have J:=(sb.2 _ O).trans tT;have U:H s.heap.objs.size=none:=I.hok.fresh (A0 _);rw [l] at D;refine ⟨.ref s.heap.objs.size,upd H s.heap.objs.size (.tup [kV kvs[i].1,kvs[i].2]),I.turnedLaid (t':=s.toks) Q j (A0 _) ⟨w_2,[G,u],.cons S (.cons Z .nil),⟨_,J,rfl,_,rfl⟩,_,J,rfl⟩,rfl,⟨_,_,_,U,rfl,M,rfl⟩,⟨_,_,D⟩,λ c g=>?_⟩;rw [upd_ne (λ (z:c=s.heap.objs.size)=>O (z ▸ List.mem_singleton.mp g))];exact (j c g).1
 done:=by intro X y A q g i a3 s σ H E I j d n;subst y A q;obtain ⟨m,L⟩:=n;obtain ⟨vs,N,l,C⟩:=frz_at I hob m;obtain ⟨f0,f1,f2,Y,f4,f5⟩:=j it (by simp);obtain ⟨ok,ov,d⟩:=d;rw [<-l] at d;exact wpAny_pyNext_items_end (I.ok.hd g) d C (by rw [T3];omega) λ F eb=>⟨rfl,I.turned (t':=s.toks) (λ b o f e=>eb b o f e) f0 f1 Y f4 f5⟩
 self:=λ _ _ _ _ _ d h=>by obtain ⟨ok,ov,d⟩:=d;exact PySem.W.kcp_self d h
noncomputable def iItems (td:TE):TI:=λ σ H R=>td σ H λ x H1=>∃a kvs,x=.ref a/\H1 a=some (.dK kvs)/\∀ob,R (Itms a ob kvs) (upd H1 a (.frz ob (.dK kvs)))
section
variable {X:Cx}
theorem zdt {elts:List Expr} {x1:Nat} {tpos:Pos} {o:Expr} {to:TE} {apos cpos:Pos} (ho:PE X o to) (hbase:c5 o "items" X.env (P3 o X.env)=P3 o X.env:=by rfl) (hline:(apos.endLine == cpos.line)=true:=by rfl):PI X (.Tuple elts x1 tpos) (.Call (.Attribute o "items" apos) [] [] cpos) (iItems to):=by
 intro m s σ H R I h;refine wpAny_Call_method0_late hbase hline (thn (ho m s σ H _ I h) λ v c ⟨x,H1,I1,r1,a,kvs,ex,ea,q⟩=>?_);subst ex;cases r1;obtain ⟨n,B,hd⟩:=isD_at I1 (.inl ⟨_,.inl ea⟩);obtain ⟨_,_,l,A,k⟩:=dk_of I1.hok ea;obtain ⟨C,p⟩:=k.dictAt;obtain ⟨i,g,ho,D,t,_⟩:=id p;refine ⟨"dict","dict.items",p6,T8,PySem.F.type_dict_items,n,B,j4 rfl (S9 ?_)⟩;refine K8 T8 n PySem.F.entry_dict_items (PySem.F.args_dict_items_1 _) (meets_dict_items (z0f X.prog X.w) a hd) ⟨⟨_,k⟩,?_⟩;have j :∀b o,c.heap.get? b=some o->(c.heap.push { cls:=.type "dict_items",data:=.fields #[.ref a] }).get? b=some o:=λ b o e=>v0 _ e;have d:Inv X m σ (upd H1 a (.frz i (.dK kvs))) { c with heap:=c.heap.push { cls:=.type "dict_items",data:=.fields #[.ref a] } }:=(I1.freeze ea ho).kept (t':=c.toks) j;have f:(c.heap.push { cls:=.type "dict_items",data:=.fields #[.ref a] }).DictAt (z0f X.prog X.w) a l C:=by obtain ⟨o,g,u,r⟩:=p;exact ⟨o,g,j _ _ u,r⟩
 refine wpAny_pyIter_items (s:={ c with heap:=c.heap.push { cls:=.type "dict_items",data:=.fields #[.ref a] } }) ⟨_,I0 _ rfl,rfl,rfl⟩ f ?_;have y:l.length=kvs.length:=A.length.symm;generalize hh2:c.heap.push { cls:=.type "dict_items",data:=.fields #[.ref a] }=h2 at d f;refine ⟨h2.objs.size,[h2.objs.size],_,_,_,rfl,d.kept (t':=c.toks) λ b o e=>v0 _ e,zb4 t,⟨_,_,by rw [<-y];exact I0 _ rfl⟩,λ b z=>?_,q i⟩;obtain rfl:b=h2.objs.size:=by simpa using z
 exact d.fpOk (A0 _) (d.hok.fresh (A0 _))
end
theorem zbu {a:Addr} {ob:Obj} {kvs:List (Key×V)} {g:TG} {tb:TS} {D:Ends} {σ:St} {H:Hp} (Pv:Nat->St->Hp->Prop) (h0:Pv 0 σ H) (fr :∀i σ H,Pv i σ H->H a=some (.frz ob (.dK kvs)))
  (hs :∀i k v σ H p,kvs[i]? = some (k,v)->Pv i σ H->H p=none->g (.ref p) σ (upd H p (.tup [kV k,v])) λ σ2 H2=>tb { D with nx:=Pv (i + 1),ct:=Pv (i + 1),bk:=D.nx } σ2 H2) (hd :∀σ H,Pv kvs.length σ H->D.nx σ H) :
  ∃W:Nat->Nat->St->Hp->Prop,(∃m,W 0 m σ H)/\∀i m σ H,W i m σ H->
   ((Itms a ob kvs).stop i H/\D.nx σ H)\/((Itms a ob kvs).go i H/\∃N:St->Hp->Prop,(∀σ' H',N σ' H'->∃m',m' < m/\W (i + 1) m' σ' H')/\∀x H',(Itms a ob kvs).yld i H x H'->g x σ H' λ σ2 H2=>tb { D with nx:=N,ct:=N,bk:=D.nx } σ2 H2):=by
 refine ⟨λ i m σ H=>m=kvs.length - i/\i<=kvs.length/\Pv i σ H,⟨kvs.length,by simp,L1 _,h0⟩,?_⟩;rintro i m σ H ⟨rfl,hi,p⟩;by_cases hlt:i < kvs.length
 ·refine .inr ⟨⟨fr _ _ _ p,hlt⟩,Pv (i + 1),λ σ' H' q=>⟨kvs.length - (i + 1),by omega,rfl,hlt,q⟩,λ x H' y=>?_⟩;obtain ⟨b,k,v,d,rfl,c,rfl⟩:=y;exact hs i k v σ H b c p d
 ·obtain rfl:i=kvs.length:=by omega
  exact .inl ⟨⟨fr _ _ _ p,A0 _⟩,hd σ H p⟩
end L2
set_option maxHeartbeats 1000000
namespace L2
open PySem PySem.Spec PyProof.Rows
theorem z7o {α β:Type} {g:α->β} {l m:List β} (h:l.Perm m) :∀zs:List α,m=zs.map g->∃zs':List α,zs'.Perm zs/\l=zs'.map g:=by
 induction h with
 | nil=>intro zs e;exact ⟨zs,.refl _,e⟩
 | cons x _ ih=>
  intro zs e;cases zs with
  | nil=>cases e
  | cons z zs=>injection e with e1 e2;obtain ⟨zs',b,a⟩:=ih zs e2;exact ⟨z :: zs',b.cons z,by rw [W0,<-e1,<-a]⟩
 | swap x y l=>
  intro zs e;cases zs with
  | nil=>cases e
  | cons z zs=>
   cases zs with
   | nil=>injection e with _ e;cases e
   | cons z' zs=>injection e with e1 e2;injection e2 with e2 e3;exact ⟨z' :: z :: zs,.swap _ _ _,by rw [W0,W0,<-e1,<-e2,<-e3]⟩
 | trans _ _ ih1 ih2=>intro zs e;obtain ⟨c,b,a⟩:=ih2 zs e;obtain ⟨i,d,f⟩:=ih1 c a;exact ⟨i,d.trans b,f⟩
def KeyOut (kz:List Int) (ys out:List V):Prop:=∃ps:List (Int×V),ps.Perm (kz.zip ys)/\out=ps.map Prod.snd/\ps.Pairwise λ p q=>p.1<=q.1
theorem zf2 {kz:List Int} {ys:List V} {vs out:List Value} (hv:Vals ys vs) (hl:kz.length=ys.length) (h:KskOut false kz vs out) :∃zs,Vals zs out/\KeyOut kz ys zs/\zs.length=ys.length:=by
 obtain ⟨n,a,rfl,c⟩:=h;have f:=hv.length;have e:kz.zip vs=(kz.zip (ys.zip vs)).map λ p=>(p.1,p.2.2):=by
  clear a c hl;induction hv generalizing kz with
  | nil=>rw [X5,List.zip_nil_left,X5];rfl
  | cons r t ih=>
   cases kz with
   | nil=>rfl
   | cons k kz=>have:=ih (kz:=kz) (by have:=f;simpa using this);show (k,_) :: kz.zip _=_ :: _;rw [this];rfl
 obtain ⟨zs,d,g⟩:=z7o a _ e;have i :∀p∈kz.zip (ys.zip vs),RelV p.2.1 p.2.2:=λ p a=>by
  have:=(O5 a).2;have l :∀{ys:List V} {vs:List Value},Vals ys vs->∀q∈ys.zip vs,RelV q.1 q.2:=by
   intro ys vs h;induction h with
   | nil=>exact λ q b=>absurd b B0
   | cons r t ih=>
    intro q b;rcases List.mem_cons.mp b with rfl|b
    ·exact r
    ·exact ih q b
  exact l hv _ this
 have j :∀zs:List (Int×V×Value),(∀p∈zs,RelV p.2.1 p.2.2)->Vals (zs.map λ p=>p.2.1) (zs.map λ p=>p.2.2):=by
  intro zs;induction zs with
  | nil=>exact λ _=>.nil
  | cons z zs ih=>exact λ h=>.cons (h z (.head _)) (ih λ p a=>h p (.tail _ a))
 have m:kz.zip ys=(kz.zip (ys.zip vs)).map λ p=>(p.1,p.2.1):=by
  clear a c hl d g i e;induction hv generalizing kz with
  | nil=>rw [X5,List.zip_nil_left,X5];rfl
  | cons r t ih=>
   cases kz with
   | nil=>rfl
   | cons k kz=>have:=ih (kz:=kz) (by have:=f;simpa using this);show (k,_) :: kz.zip _=_ :: _;rw [this];rfl
 refine ⟨zs.map λ p=>p.2.1,?_,⟨zs.map λ p=>(p.1,p.2.1),?_,?_,?_⟩,?_⟩
 ·rw [g,g3];exact j zs λ p a=>i p (d.mem_iff.mp a)
 ·rw [m];exact d.map _
 ·rw [g3];rfl
 ·rw [g] at c;rw [j5] at c⊢;exact c.imp λ h=>h
 ·rw [D0,d.length_eq,List.length_zip,List.length_zip,hl,<-f,O9,O9]
section
variable {X:Cx} {pins:List (Addr×Obj)} {σ:St} {H:Hp} {s:y0}
theorem Inv.track {a:Addr} {o:HO} (I:Inv X pins σ H s) (hf:FpOk X pins H a) (new:ObjOk X.prog X.w (upd H a o) s.heap a o):Inv X pins σ (upd H a o) s:=by
 have g:=hf.1;have f :∀b u,H b=some u->upd H a o b=some u:=λ b u e=>by rw [upd_ne (z0e e g)];exact e
 refine I.step (h':=s.heap) (t':=s.toks) (g':=s.gens) (d':=s.drawn) (ch:=[a]) (λ b d=>?_) (λ b o _ _ _ e _=>e) (λ b o _ _ _ e _=>⟨o.slots,e⟩) (λ b u d e n=>?_) (λ b o _ e=>⟨o,e⟩) (λ _ _ e=>f _ _ e) (λ _ _ _ e=>f _ _ e) (λ b i e=>⟨#[],by rw [f _ _ e];simp⟩) (λ m h=>h) (λ b u e=>?_) I.bare
 ·cases List.mem_singleton.mp d;exact ⟨hf.2.2.2.1,hf.2.1,hf.2.2.2.2.1,hf.2.2.2.2.2⟩
 ·rw [upd_ne λ z=>d (List.mem_singleton.mpr z)];exact n
 ·by_cases d:b=a
  ·subst d;rw [z02] at e;cases e;exact new
  ·rw [upd_ne d] at e;exact (I.hok b u e).stay (λ c v _ q=>q) (λ c q=>f _ _ q) λ c j q=>f _ _ q
theorem zey {A:W1} {E:Value->y0->Prop} {P:m7->y0->Prop} {a kS:Addr} {vs:List Value} {kz:List Int} {keys:Array Value} {e e1:Nat}
  (I:Inv X pins σ H s) (fa:FpOk X pins H a) (fk:FpOk X pins H kS) (hka:kS≠a) (ek:s.heap.get? kS=some (Q2 "list" keys e)) (ea:s.heap.get? a=some (Q2 "list" #[] e1))
  (hk:C3 keys.toList kz) (hlen:kz.length=vs.length) (h64:vs.length < 64)
  (h :∀h' tk out c,Inv X pins σ H { s with heap:=h',toks:=tk }->h'.get? a=some (Q2 "list" out c)->KskOut false kz vs out.toList->P (.done (.ret .none)) { s with heap:=h',toks:=tk }) :
  Q0 (Y0 X.prog X.w) A (ksk_end a false vs.toArray e1 (.ref kS) keys) P E s:=by
 have l:keys.size=vs.length:=by have x:=hk.length;rw [V0] at x;omega
 have k:(keys.zip vs.toArray).size=vs.length:=by rw [Array.size_zip,l,J0,O9]
 have r :∀st:SortSt,(f8 st).Perm (keys.zip vs.toArray)->SortedTo (f8 st) (f8 st).size->failedOf st=none->Q0 (Y0 X.prog X.w) A (ksk_tail a false e1 (.ref kS) st) P E s:=by
  intro st g n G;have F:(f8 st).size=vs.length:=by rw [g.size_eq,k]
  have t:=W2 s.heap kS (E1 λ _=>(#[]:Array Value));have m:(s.heap.update kS (E1 λ _=>(#[]:Array Value))).get? a=some (Q2 "list" #[] e1):=(t.2 a hka.symm).trans ea;have u:=W2 (s.heap.update kS (E1 λ _=>(#[]:Array Value))) a (E1 λ _=>(f8 st).map (·.2));obtain ⟨p,C⟩ :∃p,((s.heap.update kS (E1 λ _=>(#[]:Array Value))).update a (E1 λ _=>(f8 st).map (·.2))).get? a=some (Q2 "list" ((f8 st).map (·.2)) p):=
   ⟨_,i6 m λ _=>(f8 st).map (·.2)⟩
  unfold ksk_tail
  try dsimp only
  refine o0 (Q5 ek rfl ?_ (by rw [l,B5];omega) (L1 _));refine o0 (wpAny_letGo ?_);refine o0 (d9 m rfl ?_);refine o0 (Q5 m rfl ?_ (L1 _) (G0 (W6 ((Array.size_map ..).trans F)) (by rw [B5];omega)));rw [G];simp only [bne_self_eq_false,a6,if_false];have J:=I.turnedL (fp:=[kS,a]) (h':=(s.heap.update kS (E1 λ _=>(#[]:Array Value))).update a (E1 λ _=>(f8 st).map (·.2))) (t':=s.toks) (λ b o f q=>(u.2 b λ z=>f (z ▸ .tail _ (.head _))).trans ((t.2 b λ z=>f (z ▸ .head _)).trans q)) (λ b f=>by
   rcases List.mem_cons.mp f with rfl|f
   ·exact fk
   ·rw [List.mem_singleton.mp f];exact fa)
  exact C0 (h _ _ _ p J C (ksk_out (b:=false) hk g n))
 unfold ksk_end
 try dsimp only
 rw [if_neg R0];by_cases h2:vs.toArray.size < 2
 ·rw [if_pos h2,if_pos h2];refine o0 (C0 ?_);rw [StateT.run_pure];refine o0 (C0 ?_)
  try dsimp only
  refine r (B8 general' (if false=true then (keys.zip vs.toArray).reverse else keys.zip vs.toArray) #[] 7 none) (Q9 _) ?_ rfl;intro i j M B;have y:j < (keys.zip vs.toArray).size:=B;rw [k] at y;rw [J0] at h2;have:i=j:=by omega
  subst this;exact Int.le_refl _
 ·rw [if_neg h2,if_neg h2];rw [J0] at h2;rw [ksk_kind hk (by rw [l];omega)];refine o0 (C0 ?_);refine o0 (B3 (wpS_sortRuns (a₀:=keys.zip vs.toArray) (st:=B8 oneType' (if false=true then (keys.zip vs.toArray).reverse else keys.zip vs.toArray) #[] 7 none)
   (Q:=λ _ d=>(f8 d).Perm (keys.zip vs.toArray)/\failedOf d=none/\SortedTo (f8 d) (keys.zip vs.toArray).size)
   (ksk_intKeys hk) ⟨Q9 _,rfl,rfl,rfl⟩ (by rw [k];omega) (by rw [k];exact h64) λ d D K v=>⟨D,K,v⟩) ?_ λ _ _ e=>e)
  rintro ⟨⟨⟩,d⟩ L ⟨rfl,g,hf,n⟩
  try dsimp only
  exact r d g (by rw [g.size_eq];exact n) hf
theorem zeb {A:W1} {E:Value->y0->Prop} {P:m7->y0->Prop} {a:Addr} {vs:List Value} {kz:List Int} {f:Value} {n:Nat}
  (I:Inv X pins σ H s) (fa:FpOk X pins H a) (ea:s.heap.get? a=some (Q2 "list" vs.toArray n)) (hlen:kz.length=vs.length) (h64:vs.length < 64)
  (turn :∀(i:Nat) (v:Value) (k:Int),vs[i]? = some v->kz[i]? = some k->∀(pins':List (Addr×Obj)) (s1:y0),Inv X (pins++pins') σ H s1->Q0 (Y0 X.prog X.w) A (call f [v]) (λ u s2=>∃t,u=.int k t/\Inv X (pins++pins') σ H s2) (λ _ _=>False) s1)
  (h :∀s' out c,Inv X pins σ H s'->s'.heap.get? a=some (Q2 "list" out c)->KskOut false kz vs out.toList->P (.done (.ret .none)) s') :
  Q0 (Y0 X.prog X.w) A (ksk_tree a f false) P E s:=by
 have ha:a < s.heap.objs.size:=F0 ea;have s1:=W2 s.heap a (E1 λ _=>(#[]:Array Value));obtain ⟨l,G⟩ :∃l,(s.heap.update a (E1 λ _=>(#[]:Array Value))).get? a=some (Q2 "list" #[] l):=⟨_,i6 ea λ _=>#[]⟩
 have p:((s.heap.update a (E1 λ _=>(#[]:Array Value))).push (Q2 "tuple" vs.toArray 0)).objs.size=s.heap.objs.size + 1:=by rw [size_push',Heap.size_update]
 unfold ksk_tree;refine o0 (listItems_at ea rfl ?_);refine o0 (Q5 ea rfl ?_ (by rw [J0,B5];omega) (L1 _));refine o0 (d9 G rfl ?_);refine o0 (wpAny_newTuple ?_ (by show vs.length<=_;rw [B5];omega));refine o0 (d8 ?_ (L1 _));refine E2 ?_;have B:(((s.heap.update a (E1 λ _=>(#[]:Array Value))).push (Q2 "tuple" vs.toArray 0)).push (Q2 "list" #[] 0)).get? ((s.heap.update a (E1 λ _=>(#[]:Array Value))).push (Q2 "tuple" vs.toArray 0)).objs.size=some (Q2 "list" #[] 0):=I0 _ rfl;have L:(((s.heap.update a (E1 λ _=>(#[]:Array Value))).push (Q2 "tuple" vs.toArray 0)).push (Q2 "list" #[] 0)).get? a=some (Q2 "list" #[] l):=v0 _ (v0 _ G);have J:Inv X pins σ H { s with heap:=((s.heap.update a (E1 λ _=>(#[]:Array Value))).push (Q2 "tuple" vs.toArray 0)).push (Q2 "list" #[] 0),toks:=s.toks }:=I.turnedL (fp:=[a]) (λ b o d q=>v0 _ (v0 _ ((s1.2 b λ z=>d (z ▸ .head _)).trans q))) (λ b d=>by rw [List.mem_singleton.mp d];exact fa);have m:FpOk X pins H ((s.heap.update a (E1 λ _=>(#[]:Array Value))).push (Q2 "tuple" vs.toArray 0)).objs.size:=I.fpOk (by rw [p];omega) (I.hok.fresh (by rw [p];omega));have C:((s.heap.update a (E1 λ _=>(#[]:Array Value))).push (Q2 "tuple" vs.toArray 0)).objs.size≠a:=by rw [p];exact X1 (i1 ha)
 generalize ((s.heap.update a (E1 λ _=>(#[]:Array Value))).push (Q2 "tuple" vs.toArray 0)).objs.size=kS at B m C⊢;generalize ((s.heap.update a (E1 λ _=>(#[]:Array Value))).push (Q2 "tuple" vs.toArray 0)).push (Q2 "list" #[] 0)=h3 at B L J⊢;unfold ksk_rest;refine o0 (k8 ?_);first
  | rw [List.forIn_toArray]
  | (rw [<-Array.forIn_toList];simp only [List.toList_toArray])
  | rw [<-Array.forIn_toList]
 refine o0 (ksk_fold (λ i s'=>∃kA e,Inv X pins σ H s'/\s'.heap.get? kS=some (Q2 "list" kA e)/\s'.heap.get? a=some (Q2 "list" #[] l)/\C3 kA.toList (kz.take i)) vs 0 _
  ⟨#[],0,J,B,L,by simpa using IntsAre.nil⟩ ?step ?done)
 case step=>
  rintro j x s' K ⟨kA,e,J',ek,ea',hk⟩;simp only [z5] at hk⊢;have hj:j < vs.length:=(List.getElem?_eq_some_iff.mp K).1;obtain ⟨k,M⟩ :∃k,kz[j]? = some k:=⟨_,M0 (by omega)⟩
  have hz:kA.size<=vs.length:=by have O:=hk.length;rw [V0,j3] at O;omega
  have Jp:=J'.pinned (fp:=[kS,a]) (λ b d=>by
   rcases List.mem_cons.mp d with rfl|d
   ·exact m
   ·rw [List.mem_singleton.mp d];exact fa) (λ b d=>by
   rcases List.mem_cons.mp d with rfl|d
   ·exact ⟨_,ek,λ v z=>by cases z⟩
   ·rw [List.mem_singleton.mp d];exact ⟨_,ea',λ v z=>by cases z⟩)
  refine o0 (wpAny_attempt (B3 (turn j x k K M _ s' Jp) (λ v r Q=>?_) λ _ _ hF=>hF.elim));obtain ⟨g,rfl,y⟩:=Q
  try dsimp only
  have F:=y.pin (kS,Q2 "list" kA e) (N0 _ (N0 _ (z0x (.head _) ek)));have S:=y.pin (a,Q2 "list" #[] l) (N0 _ (N0 _ (z0x (.tail _ (.head _)) ea')));have V:=y.unpinned;have s1:=W2 r.heap kS (E1 (·.push (.int k g)));obtain ⟨D,U⟩ :∃D,(r.heap.update kS (E1 (·.push (.int k g)))).get? kS=some (Q2 "list" (kA.push (.int k g)) D):=⟨_,i6 F.1 (·.push (.int k g))⟩
  have Y:kz.take (j + 1)=kz.take j++[k]:=by rw [List.take_add_one,M];simp
  have W:(kA.push (D5 k g)).toList=kA.toList++[D5 k g]:=by simp
  refine o0 (Q5 F.1 rfl ?_ (by rw [B5];omega) (G0 (W6 (Array.size_push ..)) (by rw [B5];omega)));refine C0 ⟨rfl,kA.push (.int k g),D,V.turnedL (fp:=[kS]) (t':=r.toks) (λ b o d q=>(s1.2 b λ z=>d (z ▸ .head _)).trans q) (λ b d=>by rw [List.mem_singleton.mp d];exact m),U,(s1.2 a C.symm).trans S.1,by rw [W,Y];exact ksk_snoc hk⟩
 case done=>
  rintro s' ⟨kA,e,J',ek,ea',hk⟩;have T:C3 kA.toList kz:=by have Z:kz.take (0 + vs.length)=kz:=y9 (by omega);rw [Z] at hk;exact hk
  try dsimp only
  refine o0 (listItems_at ek rfl ?_);exact zey J' fa m C ek ea' T hlen h64 λ h' tk out c N K1 R=>h _ out c N K1 R
theorem z5w {l q:Addr} {ys:List V} {kz:List Int} {Q:Value->y0->Prop} {E:Value->y0->Prop} (I:Inv X pins σ H s) (sq:SqL X.K H l ys) (hlen:kz.length=ys.length) (h64:ys.length < 64)
  (turn :∀(i:Nat) (y:V) (u:Value) (k:Int),ys[i]? = some y->kz[i]? = some k->RelV y u->∀(pins':List (Addr×Obj)) (s1:y0),Inv X (pins++pins') σ H s1->Q0 (Y0 X.prog X.w) X.A.in1.in1 (call (.ref q) [u]) (λ v s2=>∃t,v=.int k t/\Inv X (pins++pins') σ H s2) (λ _ _=>False) s1)
  (h :∀(D:Addr) (out:List V) (s':y0),H D=none->KeyOut kz ys out->Inv X pins σ (upd H D (.lst out)) s'->Q (.ref D) s') :
  Q0 (Y0 X.prog X.w) X.A (call (.builtin "sorted") [.ref l] [(M3 "key",.ref q)]) Q E s:=by
 obtain ⟨d,g,L,B⟩:=I.list sq;have r:d.length=ys.length:=g.length.symm;refine call_function_entry_kw kind_sorted plain_sorted entry_sorted (ksk_s1 _ _) ?_;unfold O6.«sorted»;obtain ⟨o,N,T,n,hd⟩:=L.isList;refine o0 (m:=checkCount "sorted" 1 1 _) (C0 (o0 (wpAny_collect_seq l (.inl rfl) N T hd (λ a R=>?_) (by rw [J0,r];exact B))));have x:(a.push (Q2 "list" d.toArray 0)).get? a.objs.size=some (Q2 "list" d.toArray 0):=I0 _ rfl;have j:Inv X pins σ H { s with heap:=a }:=I.kept (t':=s.toks) R;have O:Inv X pins σ H { s with heap:=a.push (Q2 "list" d.toArray 0) }:=j.kept (t':=s.toks) λ b o e=>v0 _ e;have f:FpOk X pins H a.objs.size:=j.fpOk (A0 _) (j.hok.fresh (A0 _));refine o0 (d8 (o0 (E2 (wpAny_call_entry_kw slot_list_sort ⟨_,x,rfl⟩ entry_list_sort ?body (ksk_l1 _ _)))) (by show d.length<=_;rw [r];exact B))
 case body=>
  show Q0 (Y0 X.prog X.w) X.A.in1.in1 (O6.«list.sort» ⟨[.ref a.objs.size],[(M3 "key",.ref q)]⟩) _ _ _;rw [ksk_t1];refine zeb (kz:=kz) O f x (by omega) (by omega) (λ i v k p P pins' s1 J=>?_) λ s' out c J e U=>⟨_,rfl,?_⟩
  ·have z:i < ys.length:=by have:=(List.getElem?_eq_some_iff.mp p).1;omega
   obtain ⟨u,C,M⟩:=g.get (M0 z);rw [p] at C;cases C;exact turn i _ v k (M0 z) P M pins' s1 J
  obtain ⟨G,F,S,W⟩:=zf2 g hlen U;exact C0 ⟨_,rfl,h _ G s' f.1 S (J.track f ⟨by omega,out.toList,c,F,by simpa using e⟩)⟩
noncomputable def tSortD (K:c0) (sp:Sp) (ta:TA):TE:=λ σ H Q=>ta σ H λ vs H1=>∃(l:Addr) (ys:List V) (kz:List Int),vs=[.ref l]/\SqL K H1 l ys/\kz.length=ys.length/\ys.length < 64/\(∀(i:Nat) (y:V) (k:Int),ys[i]? = some y->kz[i]? = some k->sp [y] H1 (λ v H2=>v=.int k/\H2=H1) E0)/\∀D out,H1 D=none->KeyOut kz ys out->Q (.ref D) (upd H1 D (.lst out))
theorem zbi {e:Expr} {ta:TA} {p pos fp kp:Pos} {fx:Str} {ps:List Str} {k:Nat} {sp:Sp} (c:Cal X.prog X.w X.K X.mg X.base fx ps k sp) (hr:Room (k + 2) X.A) (hg:Gl X "sorted") (hm:X.mg "sorted" = none) (hgf:Gl X fx) (ha:PA X [e] ta) (hdb:(fx == ("__debug__" : Str))=false:=by decide)
  (he:y4 pos (D1 [e] X.env)=(false,P3 e X.env) :: y4 pos (D1 [] X.env):=by rfl) (hpl:(y4 pos (D1 [e] X.env)).any (·.1)=false:=by rfl) :
  PE X (.Call (.Name "sorted" p) [e] [⟨some "key",.Name fx fp,kp⟩] pos) (tSortD X.K sp ta):=by
 obtain ⟨f,U,F,G,b,C⟩:=c.ex;intro M s σ H Q I h;refine n3 (ld_blt I hg hm boot_sorted (callWith_kw (thn (ha pos M s σ H _ I h) λ Z Y ⟨vs,H1,I1,r,q⟩=>kws_cons (z9j I1 hgf G (kws_nil ?_) hdb)) he hpl));obtain ⟨l,W,V,rfl,N,L,E,j,q⟩:=q;obtain ⟨u,rfl,O⟩:=vals1 r;cases O;refine z5w I1 N L E (λ i y u k g b n T d J=>?_) λ D o z R P J=>⟨.ref D,_,J,rfl,q D o R P⟩
 have x:[u].length=ps.length:=(by have:=F.len _ _ _ _ (j i y k g b);simpa using this)
 refine m8 (w4 (F.run X.A.in1.in1 X.stack d H1 ⟨[u],[]⟩ [u] [y] _ E0 hr.in1.in1 J.env0.in1.in1 (by have:=C d [u] J.kIn (by simpa using x);simpa using this) (.cons n .nil) (j i y k g b)) λ r z a=>?_);cases r with
 | error e=>exact a.elim
 | ok fl=>
  cases fl with
  | ret u=>obtain ⟨v,S,m,B,rfl,rfl⟩:=J.after a;obtain ⟨t,rfl⟩:=B;exact ⟨t,rfl,m⟩
  | next=>exact R3 a
  | brk=>exact R3 a
  | cont=>exact R3 a
end
theorem zeu {P:Program} {w:P0} {K:c0} {mg:Str->Option Value} {base:Heap} {k:Nat} {f c':Addr} {name qual:Str} {params:Arguments} {body:Expr} {scope:Scope} {pm ctv:Value} {N ps:List Str} {A:W1} {outer:List Env} {s:y0} {H:Hp} {us:List Value} {vs:List V} {Q:VK} {t:TE}
  (hr:Room (k + 1) A) (e0:Env0 P w K mg base A outer s H) (ho:s.heap.get? f=some (T4 name qual params body scope [] pm c' ctv)) (hcd:s.heap.CodeRec (.ref c') qual) (S:FnScope N ps scope)
  (hb:bindArgs (PySem.W.kla_fn name qual params body scope [] pm (.ref c') ctv) ⟨us,[]⟩=E3 (ps.zip us)) (hl:vs.length=ps.length) (r:Vals vs us)
  (ht:PE (cxOf CX0 P w K mg base N qual scope f (.ref c') A outer s H E0).nox body t) (hq:t (start N vs) H Q) :
  i5 (Y0 P w) A (.call (.ref f) ⟨us,[]⟩) (λ r s'=>∃u,r=.ok (.ret u)/\CE outer P w H s Q u s') s:=by
 have i:s.heap.NoLimit:=e0.mod.nolimit.keeps λ b o e=>(e0.bs b o e).1;have j :∀y∈ps.zip us,scope.names.lookup y.1=some .local\/(scope.names.lookup y.1=some .cell/\((cellsFrom (s.heap.objs.size + 1) scope.names []).lookup y.1).isSome=true):=λ ⟨n,v⟩ hy=>by
  rcases S.par n (O5 hy).1 with q|q
  ·exact .inl q
  ·exact .inr ⟨q,A6 _ _ _ (.inl q)⟩
 refine PySem.W.kla_callFunE hr.depth ho rfl S.co S.gen rfl hcd ?_;rw [hb];refine C0 (E9 S.kind j λ l d c x=>?_);subst d;refine ⟨i.keeps x.toInCall.keep,PySem.W.kla_codeExpr ?_⟩;have I:Inv (cxOf CX0 P w K mg base N qual scope f (.ref c') A outer s H E0) [] (start N vs) H c:=z88 S hr.hd e0 hl r x;refine B3 (ht [] c (start N vs) H _ (I.wish _) hq) (λ u s' a=>?_) λ e s' a=>a.elim;obtain ⟨v,h,J,g,q⟩:=a;exact ⟨u,rfl,v,h,J.os,J.bare,J.base,J.hok,g,q⟩
def CodeK (K:c0) (c T:Addr):Prop:=
 ∃o vs file tf flags tg inF text tt,K.lookup c=some o/\o.cls=.type "code"/\o.data=.fields vs/\vs[11]? = some (.ref T)/\vs.getD 11 .none=.ref T/\vs.getD 18 .none=.str file tf/\
  vs.getD 7 .none=.int flags tg/\vs.getD 9 .none=.bool inF/\vs.getD 10 .none=.int text tt/\c≠T
theorem CodeK.hd {K:c0} {c T:Addr} {h:Heap} (x:CodeK K c T) (k:K.In h):T6 h c T:=
 let ⟨o,vs,file,tf,flags,tg,inF,text,tt,e,r⟩:=x;⟨o,vs,file,tf,flags,tg,inF,text,tt,k _ _ e,r⟩
noncomputable def CodeO (c:Addr) (qual:Str):HO:=.ext λ h=>h.CodeRec (.ref c) qual
def LamT (T:Addr) (pos:Pos) (qual:Str) (H:Hp):Prop:=H T=some (.tbl #[])\/∃c',H T=some (.tbl #[L4 pos.line,L4 pos.col,.ref c'])/\H c'=some (CodeO c' qual)
def SameB (T:Addr) (H H':Hp):Prop:=∀b o,b≠T->H b=some o->H' b=some o
def BtMain (h:Heap) (mg:Str->Option Value):Prop:=∃bm o,mg "__builtins__" = some (.ref bm)/\bm≠o8/\bm≠P1/\h.get? bm=some o/\o.cls=.type "module"/\o.dict=some o8/\o.data=.plain
section
variable {X:Cx} {pins:List (Addr×Obj)} {σ:St} {H:Hp} {s:y0} {T:Addr} {lpos:Pos} {params:Arguments} {body:Expr} {scope:Scope}
theorem ze8 {P:Program} {w:P0} {H:Hp} {h:Heap} {c:Addr} {qual:Str} (x:h.CodeRec (.ref c) qual):ObjOk P w H h c (CodeO c qual):=by
 refine ⟨x,?_,λ i g y k=>?_⟩
 ·obtain ⟨f,b,d,t,e,a,_⟩:=x;cases e;exact ⟨_,a⟩
 ·obtain ⟨f,b,d,t,e,a,r⟩:=y;cases e;exact ⟨c,b,d,t,rfl,k _ a,r⟩
theorem zed {c:Addr} {Q:Value->y0->Prop} {E:Value->y0->Prop} (I:Inv X pins σ H s) (B:BtMain X.base X.mg) (hcode:X.env.code=.ref c) (C:T6 X.base c T) (hT:LamT T lpos (X.env.qual++"<lambda>") H)
  (hcl:J9 scope X.env=E3 []) (hdef:defaultsOf params X.env=([],[]))
  (h :∀f c' ctv pm H' s',SameB T H H'->LamT T lpos (X.env.qual++"<lambda>") H'->Inv X pins σ H' s'->FpOk X pins H' f->s'.heap.get? f=some (T4 "<lambda>" (X.env.qual++"<lambda>") params body scope [] pm c' ctv)->H' c'=some (CodeO c' (X.env.qual++"<lambda>"))->Q (.ref f) s') :
  Q0 (Y0 X.prog X.w) X.A (P3 (.Lambda params body scope lpos) X.env) Q E s:=by
 have K:s.heap.Ns P1 X.mg:=by obtain ⟨o,D,N,e,r⟩:=I.ok.mod.glob;exact ⟨o,D,N,I.bk _ _ e,r⟩
 have L:T6 s.heap c T:=C.keeps I.bk;have m :∀{a:Array Value},H T=some (.tbl a)->s.heap.get? T=some (R6 a):=λ e=>I.hok T _ e;have O :∀{b:Addr} {o:Obj} {a:Array Value},X.base.get? b=some o->H T=some (.tbl a)->b≠T:=λ {b o a} e z q=>by have:=(I.bs b o e).2;rw [q,z] at this;cases this
 have x :∀{a:Array Value},H T=some (.tbl a)->s.heap.BuiltinsAt X.mg T:=λ z=>by obtain ⟨bm,o,b1,R,U,P,Y⟩:=B;exact ⟨bm,o,b1,R,U,O P z,I.bk _ _ P,Y⟩
 have S :∀{a:Array Value},H T=some (.tbl a)->P1≠T:=λ z=>by obtain ⟨o,D,N,e,r⟩:=I.ok.mod.glob;exact O e z
 refine PySem.W.kla_eval hdef ?_;rcases hT with z|⟨c',z,zc⟩
 ·refine PySem.W.kla_makeFunction hcl I.ok.glob K hcode L (m z) trivial rfl (S z) (x z) λ c' ctv h' l hx j M a1 a0=>?_;have cn:H c'=none:=I.hok.fresh j;have y:T < s.heap.objs.size:=F0 (m z);have cT:c'≠T:=λ q=>X2 _ (U0 (q ▸ y) j);have k :∀b o,b≠T->s.heap.get? b=some o->(h'.push (T4 "<lambda>" (X.env.qual++"<lambda>") params body scope [] ((X.mg "__name__").getD .none) c' ctv)).get? b=some o:=λ b o n e=>v0 _ (hx b o n e);have G:upd (upd H T (.tbl #[L4 lpos.line,L4 lpos.col,.ref c'])) c' (CodeO c' (X.env.qual++"<lambda>")) T=some (.tbl #[L4 lpos.line,L4 lpos.col,.ref c']):=by rw [upd_ne cT.symm];exact z02
  have g :∀b u,b≠T->H b=some u->upd (upd H T (.tbl #[L4 lpos.line,L4 lpos.col,.ref c'])) c' (CodeO c' (X.env.qual++"<lambda>")) b=some u:=λ b u n e=>by rw [upd_ne (z0e e cn),upd_ne n];exact e
  have p :∀{b:Addr},H b=none->b≠T:=λ e q=>by rw [q,z] at e;cases e
  have i :∀{b:Addr} {u:HO},H b=some u->(∀a,u≠.tbl a)->b≠T:=λ e n q=>by rw [q,z] at e;exact n _ (A1 e).symm
  have F:(h'.push (T4 "<lambda>" (X.env.qual++"<lambda>") params body scope [] ((X.mg "__name__").getD .none) c' ctv)).get? T=some { cls:=.none,data:=.fields #[L4 lpos.line,L4 lpos.col,.ref c'] }:=v0 _ a0;have d:s.heap.objs.size<=h'.objs.size:=G0 j (V6 M);have J:=I.un (h':=h'.push (T4 "<lambda>" (X.env.qual++"<lambda>") params body scope [] ((X.mg "__name__").getD .none) c' ctv)) (t':=l) (H':=upd (upd H T (.tbl #[L4 lpos.line,L4 lpos.col,.ref c'])) c' (CodeO c' (X.env.qual++"<lambda>"))) ⟨λ b o e n _ _=>k b o (p n) e,λ b o e n _ _=>⟨o.slots,k b o (p n) e⟩,λ b o e n _=>by
    rw [upd_ne (show b≠c' from O0 (U0 (F0 e) j)),upd_ne (p n)];exact n,λ b o e _=>by
    by_cases q:b=T
    ·exact ⟨_,q ▸ F⟩
    ·exact ⟨_,k b o q e⟩,λ b xs e=>g _ _ (i e λ _ q=>by cases q) e,λ b o u e=>g _ _ (i e λ _ q=>by cases q) e,λ b a e=>by
    by_cases q:b=T
    ·subst q;rw [z] at e;cases e;exact ⟨#[L4 lpos.line,L4 lpos.col,.ref c'],by rw [G];simp⟩
    ·exact ⟨#[],by rw [g _ _ q e];simp⟩⟩ λ b u e=>by
    by_cases q1:b=c'
    ·subst q1;rw [z02] at e;cases e;refine ze8 ?_;obtain ⟨c2,V,vs,t,e2,Z,r⟩:=a1;exact ⟨c2,V,vs,t,e2,v0 _ Z,r⟩
    ·rw [upd_ne q1] at e;by_cases q2:b=T
     ·subst q2;rw [z02] at e;cases e;exact F
     ·rw [upd_ne q2] at e;exact (I.hok b u e).stay (λ c v hc q=>k c v (hc.elim (λ w=>w ▸ q2) λ w=>i w λ _ q=>by cases q) q) (λ c q=>g _ _ (i q λ _ q=>by cases q) q) λ c xs q=>g _ _ (i q λ _ q=>by cases q) q
  refine h h'.objs.size c' ctv _ _ _ (λ b o n e=>g b o n e) (.inr ⟨c',G,z02⟩) J (I.fpOk d ?_) (I0 _ rfl) z02;rw [upd_ne (X1 M),upd_ne (X1 (U0 y d))];exact I.hok.fresh d
 ·refine PySem.W.kla_makeFunctionHit (cv:=.ref c') hcl I.ok.glob K hcode L (m z) trivial (by simp [codeAmong,L4]) (x z) λ ctv h' l hk d=>?_;have J:=I.kept (h':=h'.push (T4 "<lambda>" (X.env.qual++"<lambda>") params body scope [] ((X.mg "__name__").getD .none) c' ctv)) (t':=l) λ b o e=>v0 _ (hk b o e);exact h h'.objs.size c' ctv _ _ _ (λ b o n e=>e) (.inr ⟨c',z,zc⟩) J (I.fpOk d (I.hok.fresh d)) (I0 _ rfl) zc
noncomputable def tSortL (K:c0) (T:Addr) (lpos:Pos) (qual:Str) (N:List Str) (tb:TE) (ta:TA):TE:=λ σ H Q=>ta σ H λ vs H1=>∃(l:Addr) (ys:List V) (kz:List Int),vs=[.ref l]/\SqL K H1 l ys/\kz.length=ys.length/\ys.length < 64/\LamT T lpos qual H1/\
 ∀H2,SameB T H1 H2->LamT T lpos qual H2->(∀(i:Nat) (y:V) (k:Int),ys[i]? = some y->kz[i]? = some k->tb (start N [y]) H2 λ v H3=>v=.int k/\H3=H2)/\∀D out,H2 D=none->KeyOut kz ys out->Q (.ref D) (upd H2 D (.lst out))
theorem SameB.seqL {K:c0} {H H':Hp} {a:Addr} {xs:List V} (s:SameB T H H') (hT :∃ps,H T=some (.tbl ps)) (h:SqL K H a xs):SqL K H' a xs:=by
 obtain ⟨ps,z⟩:=hT;rcases h with e|e
 ·refine .inl ?_;rcases e with e|⟨o,e⟩
  ·exact .inl (s _ _ (λ q=>by rw [q,z] at e;cases e) e)
  ·exact .inr ⟨o,s _ _ (λ q=>by rw [q,z] at e;cases e) e⟩
 ·exact .inr e
theorem LamT.tb {qual:Str} (h:LamT T lpos qual H) :∃ps,H T=some (.tbl ps):=by
 rcases h with z|⟨_,z,_⟩
 ·exact ⟨_,z⟩
 ·exact ⟨_,z⟩
theorem za5 {e:Expr} {ta:TA} {p pos kp:Pos} {c:Addr} {k:Nat} {N:List Str} {px:Str} {tb:TE} (B:BtMain X.base X.mg) (hcode:X.env.code=.ref c) (C:CodeK X.K c T) (hr:Room (k + 3) X.A) (hg:Gl X "sorted") (hm:X.mg "sorted" = none) (ha:PA X [e] ta)
  (S:FnScope N [px] scope)
  (hbind :∀(pm ctv:Value) (c':Addr) (u:Value),bindArgs (PySem.W.kla_fn "<lambda>" (X.env.qual++"<lambda>") params body scope [] pm (.ref c') ctv) ⟨[u],[]⟩=E3 [(px,u)])
  (hbody :∀(f c':Addr) (s:y0) (H:Hp),PE (cxOf CX0 X.prog X.w X.K X.mg X.base N (X.env.qual++"<lambda>") scope f (.ref c') X.A.in1.in1 X.stack s H E0).nox body tb)
  (hcl:J9 scope X.env=E3 []:=by rfl) (hdef:defaultsOf params X.env=([],[]):=by rfl)
  (he:y4 pos (D1 [e] X.env)=(false,P3 e X.env) :: y4 pos (D1 [] X.env):=by rfl) (hpl:(y4 pos (D1 [e] X.env)).any (·.1)=false:=by rfl) :
  PE X (.Call (.Name "sorted" p) [e] [⟨some "key",.Lambda params body scope lpos,kp⟩] pos) (tSortL X.K T lpos (X.env.qual++"<lambda>") N tb ta):=by
 intro a3 s σ H Q I h;refine n3 (ld_blt I hg hm boot_sorted (callWith_kw (thn (ha pos a3 s σ H _ I h) λ us s1 ⟨vs,H1,I1,r,q⟩=>?_) he hpl));obtain ⟨l,ys,kz,rfl,sq,a2,a1,j,q⟩:=q;obtain ⟨u,rfl,rx⟩:=vals1 r;cases rx;refine kws_cons (zed I1 B hcode (C.hd I1.ok.mod.kin) j hcl hdef λ f c' ctv pm g s2 sb F R x m G=>kws_nil ?_);obtain ⟨E,o⟩:=q g sb F;have a0:=sb.seqL j.tb sq;have Ip:=R.pinned (fp:=[f]) (λ b a=>by rw [List.mem_singleton.mp a];exact x) (λ b a=>by rw [List.mem_singleton.mp a];exact ⟨_,m,λ v z=>by cases z⟩);refine z5w Ip a0 a2 a1 (λ i y u k M Z O a4 n J=>?_) λ D P V hD ko J=>⟨.ref D,_,J.unpinned,rfl,o D P hD ko⟩
 have Y:=J.pin (f,_) (N0 _ (J4 _ (N0 _ (z0x (.head _) m))));have U:n.heap.CodeRec (.ref c') (X.env.qual++"<lambda>"):=(J.hok c' _ G).1;refine m8 (w4 (zeu hr.in1.in1 J.env0.in1.in1 Y.1 U S (by exact hbind pm ctv c' u) rfl (.cons O .nil) (hbody f c' n g) (E i y k M Z)) λ r V d=>?_);obtain ⟨u',rfl,d⟩:=d;obtain ⟨v,H',L,rv,rfl,rfl⟩:=J.after d;obtain ⟨t,rfl⟩:=rv;exact ⟨t,rfl,L⟩
end
theorem zcl {P:Program} {w:P0} {K:c0} {mg mb:Str->Option Value} {CX:CXT} {k:Nat} {fa a:Addr} {fd:FuncData} {x:Str} {sp:Sp} {s₁:y0} {vs:List Value} {ns:List Int} {T c:Addr}
  (KX:K.In s₁.heap) (hns:s₁.heap.Ns P1 mg) (hb:s₁.heap.Ns o8 mb) (hbb :∀x:Str,x≠"__name__"->mb x=a4 x) (hlim:s₁.heap.NoLimit) (hg:s₁.gens = #[])
  (ha:s₁.heap.get? a=some { cls:=.type "list",data:=.seq vs.toArray }) (hi:C3 vs ns) (hl:ns.length<=sizeLine) (hr:Room k J8) (hT:s₁.heap.get? T=some (R6 #[])) (hKT:K.lookup T=none) (C:T6 s₁.heap c T) (hbm:BtMain s₁.heap mg)
  (F :∀base:Heap,K.In base->base.Ns P1 mg->BtMain base mg->FnOk P w K mg base CX k fa fd [x] sp) (hbind :∀(s:y0) (u:Value),BindsTo s fd ⟨[u],[]⟩ [(x,u)])
  (hsp :∀H:Hp,H T=some (.tbl #[])->SqL K H a (ns.map V.int)->sp [.ref a] H (λ v _=>v=.bl true) λ _ _ _=>False)
  (hCX :∀H e s',CX [] H s₁ (λ _ _ _=>False) e s'->False) :
  i5 (Y0 P w) J8 (.call (.ref fa) ⟨[.ref a],[]⟩) (λ r s'=>r=.ok (.ret (.bool true))/\OldK s₁.heap s'.heap/\s'.os=s₁.os/\P6 s'.gens) s₁:=by
 have I:=z83 hi;have a1:=hi.length;have aT:a≠T:=λ q=>by rw [q,hT] at ha;cases ha
 have A :∀H:Hp,H T=some (.tbl #[])->SqL K H a (ns.map V.int)->HOk P w H s₁.heap->(∀b u,H b=some u->(b=a/\K.lookup a=none/\∃o i,u=.frz o (.lst i))\/(b=T/\u=.tbl #[]))->
   i5 (Y0 P w) J8 (.call (.ref fa) ⟨[.ref a],[]⟩) (λ r s'=>r=.ok (.ret (.bool true))/\OldK s₁.heap s'.heap/\s'.os=s₁.os/\P6 s'.gens) s₁:=by
  intro H Q hS D t;have j :∀{b:Addr} {o:Obj},s₁.heap.get? b=some o->H b=none->(hidT s₁.heap H).get? b=some o:=λ e n=>zdi e n;have G :∀{b:Addr} {o:Obj},s₁.heap.get? b=some o->(∀i n,o.data≠.seq i n)->(∀vs,o.data≠.fields vs)->H b=none:=λ {b o} e d1 d2=>by
   cases q:H b with
   | none=>rfl
   | some u=>
    rcases t b u q with ⟨z,_⟩|⟨z,_⟩
    ·subst z;rw [ha] at e;cases e;exact absurd rfl (d1 _ _)
    ·subst z;rw [hT] at e;cases e;exact absurd rfl (d2 _)
  have g :∀{b:Addr} {m:Str->Option Value},s₁.heap.Ns b m->(hidT s₁.heap H).Ns b m:=λ {b m} ⟨o,es,ep,e,d,r⟩=>⟨o,es,ep,j e (G e (λ _ _ z=>by rw [d] at z;cases z) λ _ z=>by rw [d] at z;cases z),d,r⟩
  have B:K.In (hidT s₁.heap H):=λ b o e=>j (KX b o e) (by
   cases q:H b with
   | none=>rfl
   | some u=>
    rcases t b u q with ⟨z,Z,_⟩|⟨z,_⟩
    ·rw [z,Z] at e;cases e
    ·rw [z,hKT] at e;cases e)
  have a2:BtMain (hidT s₁.heap H) mg:=by obtain ⟨Y,o,b1,N,O,M,S,b6,p⟩:=hbm;exact ⟨Y,o,b1,N,O,j M (G M (λ _ _ z=>by rw [p] at z;cases z) λ _ z=>by rw [p] at z;cases z),S,b6,p⟩
  have X:Mod K mg (hidT s₁.heap H):=⟨B,g hns,⟨mb,g hb,hbb⟩,let ⟨mc,h1,h2⟩:=hlim;⟨mc,g h1,h2⟩⟩
  have U:Env0 P w K mg (hidT s₁.heap H) J8 [] s₁ H:=⟨rfl,X,λ b o e=>zem e,W6 (zcy _ _),trivial,λ b hb=>absurd (show b∈([]:List Addr) from hb) (by simp),D,.of_eq hg⟩
  refine w4 ((F _ B (g hns) a2).run J8 [] s₁ H ⟨[.ref a],[]⟩ [.ref a] [.ref a] _ _ hr U (hbind s₁ (.ref a)) (.cons rfl .nil) (hsp H Q hS)) λ r s' h=>?_;cases r with
  | error e=>exact (hCX H e s' h).elim
  | ok fl=>
   cases fl with
   | next=>exact R3 h
   | brk=>exact R3 h
   | cont=>exact R3 h
   | ret u=>
    obtain ⟨v,H',os,a0,un,L,R,q⟩:=h;have q':v=.bl true:=q;subst q';obtain rfl:u=L8 true:=R;refine ⟨rfl,⟨λ b o e=>?_,λ b o e=>un.there b o e (by simp)⟩,os,a0⟩;cases q:H b with
    | none=>exact .inl (un.keep b o e q (by intro z;exact absurd (show b∈([]:List Addr) from z) (by simp)) (by simp))
    | some u=>
     rcases t b u q with ⟨_,_,W,i,rfl⟩|⟨rfl,rfl⟩
     ·have y:=un.frzs b W _ q;obtain ⟨J,_⟩:=D b _ q;obtain ⟨l,_⟩:=L b _ y;rw [e] at J;cases J;exact .inl l
     ·obtain ⟨E,y⟩:=un.tbls b _ q;have l:s'.heap.get? b=some { cls:=.none,data:=.fields (#[]++E) }:=L b _ y;rw [hT] at e;cases e;exact .inr (.inl ⟨(C.tab hT).isCodeTable,rfl,#[],E,rfl,l⟩)
 cases hk:K.lookup a with
 | some o=>
  have e:=KX a o hk;rw [ha] at e;cases e;refine A (λ b=>if b=T then some (.tbl #[]) else none) (if_pos rfl) (.inr ⟨_,vs.toArray,_,hk,rfl,rfl,rfl,by rw [J0,a1];exact hl,by simpa using I⟩) (λ b u z=>?_) (λ b u z=>?_)
  ·by_cases hb:b=T
   ·have f:=(if_pos hb).symm.trans z;cases f;subst hb;exact hT
   ·have f:=(if_neg hb).symm.trans z;cases f
  ·by_cases hb:b=T
   ·have f:=(if_pos hb).symm.trans z;cases f;exact .inr ⟨hb,rfl⟩
   ·have f:=(if_neg hb).symm.trans z;cases f
 | none=>
  refine A (λ b=>if b=T then some (.tbl #[]) else if b=a then some (.frz { cls:=.type "list",data:=.seq vs.toArray } (.lst (ns.map V.int))) else none) (if_pos rfl) (.inl (.inr ⟨{ cls:=.type "list",data:=.seq vs.toArray },(if_neg aT).trans (if_pos rfl)⟩)) (λ b u z=>?_) (λ b u z=>?_)
  ·by_cases hb:b=T
   ·have f:=(if_pos hb).symm.trans z;cases f;subst hb;exact hT
   ·by_cases hc:b=a
    ·have f:=((if_neg hb).trans (if_pos hc)).symm.trans z;cases f;subst hc;exact ⟨ha,by rw [D0];exact hl,vs,_,I,ha⟩
    ·have f:=((if_neg hb).trans (if_neg hc)).symm.trans z;cases f
  ·by_cases hb:b=T
   ·have f:=(if_pos hb).symm.trans z;cases f;exact .inr ⟨hb,rfl⟩
   ·by_cases hc:b=a
    ·have f:=((if_neg hb).trans (if_pos hc)).symm.trans z;cases f;exact .inl ⟨hc,hk,_,_,rfl⟩
    ·have f:=((if_neg hb).trans (if_neg hc)).symm.trans z;cases f
theorem walk_ofT {l:PySem.W.OpenLaw} {n k:Nat} {q:Program} {loose:List Str} {XP:(Str->Option Value)->Heap->Prop} {YP:P0->Heap->Prop} {d:DefRec} {K:T0->c0} {CX:P0->CXT} {sp:P0->Sp} {x:Str} {T c:Addr}
  (hn:l.most=some n) (hn2:n<=sizeLine) (hdf:d.params.defaults=[]) (hr:Room k J8)
  (hY :∀(w:P0) (h:Heap),YP w h->(K w.params).In h/\h.get? T=some (R6 #[])) (hKT :∀P,(K P).lookup T=none) (hC :∀P,CodeK (K P) c T)
  (F :∀(w:P0) (mg:Str->Option Value) (fa:Addr) (h:Heap),(K w.params).In h->h.Ns P1 mg->mg d.name=some (.ref fa)->
   ∃fd:FuncData,(∀(s:y0) (u:Value),BindsTo s fd ⟨[u],[]⟩ [(x,u)])/\
    ∀base:Heap,(K w.params).In base->base.Ns P1 mg->BtMain base mg->FnOk l.prog w (K w.params) mg base (CX w) k fa fd [x] (sp w))
  (hsp :∀(w:P0) (H:Hp) (a:Addr) (ns:List Int),ns.length<=n->H T=some (.tbl #[])->SqL (K w.params) H a (ns.map V.int)->sp w [.ref a] H (λ v _=>v=.bl true) λ _ _ _=>False)
  (hCX :∀(w:P0) (H:Hp) (s:y0) (e:Value) (s':y0),CX w [] H s (λ _ _ _=>False) e s'->False) :
  PySem.W.WalkO q loose XP YP l.row.toRowW d [] (λ f vs=>PySem.call f vs):=by
 refine Att.attach_call hn hdf λ w R p mg mb fa o U cd S a vs ns G Y Z hd a0 y D A r B=>?_;obtain ⟨KX,J⟩:=hY w _ Y;obtain ⟨fd,N,O⟩:=F w mg fa _ KX G.T.g y;have j:BtMain p.heap mg:=by obtain ⟨j,I,L,t,i,Q,E,m⟩:=G.T.bmain;refine ⟨j,I,L,t,λ z=>?_,i,Q,E,m⟩;obtain ⟨o,X,ep,e,hd,_⟩:=G.T.g;rw [z,e] at i;cases i;rw [hd] at m;cases m
 exact zcl KX G.T.g G.T.b G.T.builtins G.T.nolimit B D A (G0 r hn2) hr J (hKT _) ((hC _).hd KX) j O N (λ H C M=>hsp w H a ns r C M) λ H e s'=>hCX w H p e s'
theorem Fun.okC {P:Program} {w:P0} {K:c0} {mg:Str->Option Value} {base:Heap} {x qual:Str} {st:Stmt} {f c:Addr} {fd:FuncData} {N ps:List Str} {k:Nat} {sp:Sp} (F:Fun K x qual st f fd) (hc:fd.code=.ref c) (S:FnScope N ps (z07 st)) (len :∀vs H Q E,sp vs H Q E->vs.length=ps.length)
  (hbody :∀(A:W1) (outer:List Env) (s:y0) (H:Hp) (vs:List V) (Q:VK) (E:XK),Room k (A.deeper (R7 qual (z07 st) s.heap.objs.size f (.ref c)))->sp vs H Q E->
   ∃t,PSs (cxOf CX0 P w K mg base N qual (z07 st) f (.ref c) A outer s H E).nox (z36 st) t/\t { nx:=λ _ H'=>Q .non H',rt:=Q } (start N vs) H):FnOk P w K mg base CX0 (k + 1) f fd ps sp:=by
 obtain ⟨l,m,kV,i,j,n,d,p,o,rfl,b,e⟩:=F.ex;obtain rfl:d=.ref c:=hc;refine fn_of b e S len λ A outer s H vs Q E g a=>?_;obtain ⟨t,h,q⟩:=hbody A outer s H vs Q E g a;exact ⟨t,h.nox,q⟩
end L2
set_option maxHeartbeats 4000000
namespace L2
open PySem PySem.Spec PyProof.Rows
noncomputable def Itk (a:Addr) (ob:Obj) (kvs:List (Key×V)):It:=
 ⟨λ i H=>H a=some (.frz ob (.dK kvs))/\i < kvs.length,λ i H x H'=>H'=H/\∃k u,kvs[i]? = some (k,u)/\x=kV k,λ i H=>H a=some (.frz ob (.dK kvs))/\kvs.length<=i⟩
theorem zc1 {P:Program} {w:P0} {K:c0} {tg:Expr} {a it:Addr} {ob:Obj} {kvs:List (Key×V)} {es:Array DictEntry} {ep:Nat} (hob:ob.data=.dict es ep):Turn P w K tg (Itk a ob kvs) [it] it (λ i h=>h.IsKeyIter it a i kvs.length ep) where
 mem:=by simp
 obj:=λ i h f b g=>by
  obtain rfl:b=it:=by simpa using g
  obtain ⟨o,e,c,d⟩:=f;exact ⟨o,e,λ v z=>by rw [d] at z;cases z⟩
 keep:=λ i h j f k=>by obtain ⟨o,e,r⟩:=f;exact ⟨o,k it (by simp) o e,r⟩
 item:=by
  intro X J L C U i W s σ H E I l f p;subst J L C;obtain ⟨n,R⟩:=p;obtain ⟨vs,T,m,O⟩:=frz_at I hob n;obtain ⟨y,G,Z,q,F,M⟩:=l it (by simp);have S:kvs[i]? = some kvs[i]:=M0 R;obtain ⟨⟨k',u⟩,hu,N,ru⟩:=z4n T S;rw [<-m] at f;refine wpAny_pyNext_dict_item f O hu λ Q j a0 B sb=>?_;have I1:Inv X W σ H { s with heap:=j }:=I.turned (t':=s.toks) (λ b o g e=>(sb.2 b g).trans e) y G q F M;obtain ⟨o,e,c,d⟩:=id B;rw [m] at B;have Y:L2.RelV (kV kvs[i].1) Q:=by
   have N:kvs[i].1=k':=N;rw [N];rcases z0j a0 with ⟨i,t,D,A⟩|⟨x,t,D,A⟩
   ·rw [D,A];exact ⟨t,rfl⟩
   ·rw [D,A];exact ⟨t,rfl⟩
  exact ⟨Q,rfl,go_of (s:={ s with heap:=j }) e c d (by decide) ⟨kV kvs[i].1,H,I1,Y,⟨rfl,kvs[i].1,kvs[i].2,S,rfl⟩,B,λ b g=>(l b g).1⟩⟩
 done:=by intro X J L C U i W s σ H E I l f p;subst J L C;obtain ⟨n,R⟩:=p;obtain ⟨vs,T,m,O⟩:=frz_at I hob n;obtain ⟨y,G,Z,q,F,M⟩:=l it (by simp);rw [<-m] at f;exact wpAny_pyNext_dict_end (I.ok.hd U) f O (by rw [T3];omega) λ j eb=>⟨rfl,I.turned (t':=s.toks) (λ b o g e=>eb b o g e) y G q F M⟩
 self:=λ _ _ _ _ _ f h=>wpAny_pyIter_keyiter f h
noncomputable def iKeys (td:TE):TI:=λ σ H R=>td σ H λ x H1=>∃a kvs,x=.ref a/\H1 a=some (.dK kvs)/\∀ob,R (Itk a ob kvs) (upd H1 a (.frz ob (.dK kvs)))
theorem zex {X:Cx} {tg o:Expr} {to:TE} (ho:PE X o to):PI X tg o (iKeys to):=by
 intro g s σ H R I h;refine thn (ho g s σ H _ I h) λ v c ⟨x,H1,I1,r1,a,kvs,ex,ea,q⟩=>?_;subst ex;cases r1;obtain ⟨y,u,hd⟩:=isD_at I1 (.inl ⟨_,.inl ea⟩);obtain ⟨_,_,n,p,m⟩:=dk_of I1.hok ea;obtain ⟨w,i⟩:=m.dictAt;obtain ⟨f,t,ho,r,j,_⟩:=id i;have d:Inv X g σ (upd H1 a (.frz f (.dK kvs))) c:=I1.freeze ea ho;refine wpAny_pyIter_dict hd i ?_;have k:n.length=kvs.length:=p.length.symm;refine ⟨c.heap.objs.size,[c.heap.objs.size],_,_,_,rfl,d.kept (t':=c.toks) λ b o e=>v0 _ e,zc1 j,⟨_,I0 _ rfl,rfl,by rw [k];rfl⟩,λ b l=>?_,q f⟩;obtain rfl:b=c.heap.objs.size:=by simpa using l
 exact d.fpOk (A0 _) (d.hok.fresh (A0 _))
end L2
set_option maxHeartbeats 0
namespace K13
open PySem PySem.W PyProof.Rows TJ L2
noncomputable abbrev PX:Program:=PySem.Challenge.pw_talejudge_k13_zones_told
noncomputable abbrev annX:Option Value:=some (.ref 6)
noncomputable def tp (a b:Str) (t:Nat):Obj:={ cls:=.type "tuple",data:=.seq #[.str a t,.str b (t + 1)] 0 }
noncomputable def tups:List Obj:=[tp "register" "read" 394,tp "register" "write" 396,tp "counter" "read" 398,tp "counter" "add" 400,tp "queue" "put" 402,tp "queue" "take" 404,tp "set" "put" 406,tp "set" "cut" 408,tp "set" "has" 410,tp "cell" "read" 412,tp "cell" "write" 414,tp "cell" "swap" 416]
noncomputable def insAll:List Obj->Nat->BT->BT
 | [],_,t=>t
 | x :: r,n,t=>insAll r (n + 1) (t.ins n x)
noncomputable def treeD (P:T0) (oD:Obj):BT:=insAll tups 151 ((K13.pre.tree_167 P).ins 150 oD)
noncomputable def FX (w:P0) (os:T2) (oD:Obj) (tk:Nat):SharedT:=⟨treeD w.params oD,163,{},⟨[]⟩,{},tk,os⟩
noncomputable abbrev cdX:Code:=.body (behindTheImports PX) K13.pre.env_1
noncomputable abbrev qX:Pos:=⟨0,0,0,0⟩
noncomputable abbrev BX:List Frame:=[topFrame qX]
noncomputable abbrev GX {α:Type} (w:P0) (c:Nat) (x:Sem α) (s:y0) (pos:Pos) (a:α) (s':y0) (pos':Pos):Prop:=Goes PX w 11 annX cdX qX c x s pos a s' pos'
def LX (n:Nat) {α:Type} (x:Sem α) (w:P0) (pos:Pos) (s:T2->Obj->Nat->SharedT) (a:Nat->α) (s':T2->Obj->Nat->SharedT) (pos':Pos):Prop:=
 ∀(os:T2) (oD:Obj) (tk:Nat) (K:α->Sem m7) (H:Value->Sem m7) (gd:Bool->Bool) (lv:List Value->List Value),
  PySem.W.Fast.tw10295753902157049106 E6 PX w 11 annX 1 n (s os oD tk) ⟨x.wrap K H gd lv,cdX,pos,BX⟩=some (s' os oD tk,⟨K (a tk),cdX,pos',BX⟩)
theorem LX.goes {n:Nat} {α:Type} {x:Sem α} {w:P0} {pos pos':Pos} {s s':T2->Obj->Nat->SharedT} {a:Nat->α} (h:LX n x w pos s a s' pos') (os:T2) (oD:Obj) (tk:Nat):GX w n x (s os oD tk).abs pos (a tk) (s' os oD tk).abs pos':=by refine Goes.leaf n λ K H c b=>?_;have e:=h os oD tk K H c b;rw [<-PySem.W.Fast.te10295753902157049106,<-E4] at e;exact e
noncomputable abbrev stay (w:P0):T2->Obj->Nat->SharedT:=FX w
noncomputable abbrev plus3 (w:P0):T2->Obj->Nat->SharedT:=λ os oD tk=>FX w os oD (tk + 3)
theorem qtH (a:Addr) (h :∀(w:P0) (pos:Pos),LX 3 (PySem.W.Fast.tw13066428366354244818 8 (.ref a)) w pos (stay w) (λ _=>true) (stay w) pos:=by intro w pos os oD tk K H gd lv;kernel_rfl) (w:P0) (pos:Pos):LX 3 (C5 8 (.ref a)) w pos (stay w) (λ _=>true) (stay w) pos:=by rw [PySem.W.Fast.te13066428366354244818];exact h w pos
noncomputable def qt0:=qtH 151
noncomputable def qt1:=qtH 152
noncomputable def qt2:=qtH 153
noncomputable def qt3:=qtH 154
noncomputable def qt4:=qtH 155
noncomputable def qt5:=qtH 156
noncomputable def qt6:=qtH 157
noncomputable def qt7:=qtH 158
noncomputable def qt8:=qtH 159
noncomputable def qt9:=qtH 160
noncomputable def qt10:=qtH 161
noncomputable def qt11:=qtH 162
theorem eqH (n:Nat) (a b:Addr) (hf :∀(w:P0) (pos:Pos),LX n (C4 (.ref a) (.ref b)) (w.withFollow "special-get-raises" false) pos (stay (w.withFollow "special-get-raises" false)) (λ _=>false) (stay (w.withFollow "special-get-raises" false)) pos:=by intro w pos os oD tk K H gd lv;kernel_rfl) (ht :∀(w:P0) (pos:Pos),LX n (C4 (.ref a) (.ref b)) (w.withFollow "special-get-raises" true) pos (stay (w.withFollow "special-get-raises" true)) (λ _=>false) (stay (w.withFollow "special-get-raises" true)) pos:=by intro w pos os oD tk K H gd lv;kernel_rfl) (w:P0) (pos:Pos):LX n (eqBool (.ref a) (.ref b)) w pos (stay w) (λ _=>false) (stay w) pos:=by rw [PySem.W.Fast.te13926502685295537346];exact byRow2 "special-get-raises" (P:=λ w=>LX n (C4 (.ref a) (.ref b)) w pos (stay w) (λ _=>false) (stay w) pos) (λ w=>hf w pos) (λ w=>ht w pos) w
noncomputable def eq0_1:=eqH 20 151 152
noncomputable def eq0_2:=eqH 16 151 153
noncomputable def eq0_3:=eqH 16 151 154
noncomputable def eq0_4:=eqH 16 151 155
noncomputable def eq0_5:=eqH 16 151 156
noncomputable def eq0_6:=eqH 16 151 157
noncomputable def eq0_7:=eqH 16 151 158
noncomputable def eq0_8:=eqH 16 151 159
noncomputable def eq0_9:=eqH 16 151 160
noncomputable def eq0_10:=eqH 16 151 161
noncomputable def eq0_11:=eqH 16 151 162
noncomputable def eq1_2:=eqH 16 152 153
noncomputable def eq1_3:=eqH 16 152 154
noncomputable def eq1_4:=eqH 16 152 155
noncomputable def eq1_5:=eqH 16 152 156
noncomputable def eq1_6:=eqH 16 152 157
noncomputable def eq1_7:=eqH 16 152 158
noncomputable def eq1_8:=eqH 16 152 159
noncomputable def eq1_9:=eqH 16 152 160
noncomputable def eq1_10:=eqH 16 152 161
noncomputable def eq1_11:=eqH 16 152 162
noncomputable def eq2_3:=eqH 20 153 154
noncomputable def eq2_4:=eqH 16 153 155
noncomputable def eq2_5:=eqH 16 153 156
noncomputable def eq2_6:=eqH 16 153 157
noncomputable def eq2_7:=eqH 16 153 158
noncomputable def eq2_8:=eqH 16 153 159
noncomputable def eq2_9:=eqH 16 153 160
noncomputable def eq2_10:=eqH 16 153 161
noncomputable def eq2_11:=eqH 16 153 162
noncomputable def eq3_4:=eqH 16 154 155
noncomputable def eq3_5:=eqH 16 154 156
noncomputable def eq3_6:=eqH 16 154 157
noncomputable def eq3_7:=eqH 16 154 158
noncomputable def eq3_8:=eqH 16 154 159
noncomputable def eq3_9:=eqH 16 154 160
noncomputable def eq3_10:=eqH 16 154 161
noncomputable def eq3_11:=eqH 16 154 162
noncomputable def eq4_5:=eqH 20 155 156
noncomputable def eq4_6:=eqH 16 155 157
noncomputable def eq4_7:=eqH 16 155 158
noncomputable def eq4_8:=eqH 16 155 159
noncomputable def eq4_9:=eqH 16 155 160
noncomputable def eq4_10:=eqH 16 155 161
noncomputable def eq4_11:=eqH 16 155 162
noncomputable def eq5_6:=eqH 16 156 157
noncomputable def eq5_7:=eqH 16 156 158
noncomputable def eq5_8:=eqH 16 156 159
noncomputable def eq5_9:=eqH 16 156 160
noncomputable def eq5_10:=eqH 16 156 161
noncomputable def eq5_11:=eqH 16 156 162
noncomputable def eq6_7:=eqH 20 157 158
noncomputable def eq6_8:=eqH 20 157 159
noncomputable def eq6_9:=eqH 16 157 160
noncomputable def eq6_10:=eqH 16 157 161
noncomputable def eq6_11:=eqH 16 157 162
noncomputable def eq7_8:=eqH 20 158 159
noncomputable def eq7_9:=eqH 16 158 160
noncomputable def eq7_10:=eqH 16 158 161
noncomputable def eq7_11:=eqH 16 158 162
noncomputable def eq8_9:=eqH 16 159 160
noncomputable def eq8_10:=eqH 16 159 161
noncomputable def eq8_11:=eqH 16 159 162
noncomputable def eq9_10:=eqH 20 160 161
noncomputable def eq9_11:=eqH 20 160 162
noncomputable def zei:=eqH 20 161 162
theorem crH (a:Addr) (hf :∀(w:P0) (pos:Pos),LX 1 (D4 "hash" [.ref a]) (w.withFollow "special-get-raises" false) pos (stay (w.withFollow "special-get-raises" false)) (λ _=>()) (stay (w.withFollow "special-get-raises" false)) pos:=by intro w pos os oD tk K H gd lv;kernel_rfl) (ht :∀(w:P0) (pos:Pos),LX 1 (D4 "hash" [.ref a]) (w.withFollow "special-get-raises" true) pos (stay (w.withFollow "special-get-raises" true)) (λ _=>()) (stay (w.withFollow "special-get-raises" true)) pos:=by intro w pos os oD tk K H gd lv;kernel_rfl) (w:P0) (pos:Pos):LX 1 (cRoomFor "hash" [.ref a]) w pos (stay w) (λ _=>()) (stay w) pos:=by rw [PySem.W.Fast.te13383273872528276517];exact byRow2 "special-get-raises" (P:=λ w=>LX 1 (D4 "hash" [.ref a]) w pos (stay w) (λ _=>()) (stay w) pos) (λ w=>hf w pos) (λ w=>ht w pos) w
theorem soH (a:Addr) (hf :∀(w:P0) (pos:Pos),LX 1 (G4 (.ref a) "__hash__") (w.withFollow "special-get-raises" false) pos (stay (w.withFollow "special-get-raises" false)) (λ _=>some (.builtin "tuple.__hash__")) (stay (w.withFollow "special-get-raises" false)) pos:=by intro w pos os oD tk K H gd lv;kernel_rfl) (ht :∀(w:P0) (pos:Pos),LX 1 (G4 (.ref a) "__hash__") (w.withFollow "special-get-raises" true) pos (stay (w.withFollow "special-get-raises" true)) (λ _=>some (.builtin "tuple.__hash__")) (stay (w.withFollow "special-get-raises" true)) pos:=by intro w pos os oD tk K H gd lv;kernel_rfl) (w:P0) (pos:Pos):LX 1 (specialOf (.ref a) "__hash__") w pos (stay w) (λ _=>some (.builtin "tuple.__hash__")) (stay w) pos:=by rw [PySem.W.Fast.te4214721358667687652];exact byRow2 "special-get-raises" (P:=λ w=>LX 1 (G4 (.ref a) "__hash__") w pos (stay w) (λ _=>some (.builtin "tuple.__hash__")) (stay w) pos) (λ w=>hf w pos) (λ w=>ht w pos) w
theorem csH (a:Addr) (k l:Str) (hf :∀(w:P0) (pos:Pos),LX 22 (B4 (.ref a) "__hash__" (unh a)) (w.withFollow "special-get-raises" false) pos (stay (w.withFollow "special-get-raises" false)) (λ tk=>some (.int (d0 [b0 (w.withFollow "special-get-raises" false).params k,b0 (w.withFollow "special-get-raises" false).params l]) (tk + 2))) (plus3 (w.withFollow "special-get-raises" false)) pos:=by intro w pos os oD tk K H gd lv;kernel_rfl) (ht :∀(w:P0) (pos:Pos),LX 22 (B4 (.ref a) "__hash__" (unh a)) (w.withFollow "special-get-raises" true) pos (stay (w.withFollow "special-get-raises" true)) (λ tk=>some (.int (d0 [b0 (w.withFollow "special-get-raises" true).params k,b0 (w.withFollow "special-get-raises" true).params l]) (tk + 2))) (plus3 (w.withFollow "special-get-raises" true)) pos:=by intro w pos os oD tk K H gd lv;kernel_rfl) (w:P0) (pos:Pos):LX 22 (U5 (.ref a) "__hash__" (unh a)) w pos (stay w) (λ tk=>some (.int (d0 [b0 w.params k,b0 w.params l]) (tk + 2))) (plus3 w) pos:=by rw [PySem.W.Fast.te16697807410369149715];exact byRow2 "special-get-raises" (P:=λ w=>LX 22 (B4 (.ref a) "__hash__" (unh a)) w pos (stay w) (λ tk=>some (.int (d0 [b0 w.params k,b0 w.params l]) (tk + 2))) (plus3 w) pos) (λ w=>hf w pos) (λ w=>ht w pos) w
noncomputable def cr0:=crH 151
noncomputable def so0:=soH 151
noncomputable def cs0:=csH 151 "register" "read"
noncomputable def cr1:=crH 152
noncomputable def so1:=soH 152
noncomputable def cs1:=csH 152 "register" "write"
noncomputable def cr2:=crH 153
noncomputable def so2:=soH 153
noncomputable def cs2:=csH 153 "counter" "read"
noncomputable def cr3:=crH 154
noncomputable def so3:=soH 154
noncomputable def cs3:=csH 154 "counter" "add"
noncomputable def cr4:=crH 155
noncomputable def so4:=soH 155
noncomputable def cs4:=csH 155 "queue" "put"
noncomputable def cr5:=crH 156
noncomputable def so5:=soH 156
noncomputable def cs5:=csH 156 "queue" "take"
noncomputable def cr6:=crH 157
noncomputable def so6:=soH 157
noncomputable def cs6:=csH 157 "set" "put"
noncomputable def cr7:=crH 158
noncomputable def so7:=soH 158
noncomputable def cs7:=csH 158 "set" "cut"
noncomputable def cr8:=crH 159
noncomputable def so8:=soH 159
noncomputable def cs8:=csH 159 "set" "has"
noncomputable def cr9:=crH 160
noncomputable def so9:=soH 160
noncomputable def cs9:=csH 160 "cell" "read"
noncomputable def cr10:=crH 161
noncomputable def so10:=soH 161
noncomputable def cs10:=csH 161 "cell" "write"
noncomputable def cr11:=crH 162
noncomputable def so11:=soH 162
noncomputable def cs11:=csH 162 "cell" "swap"
noncomputable def allX (P:T0):List KV3:=[(151,(.ref 95),(X0 (d0 [b0 P "register",b0 P "read"]))),(152,(.ref 102),(X0 (d0 [b0 P "register",b0 P "write"]))),(153,(.ref 95),(X0 (d0 [b0 P "counter",b0 P "read"]))),(154,(.ref 109),(X0 (d0 [b0 P "counter",b0 P "add"]))),(155,(.ref 116),(X0 (d0 [b0 P "queue",b0 P "put"]))),(156,(.ref 123),(X0 (d0 [b0 P "queue",b0 P "take"]))),(157,(.ref 130),(X0 (d0 [b0 P "set",b0 P "put"]))),(158,(.ref 135),(X0 (d0 [b0 P "set",b0 P "cut"]))),(159,(.ref 142),(X0 (d0 [b0 P "set",b0 P "has"]))),(160,(.ref 95),(X0 (d0 [b0 P "cell",b0 P "read"]))),(161,(.ref 102),(X0 (d0 [b0 P "cell",b0 P "write"]))),(162,(.ref 149),(X0 (d0 [b0 P "cell",b0 P "swap"])))]
theorem zf4 (w:P0) (os:T2) (pos:Pos):(allX w.params).Pairwise λ x y=>∀oD tk,GX w 20 (eqBool (.ref x.1) (.ref y.1)) (FX w os oD tk).abs pos false (FX w os oD tk).abs pos:=by
 unfold allX;refine
 .cons (λ y a oD tk=>(by
  revert y;simp only [J1,B0,false_implies,implies_true,and_true];exact ⟨(eq0_1 w pos).goes os oD tk |>.le (by decide),(eq0_2 w pos).goes os oD tk |>.le (by decide),(eq0_3 w pos).goes os oD tk |>.le (by decide),(eq0_4 w pos).goes os oD tk |>.le (by decide),(eq0_5 w pos).goes os oD tk |>.le (by decide),(eq0_6 w pos).goes os oD tk |>.le (by decide),(eq0_7 w pos).goes os oD tk |>.le (by decide),(eq0_8 w pos).goes os oD tk |>.le (by decide),(eq0_9 w pos).goes os oD tk |>.le (by decide),(eq0_10 w pos).goes os oD tk |>.le (by decide),(eq0_11 w pos).goes os oD tk |>.le (by decide)⟩))
  (.cons (λ y a oD tk=>(by
  revert y;simp only [J1,B0,false_implies,implies_true,and_true];exact ⟨(eq1_2 w pos).goes os oD tk |>.le (by decide),(eq1_3 w pos).goes os oD tk |>.le (by decide),(eq1_4 w pos).goes os oD tk |>.le (by decide),(eq1_5 w pos).goes os oD tk |>.le (by decide),(eq1_6 w pos).goes os oD tk |>.le (by decide),(eq1_7 w pos).goes os oD tk |>.le (by decide),(eq1_8 w pos).goes os oD tk |>.le (by decide),(eq1_9 w pos).goes os oD tk |>.le (by decide),(eq1_10 w pos).goes os oD tk |>.le (by decide),(eq1_11 w pos).goes os oD tk |>.le (by decide)⟩))
  (.cons (λ y a oD tk=>(by
  revert y;simp only [J1,B0,false_implies,implies_true,and_true];exact ⟨(eq2_3 w pos).goes os oD tk |>.le (by decide),(eq2_4 w pos).goes os oD tk |>.le (by decide),(eq2_5 w pos).goes os oD tk |>.le (by decide),(eq2_6 w pos).goes os oD tk |>.le (by decide),(eq2_7 w pos).goes os oD tk |>.le (by decide),(eq2_8 w pos).goes os oD tk |>.le (by decide),(eq2_9 w pos).goes os oD tk |>.le (by decide),(eq2_10 w pos).goes os oD tk |>.le (by decide),(eq2_11 w pos).goes os oD tk |>.le (by decide)⟩))
  (.cons (λ y a oD tk=>(by
  revert y;simp only [J1,B0,false_implies,implies_true,and_true];exact ⟨(eq3_4 w pos).goes os oD tk |>.le (by decide),(eq3_5 w pos).goes os oD tk |>.le (by decide),(eq3_6 w pos).goes os oD tk |>.le (by decide),(eq3_7 w pos).goes os oD tk |>.le (by decide),(eq3_8 w pos).goes os oD tk |>.le (by decide),(eq3_9 w pos).goes os oD tk |>.le (by decide),(eq3_10 w pos).goes os oD tk |>.le (by decide),(eq3_11 w pos).goes os oD tk |>.le (by decide)⟩))
  (.cons (λ y a oD tk=>(by
  revert y;simp only [J1,B0,false_implies,implies_true,and_true];exact ⟨(eq4_5 w pos).goes os oD tk |>.le (by decide),(eq4_6 w pos).goes os oD tk |>.le (by decide),(eq4_7 w pos).goes os oD tk |>.le (by decide),(eq4_8 w pos).goes os oD tk |>.le (by decide),(eq4_9 w pos).goes os oD tk |>.le (by decide),(eq4_10 w pos).goes os oD tk |>.le (by decide),(eq4_11 w pos).goes os oD tk |>.le (by decide)⟩))
  (.cons (λ y a oD tk=>(by
  revert y;simp only [J1,B0,false_implies,implies_true,and_true];exact ⟨(eq5_6 w pos).goes os oD tk |>.le (by decide),(eq5_7 w pos).goes os oD tk |>.le (by decide),(eq5_8 w pos).goes os oD tk |>.le (by decide),(eq5_9 w pos).goes os oD tk |>.le (by decide),(eq5_10 w pos).goes os oD tk |>.le (by decide),(eq5_11 w pos).goes os oD tk |>.le (by decide)⟩))
  (.cons (λ y a oD tk=>(by
  revert y;simp only [J1,B0,false_implies,implies_true,and_true];exact ⟨(eq6_7 w pos).goes os oD tk |>.le (by decide),(eq6_8 w pos).goes os oD tk |>.le (by decide),(eq6_9 w pos).goes os oD tk |>.le (by decide),(eq6_10 w pos).goes os oD tk |>.le (by decide),(eq6_11 w pos).goes os oD tk |>.le (by decide)⟩))
  (.cons (λ y a oD tk=>(by
  revert y;simp only [J1,B0,false_implies,implies_true,and_true];exact ⟨(eq7_8 w pos).goes os oD tk |>.le (by decide),(eq7_9 w pos).goes os oD tk |>.le (by decide),(eq7_10 w pos).goes os oD tk |>.le (by decide),(eq7_11 w pos).goes os oD tk |>.le (by decide)⟩))
  (.cons (λ y a oD tk=>(by
  revert y;simp only [J1,B0,false_implies,implies_true,and_true];exact ⟨(eq8_9 w pos).goes os oD tk |>.le (by decide),(eq8_10 w pos).goes os oD tk |>.le (by decide),(eq8_11 w pos).goes os oD tk |>.le (by decide)⟩))
  (.cons (λ y a oD tk=>(by
  revert y;simp only [J1,B0,false_implies,implies_true,and_true];exact ⟨(eq9_10 w pos).goes os oD tk |>.le (by decide),(eq9_11 w pos).goes os oD tk |>.le (by decide)⟩))
  (.cons (λ y a oD tk=>(by
  revert y;simp only [J1,B0,false_implies,implies_true,and_true];exact (zei w pos).goes os oD tk |>.le (by decide)))
  (.cons (λ y a=>nomatch a)
  (X6))))))))))))
theorem allX_q (w:P0) (os:T2) (pos:Pos) :∀x∈allX w.params,∀oD tk,GX w 3 (C5 8 (.ref x.1)) (FX w os oD tk).abs pos true (FX w os oD tk).abs pos:=by unfold allX;simp only [J1,B0,false_implies,implies_true,and_true];exact ⟨λ oD tk=>(qt0 w pos).goes os oD tk,λ oD tk=>(qt1 w pos).goes os oD tk,λ oD tk=>(qt2 w pos).goes os oD tk,λ oD tk=>(qt3 w pos).goes os oD tk,λ oD tk=>(qt4 w pos).goes os oD tk,λ oD tk=>(qt5 w pos).goes os oD tk,λ oD tk=>(qt6 w pos).goes os oD tk,λ oD tk=>(qt7 w pos).goes os oD tk,λ oD tk=>(qt8 w pos).goes os oD tk,λ oD tk=>(qt9 w pos).goes os oD tk,λ oD tk=>(qt10 w pos).goes os oD tk,λ oD tk=>(qt11 w pos).goes os oD tk⟩
theorem allX_h (w:P0) (os:T2) (pos:Pos) :∀x∈allX w.params,∀oD tk,GX w 25 (pyHash (.ref x.1)) (FX w os oD tk).abs pos x.2.2 (FX w os oD (tk + 3)).abs pos:=by unfold allX;simp only [J1,B0,false_implies,implies_true,and_true];exact ⟨λ oD tk=>Goes.pyHashT ((cr0 w pos).goes os oD tk) ((so0 w pos).goes os oD tk) ((cs0 w pos).goes os oD tk),λ oD tk=>Goes.pyHashT ((cr1 w pos).goes os oD tk) ((so1 w pos).goes os oD tk) ((cs1 w pos).goes os oD tk),λ oD tk=>Goes.pyHashT ((cr2 w pos).goes os oD tk) ((so2 w pos).goes os oD tk) ((cs2 w pos).goes os oD tk),λ oD tk=>Goes.pyHashT ((cr3 w pos).goes os oD tk) ((so3 w pos).goes os oD tk) ((cs3 w pos).goes os oD tk),λ oD tk=>Goes.pyHashT ((cr4 w pos).goes os oD tk) ((so4 w pos).goes os oD tk) ((cs4 w pos).goes os oD tk),λ oD tk=>Goes.pyHashT ((cr5 w pos).goes os oD tk) ((so5 w pos).goes os oD tk) ((cs5 w pos).goes os oD tk),λ oD tk=>Goes.pyHashT ((cr6 w pos).goes os oD tk) ((so6 w pos).goes os oD tk) ((cs6 w pos).goes os oD tk),λ oD tk=>Goes.pyHashT ((cr7 w pos).goes os oD tk) ((so7 w pos).goes os oD tk) ((cs7 w pos).goes os oD tk),λ oD tk=>Goes.pyHashT ((cr8 w pos).goes os oD tk) ((so8 w pos).goes os oD tk) ((cs8 w pos).goes os oD tk),λ oD tk=>Goes.pyHashT ((cr9 w pos).goes os oD tk) ((so9 w pos).goes os oD tk) ((cs9 w pos).goes os oD tk),λ oD tk=>Goes.pyHashT ((cr10 w pos).goes os oD tk) ((so10 w pos).goes os oD tk) ((cs10 w pos).goes os oD tk),λ oD tk=>Goes.pyHashT ((cr11 w pos).goes os oD tk) ((so11 w pos).goes os oD tk) ((cs11 w pos).goes os oD tk)⟩
theorem famX (w:P0) (os:T2):Fam 11 150 (FX w os):=by
 have g :∀c,(treeD w.params c).get 150=some c:=λ c=>by kernel_rfl
 refine ⟨by decide,λ b a d=>abs_get (show 150 < 163 by decide) (g _),λ b a d e=>?_⟩;have u:(absHeap (treeD w.params (dObj b a)) 163 {}).update 150 (a7 (·.push e))=absHeap (treeD w.params (dObj (b.push e) (a + 1))) 163 {}:=by
  rw [<-absHeap_set (g _)];have v:(treeD w.params (dObj b a)).set 150 (a7 (·.push e))=treeD w.params (dObj (b.push e) (a + 1)):=by kernel_rfl
  rw [v]
 exact congrArg (λ h=>(⟨h,⟨[]⟩,{},d,os⟩:y0)) u
noncomputable def stD:Stmt:=(behindTheImports PX).getD 25 (.Pass ⟨0,0,0,0⟩)
noncomputable def sufX:List Stmt:=(behindTheImports PX).drop 26
theorem bodyX:behindTheImports PX=K13.pre.sts_7++(K13.pre.sts_59++(K13.pre.sts_78++(K13.pre.sts_102++([stD]++sufX)))):=by kernel_rfl
noncomputable def dKeys:Stmt->List (Option Expr)
 | .Assign _ (.Dict ks _ _) _=>ks
 | _=>[]
noncomputable def dVals:Stmt->List Expr
 | .Assign _ (.Dict _ vs _) _=>vs
 | _=>[]
noncomputable def dPos:Stmt->Pos
 | .Assign _ (.Dict _ _ p) _=>p
 | _=>⟨0,0,0,0⟩
noncomputable def sPos:Stmt->Pos
 | .Assign _ _ p=>p
 | _=>⟨0,0,0,0⟩
noncomputable abbrev p1X:Pos:=sPos stD
noncomputable abbrev p2X:Pos:=dPos stD
noncomputable abbrev p3X:Pos:=⟨53,0,53,5⟩
noncomputable def runX:List (Sem Value×Sem Value):=(((evalEachOpt (dKeys stD) K13.pre.env_1).zip ((evalEach (dVals stD) K13.pre.env_1).map λ v=>do let x <-v;standAt p2X;E3 x))).filterMap λ x=>x.1.map (·,x.2)
theorem stD_eq:stD=.Assign [.Name "DOERS" p3X] (.Dict (dKeys stD) (dVals stD) p2X) p1X:=by kernel_rfl
theorem evD:P3 (.Dict (dKeys stD) (dVals stD) p2X) K13.pre.env_1=(do standAt p2X;let r <-(do let x <-subDict runX;E3 (some x));match r with|some x=>E3 (C1 x)|none=>newDict):=by kernel_rfl
theorem swD:V7 (.Dict (dKeys stD) (dVals stD) p2X) (some (.Name "DOERS" p3X)) p1X.line K13.pre.env_1=E3 false:=by kernel_rfl
noncomputable def F0X (w:P0) (os:T2):SharedT:=⟨K13.pre.tree_167 w.params,150,{},⟨[]⟩,{},394,os⟩
noncomputable def F1X (w:P0) (os:T2):SharedT:=⟨(K13.pre.tree_167 w.params).ins 150 (dObj #[] 0),151,{},⟨[]⟩,{},394,os⟩
noncomputable def vsX:List (Value×Value):=[(.ref 151,(.ref 95)),(.ref 152,(.ref 102)),(.ref 153,(.ref 95)),(.ref 154,(.ref 109)),(.ref 155,(.ref 116)),(.ref 156,(.ref 123)),(.ref 157,(.ref 130)),(.ref 158,(.ref 135)),(.ref 159,(.ref 142)),(.ref 160,(.ref 95)),(.ref 161,(.ref 102)),(.ref 162,(.ref 149))]
theorem zac (w:P0):LX 84 (evalPairs runX) w p2X (λ os _ _=>F1X w os) (λ _=>vsX) (λ os _ _=>FX w os (dObj #[] 0) 418) p2X:=by rw [PySem.W.Fast.te1788576489739465902];exact λ os c b K H d a=>by kernel_rfl
noncomputable def F2X (w:P0) (os:T2) (oD:Obj) (tk:Nat):SharedT:=⟨(treeD w.params oD).set 3 (Obj.putName "DOERS" (b0 w.params "DOERS") (.str "DOERS" tk) (.ref 150)),163,{},⟨[]⟩,{},tk + 1,os⟩
theorem zc0 (w:P0) (pos:Pos):LX 6 (bindName K13.pre.env_1 "DOERS" (.ref 150)) w pos (stay w) (λ _=>()) (λ os oD tk=>F2X w os oD tk) pos:=by
 rw [PySem.W.Fast.te7536695828754713326];exact byRow2 "special-get-raises" (P:=λ w=>LX 6 (PySem.W.Fast.tw7536695828754713326 K13.pre.env_1 "DOERS" (.ref 150)) w pos (stay w) (λ _=>()) (λ os oD tk=>F2X w os oD tk) pos)
  (λ w os oD tk K H b a=>by kernel_rfl) (λ w os oD tk K H b a=>by kernel_rfl) w
noncomputable abbrev oDX (P:T0):Obj:=dObj ((allX P).map ent).toArray 12
noncomputable abbrev S2X (w:P0) (os:T2):SharedT:=F2X w os (oDX w.params) 454
theorem stD_go (w:P0) (os:T2) (pos:Pos):GX w 100000 (exec stD K13.pre.env_1) (F0X w os).abs pos .next (S2X w os).abs p3X:=by
 rw [stD_eq,exec_Assign_Name _ _ _ _ _ swD];have l:=Goes.loop (p:=PX) (w:=w) (ann:=annX) (code:=cdX) (q:=qX) (pos:=p2X) (famX w os) (N:=12) (allX w.params) (show 12<=12 by decide) (by decide) (show ([151,152,153,154,155,156,157,158,159,160,161,162]:List Nat).Nodup by decide) (allX_q w os p2X) (zf4 w os p2X) (allX_h w os p2X) (allX w.params) [] 418 rfl;have b:=(zac w).goes os (dObj #[] 0) 0;have d:GX w _ (subDict runX) (F0X w os).abs p2X 150 (FX w os (oDX w.params) 454).abs p2X:=
  Goes.subDict (by decide +kernel) (absHeap_size _ _ _) (show GX w _ (evalPairs runX) _ p2X vsX _ p2X from by
   have e:({ (F0X w os).abs with heap:=(F0X w os).abs.heap.push { cls:=.type "dict",data:=.dict #[] } }:y0)=(F1X w os).abs:=by have i:=absHeap_ins (t:=K13.pre.tree_167 w.params) (n:=150) (life:={}) (o:=dObj #[] 0) (by kernel_rfl);exact congrArg (λ h=>(⟨h,⟨[]⟩,{},394,os⟩:y0)) i.symm
   rw [e];exact b) l
 refine (Goes.bind Goes.at' (Goes.bind (a:=C1 150) (pos':=p2X) ?_ (Goes.bind Goes.at' (Goes.bind (f:=λ _=>E3 Flow.next) ((zc0 w p3X).goes os (oDX w.params) 454) Goes.pure)))).le (c:=1 + (((1 + ((1 + (84 + 12 * (25 + (2 + 3 + 12 * (3 + 20 + 10)) + 4))) + 0 + 0)) + (1 + (6 + 0))))) (by decide);rw [evD];exact Goes.bind Goes.at' (Goes.bind (Goes.bind d Goes.pure) Goes.pure)
noncomputable abbrev pLX:Pos:=⟨241,0,248,29⟩
noncomputable def R3X (w:P0) (os:T2):Option (Flow×SharedT×Code×Pos):=PySem.W.Fast.tw10110043849684766642 E6 PX w 11 annX 1 961 (S2X w os) ⟨(PySem.W.Fast.tw12563942051412417395 sufX K13.pre.env_1).wrap doneF deadEnd id id,cdX,p3X,BX⟩
noncomputable def S3X (w:P0) (os:T2):SharedT:=match R3X w os with|some r=>r.2.1|none=>S2X w os
theorem R3X_eq (w:P0) (os:T2):R3X w os=some (.next,S3X w os,cdX,pLX):=by kernel_rfl
theorem zfe (w:P0) (os:T2):segRun i3 PX w 11 annX 1 961 (S2X w os).abs (piecesOf sufX K13.pre.env_1 cdX p3X BX)=some (.next,(S3X w os).abs,cdX,pLX):=by have e:=R3X_eq w os;unfold R3X at e;rw [<-PySem.W.Fast.te10110043849684766642,<-E4,<-PySem.W.Fast.te12563942051412417395] at e;exact segRun_of e
noncomputable def S0X (w:P0) (os:T2):SharedT:=⟨K13.pre.tree_6 w.params,15,{},⟨[]⟩,{},187,os⟩
theorem pre_go (w:P0) (os:T2):topGo i3 PX w 11 annX 12 ⟨boot_heap w.params,Array.mk [],boot_drawn,boot_toks,os⟩ (topStub PX)=some ((S0X w os).abs,⟨denote i3 cdX,cdX,qX,BX⟩):=by rw [PySem.W.Fast.te15667345088766844465,E4,PySem.W.Fast.te11892475500146522536];kernel_rfl
theorem zdz (w:P0) (os:T2) :∃M,M<=200000/\topRun i3 PX w 11 annX M ⟨boot_heap w.params,Array.mk [],boot_drawn,boot_toks,os⟩ (topStub PX)=some (S3X w os).abs:=by have c:topRun i3 PX w 11 annX 2 (S3X w os).abs (restOf [] K13.pre.env_1 cdX pLX BX)=some (S3X w os).abs:=rfl;have a:=piece_app (zfe w os) c;rw [O2] at a;obtain ⟨M,h,f⟩:=z9h (Goes.execs1 (stD_go w os ⟨49,0,52,21⟩)) a;have b:=K13.pre.chain PX (behindTheImports PX) w os _ M _ f;rw [<-bodyX] at b;have g:segRun i3 PX w 11 annX 1 1 (S0X w os).abs (blockOf (behindTheImports PX) K13.pre.env_1 cdX qX BX)=some (.next,(S0X w os).abs,cdX,qX):=rfl;have e:=piece_block g b;have d:=go_top (pre_go w os) e;refine ⟨_,?_,d⟩;simp only [Nat.add_eq];omega
noncomputable def looseX:List Str:=[("GREATEST_WORTH" : Str),("LONGEST_NAME" : Str),("SMALL_LETTERS" : Str),("is_whole" : Str),("is_within" : Str),("is_worth" : Str),("is_name" : Str),("is_tuple_of" : Str),("TaleError" : Str),("NoTale" : Str),("NotPlain" : Str),("FIRST_STATES" : Str),("WORTHS_OF_VERBS" : Str),("read_state" : Str),("write_state" : Str),("add_to_number" : Str),("put_behind" : Str),("take_first" : Str),("put_into_set" : Str),("cut_from_set" : Str),("has_in_set" : Str),("swap_state" : Str),("DOERS" : Str),("is_kind" : Str),("is_deed" : Str),("MOST_THINGS" : Str),("MOST_BEGINS" : Str),("LAST_HAND" : Str),("GREATEST_ANSWER" : Str),("ANSWER_WORDS" : Str),("make_tale" : Str),("make_things" : Str),("is_thing" : Str),("make_events" : Str),("is_begin" : Str),("is_end" : Str),("is_event" : Str),("is_hand" : Str),("is_answer" : Str),("go_by_turns" : Str),("deeds" : Str),("FIRST_WRITE" : Str),("plain_deeds" : Str),("are_plain" : Str),("is_answered" : Str),("writers" : Str),("ended_reads" : Str),("zones" : Str),("zone_of" : Str),("_law_cell_at" : Str),("_law_row" : Str),("_law_take" : Str),("_law_answer" : Str),("_law_exchanged" : Str),("_law_made" : Str),("_law_zones" : Str),("_law_low" : Str)]
noncomputable def viewX:Program:={ PX with main:={ PX.main with body:=(PX.main.body[63]?).toList } }
noncomputable def top (i:Nat):Stmt:=PX.main.body.getD i (.Pass ⟨0,0,0,0⟩)
noncomputable def asX:List Addr:=[3,20,21,27,28,34,35,39,40,46,47,48,50,55,56,57,61,63,68,69,70,73,75,80,81,82,85,86,87,88,150,151,152,153,154,155,156,157,158,159,160,161,162,168,169,173,174,175,181,182,186,187,193,194,198,199,205,206,212,213,219,220,226,227,233,234,240,241,247,248,249,253,254,258,259,265,266,272,273,277,278,282,283,287,288,294,295,301,302,308,309,313,314,318,319,325,326,330,331,337,338,344,345]
noncomputable def KX (P:T0):Frag:=[
 (3,⟨(.type "dict"),none,(.dict #[⟨(b0 P "__name__"),(.str "__name__" 165),(.str "law_talejudge_k13_zones_told" 623)⟩,⟨(b0 P "__doc__"),(.str "__doc__" 166),.none⟩,⟨(b0 P "__package__"),(.str "__package__" 167),.none⟩,⟨(b0 P "__loader__"),(.str "__loader__" 168),(.builtin "__main__.__loader__#opaque")⟩,⟨(b0 P "__spec__"),(.str "__spec__" 169),.none⟩,kR P "__annotations__" 170 6,kR P "__builtins__" 171 4,⟨(b0 P "__file__"),(.str "__file__" 173),(.str "/claim/cut.py" 172)⟩,⟨(b0 P "__cached__"),(.str "__cached__" 174),.none⟩,⟨(b0 P "GREATEST_WORTH"),(.str "GREATEST_WORTH" 190),(.int (1000000000) 189)⟩,⟨(b0 P "LONGEST_NAME"),(.str "LONGEST_NAME" 192),(.int (8) 191)⟩,⟨(b0 P "SMALL_LETTERS"),(.str "SMALL_LETTERS" 194),(.str "abcdefghijklmnopqrstuvwxyz" 193)⟩,kR P "is_whole" 201 21,kR P "is_within" 209 28,kR P "is_worth" 216 35,kR P "is_name" 222 40,kR P "is_tuple_of" 230 47,kR P "TaleError" 250 57,kR P "NoTale" 266 70,kR P "NotPlain" 282 82,kR P "FIRST_STATES" 298 85,kR P "WORTHS_OF_VERBS" 323 88,kR P "read_state" 331 95,kR P "write_state" 339 102,kR P "add_to_number" 347 109,kR P "put_behind" 355 116,kR P "take_first" 363 123,kR P "put_into_set" 371 130,kR P "cut_from_set" 377 135,kR P "has_in_set" 385 142,kR P "swap_state" 393 149,kR P "DOERS" 454 150,kR P "is_kind" 461 169,kR P "is_deed" 467 174,⟨(b0 P "MOST_THINGS"),(.str "MOST_THINGS" 471),(.int (6) 470)⟩,⟨(b0 P "MOST_BEGINS"),(.str "MOST_BEGINS" 473),(.int (24) 472)⟩,⟨(b0 P "LAST_HAND"),(.str "LAST_HAND" 475),(.int (5) 474)⟩,⟨(b0 P "GREATEST_ANSWER"),(.str "GREATEST_ANSWER" 477),(.int (1000000000000) 476)⟩,kR P "ANSWER_WORDS" 480 175,kR P "make_tale" 489 182,kR P "make_things" 495 187,kR P "is_thing" 502 194,kR P "make_events" 508 199,kR P "is_begin" 516 206,kR P "is_end" 523 213,kR P "is_event" 532 220,kR P "is_hand" 539 227,kR P "is_answer" 546 234,kR P "go_by_turns" 556 241,kR P "deeds" 569 248,kR P "FIRST_WRITE" 576 249,kR P "plain_deeds" 582 254,kR P "are_plain" 588 259,kR P "is_answered" 595 266,kR P "writers" 604 273,kR P "ended_reads" 610 278,kR P "zones" 616 283,kR P "zone_of" 622 288,kR P "_law_cell_at" 632 295,kR P "_law_row" 639 302,kR P "_law_take" 648 309,kR P "_law_answer" 654 314,kR P "_law_exchanged" 660 319,kR P "_law_made" 680 326,kR P "_law_zones" 686 331,kR P "_law_low" 693 338,kR P "law" 704 345] 67),#[]⟩),
 (20,cO "is_whole" "is_whole" 195 5 1 15 199),
 (21,fO "is_whole" "is_whole" (top 4) "talejudge.basics" 187 20),
 (27,cO "is_within" "is_within" 202 7 2 22 207),
 (28,fO "is_within" "is_within" (top 5) "talejudge.basics" 187 27),
 (34,cO "is_worth" "is_worth" 210 9 1 29 214),
 (35,fO "is_worth" "is_worth" (top 6) "talejudge.basics" 187 34),
 (39,cP "is_name" "is_name" 217 11 1 36 220),
 (40,fO "is_name" "is_name" (top 7) "talejudge.basics" 187 39),
 (46,cO "is_tuple_of" "is_tuple_of" 223 15 2 41 228),
 (47,fO "is_tuple_of" "is_tuple_of" (top 8) "talejudge.basics" 187 46),
 (48,⟨(.type "tuple"),none,(.seq #[(.type "ValueError")] 0),#[]⟩),
 (50,⟨(.type "dict"),none,(.dict #[⟨(b0 P "__module__"),(.str "__module__" 240),(.str "talejudge.errors" 231)⟩,⟨(b0 P "__qualname__"),(.str "__qualname__" 242),(.str "TaleError" 241)⟩,⟨(b0 P "__firstlineno__"),(.str "__firstlineno__" 244),(.int (18) 243)⟩,kR P "__static_attributes__" 245 55] 4),#[]⟩),
 (55,⟨(.type "tuple"),none,(.seq #[] 0),#[]⟩),
 (56,⟨(.type "dict"),none,(.dict #[⟨(b0 P "__module__"),(.str "__module__" 240),(.str "talejudge.errors" 231)⟩,⟨(b0 P "__firstlineno__"),(.str "__firstlineno__" 244),(.int (18) 243)⟩,kR P "__static_attributes__" 245 55,kR P "__weakref__" 247 58,⟨(b0 P "__doc__"),(.str "__doc__" 248),.none⟩] 3),#[]⟩),
 (57,⟨(.type "type"),none,(.cls ⟨"TaleError",[(.type "ValueError")],[(.ref 57),(.type "ValueError"),(.type "Exception"),(.type "BaseException"),(.type "object")],56,"TaleError",true,[],[(.ref 70),(.ref 82)],false,none,false⟩),#[some (.ref 48),none,some (.str "TaleError" 233),some (.str "TaleError" 241),some (.builtin "ValueError.__new__"),some (.bool true)]⟩),
 (61,⟨(.type "tuple"),none,(.seq #[(.ref 57)] 0),#[]⟩),
 (63,⟨(.type "dict"),none,(.dict #[⟨(b0 P "__module__"),(.str "__module__" 258),(.str "talejudge.errors" 231)⟩,⟨(b0 P "__qualname__"),(.str "__qualname__" 260),(.str "NoTale" 259)⟩,⟨(b0 P "__firstlineno__"),(.str "__firstlineno__" 262),(.int (20) 261)⟩,kR P "__static_attributes__" 263 68] 4),#[]⟩),
 (68,⟨(.type "tuple"),none,(.seq #[] 0),#[]⟩),
 (69,⟨(.type "dict"),none,(.dict #[⟨(b0 P "__module__"),(.str "__module__" 258),(.str "talejudge.errors" 231)⟩,⟨(b0 P "__firstlineno__"),(.str "__firstlineno__" 262),(.int (20) 261)⟩,kR P "__static_attributes__" 263 68,⟨(b0 P "__doc__"),(.str "__doc__" 264),.none⟩] 2),#[]⟩),
 (70,⟨(.type "type"),none,(.cls ⟨"NoTale",[(.ref 57)],[(.ref 70),(.ref 57),(.type "ValueError"),(.type "Exception"),(.type "BaseException"),(.type "object")],69,"NoTale",true,[],[],false,none,false⟩),#[some (.ref 61),none,some (.str "NoTale" 251),some (.str "NoTale" 259),some (.builtin "ValueError.__new__"),some (.bool true)]⟩),
 (73,⟨(.type "tuple"),none,(.seq #[(.ref 57)] 0),#[]⟩),
 (75,⟨(.type "dict"),none,(.dict #[⟨(b0 P "__module__"),(.str "__module__" 274),(.str "talejudge.errors" 231)⟩,⟨(b0 P "__qualname__"),(.str "__qualname__" 276),(.str "NotPlain" 275)⟩,⟨(b0 P "__firstlineno__"),(.str "__firstlineno__" 278),(.int (22) 277)⟩,kR P "__static_attributes__" 279 80] 4),#[]⟩),
 (80,⟨(.type "tuple"),none,(.seq #[] 0),#[]⟩),
 (81,⟨(.type "dict"),none,(.dict #[⟨(b0 P "__module__"),(.str "__module__" 274),(.str "talejudge.errors" 231)⟩,⟨(b0 P "__firstlineno__"),(.str "__firstlineno__" 278),(.int (22) 277)⟩,kR P "__static_attributes__" 279 80,⟨(b0 P "__doc__"),(.str "__doc__" 280),.none⟩] 2),#[]⟩),
 (82,⟨(.type "type"),none,(.cls ⟨"NotPlain",[(.ref 57)],[(.ref 82),(.ref 57),(.type "ValueError"),(.type "Exception"),(.type "BaseException"),(.type "object")],81,"NotPlain",true,[],[],false,none,false⟩),#[some (.ref 73),none,some (.str "NotPlain" 267),some (.str "NotPlain" 275),some (.builtin "ValueError.__new__"),some (.bool true)]⟩),
 (85,⟨(.type "dict"),none,(.dict #[⟨(b0 P "register"),(.str "register" 285),(.int (0) 286)⟩,⟨(b0 P "counter"),(.str "counter" 287),(.int (0) 288)⟩,kR P "queue" 289 86,kR P "set" 290 87,⟨(b0 P "cell"),(.str "cell" 291),(.int (0) 292)⟩] 5),#[]⟩),
 (86,⟨(.type "tuple"),none,(.seq #[] 0),#[]⟩),
 (87,⟨(.type "tuple"),none,(.seq #[] 0),#[]⟩),
 (88,⟨(.type "dict"),none,(.dict #[⟨(b0 P "read"),(.str "read" 299),(.int (0) 300)⟩,⟨(b0 P "take"),(.str "take" 301),(.int (0) 302)⟩,⟨(b0 P "write"),(.str "write" 303),(.int (1) 304)⟩,⟨(b0 P "add"),(.str "add" 305),(.int (1) 306)⟩,⟨(b0 P "put"),(.str "put" 307),(.int (1) 308)⟩,⟨(b0 P "cut"),(.str "cut" 309),(.int (1) 310)⟩,⟨(b0 P "has"),(.str "has" 311),(.int (1) 312)⟩,⟨(b0 P "swap"),(.str "swap" 313),(.int (2) 314)⟩] 8),#[]⟩),
 (150,⟨(.type "dict"),none,(.dict #[⟨(X0 (d0 [b0 P "register",b0 P "read"])),(.ref 151),(.ref 95)⟩,⟨(X0 (d0 [b0 P "register",b0 P "write"])),(.ref 152),(.ref 102)⟩,⟨(X0 (d0 [b0 P "counter",b0 P "read"])),(.ref 153),(.ref 95)⟩,⟨(X0 (d0 [b0 P "counter",b0 P "add"])),(.ref 154),(.ref 109)⟩,⟨(X0 (d0 [b0 P "queue",b0 P "put"])),(.ref 155),(.ref 116)⟩,⟨(X0 (d0 [b0 P "queue",b0 P "take"])),(.ref 156),(.ref 123)⟩,⟨(X0 (d0 [b0 P "set",b0 P "put"])),(.ref 157),(.ref 130)⟩,⟨(X0 (d0 [b0 P "set",b0 P "cut"])),(.ref 158),(.ref 135)⟩,⟨(X0 (d0 [b0 P "set",b0 P "has"])),(.ref 159),(.ref 142)⟩,⟨(X0 (d0 [b0 P "cell",b0 P "read"])),(.ref 160),(.ref 95)⟩,⟨(X0 (d0 [b0 P "cell",b0 P "write"])),(.ref 161),(.ref 102)⟩,⟨(X0 (d0 [b0 P "cell",b0 P "swap"])),(.ref 162),(.ref 149)⟩] 12),#[]⟩),
 (151,⟨(.type "tuple"),none,(.seq #[(.str "register" 394),(.str "read" 395)] 0),#[]⟩),
 (152,⟨(.type "tuple"),none,(.seq #[(.str "register" 396),(.str "write" 397)] 0),#[]⟩),
 (153,⟨(.type "tuple"),none,(.seq #[(.str "counter" 398),(.str "read" 399)] 0),#[]⟩),
 (154,⟨(.type "tuple"),none,(.seq #[(.str "counter" 400),(.str "add" 401)] 0),#[]⟩),
 (155,⟨(.type "tuple"),none,(.seq #[(.str "queue" 402),(.str "put" 403)] 0),#[]⟩),
 (156,⟨(.type "tuple"),none,(.seq #[(.str "queue" 404),(.str "take" 405)] 0),#[]⟩),
 (157,⟨(.type "tuple"),none,(.seq #[(.str "set" 406),(.str "put" 407)] 0),#[]⟩),
 (158,⟨(.type "tuple"),none,(.seq #[(.str "set" 408),(.str "cut" 409)] 0),#[]⟩),
 (159,⟨(.type "tuple"),none,(.seq #[(.str "set" 410),(.str "has" 411)] 0),#[]⟩),
 (160,⟨(.type "tuple"),none,(.seq #[(.str "cell" 412),(.str "read" 413)] 0),#[]⟩),
 (161,⟨(.type "tuple"),none,(.seq #[(.str "cell" 414),(.str "write" 415)] 0),#[]⟩),
 (162,⟨(.type "tuple"),none,(.seq #[(.str "cell" 416),(.str "swap" 417)] 0),#[]⟩),
 (168,cO "is_kind" "is_kind" 455 54 1 163 459),
 (169,fO "is_kind" "is_kind" (top 26) "talejudge.store" 283 168),
 (173,cP "is_deed" "is_deed" 462 56 3 170 465),
 (174,fO "is_deed" "is_deed" (top 27) "talejudge.store" 283 173),
 (175,⟨(.type "tuple"),none,(.seq #[(.str "ok" 478),(.str "none" 479)] 0),#[]⟩),
 (181,cO "make_tale" "make_tale" 481 71 2 176 487),
 (182,fO "make_tale" "make_tale" (top 34) "talejudge.tales" 468 181),
 (186,cP "make_things" "make_things" 490 74 1 183 493),
 (187,fO "make_things" "make_things" (top 35) "talejudge.tales" 468 186),
 (193,cO "is_thing" "is_thing" 496 82 1 188 500),
 (194,fO "is_thing" "is_thing" (top 36) "talejudge.tales" 468 193),
 (198,cP "make_events" "make_events" 503 84 2 195 506),
 (199,fO "make_events" "make_events" (top 37) "talejudge.tales" 468 198),
 (205,cO "is_begin" "is_begin" 509 92 2 200 514),
 (206,fO "is_begin" "is_begin" (top 38) "talejudge.tales" 468 205),
 (212,cO "is_end" "is_end" 517 96 1 207 521),
 (213,fO "is_end" "is_end" (top 39) "talejudge.tales" 468 212),
 (219,cO "is_event" "is_event" 524 98 3 214 530),
 (220,fO "is_event" "is_event" (top 40) "talejudge.tales" 468 219),
 (226,cO "is_hand" "is_hand" 533 100 1 221 537),
 (227,fO "is_hand" "is_hand" (top 41) "talejudge.tales" 468 226),
 (233,cO "is_answer" "is_answer" 540 102 1 228 544),
 (234,fO "is_answer" "is_answer" (top 42) "talejudge.tales" 468 233),
 (240,cO "go_by_turns" "go_by_turns" 547 106 1 235 554),
 (241,fO "go_by_turns" "go_by_turns" (top 43) "talejudge.tales" 468 240),
 (247,cO "deeds" "deeds" 557 114 1 242 567),
 (248,fO "deeds" "deeds" (top 44) "talejudge.tales" 468 247),
 (249,⟨(.type "tuple"),none,(.seq #[(.int (-2) 573),(.int (-1) 575)] 0),#[]⟩),
 (253,cP "plain_deeds" "plain_deeds" 577 128 1 250 580),
 (254,fO "plain_deeds" "plain_deeds" (top 47) "talejudge.zones" 570 253),
 (258,cP "are_plain" "are_plain" 583 133 1 255 586),
 (259,fO "are_plain" "are_plain" (top 48) "talejudge.zones" 570 258),
 (265,cO "is_answered" "is_answered" 589 138 1 260 593),
 (266,fO "is_answered" "is_answered" (top 49) "talejudge.zones" 570 265),
 (272,cO "writers" "writers" 596 142 1 267 602),
 (273,fO "writers" "writers" (top 50) "talejudge.zones" 570 272),
 (277,cP "ended_reads" "ended_reads" 605 148 1 274 608),
 (278,fO "ended_reads" "ended_reads" (top 51) "talejudge.zones" 570 277),
 (282,cP "zones" "zones" 611 150 1 279 614),
 (283,fO "zones" "zones" (top 52) "talejudge.zones" 570 282),
 (287,cP "zone_of" "zone_of" 617 158 2 284 620),
 (288,fO "zone_of" "zone_of" (top 53) "talejudge.zones" 570 287),
 (294,cO "_law_cell_at" "_law_cell_at" 625 165 2 289 630),
 (295,fL "_law_cell_at" "_law_cell_at" (top 55) 294),
 (301,cO "_law_row" "_law_row" 633 169 1 296 637),
 (302,fL "_law_row" "_law_row" (top 56) 301),
 (308,cO "_law_take" "_law_take" 640 171 2 303 646),
 (309,fL "_law_take" "_law_take" (top 57) 308),
 (313,cP "_law_answer" "_law_answer" 649 178 5 310 652),
 (314,fL "_law_answer" "_law_answer" (top 58) 313),
 (318,cP "_law_exchanged" "_law_exchanged" 655 185 3 315 658),
 (319,fL "_law_exchanged" "_law_exchanged" (top 59) 318),
 (325,cO "_law_made" "_law_made" 661 192 3 320 678),
 (326,fL "_law_made" "_law_made" (top 60) 325),
 (330,cP "_law_zones" "_law_zones" 681 222 1 327 684),
 (331,fL "_law_zones" "_law_zones" (top 61) 330),
 (337,cO "_law_low" "_law_low" 687 239 1 332 691),
 (338,fL "_law_low" "_law_low" (top 62) 337),
 (344,cO "law" "law" 694 241 1 339 702),
 (345,fL "law" "law" (top 63) 344)]
noncomputable def asY:List Addr:=280 :: asX
noncomputable def KY (P:T0):Frag:=(280,⟨.none,none,.fields #[],#[]⟩) :: KX P
noncomputable abbrev cdT:Addr:=282
noncomputable abbrev tbT:Addr:=280
noncomputable def HX:Hook:=kHook KY asY (λ _=>by kernel_rfl)
noncomputable abbrev XtX:y0->Bool:=λ s=>xlAt viewX [] s && recOk (RowW.records (OpenRow.toRowW PySem.Challenge.rw_talejudge_k13_zones_told.row)) s
theorem look1 (w:P0) (os:T2):(staticsOk (g6 PX.main.body) (boot_heap w.params) (S3X w os).abs.heap && namesBound PX (S3X w os).abs.heap && gensDone (S3X w os).abs && laidKept (boot_heap w.params) (S3X w os).abs.heap)=true:=by kernel_rfl
theorem look2 (w:P0) (os:T2):openSeen viewX looseX (g6 PX.main.body) XtX true (S3X w os).abs=openGood viewX looseX:=by rw [PySem.W.Fast.te4187177175401517315];kernel_rfl
theorem look3 (w:P0) (os:T2):Hook.obs HX (S3X w os).abs=Hook.val HX w:=by kernel_rfl
theorem leftX:LeftO PX viewX looseX XtX (Hook.obs HX) (Hook.val HX) 200000:=
 zdg (H₀:=boot_heap) (gs₀:=Array.mk []) (boot_open (by kernel_rfl) (by decide) (λ s=>rfl)) (λ w=>by kernel_rfl) zdz look1 look2 look3
end K13
set_option maxHeartbeats 4000000
namespace L2
open PySem PySem.Spec PyProof.Rows
theorem FnScope.k {N P:List Str} {sc:Scope} (a:sc.kind=.function:=by exact rfl) (b:sc.isCoroutine=false:=by exact rfl) (c:sc.isGenerator=false:=by exact rfl) (d:N.Nodup:=by decide +kernel) (e:N.take P.length=P:=by exact rfl) (f :∀x∈P,sc.names.lookup x=some .local\/sc.names.lookup x=some .cell:=by decide +kernel) (g :∀y∈sc.names,y.2≠.free:=by decide +kernel):FnScope N P sc:=⟨a,b,c,d,e,f,g⟩
theorem newA {H:Hp} {p:Addr} (o:HO) (h:H p=none) :∃H',H'=upd H p o/\Same H H'/\H' p=some o:=⟨_,rfl,Same.upd h,z02⟩
theorem iteK {c A B:Prop} [Decidable c] (h:B) (hc:¬ c:=by decide +kernel):if c then A else B:=iteN hc h
theorem pg_cn {X:Cx} {scope:Scope} {cl:List (Str×Addr)} {N:List Str} {C:Addr} {s₂:y0} {H₂:Hp} {fp:List Addr} {x:Str} {px:Pos} (i:Nat) (hN:N.Nodup:=by decide +kernel) (hi:N[i]? = some x:=by exact rfl) (hx:scope.names.lookup x=some .local:=by exact rfl):PG (cxComp X scope cl N C s₂ H₂ fp) (.Name x px) (gName i):=zef i hN hi hx
theorem pe_cg {X:Cx} {xs:List Str} {tg:Expr} {g:TG} {pos:Pos} {elt iter:Expr} {ifs:List Expr} {scope:Scope} {fr:List (Nat×Str)} {wi:TI} {tc:TT} {te:TE} (hi:PI X tg iter wi)
  (hg :∀cl C s₂ H₂ fp,PG (cxComp X scope cl (xs++fr.map (·.2)) C s₂ H₂ fp) tg g)
  (ht :∀cl C s₂ H₂ fp,PF (cxComp X scope cl (xs++fr.map (·.2)) C s₂ H₂ fp) ifs tc) (he :∀cl C s₂ H₂ fp,PE (cxComp X scope cl (xs++fr.map (·.2)) C s₂ H₂ fp) elt te) (hcalm:X.calm=true:=by exact rfl)
  (hfr :∀p∈fr,X.N[p.1]? = some p.2/\(X.env.kindOf p.2=some .cell\/X.env.kindOf p.2=some .free):=by first|exact λ _ z=>absurd z B0|(intro p hp;obtain rfl:=List.mem_singleton.mp hp;first|exact ⟨rfl,.inl rfl⟩|exact ⟨rfl,.inr rfl⟩))
  (hin:(scope.names.all λ y=>y.2 != O1 || fr.any λ p=>p.2 == y.1)=true:=by decide +kernel)
  (hfs :∀p∈fr,(p.2,O1)∈scope.names/\((K6 scope X.env).names.lookup p.2=some .cell\/(K6 scope X.env).names.lookup p.2=some .free):=by first|exact λ _ z=>absurd z B0|(intro p hp;obtain rfl:=List.mem_singleton.mp hp;exact ⟨by decide +kernel,by first|exact .inl rfl|exact .inr rfl⟩))
  (hcell :∀y∈scope.names,y.2≠NameKind.cell:=by decide +kernel) (hkind:scope.kind=.function:=by exact rfl) (hnames :∀y∈scope.names,y.2=NameKind.local->scope.names.lookup y.1=some .local:=by decide +kernel)
  (hs :∀x,O4 iter X.env x=E3 x:=by intro _;rfl):PE X (.ListComp elt [⟨tg,iter,ifs,0⟩] scope pos) (tCompG wi xs.length fr g tc te):=
 zeg hcalm hi hfr (λ y a e=>by
  have h:=List.all_eq_true.mp hin y a;rw [e] at h;obtain ⟨p,hp,z⟩:=List.any_eq_true.mp (show fr.any (λ p=>p.2 == y.1)=true from h);have:=(hfr p hp).2
  rwa [eq_of_beq z] at this) hfs hcell hkind hnames hg ht he hs
end L2
namespace K13
open PySem PySem.Spec PyProof.Rows TJ L2
abbrev Gg (n:Str) (a:Addr):Prop:=∀P,F3 (KX P) P1 n=some (some (.ref a))
abbrev Gn (n:Str):Prop:=∀P,F3 (KX P) P1 n=some none
noncomputable abbrev kx (w:P0):=KX w.params
noncomputable abbrev Ca (P:Program) (w:P0) (mg:Str->Option Value) (base:Heap):=Cal P w (KX w.params) mg base
noncomputable abbrev CaE (P:Program) (w:P0) (mg:Str->Option Value) (base:Heap):=CalE P w (KX w.params) mg base
noncomputable abbrev Fo (P:Program) (w:P0) (mg:Str->Option Value) (base:Heap):=FnOk P w (KX w.params) mg base
theorem z0h:Gn "isinstance":=λ _=>by kernel_rfl
theorem n_len:Gn "len":=λ _=>by kernel_rfl
theorem n_all:Gn "all":=λ _=>by kernel_rfl
theorem n_max:Gn "max":=λ _=>by kernel_rfl
theorem n_min:Gn "min":=λ _=>by kernel_rfl
theorem n_int:Gn "int":=λ _=>by kernel_rfl
theorem n_str:Gn "str":=λ _=>by kernel_rfl
theorem n_bool:Gn "bool":=λ _=>by kernel_rfl
theorem zaf:Gn "tuple":=λ _=>by kernel_rfl
theorem n_list:Gn "list":=λ _=>by kernel_rfl
theorem z6u:Gn "sorted":=λ _=>by kernel_rfl
theorem n_sum:Gn "sum":=λ _=>by kernel_rfl
theorem n_dict:Gn "dict":=λ _=>by kernel_rfl
theorem n_set:Gn "set":=λ _=>by kernel_rfl
theorem z3y:Gn "enumerate":=λ _=>by kernel_rfl
theorem z38 (P:T0):F3 (KX P) P1 "GREATEST_WORTH" = some (some (.int (1000000000) 189)):=by kernel_rfl
theorem z4u (P:T0):F3 (KX P) P1 "LONGEST_NAME" = some (some (.int (8) 191)):=by kernel_rfl
theorem z3r (P:T0):F3 (KX P) P1 "SMALL_LETTERS" = some (some (.str "abcdefghijklmnopqrstuvwxyz" 193)):=by kernel_rfl
theorem z9i:Gg "is_whole" 21:=λ _=>by kernel_rfl
theorem z8z:Gg "is_within" 28:=λ _=>by kernel_rfl
theorem z9u:Gg "is_worth" 35:=λ _=>by kernel_rfl
theorem zbw:Gg "is_name" 40:=λ _=>by kernel_rfl
theorem z5f:Gg "is_tuple_of" 47:=λ _=>by kernel_rfl
theorem z4f:Gg "FIRST_STATES" 85:=λ _=>by kernel_rfl
theorem z2l:Gg "WORTHS_OF_VERBS" 88:=λ _=>by kernel_rfl
theorem zet:Gg "DOERS" 150:=λ _=>by kernel_rfl
theorem zc9:Gg "is_kind" 169:=λ _=>by kernel_rfl
theorem zcv:Gg "is_deed" 174:=λ _=>by kernel_rfl
theorem z5n (P:T0):F3 (KX P) P1 "MOST_THINGS" = some (some (.int (6) 470)):=by kernel_rfl
theorem z5c (P:T0):F3 (KX P) P1 "MOST_BEGINS" = some (some (.int (24) 472)):=by kernel_rfl
theorem z92 (P:T0):F3 (KX P) P1 "LAST_HAND" = some (some (.int (5) 474)):=by kernel_rfl
theorem z2k (P:T0):F3 (KX P) P1 "GREATEST_ANSWER" = some (some (.int (1000000000000) 476)):=by kernel_rfl
theorem z49:Gg "ANSWER_WORDS" 175:=λ _=>by kernel_rfl
theorem z8l:Gg "make_tale" 182:=λ _=>by kernel_rfl
theorem z69:Gg "make_things" 187:=λ _=>by kernel_rfl
theorem z9w:Gg "is_thing" 194:=λ _=>by kernel_rfl
theorem z5r:Gg "make_events" 199:=λ _=>by kernel_rfl
theorem zak:Gg "is_begin" 206:=λ _=>by kernel_rfl
theorem zdm:Gg "is_end" 213:=λ _=>by kernel_rfl
theorem zbd:Gg "is_event" 220:=λ _=>by kernel_rfl
theorem zbq:Gg "is_hand" 227:=λ _=>by kernel_rfl
theorem z8n:Gg "is_answer" 234:=λ _=>by kernel_rfl
theorem z5x:Gg "go_by_turns" 241:=λ _=>by kernel_rfl
theorem zej:Gg "deeds" 248:=λ _=>by kernel_rfl
theorem z6a:Gg "FIRST_WRITE" 249:=λ _=>by kernel_rfl
theorem z5z:Gg "plain_deeds" 254:=λ _=>by kernel_rfl
theorem z97:Gg "are_plain" 259:=λ _=>by kernel_rfl
theorem z65:Gg "is_answered" 266:=λ _=>by kernel_rfl
theorem zbm:Gg "writers" 273:=λ _=>by kernel_rfl
theorem z5k:Gg "ended_reads" 278:=λ _=>by kernel_rfl
theorem zfc:Gg "zones" 283:=λ _=>by kernel_rfl
theorem zc8:Gg "zone_of" 288:=λ _=>by kernel_rfl
theorem z4c:Gg "_law_cell_at" 295:=λ _=>by kernel_rfl
theorem za0:Gg "_law_row" 302:=λ _=>by kernel_rfl
theorem z8d:Gg "_law_take" 309:=λ _=>by kernel_rfl
theorem z5m:Gg "_law_answer" 314:=λ _=>by kernel_rfl
theorem z3l:Gg "_law_exchanged" 319:=λ _=>by kernel_rfl
theorem z8r:Gg "_law_made" 326:=λ _=>by kernel_rfl
theorem z6y:Gg "_law_zones" 331:=λ _=>by kernel_rfl
theorem z9c:Gg "_law_low" 338:=λ _=>by kernel_rfl
theorem g_law:Gg "law" 345:=λ _=>by kernel_rfl
noncomputable def kl_FIRST_STATES:List (Str×V):=[("register",.int (0)),("counter",.int (0)),("queue",.ref 86),("set",.ref 87),("cell",.int (0))]
theorem z3m (P:T0):KDict (KX P) P 85 kl_FIRST_STATES:=⟨⟨#[⟨(b0 P "register"),(.str "register" 285),(.int (0) 286)⟩,⟨(b0 P "counter"),(.str "counter" 287),(.int (0) 288)⟩,⟨(b0 P "queue"),(.str "queue" 289),(.ref 86)⟩,⟨(b0 P "set"),(.str "set" 290),(.ref 87)⟩,⟨(b0 P "cell"),(.str "cell" 291),(.int (0) 292)⟩],5,by kernel_rfl,(.cons ⟨⟨_,rfl⟩,rfl,⟨_,rfl⟩⟩ (.cons ⟨⟨_,rfl⟩,rfl,⟨_,rfl⟩⟩ (.cons ⟨⟨_,rfl⟩,rfl,rfl⟩ (.cons ⟨⟨_,rfl⟩,rfl,rfl⟩ (.cons ⟨⟨_,rfl⟩,rfl,⟨_,rfl⟩⟩ .nil)))))⟩,by decide⟩
noncomputable def kl_WORTHS_OF_VERBS:List (Str×V):=[("read",.int (0)),("take",.int (0)),("write",.int (1)),("add",.int (1)),("put",.int (1)),("cut",.int (1)),("has",.int (1)),("swap",.int (2))]
theorem z2c (P:T0):KDict (KX P) P 88 kl_WORTHS_OF_VERBS:=⟨⟨#[⟨(b0 P "read"),(.str "read" 299),(.int (0) 300)⟩,⟨(b0 P "take"),(.str "take" 301),(.int (0) 302)⟩,⟨(b0 P "write"),(.str "write" 303),(.int (1) 304)⟩,⟨(b0 P "add"),(.str "add" 305),(.int (1) 306)⟩,⟨(b0 P "put"),(.str "put" 307),(.int (1) 308)⟩,⟨(b0 P "cut"),(.str "cut" 309),(.int (1) 310)⟩,⟨(b0 P "has"),(.str "has" 311),(.int (1) 312)⟩,⟨(b0 P "swap"),(.str "swap" 313),(.int (2) 314)⟩],8,by kernel_rfl,(.cons ⟨⟨_,rfl⟩,rfl,⟨_,rfl⟩⟩ (.cons ⟨⟨_,rfl⟩,rfl,⟨_,rfl⟩⟩ (.cons ⟨⟨_,rfl⟩,rfl,⟨_,rfl⟩⟩ (.cons ⟨⟨_,rfl⟩,rfl,⟨_,rfl⟩⟩ (.cons ⟨⟨_,rfl⟩,rfl,⟨_,rfl⟩⟩ (.cons ⟨⟨_,rfl⟩,rfl,⟨_,rfl⟩⟩ (.cons ⟨⟨_,rfl⟩,rfl,⟨_,rfl⟩⟩ (.cons ⟨⟨_,rfl⟩,rfl,⟨_,rfl⟩⟩ .nil))))))))⟩,by decide⟩
noncomputable def kl_DOERS:List ((Str×Str)×V):=[(("register","read"),.ref 95),(("register","write"),.ref 102),(("counter","read"),.ref 95),(("counter","add"),.ref 109),(("queue","put"),.ref 116),(("queue","take"),.ref 123),(("set","put"),.ref 130),(("set","cut"),.ref 135),(("set","has"),.ref 142),(("cell","read"),.ref 95),(("cell","write"),.ref 102),(("cell","swap"),.ref 149)]
theorem zds (P:T0):KDictT (KX P) P 150 kl_DOERS:=⟨⟨#[⟨(X0 (d0 [b0 P "register",b0 P "read"])),(.ref 151),(.ref 95)⟩,⟨(X0 (d0 [b0 P "register",b0 P "write"])),(.ref 152),(.ref 102)⟩,⟨(X0 (d0 [b0 P "counter",b0 P "read"])),(.ref 153),(.ref 95)⟩,⟨(X0 (d0 [b0 P "counter",b0 P "add"])),(.ref 154),(.ref 109)⟩,⟨(X0 (d0 [b0 P "queue",b0 P "put"])),(.ref 155),(.ref 116)⟩,⟨(X0 (d0 [b0 P "queue",b0 P "take"])),(.ref 156),(.ref 123)⟩,⟨(X0 (d0 [b0 P "set",b0 P "put"])),(.ref 157),(.ref 130)⟩,⟨(X0 (d0 [b0 P "set",b0 P "cut"])),(.ref 158),(.ref 135)⟩,⟨(X0 (d0 [b0 P "set",b0 P "has"])),(.ref 159),(.ref 142)⟩,⟨(X0 (d0 [b0 P "cell",b0 P "read"])),(.ref 160),(.ref 95)⟩,⟨(X0 (d0 [b0 P "cell",b0 P "write"])),(.ref 161),(.ref 102)⟩,⟨(X0 (d0 [b0 P "cell",b0 P "swap"])),(.ref 162),(.ref 149)⟩],12,by kernel_rfl,(.cons ⟨⟨151,394,395,0,rfl,by kernel_rfl⟩,rfl,rfl⟩ (.cons ⟨⟨152,396,397,0,rfl,by kernel_rfl⟩,rfl,rfl⟩ (.cons ⟨⟨153,398,399,0,rfl,by kernel_rfl⟩,rfl,rfl⟩ (.cons ⟨⟨154,400,401,0,rfl,by kernel_rfl⟩,rfl,rfl⟩ (.cons ⟨⟨155,402,403,0,rfl,by kernel_rfl⟩,rfl,rfl⟩ (.cons ⟨⟨156,404,405,0,rfl,by kernel_rfl⟩,rfl,rfl⟩ (.cons ⟨⟨157,406,407,0,rfl,by kernel_rfl⟩,rfl,rfl⟩ (.cons ⟨⟨158,408,409,0,rfl,by kernel_rfl⟩,rfl,rfl⟩ (.cons ⟨⟨159,410,411,0,rfl,by kernel_rfl⟩,rfl,rfl⟩ (.cons ⟨⟨160,412,413,0,rfl,by kernel_rfl⟩,rfl,rfl⟩ (.cons ⟨⟨161,414,415,0,rfl,by kernel_rfl⟩,rfl,rfl⟩ (.cons ⟨⟨162,416,417,0,rfl,by kernel_rfl⟩,rfl,rfl⟩ .nil))))))))))))⟩,by decide +kernel,by decide⟩
noncomputable abbrev y1c:Stmt:=top 4
noncomputable abbrev y0j:FuncData:=fnX "is_whole" "is_whole" (top 4) "talejudge.basics" 187 20
theorem z2t (P:T0):Fun (KX P) "is_whole" "is_whole" y1c 21 y0j:=z0d
theorem z9n (P:T0):Binds (KX P) y0j ["value"] []:=(z2t P).binds λ _ _ _ _ _ _=>us1 λ _=>rfl
theorem z8j:FnScope ["value"] ["value"] (z07 y1c):=.k
noncomputable abbrev y15:Stmt:=top 5
noncomputable abbrev y0c:FuncData:=fnX "is_within" "is_within" (top 5) "talejudge.basics" 187 27
theorem z2b (P:T0):Fun (KX P) "is_within" "is_within" y15 28 y0c:=z0d
theorem z8e (P:T0):Binds (KX P) y0c ["value","greatest"] []:=(z2b P).binds λ _ _ _ _ _ _=>us2 λ _ _=>rfl
theorem z6n:FnScope ["value","greatest"] ["value","greatest"] (z07 y15):=.k
noncomputable abbrev y1d:Stmt:=top 6
noncomputable abbrev y0k:FuncData:=fnX "is_worth" "is_worth" (top 6) "talejudge.basics" 187 34
theorem z37 (P:T0):Fun (KX P) "is_worth" "is_worth" y1d 35 y0k:=z0d
theorem z9x (P:T0):Binds (KX P) y0k ["value"] []:=(z37 P).binds λ _ _ _ _ _ _=>us1 λ _=>rfl
theorem z8q:FnScope ["value"] ["value"] (z07 y1d):=.k
noncomputable abbrev y1l:Stmt:=top 7
noncomputable abbrev y0y:FuncData:=fnX "is_name" "is_name" (top 7) "talejudge.basics" 187 39
theorem z4t (P:T0):Fun (KX P) "is_name" "is_name" y1l 40 y0y:=z0d
theorem zch (P:T0):Binds (KX P) y0y ["value"] []:=(z4t P).binds λ _ _ _ _ _ _=>us1 λ _=>rfl
theorem zaw:FnScope ["value"] ["value"] (z07 y1l):=.k
noncomputable abbrev y0q:Stmt:=top 8
noncomputable abbrev y02:FuncData:=fnX "is_tuple_of" "is_tuple_of" (top 8) "talejudge.basics" 187 46
theorem z17 (P:T0):Fun (KX P) "is_tuple_of" "is_tuple_of" y0q 47 y02:=z0d
theorem z5v (P:T0):Binds (KX P) y02 ["value","many"] []:=(z17 P).binds λ _ _ _ _ _ _=>us2 λ _ _=>rfl
theorem z4z:FnScope ["value","many"] ["value","many"] (z07 y0q):=.k
noncomputable abbrev y1m:Stmt:=top 26
noncomputable abbrev y0z:FuncData:=fnX "is_kind" "is_kind" (top 26) "talejudge.store" 283 168
theorem z48 (P:T0):Fun (KX P) "is_kind" "is_kind" y1m 169 y0z:=z0d
theorem zbt (P:T0):Binds (KX P) y0z ["kind"] []:=(z48 P).binds λ _ _ _ _ _ _=>us1 λ _=>rfl
theorem z98:FnScope ["kind"] ["kind"] (z07 y1m):=.k
noncomputable abbrev y1n:Stmt:=top 27
noncomputable abbrev y10:FuncData:=fnX "is_deed" "is_deed" (top 27) "talejudge.store" 283 173
theorem z4q (P:T0):Fun (KX P) "is_deed" "is_deed" y1n 174 y10:=z0d
theorem zct (P:T0):Binds (KX P) y10 ["kind","verb","worth"] []:=(z4q P).binds λ _ _ _ _ _ _=>us3 λ _ _ _=>rfl
theorem sc_is_deed:FnScope ["kind","verb","worth","many"] ["kind","verb","worth"] (z07 y1n):=.k
noncomputable abbrev y16:Stmt:=top 34
noncomputable abbrev y0d:FuncData:=fnX "make_tale" "make_tale" (top 34) "talejudge.tales" 468 181
theorem z27 (P:T0):Fun (KX P) "make_tale" "make_tale" y16 182 y0d:=z0d
theorem z8p (P:T0):Binds (KX P) y0d ["things","events"] []:=(z27 P).binds λ _ _ _ _ _ _=>us2 λ _ _=>rfl
theorem sc_make_tale:FnScope ["things","events","own_things"] ["things","events"] (z07 y16):=.k
noncomputable abbrev y0r:Stmt:=top 35
noncomputable abbrev y03:FuncData:=fnX "make_things" "make_things" (top 35) "talejudge.tales" 468 186
theorem z1d (P:T0):Fun (KX P) "make_things" "make_things" y0r 187 y03:=z0d
theorem z68 (P:T0):Binds (KX P) y03 ["things"] []:=(z1d P).binds λ _ _ _ _ _ _=>us1 λ _=>rfl
theorem z5b:FnScope ["things"] ["things"] (z07 y0r):=.k
noncomputable abbrev y1e:Stmt:=top 36
noncomputable abbrev y0l:FuncData:=fnX "is_thing" "is_thing" (top 36) "talejudge.tales" 468 193
theorem z3e (P:T0):Fun (KX P) "is_thing" "is_thing" y1e 194 y0l:=z0d
theorem za7 (P:T0):Binds (KX P) y0l ["thing"] []:=(z3e P).binds λ _ _ _ _ _ _=>us1 λ _=>rfl
theorem z95:FnScope ["thing"] ["thing"] (z07 y1e):=.k
noncomputable abbrev y0s:Stmt:=top 37
noncomputable abbrev y04:FuncData:=fnX "make_events" "make_events" (top 37) "talejudge.tales" 468 198
theorem z1e (P:T0):Fun (KX P) "make_events" "make_events" y0s 199 y04:=z0d
theorem z6d (P:T0):Binds (KX P) y04 ["events","kinds"] []:=(z1e P).binds λ _ _ _ _ _ _=>us2 λ _ _=>rfl
theorem z4o:FnScope ["events","kinds"] ["events","kinds"] (z07 y0s):=.k
noncomputable abbrev y1f:Stmt:=top 38
noncomputable abbrev y0m:FuncData:=fnX "is_begin" "is_begin" (top 38) "talejudge.tales" 468 205
theorem z3b (P:T0):Fun (KX P) "is_begin" "is_begin" y1f 206 y0m:=z0d
theorem zaq (P:T0):Binds (KX P) y0m ["event","kinds"] []:=(z3b P).binds λ _ _ _ _ _ _=>us2 λ _ _=>rfl
theorem z93:FnScope ["event","kinds"] ["event","kinds"] (z07 y1f):=.k
noncomputable abbrev y1r:Stmt:=top 39
noncomputable abbrev y17:FuncData:=fnX "is_end" "is_end" (top 39) "talejudge.tales" 468 212
theorem z6q (P:T0):Fun (KX P) "is_end" "is_end" y1r 213 y17:=z0d
theorem zdr (P:T0):Binds (KX P) y17 ["event"] []:=(z6q P).binds λ _ _ _ _ _ _=>us1 λ _=>rfl
theorem zcw:FnScope ["event"] ["event"] (z07 y1r):=.k
noncomputable abbrev y1g:Stmt:=top 40
noncomputable abbrev y0n:FuncData:=fnX "is_event" "is_event" (top 40) "talejudge.tales" 468 219
theorem z2y (P:T0):Fun (KX P) "is_event" "is_event" y1g 220 y0n:=z0d
theorem zam (P:T0):Binds (KX P) y0n ["event","word","many"] []:=(z2y P).binds λ _ _ _ _ _ _=>us3 λ _ _ _=>rfl
theorem z8h:FnScope ["event","word","many"] ["event","word","many"] (z07 y1g):=.k
noncomputable abbrev y1o:Stmt:=top 41
noncomputable abbrev y11:FuncData:=fnX "is_hand" "is_hand" (top 41) "talejudge.tales" 468 226
theorem z52 (P:T0):Fun (KX P) "is_hand" "is_hand" y1o 227 y11:=z0d
theorem zc4 (P:T0):Binds (KX P) y11 ["hand"] []:=(z52 P).binds λ _ _ _ _ _ _=>us1 λ _=>rfl
theorem zan:FnScope ["hand"] ["hand"] (z07 y1o):=.k
noncomputable abbrev y18:Stmt:=top 42
noncomputable abbrev y0e:FuncData:=fnX "is_answer" "is_answer" (top 42) "talejudge.tales" 468 233
theorem z29 (P:T0):Fun (KX P) "is_answer" "is_answer" y18 234 y0e:=z0d
theorem z8v (P:T0):Binds (KX P) y0e ["answer"] []:=(z29 P).binds λ _ _ _ _ _ _=>us1 λ _=>rfl
theorem z7c:FnScope ["answer"] ["answer"] (z07 y18):=.k
noncomputable abbrev y0t:Stmt:=top 43
noncomputable abbrev y05:FuncData:=fnX "go_by_turns" "go_by_turns" (top 43) "talejudge.tales" 468 240
theorem z1b (P:T0):Fun (KX P) "go_by_turns" "go_by_turns" y0t 241 y05:=z0d
theorem z6i (P:T0):Binds (KX P) y05 ["events"] []:=(z1b P).binds λ _ _ _ _ _ _=>us1 λ _=>rfl
theorem sc_go_by_turns:FnScope ["events","busy","event","begins"] ["events"] (z07 y0t):=.k
noncomputable abbrev y1s:Stmt:=top 44
noncomputable abbrev y1j:FuncData:=fnX "deeds" "deeds" (top 44) "talejudge.tales" 468 247
theorem zb6 (P:T0):Fun (KX P) "deeds" "deeds" y1s 248 y1j:=z0d
theorem zf7 (P:T0):Binds (KX P) y1j ["tale"] []:=(zb6 P).binds λ _ _ _ _ _ _=>us1 λ _=>rfl
theorem sc_deeds:FnScope ["tale","told","numbers","place","event","number","begun"] ["tale"] (z07 y1s):=.k
noncomputable abbrev y0u:Stmt:=top 47
noncomputable abbrev y06:FuncData:=fnX "plain_deeds" "plain_deeds" (top 47) "talejudge.zones" 570 253
theorem z1g (P:T0):Fun (KX P) "plain_deeds" "plain_deeds" y0u 254 y06:=z0d
theorem z66 (P:T0):Binds (KX P) y06 ["tale"] []:=(z1g P).binds λ _ _ _ _ _ _=>us1 λ _=>rfl
theorem sc_plain_deeds:FnScope ["tale","told"] ["tale"] (z07 y0u):=.k
noncomputable abbrev y19:Stmt:=top 48
noncomputable abbrev y0f:FuncData:=fnX "are_plain" "are_plain" (top 48) "talejudge.zones" 570 258
theorem z23 (P:T0):Fun (KX P) "are_plain" "are_plain" y19 259 y0f:=z0d
theorem z91 (P:T0):Binds (KX P) y0f ["told"] []:=(z23 P).binds λ _ _ _ _ _ _=>us1 λ _=>rfl
theorem sc_are_plain:FnScope ["told","worths"] ["told"] (z07 y19):=.k
noncomputable abbrev y0v:Stmt:=top 49
noncomputable abbrev y07:FuncData:=fnX "is_answered" "is_answered" (top 49) "talejudge.zones" 570 265
theorem z19 (P:T0):Fun (KX P) "is_answered" "is_answered" y0v 266 y07:=z0d
theorem z6g (P:T0):Binds (KX P) y07 ["deed"] []:=(z19 P).binds λ _ _ _ _ _ _=>us1 λ _=>rfl
theorem z54:FnScope ["deed"] ["deed"] (z07 y0v):=.k
noncomputable abbrev y1p:Stmt:=top 50
noncomputable abbrev y12:FuncData:=fnX "writers" "writers" (top 50) "talejudge.zones" 570 272
theorem z4w (P:T0):Fun (KX P) "writers" "writers" y1p 273 y12:=z0d
theorem zcq (P:T0):Binds (KX P) y12 ["told"] []:=(z4w P).binds λ _ _ _ _ _ _=>us1 λ _=>rfl
theorem sc_writers:FnScope ["told","found","deed"] ["told"] (z07 y1p):=.k
noncomputable abbrev y0w:Stmt:=top 51
noncomputable abbrev y08:FuncData:=fnX "ended_reads" "ended_reads" (top 51) "talejudge.zones" 570 277
theorem z16 (P:T0):Fun (KX P) "ended_reads" "ended_reads" y0w 278 y08:=z0d
theorem z5u (P:T0):Binds (KX P) y08 ["told"] []:=(z16 P).binds λ _ _ _ _ _ _=>us1 λ _=>rfl
theorem z4j:FnScope ["told"] ["told"] (z07 y0w):=.k
noncomputable abbrev y1t:Stmt:=top 52
noncomputable abbrev y1k:FuncData:=fnX "zones" "zones" (top 52) "talejudge.zones" 570 282
theorem zax (P:T0):Fun (KX P) "zones" "zones" y1t 283 y1k:=z0d
theorem zf1 (P:T0):Binds (KX P) y1k ["tale"] []:=(zax P).binds λ _ _ _ _ _ _=>us1 λ _=>rfl
theorem sc_zones:FnScope ["tale","told","found","worth","write","spans"] ["tale"] (z07 y1t):=.k
noncomputable abbrev y1q:Stmt:=top 53
noncomputable abbrev y13:FuncData:=fnX "zone_of" "zone_of" (top 53) "talejudge.zones" 570 287
theorem z4r (P:T0):Fun (KX P) "zone_of" "zone_of" y1q 288 y13:=z0d
theorem zcg (P:T0):Binds (KX P) y13 ["worth","spans"] []:=(z4r P).binds λ _ _ _ _ _ _=>us2 λ _ _=>rfl
theorem sc_zone_of:FnScope ["worth","spans","least","greatest"] ["worth","spans"] (z07 y1q):=.k
noncomputable abbrev y0i:Stmt:=top 55
noncomputable abbrev y01:FuncData:=fY "_law_cell_at" "_law_cell_at" (top 55) 294
theorem z12 (P:T0):Fun (KX P) "_law_cell_at" "_law_cell_at" y0i 295 y01:=z0d
theorem z4e (P:T0):Binds (KX P) y01 ["script","k"] []:=(z12 P).binds λ _ _ _ _ _ _=>us2 λ _ _=>rfl
theorem z3o:FnScope ["script","k"] ["script","k"] (z07 y0i):=.k
noncomputable abbrev y1h:Stmt:=top 56
noncomputable abbrev y0o:FuncData:=fY "_law_row" "_law_row" (top 56) 301
theorem z30 (P:T0):Fun (KX P) "_law_row" "_law_row" y1h 302 y0o:=z0d
theorem za1 (P:T0):Binds (KX P) y0o ["cell"] []:=(z30 P).binds λ _ _ _ _ _ _=>us1 λ _=>rfl
theorem z8g:FnScope ["cell"] ["cell"] (z07 y1h):=.k
noncomputable abbrev y1a:Stmt:=top 57
noncomputable abbrev y0g:FuncData:=fY "_law_take" "_law_take" (top 57) 308
theorem z28 (P:T0):Fun (KX P) "_law_take" "_law_take" y1a 309 y0g:=z0d
theorem z8w (P:T0):Binds (KX P) y0g ["row","many"] []:=(z28 P).binds λ _ _ _ _ _ _=>us2 λ _ _=>rfl
theorem sc__law_take:FnScope ["row","many","told"] ["row","many"] (z07 y1a):=.k
noncomputable abbrev y0x:Stmt:=top 58
noncomputable abbrev y09:FuncData:=fY "_law_answer" "_law_answer" (top 58) 313
theorem z18 (P:T0):Fun (KX P) "_law_answer" "_law_answer" y0x 314 y09:=z0d
theorem z6f (P:T0):Binds (KX P) y09 ["row","deed","now","rows","spoilt"] []:=(z18 P).binds λ _ _ _ _ _ _=>us5 λ _ _ _ _ _=>rfl
theorem sc__law_answer:FnScope ["row","deed","now","rows","spoilt","worths"] ["row","deed","now","rows","spoilt"] (z07 y0x):=.k
noncomputable abbrev y0b:Stmt:=top 59
noncomputable abbrev y00:FuncData:=fY "_law_exchanged" "_law_exchanged" (top 59) 318
theorem z0w (P:T0):Fun (KX P) "_law_exchanged" "_law_exchanged" y0b 319 y00:=z0d
theorem z35 (P:T0):Binds (KX P) y00 ["row","rows","events"] []:=(z0w P).binds λ _ _ _ _ _ _=>us3 λ _ _ _=>rfl
theorem sc__law_exchanged:FnScope ["row","rows","events","reads","writes","one"] ["row","rows","events"] (z07 y0b):=.k
noncomputable abbrev y1b:Stmt:=top 60
noncomputable abbrev y0h:FuncData:=fY "_law_made" "_law_made" (top 60) 325
theorem z24 (P:T0):Fun (KX P) "_law_made" "_law_made" y1b 326 y0h:=z0d
theorem z90 (P:T0):Binds (KX P) y0h ["cells","most","spoilt"] []:=(z24 P).binds λ _ _ _ _ _ _=>us3 λ _ _ _=>rfl
theorem sc__law_made:FnScope ["cells","most","spoilt","rows","events","held","now","cell","row","hand","deed","verb","worth","late"] ["cells","most","spoilt"] (z07 y1b):=.k
noncomputable abbrev y14:Stmt:=top 61
noncomputable abbrev y0a:FuncData:=fY "_law_zones" "_law_zones" (top 61) 330
theorem z1q (P:T0):Fun (KX P) "_law_zones" "_law_zones" y14 331 y0a:=z0d
theorem z72 (P:T0):Binds (KX P) y0a ["rows"] []:=(z1q P).binds λ _ _ _ _ _ _=>us1 λ _=>rfl
theorem sc__law_zones:FnScope ["rows","writes","one","told","worth","reads","ends","greatest"] ["rows"] (z07 y14):=.k
noncomputable abbrev y1i:Stmt:=top 62
noncomputable abbrev y0p:FuncData:=fY "_law_low" "_law_low" (top 62) 337
theorem z39 (P:T0):Fun (KX P) "_law_low" "_law_low" y1i 338 y0p:=z0d
theorem z9f (P:T0):Binds (KX P) y0p ["zone"] []:=(z39 P).binds λ _ _ _ _ _ _=>us1 λ _=>rfl
theorem z96:FnScope ["zone"] ["zone"] (z07 y1i):=.k
noncomputable abbrev y1u:Stmt:=top 63
noncomputable abbrev fd_law:FuncData:=fY "law" "law" (top 63) 344
theorem F_law (P:T0):Fun (KX P) "law" "law" y1u 345 fd_law:=z0d
theorem sc_law:FnScope ["script","tale","rows","due","told"] ["script"] (z07 y1u):=.k
section
variable {P:Program} {w:P0} {mg:Str->Option Value} {base:Heap}
def z1i:Sp:=λ vs H Q _=>∃x T,vs=[x]/\TagOf H x T/\Q (.bl (decide (T = "int"))) H
theorem z8t (T:TX (kx w) mg):Fo P w mg base CX0 1 21 y0j ["value"] z1i:=by
 refine (z2t w.params).ok z8j (λ b H Q E h=>?_) (λ c A d s H b Q E e h=>?_)
 ·obtain ⟨x,t,rfl,_⟩:=h;rfl
 ·obtain ⟨x,t,rfl,a,q⟩:=h;refine ⟨_,(z06 (ps_ret (pe_and (z08 z0i rfl (T.no (z0h _)) m3 (z00 (pv 0) (z00 (z1f (v:=.ty "int") rfl (T.no (n_int _)) boot_int rfl) pa_nil))) (pe_one (pe_not (z08 z0i rfl (T.no (z0h _)) m3 (z00 (pv 0) (z00 (z1f (v:=.ty "bool") rfl (T.no (n_bool _)) boot_bool rfl) pa_nil)))))))),?_⟩;refine ⟨_,rfl,_,_,_,rfl,a,by decide,_,rfl,?_⟩;by_cases h1:instB t "int" = true
  ·rw [if_pos h1];refine ⟨_,rfl,_,_,_,rfl,a,by decide,_,rfl,?_⟩;rw [z4s a (by decide)];have:(!decide (t = "bool"))=decide (t = "int"):=by rcases a.one with rfl|rfl|rfl|rfl|rfl|rfl|rfl<;>revert h1<;>decide
   rw [this];exact q
  ·rw [if_neg h1];have:decide (t = "int")=false:=by rcases a.one with rfl|rfl|rfl|rfl|rfl|rfl|rfl<;>revert h1<;>decide
   rw [this] at q;exact q
def z1p:Sp:=λ vs H Q _=>∃x T g,vs=[x,.int g]/\TagOf H x T/\Q (.bl (z0o x g)) H
theorem z70 (T:TX (kx w) mg) (c0:Ca P w mg base "is_whole" ["value"] 1 z1i):Fo P w mg base CX0 2 28 y0c ["value","greatest"] z1p:=by
 refine (z2b w.params).ok z6n (λ b H Q E h=>?_) (λ d A e s H b Q E c h=>?_)
 ·obtain ⟨x,t,g,rfl,_⟩:=h;rfl
 ·obtain ⟨x,t,g,rfl,a,q⟩:=h;refine ⟨_,(z06 (ps_ret (pe_and (pe_cal c0 (c.mono (by decide)) rfl (z00 (pv 0) pa_nil)) (pe_one (z9m op_le op_le (pe_un un_neg (pv 1)) (pv 0) (pv 1)))))),?_⟩;refine ⟨_,rfl,x,t,rfl,a,_,rfl,?_⟩;by_cases h1:t = "int"
  ·subst h1;obtain ⟨i,rfl⟩:=a.int;refine iteT ?_;refine ⟨_,rfl,_,rfl,_,rfl,_,_,rfl,rfl,_,rfl,?_⟩;unfold z0o at q;dsimp only at q;by_cases h2:-g<=i
   ·rw [decide_eq_true h2] at q⊢;refine iteT ⟨_,rfl,_,_,rfl,rfl,?_⟩;rw [y6] at q;exact q
   ·rw [decide_eq_false h2] at q⊢;refine iteF ?_;rw [o7] at q;exact q
  ·rw [decide_eq_false h1];refine iteF ?_;rw [noInt a h1] at q;exact q
def z3w:Sp:=λ vs H Q _=>∃x T,vs=[x]/\TagOf H x T/\Q (.bl (z0o x 1000000000)) H
theorem z8i (T:TX (kx w) mg) (c0:Ca P w mg base "is_within" ["value","greatest"] 2 z1p):Fo P w mg base CX0 3 35 y0k ["value"] z3w:=by
 refine (z37 w.params).ok z8q (λ b H Q E h=>?_) (λ d A e s H b Q E c h=>?_)
 ·obtain ⟨x,t,rfl,_⟩:=h;rfl
 ·obtain ⟨x,t,rfl,a,q⟩:=h;refine ⟨_,(z06 (ps_ret (pe_cal c0 (c.mono (by decide)) rfl (z00 (pv 0) (z00 (z13 (v:=.int (1000000000)) rfl (T.of (z38 _)) ⟨_,rfl⟩) pa_nil))))),?_⟩;exact ⟨_,rfl,x,t,1000000000,rfl,a,q⟩
def z0t:Sp:=λ vs H Q _=>∃x T m,vs=[x,.int m]/\TagOf H x T/\Q (.bl (match tupOf H x with|some xs=>decide ((xs.length:Int)=m)|none=>false)) H
theorem z58 (T:TX (kx w) mg):Fo P w mg base CX0 1 47 y02 ["value","many"] z0t:=by
 refine (z17 w.params).ok z4z (λ i H Q E h=>?_) (λ k A l s H i Q E j h=>?_)
 ·obtain ⟨x,t,g,rfl,_⟩:=h;rfl
 ·obtain ⟨x,t,g,rfl,b,q⟩:=h;refine ⟨_,(z06 (ps_ret (pe_and (z08 z0i rfl (T.no (z0h _)) m3 (z00 (pv 0) (z00 (z1f (v:=.ty "tuple") rfl (T.no (zaf _)) boot_tuple rfl) pa_nil))) (pe_one (z1a opEq (z08 z0s rfl (T.no (n_len _)) Q3 (z00 (pv 0) pa_nil)) (pv 1) (nomark _)))))),?_⟩;refine ⟨_,rfl,_,_,_,rfl,b,by decide,_,rfl,?_⟩;rw [z4s b (by decide)];by_cases h1:t = "tuple"
  ·subst h1;obtain ⟨a,c,rfl,d⟩:=b.tuple;refine iteT ⟨_,rfl,.inl ⟨a,c,rfl,.inr (SqT.of d),_,rfl,rfl,?_⟩⟩;have e:tupOf H (.ref a)=some c:=by unfold tupOf;dsimp only;rw [d]
   rw [e] at q;have f:decide (V.int (c.length:Int)=V.int g)=decide ((c.length:Int)=g):=by simp
   rw [f];exact q
  ·rw [decide_eq_false h1];refine iteF ?_;rw [noTup b h1] at q;exact q
noncomputable def kindB (x:V):Bool:=match x with
 | .str z=>(kl_FIRST_STATES.lookup z).isSome
 | _=>false
def z32:Sp:=λ vs H Q _=>∃x T,vs=[x]/\TagOf H x T/\Q (.bl (kindB x)) H
theorem zah (T:TX (kx w) mg):Fo P w mg base CX0 1 169 y0z ["kind"] z32:=by
 refine (z48 w.params).ok z98 (λ b H Q E h=>?_) (λ c A d s H b Q E e h=>?_)
 ·obtain ⟨x,t,rfl,_⟩:=h;rfl
 ·obtain ⟨x,t,rfl,a,q⟩:=h;refine ⟨_,(z06 (ps_ret (pe_and (z08 z0i rfl (T.no (z0h _)) m3 (z00 (pv 0) (z00 (z1f (v:=.ty "str") rfl (T.no (n_str _)) K9 rfl) pa_nil))) (pe_one (z1a (zdx (z3m _)) (pv 0) (z13 (v:=.ref 85) rfl (T.of (z4f _)) rfl) (by with_unfolding_all rfl)))))),?_⟩;refine ⟨_,rfl,_,_,_,rfl,a,by decide,_,rfl,?_⟩;rw [z4s a (by decide)];by_cases h1:t = "str"
  ·subst h1;obtain ⟨z,rfl⟩:=a.str;exact iteT ⟨_,rfl,z,rfl,rfl,q⟩
  ·rw [decide_eq_false h1];refine iteF ?_;cases x with
   | str z=>exact absurd a h1
   | _=>exact q
noncomputable def formOf (k v:Str):Int:=match kl_DOERS.lookup (k,v) with
 | none=>-1
 | some _=>(match kl_WORTHS_OF_VERBS.lookup v with|some (.int i)=>i|_=>-1)
noncomputable def deedB (H:Hp) (k v x:V):Bool:=match k,v with
 | .str a,.str b=>if formOf a b=0 then decide (x=.non) else if formOf a b=1 then z0o x 1000000000 else if formOf a b=2 then
   (match tupOf H x with|some xs=>decide (xs.length=2) && xs.all λ y=>z0o y 1000000000|none=>false) else false
 | _,_=>false
theorem z5l {a b:Str} {v:V} (h:kl_DOERS.lookup (a,b)=some v):(kl_FIRST_STATES.lookup a).isSome=true/\∃i,kl_WORTHS_OF_VERBS.lookup b=some (.int i)/\(i=0\/i=1\/i=2):=by
 have m:=z6t h;have all :∀p∈kl_DOERS,(kl_FIRST_STATES.lookup p.1.1).isSome=true/\(kl_WORTHS_OF_VERBS.lookup p.1.2=some (.int 0)\/kl_WORTHS_OF_VERBS.lookup p.1.2=some (.int 1)\/kl_WORTHS_OF_VERBS.lookup p.1.2=some (.int 2)):=by decide +kernel
 obtain ⟨d,c⟩:=all _ m;refine ⟨d,?_⟩;rcases c with c|c|c
 ·exact ⟨0,c,.inl rfl⟩
 ·exact ⟨1,c,.inr (.inl rfl)⟩
 ·exact ⟨2,c,.inr (.inr rfl)⟩
def z6b:Sp:=λ vs H Q _=>∃k v x Tk Tv Tx,vs=[k,v,x]/\TagOf H k Tk/\TagOf H v Tv/\TagOf H x Tx/\Flat H x/\∀H',Same H H'->Q (.bl (deedB H k v x)) H'
theorem z9k (T:TX (kx w) mg) (c0:Ca P w mg base "is_kind" ["kind"] 1 z32) (c1:Ca P w mg base "is_worth" ["value"] 3 z3w) (c2:Ca P w mg base "is_tuple_of" ["value","many"] 1 z0t):Fo P w mg base CX0 4 174 y10 ["kind","verb","worth"] z6b:=by
 refine (z4q w.params).ok sc_is_deed (λ vs H Q E h=>?_) (λ a1 A a2 s H vs Q E m h=>?_)
 ·obtain ⟨k,v,x,M,J,F,rfl,_⟩:=h;rfl
 ·obtain ⟨k,v,x,M,J,F,rfl,hk,o,D,hf,q⟩:=h;refine ⟨_,(z05 (ps_if (PW.pt (pw_or (pt_not (pt_val (pe_cal c0 (m.mono (by decide)) rfl (z00 (pv 0) pa_nil)) (λ _=>rfl))) (pw_or (pt_not (pt_val (z08 z0i rfl (T.no (z0h _)) m3 (z00 (pv 1) (z00 (z1f (v:=.ty "str") rfl (T.no (n_str _)) K9 rfl) pa_nil))) (λ _=>rfl))) (pw_or1 (z0a (z77 (hu_of m) (zds _)) (pe_tup (z00 (pv 0) (z00 (pv 1) pa_nil))) (z13 (v:=.ref 150) rfl (T.of (zet _)) rfl) (by with_unfolding_all rfl))))))
   (z06 (ps_ret pe_bl))
   z0g)
   (z05 (ps_set (i:=3) sc_is_deed.nd rfl (N1 rfl) (pe_ix (ix_kd (z2c _)) (z13 (v:=.ref 88) rfl (T.of (z2l _)) rfl) (pv 1) (λ _ _=>rfl)))
   (z05 (ps_if (z0a opEq (pv 3) pe_int (nomark _))
   (z06 (ps_ret (z1a op_isN (pv 2) pe_non (nomark _))))
   z0g)
   (z05 (ps_if (z0a opEq (pv 3) pe_int (nomark _))
   (z06 (ps_ret (pe_cal c1 (m.mono (by decide)) rfl (z00 (pv 2) pa_nil))))
   z0g)
   (z06 (ps_ret (pe_and (pe_cal c2 (m.mono (by decide)) rfl (z00 (pv 2) (z00 (pv 3) pa_nil))) (pe_one (z08 (z1u rfl) rfl (T.no (n_all _)) L9 (z00 (pe_cg (xs:=["part"]) (g:=gName 0) (fr:=[]) (pi_tup (pv 2)) (λ _ _ _ _ _=>(pg_cn (N:=["part"]) 0)) (λ _ _ _ _ _=>pf_nil) (λ _ _ _ _ _=>(pe_cal c1 (m.mono (by decide)) rfl (z00 (pv 0) pa_nil)))) pa_nil)))))))))),?_⟩
  refine ⟨_,rfl,k,M,rfl,hk,_,rfl,?_⟩;have G:deedB H k v x=false->Q (.bl false) H:=λ e=>by have:=q H (Same.refl H);rw [e] at this;exact this
  by_cases j :∃a,k=.str a/\(kl_FIRST_STATES.lookup a).isSome=true
  ·obtain ⟨a,rfl,j⟩:=j;have W:kindB (.str a)=true:=j;rw [W];refine iteF ?_;refine ⟨_,rfl,_,_,_,rfl,o,by decide,_,rfl,?_⟩;rw [z4s o (by decide)];by_cases r:J = "str"
   ·subst r;obtain ⟨b,rfl⟩:=o.str;refine iteF ?_;refine ⟨_,rfl,_,rfl,?_⟩;refine ⟨w_2,λ p U=>⟨p,a,b,rfl,z02,rfl,_,rfl,?_⟩⟩;have d:Same H (upd H p (.tup [.str a,.str b])):=Same.upd U;cases h3:kl_DOERS.lookup (a,b) with
    | none=>
     refine iteT ?_;have:=q _ d;have e:deedB H (.str a) (.str b) x=false:=by unfold deedB formOf;dsimp only;rw [h3];rfl
     rw [e] at this;exact this
    | some z=>
     refine iteF ?_;obtain ⟨_,i,O,h5⟩:=z5l h3;have t:formOf a b=i:=by unfold formOf;rw [h3];dsimp only;rw [O]
     refine ⟨_,rfl,b,.int i,rfl,rfl,O,?_⟩;refine ⟨_,rfl,rfl,_,rfl,?_⟩;rcases h5 with rfl|rfl|rfl
     ·refine iteT ⟨_,rfl,rfl,?_⟩;have:=q _ d;have e:deedB H (.str a) (.str b) x=decide (x=.non):=by unfold deedB;dsimp only;rw [t];rfl
      rw [e] at this;exact this
     ·refine iteF ⟨_,rfl,rfl,_,rfl,?_⟩;refine iteT ⟨_,rfl,x,F,rfl,D.same d,?_⟩;have:=q _ d;have e:deedB H (.str a) (.str b) x=z0o x 1000000000:=by unfold deedB;dsimp only;rw [t];rfl
      rw [e] at this;exact this
     ·refine iteF ⟨_,rfl,rfl,_,rfl,?_⟩;refine iteF ⟨_,rfl,_,rfl,x,F,2,rfl,D.same d,_,rfl,?_⟩;rw [z9t D d];have e:deedB H (.str a) (.str b) x=(match tupOf H x with|some xs=>decide (xs.length=2) && xs.all λ y=>z0o y 1000000000|none=>false):=by unfold deedB;dsimp only;rw [t];rfl
      rw [e] at q;cases ht:tupOf H x with
      | none=>rw [ht] at q;exact iteF (q _ d)
      | some xs=>
       rw [ht] at q;dsimp only at q⊢;by_cases n:xs.length=2
       ·have u:((xs.length:Nat):Int)=2:=by omega
        rw [if_pos (decide_eq_true u)];rw [decide_eq_true n,y6] at q;obtain ⟨c,rfl,hc⟩:=za2 ht;have a0:xs.length<=sizeLine:=by rw [n];decide
        refine e_cb1 ?_;refine z87 (K:=KX w.params) (a:=c) (xs:=xs) (H1:=upd H p (.tup [.str a,.str b])) (λ _=>true) (λ i y _=>y=.bl (z0o (xs[i]?.getD .non) 1000000000)) (λ _ _ _ _ _ z=>z) (λ R h=>⟨_,rfl,h⟩) (SqT.of (d _ _ hc)) a0 ?_ ?_
        ·intro i L C X B S KT KF k1 k2;obtain ⟨Ty,ty⟩:=(hf xs ht).2 C (x0 S);refine ⟨[some C],rfl,rfl,iteT ?_⟩;exact ⟨_,rfl,C,Ty,rfl,(ty.same d).same B,k1 rfl _ _ (Same.refl _) (by rw [S];rfl)⟩
        ·intro l X ys B n I;rw [List.filter_eq_self.mpr (λ _ _=>rfl)] at I;have Y:ys=xs.map λ y=>V.bl (z0o y 1000000000):=by
          rw [z10 (f:=λ i=>V.bl (z0o (xs[i]?.getD .non) 1000000000)) I];apply List.ext_getElem
          ·simp
          ·intro i j r;have L:i < xs.length:=by simpa using j
           simp [M0 L]
         subst Y;refine ⟨l,_,rfl,SqL.of z02,λ y Z=>?_,?_⟩
         ·obtain ⟨z,_,rfl⟩:=List.mem_map.mp Z;exact ⟨_,rfl⟩
         ·have e9:((xs.map λ y=>V.bl (z0o y 1000000000)).all λ y=>decide (y=V.bl true))=xs.all λ y=>z0o y 1000000000:=by rw [List.all_map];congr 1;funext y;simp
          rw [e9];exact q _ ((d.trans B).trans (Same.upd n))
       ·have u:¬ ((xs.length:Nat):Int)=2:=by omega
        rw [if_neg (by rw [decide_eq_false u];exact R0)];rw [decide_eq_false n,o7] at q;exact q _ d
   ·rw [decide_eq_false r];refine iteT ?_;exact G (by unfold deedB;cases v with|str z=>exact absurd o r|_=>rfl)
  ·have e1:kindB k=false:=by
    cases k with
    | str z=>exact Bool.eq_false_iff.mpr λ e=>j ⟨z,rfl,e⟩
    | _=>rfl
   rw [e1];refine iteT ?_;refine G ?_;cases k with
   | str a=>
    cases v with
    | str b=>
     unfold deedB formOf;dsimp only;cases h3:kl_DOERS.lookup (a,b) with
     | none=>rfl
     | some z=>exact absurd ⟨a,rfl,(z5l h3).1⟩ j
    | _=>rfl
   | _=>rfl
inductive Ev
 | beg (h:Int) (n v x:V)
 | fin (h:Int) (a:V)
noncomputable def EvAt (K:c0) (H:Hp):Ev->V->Prop
 | .beg h n v x,y=>∃p,y=.ref p/\SqT K H p [.str "begin",.int h,n,v,x]
 | .fin h a,y=>∃p,y=.ref p/\SqT K H p [.str "end",.int h,a]
structure Rc where
 h:Int
 n:V
 v:V
 x:V
 a:V
 b:Nat
 e:Option Nat
noncomputable def endV:Option Nat->V
 | none=>.non
 | some i=>.int i
def RcAt (K:c0) (H:Hp) (r:Rc) (y:V):Prop:=∃p,y=.ref p/\SqT K H p [.int r.h,r.n,r.v,r.x,r.a,.int r.b,endV r.e]
def Tups (K:c0) (H H':Hp):Prop:=∀a xs,SqT K H a xs->SqT K H' a xs
theorem Tups.of {K:c0} {H H':Hp} (s:Same H H'):Tups K H H':=λ _ _ q=>s.seqT q
theorem Tups.lst {K:c0} {H:Hp} {l:Addr} {o:HO} {zs:List V} (e:H l=some (.lst zs)):Tups K H (upd H l o):=λ _ _ q=>q.wrote e
theorem Tups.dict {K:c0} {H:Hp} {l:Addr} {o:HO} {kvs:List (Key×V)} (e:H l=some (.dK kvs)):Tups K H (upd H l o):=λ a b h=>by
 rcases h with (h|⟨ob,h⟩)|h
 ·exact .inl (.inl (by rw [upd_ne (ne_of h e (by intro z;cases z))];exact h))
 ·exact .inl (.inr ⟨ob,by rw [upd_ne (ne_of h e (by intro z;cases z))];exact h⟩)
 ·exact .inr h
theorem zd4 {n j:Nat} (h:j < n):ixN n (j:Nat)=some j:=by unfold ixN;rw [if_pos (by omega),if_pos (by omega)];rfl
theorem Same.keep {H H':Hp} {l:Addr} {o:HO} (s:Same H H') (n:H l=none):Same H (upd H' l o):=λ a x e=>by rw [upd_ne (z0e e n)];exact s a x e
theorem z0l {α β:Type} {R:α->β->Prop} {x:α} {y:β} :∀{xs:List α} {ys:List β},All2 R xs ys->R x y->All2 R (xs++[x]) (ys++[y])
 | _,_,.nil,h=>.cons h .nil
 | _,_,.cons a r,h=>.cons a (z0l r h)
theorem zae {κ:Type} [DecidableEq κ] {kvs:List (κ×V)} {k:κ} {v:V}:(putK kvs k v).length<=kvs.length + 1:=by
 unfold putK;by_cases z:(kvs.any λ a=>decide (a.1=k))=true
 ·rw [if_pos z,D0];omega
 ·rw [if_neg z,L0];exact A0 _
noncomputable def lastI (h:Int) (hs:List Int):Option Nat:=(hs.foldl (λ (acc:Nat×Option Nat) k=>(acc.1 + 1,if k=h then some acc.1 else acc.2)) (0,none)).2
theorem lastF (h:Int) :∀hs:List Int,(hs.foldl (λ (acc:Nat×Option Nat) k=>(acc.1 + 1,if k=h then some acc.1 else acc.2)) (0,none)).1=hs.length:=by
 have b :∀(hs:List Int) (a:Nat×Option Nat),(hs.foldl (λ (acc:Nat×Option Nat) k=>(acc.1 + 1,if k=h then some acc.1 else acc.2)) a).1=a.1 + hs.length:=by
  intro hs;induction hs with
  | nil=>intro a;rfl
  | cons k hs ih=>intro a;rw [E8,ih,v1];show a.1 + 1 + hs.length=_;omega
 intro hs;rw [b hs (0,none)];simp
theorem z1y (h k:Int) (hs:List Int):lastI h (hs++[k])=if k=h then some hs.length else lastI h hs:=by unfold lastI;rw [X7];show (if k=h then some _ else _)=_;rw [lastF]
theorem z74 {h:Int} {hs:List Int} {j:Nat} (e:lastI h hs=some j):j < hs.length:=by
 have c :∀(hs:List Int) (a:Nat×Option Nat),(∀j,a.2=some j->j < a.1)->∀j,(hs.foldl (λ (acc:Nat×Option Nat) k=>(acc.1 + 1,if k=h then some acc.1 else acc.2)) a).2=some j->j < a.1 + hs.length:=by
  intro hs;induction hs with
  | nil=>intro a b j e;exact b j e
  | cons k hs ih=>
   intro a b j e;rw [E8] at e;have:=ih (a.1 + 1,if k=h then some a.1 else a.2) (λ j e=>by
    dsimp only at e⊢;by_cases z:k=h
    ·rw [if_pos z] at e;cases e;omega
    ·rw [if_neg z] at e;have:=b j e;omega) j e
   rw [v1];dsimp only at this;omega
 have:=c hs (0,none) (λ j e=>by cases e) j e;simpa using this
noncomputable def dstep (i:Nat) (rs:List Rc):Ev->List Rc
 | .beg h n v x=>rs++[⟨h,n,v,x,.non,i,none⟩]
 | .fin h a=>match lastI h (rs.map Rc.h) with|some j=>rs.modify j (λ r=>{ r with a:=a,e:=some i })|none=>rs
noncomputable def dAll:Nat->List Rc->List Ev->List Rc
 | _,rs,[]=>rs
 | i,rs,e :: es=>dAll (i + 1) (dstep i rs e) es
noncomputable def dWf:Nat->List Rc->List Ev->Prop
 | _,_,[]=>True
 | i,rs,e :: es=>(∀h a,e=.fin h a->(lastI h (rs.map Rc.h)).isSome=true)/\dWf (i + 1) (dstep i rs e) es
theorem RcAt.tups {K:c0} {H H':Hp} {r:Rc} {y:V} (t:Tups K H H') (h:RcAt K H r y):RcAt K H' r y:=h.elim λ p z=>⟨p,z.1,t _ _ z.2⟩
theorem EvAt.tups {K:c0} {H H':Hp} (t:Tups K H H') :∀{e:Ev} {y:V},EvAt K H e y->EvAt K H' e y
 | .beg h n v x,_,z=>z.elim λ p z=>⟨p,z.1,t _ _ z.2⟩
 | .fin h a,_,z=>z.elim λ p z=>⟨p,z.1,t _ _ z.2⟩
theorem z44 {α β:Type} {R:α->β->Prop} {f:α->α} {y:β} :∀{xs:List α} {ys:List β} {j:Nat} {x:α},All2 R xs ys->xs[j]? = some x->R (f x) y->All2 R (xs.modify j f) (ys.set j y)
 | _,_,_,_,.nil,e,_=>by simp at e
 | _,_,0,x,.cons a r,e,h=>by rw [Q1] at e;cases e;exact .cons h r
 | _,_,j + 1,x,.cons a r,e,h=>by rw [B1] at e;exact .cons a (z44 r e h)
theorem z7f {α β:Type} {R:α->β->Prop} :∀{xs:List α} {ys:List β} {i:Nat} {x:α},All2 R xs ys->xs[i]? = some x->∃y,ys[i]? = some y/\R x y
 | _,_,i,x,.nil,e=>by simp at e
 | _,_,0,x,.cons a _,e=>by rw [Q1] at e;cases e;exact ⟨_,Q1,a⟩
 | _,_,i + 1,x,.cons _ r,e=>by rw [B1] at e;obtain ⟨y,b,c⟩:=z7f r e;exact ⟨y,by rw [B1];exact b,c⟩
def zb2 (K:c0):Sp:=λ vs H Q _=>∃(t te:Addr) (th:V) (ys:List V) (es:List Ev),vs=[.ref t]/\SqT K H t [th,.ref te]/\SqT K H te ys/\All2 (EvAt K H) es ys/\es.length<=100/\dWf 0 [] es/\
 ∀l zs H',Same H H'->H l=none->H' l=some (.lst zs)->All2 (RcAt K H') (dAll 0 [] es) zs->Q (.ref l) H'
theorem ze2 (T:TX (kx w) mg):Fo P w mg base CX0 1 248 y1j ["tale"] (zb2 (kx w)):=by
 refine (zb6 w.params).ok sc_deeds (λ vs H Q E h=>?_) (λ c4 A c3 s H vs Q E hr h=>?_)
 ·obtain ⟨t,Z,th,ys,C,rfl,_⟩:=h;rfl
 ·obtain ⟨t,Z,th,ys,C,rfl,st,se,al,hl,wf,q⟩:=h;refine ⟨_,(z05 (ps_set (i:=1) sc_deeds.nd rfl (N1 rfl) (pe_lst pa_nil))
   (z05 (ps_set (i:=2) sc_deeds.nd rfl (N1 rfl) z75)
   (z05 (ps_for g4 rfl (zec rfl (T.no (z3y _)) (z00 (pe_ix ix_seq (pv 0) pe_int (λ _ _=>rfl)) pa_nil)) (pg_tup rfl (z0k (z11 (i:=3) sc_deeds.nd rfl (N1 rfl)) (z0k (z11 (i:=4) sc_deeds.nd rfl (N1 rfl)) z2j)))
   (z06 (ps_if (z0a opEq (pe_ix ix_seq (pv 4) pe_int (λ _ _=>rfl)) pe_str (nomark _))
   (z05 (z5h (hu_of hr) (pv 2) (pe_ix ix_seq (pv 4) pe_int (λ _ _=>rfl)) (z08 z0s rfl (T.no (n_len _)) Q3 (z00 (pv 1) pa_nil)) rfl)
   (z06 (z1n (z0z (pv 1) (z00 (pe_op opAdd (z3j slSeq (pv 4) (z3z pe_int) z81) (pe_tup (z00 pe_non (z00 (pv 3) (z00 pe_non pa_nil))))) pa_nil)))))
   (z05 (ps_set (i:=5) sc_deeds.nd rfl (N1 rfl) (z5j (hu_of hr) (pv 2) (pe_ix ix_seq (pv 4) pe_int (λ _ _=>rfl)) (λ _ _=>rfl)))
   (z05 (ps_set (i:=6) sc_deeds.nd rfl (N1 rfl) (pe_ix ix_seq (pv 1) (pv 5) (λ _ _=>rfl)))
   (z06 (ps_asg (pe_op opAdd (z3j slSeq (pv 6) z81 (z3z pe_int)) (pe_tup (z00 (pe_ix ix_seq (pv 4) pe_int (λ _ _=>rfl)) (z00 (pe_ix ix_seq (pv 6) pe_int (λ _ _=>rfl)) (z00 (pv 3) pa_nil))))) (pg_sub (pv 1) (pv 5) z1s))))))))
   (z06 (ps_ret (pv 1)))))),?_⟩
  refine ⟨w_0,λ l a0=>?_⟩;intro d a5;have R:l≠d:=z0e z02 a5;have s0:upd H l (.lst []) d=none->H d=none:=λ z=>by rwa [upd_ne R.symm] at z
  have s2:Same H (upd (upd H l (.lst [])) d (.dK [])):=(Same.upd a0).trans (Same.upd a5);have e1:upd (upd H l (.lst [])) d (.dK []) l=some (.lst []):=by rw [upd_ne R];exact z02
  have e2:upd (upd H l (.lst [])) d (.dK []) d=some (.dK []):=z02;generalize upd (upd H l (.lst [])) d (.dK [])=H2 at s2 e1 e2⊢;have b7:=z03 al;refine ⟨_,rfl,.inr (.inl ⟨t,_,1,.ref Z,rfl,rfl,s2.seqT st,z04 (j:=1) rfl,Z,ys,rfl,s2.seqT se,?_⟩)⟩;refine zc3 (K:=KX w.params) (a:=Z) (xs:=ys) (λ i σ O=>∃c f g,O l=some (.lst f)/\All2 (RcAt (kx w) O) c f/\O d=some (.dK g)/\g.length<=i/\c.length<=i/\(∀h,valV g (.inl h)=(lastI h (c.map Rc.h)).map λ j=>V.int (j:Nat))/\dAll i c (C.drop i)=dAll 0 [] C/\dWf i c (C.drop i)/\Same H O/\∃x3 x4 x5 x6,σ=[some (.ref t),some (.ref l),some (.ref d),x3,x4,x5,x6])
   ⟨[],[],[],e1,.nil,e2,A0 _,A0 _,λ h=>rfl,by rw [n5],by rw [n5];exact wf,s2,_,_,_,_,rfl⟩ (λ i σ O h=>?_) ?_ ?_
  ·obtain ⟨c,f,g,_,_,_,_,_,_,_,_,s',_⟩:=h;exact s'.seqT se
  ·rintro i y σ H3 p hy ⟨c,f,g,el,ar,ed,hk,hr',hv,G,dw,s3,x3,x4,x5,x6,rfl⟩ hp;obtain ⟨e,he,ev⟩:=z09 al hy;obtain ⟨hi,ee⟩:=List.getElem?_eq_some_iff.mp he;have dr:C.drop i=e :: C.drop (i + 1):=by rw [m6 hi,ee]
   rw [dr] at G dw;have s4:=s3.trans (Same.upd (o:=.tup [.int i,y]) hp);have L:=(Same.upd (o:=.tup [.int i,y]) hp) _ _ el;have S:=(Same.upd (o:=.tup [.int i,y]) hp) _ _ ed;have W:=z01 (λ a b z=>RcAt.tups (.of (Same.upd (o:=.tup [.int i,y]) hp)) z) ar;have b0:upd H3 p (.tup [.int i,y]) p=some (.tup [.int i,y]):=z02;generalize upd H3 p (.tup [.int i,y])=H4 at s4 L S W b0⊢;have a8:=EvAt.tups (.of s4) ev;refine ⟨p,_,rfl,SqT.of b0,rfl,.int i,_,rfl,y,_,rfl,rfl,?_⟩;have lz:f.length=c.length:=z03 W;have b4:100<=sizeLine:=by decide
   have b1:i < 100:=U0 hi hl;cases e with
   | beg h n v x=>
    obtain ⟨I,rfl,J⟩:=a8;refine ⟨_,rfl,.inr (.inl ⟨I,_,0,.str "begin",rfl,rfl,J,z04 (j:=0) rfl,rfl,_,rfl,iteP (decide_eq_true rfl) ?_⟩)⟩;refine ⟨_,rfl,.inl ⟨l,f,rfl,.inl (SqL.of L),⟨_,rfl,⟨_,rfl,.inr (.inl ⟨I,_,1,.int h,rfl,rfl,J,z04 (j:=1) rfl,d,_,rfl,DPut.k (k:=.inl h) S (F1 hk (U0 b1 b4)),?_⟩)⟩⟩⟩⟩;have b9:H d=none:=s0 a5;have t5:Tups (kx w) H4 (upd H4 d (.dK (putK g (.inl h) (.int (f.length:Nat))))):=Tups.dict S;have s5:=Same.keep (o:=.dK (putK g (.inl h) (.int (f.length:Nat)))) s4 b9;have a2:upd H4 d (.dK (putK g (.inl h) (.int (f.length:Nat)))) l=some (.lst f):=by rw [upd_ne R];exact L
    have a6:upd H4 d (.dK (putK g (.inl h) (.int (f.length:Nat)))) d=some (.dK (putK g (.inl h) (.int (f.length:Nat)))):=z02;generalize upd H4 d (.dK (putK g (.inl h) (.int (f.length:Nat))))=H5 at t5 s5 a2 a6⊢;have c2:=t5 _ _ J;have b5:=z01 (λ a b z=>RcAt.tups t5 z) W;refine ⟨_,rfl,.inl ⟨rfl,f,SqL.of a2⟩,⟨_,rfl,1,rfl,.inr (.inl ⟨I,_,rfl,c2,λ z=>absurd z.1 (show ¬ HT.sIx 5 0 (some 1)=0 by decide),λ D N=>?_⟩)⟩⟩;have c1:cutV [V.str "begin",.int h,n,v,x] (some 1) none=[.int h,n,v,x]:=rfl;rw [c1];refine ⟨_,rfl,w_3,λ F Y=>.inr (.inr (.inr ⟨D,F,_,_,rfl,rfl,(Same.upd Y).seqT (SqT.of z02),SqT.of z02,by simp,w_7,λ z=>(by cases z),λ _ u a1=>?_⟩))⟩;have B:Same H5 (upd (upd (upd H5 D (.tup [.int h,n,v,x])) F (.tup [.non,.int i,.non])) u (.tup ([.int h,n,v,x]++[.non,.int i,.non]))):=((Same.upd N).trans (Same.upd Y)).trans (Same.upd a1);have M:upd (upd (upd H5 D (.tup [.int h,n,v,x])) F (.tup [.non,.int i,.non])) u (.tup ([.int h,n,v,x]++[.non,.int i,.non])) u=some (.tup ([.int h,n,v,x]++[.non,.int i,.non])):=z02;generalize upd (upd (upd H5 D (.tup [.int h,n,v,x])) F (.tup [.non,.int i,.non])) u (.tup ([.int h,n,v,x]++[.non,.int i,.non]))=H6 at B M⊢;have U:=B _ _ a2;have a3:=B _ _ a6;have a4:=z01 (λ a b z=>RcAt.tups (.of B) z) b5;have X:Tups (kx w) H6 (upd H6 l (.lst (f++[.ref u]))):=Tups.lst U;refine ⟨l,f,_,rfl,rfl,U,F1 (G0 (W6 lz) hr') (U0 b1 b4),?_⟩;refine ⟨c++[⟨h,n,v,x,.non,i,none⟩],f++[.ref u],putK g (.inl h) (.int (f.length:Nat)),z02,?_,?_,?_,?_,?_,(show dAll (i + 1) (dstep i c (.beg h n v x)) _=_ from G),dw.2,Same.keep (s5.trans B) a0,_,_,_,_,rfl⟩
    ·exact z0l (z01 (λ a b z=>RcAt.tups X z) a4) ⟨u,rfl,X _ _ (SqT.of M)⟩
    ·rw [upd_ne R.symm];exact a3
    ·exact G0 zae (by omega)
    ·rw [L0];show c.length + 1<=i + 1;omega
    ·intro k;rw [z6o,N2];show _=Option.map _ (lastI k (c.map Rc.h++[h]));rw [z1y,hv k,D0,lz];by_cases z:h=k
     ·rw [if_pos z,if_pos (by rw [z])];rfl
     ·rw [if_neg z,if_neg (λ y=>z (z4 y).symm)]
   | fin h a=>
    obtain ⟨I,rfl,J⟩:=a8;obtain ⟨j,hj⟩:=Option.isSome_iff_exists.mp (dw.1 h a rfl);have b8:valV g (.inl h)=some (.int (j:Nat)):=by rw [hv h,hj];rfl
    have b2:j < c.length:=by have:=z74 hj;rwa [D0] at this
    have a9:c[j]? = some c[j]:=M0 b2;obtain ⟨yj,b6,pj,rfl,sj⟩:=z7f W a9;have c0:DGet H4 d (.int h) (some (.int (j:Nat))):=b8 ▸ DGet.k (k:=.inl h) S;refine ⟨_,rfl,.inr (.inl ⟨I,_,0,.str "end",rfl,rfl,J,z04 (j:=0) rfl,rfl,_,rfl,iteK ?_⟩)⟩;refine ⟨_,rfl,⟨_,rfl,.inr (.inl ⟨I,_,1,.int h,rfl,rfl,J,z04 (j:=1) rfl,d,_,rfl,c0,?_⟩)⟩⟩;refine ⟨_,rfl,_,rfl,.inl ⟨l,f,j,.ref pj,rfl,rfl,SqL.of L,z04 b6,?_⟩⟩;refine ⟨_,rfl,4,rfl,.inr (.inl ⟨pj,_,rfl,sj,λ z=>absurd z.2 (show ¬ HT.sIx 7 7 (some 4)=7 by decide),λ D N=>?_⟩)⟩;have c1:cutV [.int c[j].h,c[j].n,c[j].v,c[j].x,c[j].a,.int c[j].b,endV c[j].e] none (some 4)=[.int c[j].h,c[j].n,c[j].v,c[j].x]:=rfl;rw [c1];refine ⟨_,rfl,.inr (.inl ⟨I,_,2,a,rfl,rfl,(Same.upd N).seqT J,z04 (j:=2) rfl,?_⟩)⟩;refine ⟨_,rfl,.inr (.inl ⟨pj,_,5,.int c[j].b,rfl,rfl,(Same.upd N).seqT sj,z04 (j:=5) rfl,?_⟩)⟩;refine ⟨_,rfl,w_3,λ F Y=>.inr (.inr (.inr ⟨D,F,_,_,rfl,rfl,(Same.upd Y).seqT (SqT.of z02),SqT.of z02,by simp,w_7,λ z=>(by cases z),λ _ u a1=>?_⟩))⟩;have B:Same H4 _:=((Same.upd N).trans (Same.upd Y)).trans (Same.upd (o:=.tup ([.int c[j].h,c[j].n,c[j].v,c[j].x]++[a,.int c[j].b,.int (i:Nat)])) a1);have M:upd (upd (upd H4 D (.tup [.int c[j].h,c[j].n,c[j].v,c[j].x])) F (.tup [a,.int c[j].b,.int (i:Nat)])) u (.tup ([.int c[j].h,c[j].n,c[j].v,c[j].x]++[a,.int c[j].b,.int (i:Nat)])) u=some (.tup ([.int c[j].h,c[j].n,c[j].v,c[j].x]++[a,.int c[j].b,.int (i:Nat)])):=z02;generalize upd (upd (upd H4 D (.tup [.int c[j].h,c[j].n,c[j].v,c[j].x])) F (.tup [a,.int c[j].b,.int (i:Nat)])) u (.tup ([.int c[j].h,c[j].n,c[j].v,c[j].x]++[a,.int c[j].b,.int (i:Nat)]))=H6 at B M⊢;have U:=B _ _ L;have a3:=B _ _ S;have a4:=z01 (λ a b z=>RcAt.tups (.of B) z) W;have X:Tups (kx w) H6 (upd H6 l (.lst (f.set j (.ref u)))):=Tups.lst U;refine ⟨_,rfl,_,rfl,l,f,j,j,rfl,rfl,U,zd4 (show j < f.length by rw [lz];exact b2),?_⟩;have dd:dstep i c (.fin h a)=c.modify j (λ r=>{ r with a:=a,e:=some i }):=by unfold dstep;dsimp only;rw [hj]
    have a7:dAll (i + 1) (dstep i c (.fin h a)) (List.drop (i + 1) C)=_:=G;have b3:=dw.2;rw [dd] at a7 b3;have mh:(c.modify j (λ r=>{ r with a:=a,e:=some i })).map Rc.h=c.map Rc.h:=by
     apply m5;intro m;rw [S0,S0,B2];cases c[m]? with
     | none=>rfl
     | some r=>
      show some (if j=m then _ else r).h=some r.h;by_cases z:j=m
      ·rw [if_pos z]
      ·rw [if_neg z]
    refine ⟨_,f.set j (.ref u),g,z02,?_,?_,?_,?_,?_,a7,b3,Same.keep (s4.trans B) a0,_,_,_,_,rfl⟩
    ·exact z44 (z01 (λ a b z=>RcAt.tups X z) a4) a9 ⟨u,rfl,X _ _ (SqT.of M)⟩
    ·rw [upd_ne R.symm];exact a3
    ·omega
    ·rw [Y4];omega
    ·intro k;rw [mh];exact hv k
  ·rintro σ H3 ⟨c,f,g,el,ar,ed,hk,hr',hv,G,dw,s3,x3,x4,x5,x6,rfl⟩;have:C.drop ys.length=[]:=by rw [b7];exact List.drop_length
   rw [this] at G;have G:c=dAll 0 [] C:=G;rw [<-G] at q;exact ⟨_,rfl,q l f H3 s3 a0 el ar⟩
end
section
noncomputable def oStep (os:List Int):Ev->List Int
 | .beg h _ _ _=>os++[h]
 | .fin h _=>os.filter λ k=>decide (k≠h)
noncomputable def oOk (os:List Int):Ev->Prop
 | .beg h _ _ _=>h∉os
 | .fin h _=>h∈os
noncomputable def EWf:List Int->List Ev->Prop
 | _,[]=>True
 | os,e :: es=>oOk os e/\EWf (oStep os e) es
theorem EWf.snoc :∀{es:List Ev} {os:List Int} {e:Ev},EWf os es->oOk (es.foldl oStep os) e->EWf os (es++[e])
 | [],os,e,_,h=>⟨h,trivial⟩
 | x :: es,os,e,w,h=>⟨w.1,EWf.snoc w.2 h⟩
theorem z56 {h:Int} (hs:List Int) :∀{j:Nat},lastI h hs=some j->hs[j]? = some h/\∀k,j < k->hs[k]?≠some h:=by
 suffices key :∀n (hs:List Int),hs.length=n->∀{j:Nat},lastI h hs=some j->hs[j]? = some h/\∀k,j < k->hs[k]?≠some h from λ {j} a=>key _ hs rfl a;intro n;induction n with
 | zero=>intro hs e j a;have:=z74 a;omega
 | succ n ih=>
  intro hs e j a;have d:hs≠[]:=λ z=>by rw [z] at e;cases e
  obtain ⟨b,t,rfl⟩ :∃b t,hs=b++[t]:=⟨hs.dropLast,hs.getLast d,(F8 d).symm⟩
  rw [L0] at e;have e:b.length=n:=by simpa using e
  rw [z1y] at a;by_cases z:t=h
  ·rw [if_pos z] at a;cases a;refine ⟨by simp [z],λ k c=>?_⟩;rw [T3 (by rw [L0];show b.length + 1<=k;omega)];intro y;cases y
  ·rw [if_neg z] at a;obtain ⟨g,f⟩:=ih b e a;have lt:=z74 a;refine ⟨by rw [Y2 lt];exact g,λ k c=>?_⟩;by_cases y:k < b.length
   ·rw [Y2 y];exact f k c
   ·by_cases y2:k=b.length
    ·subst y2;rw [V2 (A0 _)];simp;exact z
    ·rw [T3 (by rw [L0];show b.length + 1<=k;omega)];intro y;cases y
theorem za8 {h:Int} (hs:List Int) (hm:h∈hs):(lastI h hs).isSome=true:=by
 suffices key :∀n (hs:List Int),hs.length=n->h∈hs->(lastI h hs).isSome=true from key _ hs rfl hm;intro n;induction n with
 | zero=>intro hs e hm;rw [List.length_eq_zero_iff.mp e] at hm;cases hm
 | succ n ih=>
  intro hs e hm;have b:hs≠[]:=λ z=>by rw [z] at e;cases e
  obtain ⟨a,t,rfl⟩ :∃a t,hs=a++[t]:=⟨hs.dropLast,hs.getLast b,(F8 b).symm⟩
  rw [L0] at e;rw [z1y];by_cases z:t=h
  ·rw [if_pos z];rfl
  ·rw [if_neg z];refine ih a (by simpa using e) ?_;rcases List.mem_append.mp hm with y|y
   ·exact y
   ·exact absurd (List.mem_singleton.mp y).symm z
structure DInv (i:Nat) (rs:List Rc) (os:List Int):Prop where
 b :∀r∈rs,r.b < i
 e :∀r∈rs,∀e,r.e=some e->e < i
 p :∀(x y:Nat) (r q:Rc),x < y->rs[x]? = some r->rs[y]? = some q->r.b < q.b/\(r.h=q.h->∃e,r.e=some e/\e < q.b)
 o :∀r∈rs,r.h∉os->r.e.isSome=true
 m :∀h∈os,h∈rs.map Rc.h
theorem DInv.nil:DInv 0 [] []:=⟨λ _ h=>(by cases h),λ _ h=>(by cases h),λ x y r q _ h=>(by simp at h),λ _ h=>(by cases h),λ _ h=>(by cases h)⟩
theorem zau {rs:List Rc} {j:Nat} {f:Rc->Rc} (hf :∀r,(f r).h=r.h):(rs.modify j f).map Rc.h=rs.map Rc.h:=by
 apply m5;intro m;rw [S0,S0,B2];cases rs[m]? with
 | none=>rfl
 | some r=>
  show some (if j=m then f r else r).h=some r.h;by_cases z:j=m
  ·rw [if_pos z,hf]
  ·rw [if_neg z]
theorem DInv.step {i:Nat} {rs:List Rc} {os:List Int} (I:DInv i rs os) {e:Ev} (ok:oOk os e):DInv (i + 1) (dstep i rs e) (oStep os e)/\∀h a,e=.fin h a->(lastI h (rs.map Rc.h)).isSome=true:=by
 cases e with
 | beg h n v x=>
  have ok:h∉os:=ok;refine ⟨⟨λ r d=>?_,λ r d e c=>?_,λ u g r q E L D=>?_,λ r d B=>?_,λ k J=>?_⟩,λ h a e=>by cases e⟩
  ·rcases List.mem_append.mp d with z|z
   ·have:=I.b r z;omega
   ·rw [List.mem_singleton.mp z];exact A2 i
  ·rcases List.mem_append.mp d with z|z
   ·have:=I.e r z e c;omega
   ·rw [List.mem_singleton.mp z] at c;cases c
  ·have a0:g < (dstep i rs (.beg h n v x)).length:=(List.getElem?_eq_some_iff.mp D).1;have hl:(dstep i rs (.beg h n v x)).length=rs.length + 1:=by show (rs++[_]).length=_;rw [L0];rfl
   have U:rs[u]? = some r:=by
    have:(rs++[_])[u]? = some r:=L
    rwa [Y2 (by omega)] at this
   by_cases z:g < rs.length
   ·have Z:rs[g]? = some q:=by
     have:(rs++[_])[g]? = some q:=D
     rwa [Y2 z] at this
    exact I.p u g r q E U Z
   ·have F:(rs++[_])[g]? = some q:=D;have Y:g=rs.length:=by omega
    subst Y;rw [V2 (A0 _)] at F;simp at F;have M:=x0 U;rw [<-F];refine ⟨I.b r M,λ A=>?_⟩;have:r.e.isSome=true:=I.o r M (by rw [A];exact ok);obtain ⟨e,c⟩:=Option.isSome_iff_exists.mp this;exact ⟨e,c,I.e r M e c⟩
  ·rcases List.mem_append.mp d with z|z
   ·exact I.o r z λ y=>B (List.mem_append.mpr (.inl y))
   ·rw [List.mem_singleton.mp z] at B;exact absurd (List.mem_append.mpr (.inr (List.mem_singleton.mpr rfl))) B
  ·show k∈(rs++[_]).map Rc.h;rw [N2];rcases List.mem_append.mp J with z|z
   ·exact List.mem_append.mpr (.inl (I.m k z))
   ·rw [List.mem_singleton.mp z];exact List.mem_append.mpr (.inr (List.mem_singleton.mpr rfl))
 | fin h a=>
  have ok:h∈os:=ok;obtain ⟨j,G⟩:=Option.isSome_iff_exists.mp (za8 _ (I.m h ok));refine ⟨?_,λ h' a' e=>by cases e;rw [G];rfl⟩;obtain ⟨Q,V⟩:=z56 _ G;have hd:dstep i rs (.fin h a)=rs.modify j (λ r=>{ r with a:=a,e:=some i }):=by unfold dstep;dsimp only;rw [G]
  rw [hd];have hs:oStep os (.fin h a)=os.filter λ k=>decide (k≠h):=rfl;rw [hs];rw [S0] at Q;obtain ⟨rj,R,S⟩:=Option.map_eq_some_iff.mp Q;have get :∀m q,(rs.modify j (λ r=>{ r with a:=a,e:=some i }))[m]? = some q->∃r,rs[m]? = some r/\q.h=r.h/\q.b=r.b/\(m=j->q.e=some i)/\(m≠j->q=r):=λ m q X=>by
   rw [B2] at X;obtain ⟨r,d,e⟩:=Option.map_eq_some_iff.mp X;refine ⟨r,d,?_⟩;by_cases z:j=m
   ·rw [if_pos z] at e;rw [<-e];exact ⟨rfl,rfl,λ _=>rfl,λ y=>absurd z.symm y⟩
   ·rw [if_neg z] at e;rw [<-e];exact ⟨rfl,rfl,λ y=>absurd y.symm z,λ _=>rfl⟩
  refine ⟨λ r d=>?_,λ r d e c=>?_,λ u g r q E L D=>?_,λ r d B=>?_,λ k J=>?_⟩
  ·obtain ⟨m,C⟩:=List.mem_iff_getElem?.mp d;obtain ⟨s,t,_,h3,_⟩:=get m r C;have:=I.b s (x0 t);omega
  ·obtain ⟨m,C⟩:=List.mem_iff_getElem?.mp d;obtain ⟨s,t,_,_,O,H⟩:=get m r C;by_cases z:m=j
   ·rw [O z] at c;cases c;exact A2 i
   ·rw [H z] at c;have:=I.e s (x0 t) e c;omega
  ·obtain ⟨s,K,r2,r3,r4,r5⟩:=get u r L;obtain ⟨W,P,T,q3,_⟩:=get g q D;obtain ⟨p1,N⟩:=I.p u g s W E K P;refine ⟨by omega,λ A=>?_⟩;by_cases z:u=j
   ·subst z;rw [R] at K;cases K;refine absurd ?_ (V g E);rw [S0,P];show some W.h=some h;rw [<-T,<-A,r2,S]
   ·rw [r5 z] at A⊢;rw [T] at A;obtain ⟨e,c,lt⟩:=N A;exact ⟨e,c,by omega⟩
  ·obtain ⟨m,C⟩:=List.mem_iff_getElem?.mp d;obtain ⟨s,t,h2,_,O,H⟩:=get m r C;by_cases z:m=j
   ·rw [O z];rfl
   ·rw [H z] at B⊢;by_cases y:s.h=h
    ·have lt:m < j:=by
      rcases Nat.lt_or_gt_of_ne z with l|l
      ·exact l
      ·exact absurd (by rw [S0,t];show some s.h=_;rw [y]) (V m l)
     obtain ⟨_,N⟩:=I.p m j s rj lt t R;obtain ⟨e,c,_⟩:=N (by rw [y,S]);rw [c];rfl
    ·exact I.o s (x0 t) λ w=>B (List.mem_filter.mpr ⟨w,decide_eq_true y⟩)
  ·rw [zau (f:=λ r=>{ r with a:=a,e:=some i }) (λ r=>rfl)];exact I.m k (List.mem_filter.mp J).1
theorem DInv.all :∀{es:List Ev} {i:Nat} {rs:List Rc} {os:List Int},DInv i rs os->EWf os es->dWf i rs es/\∃os',DInv (i + es.length) (dAll i rs es) os'
 | [],i,rs,os,I,_=>⟨trivial,os,I⟩
 | e :: es,i,rs,os,I,w=>by obtain ⟨c,b⟩:=I.step w.1;obtain ⟨d,os',a⟩:=DInv.all c w.2;refine ⟨⟨b,d⟩,os',?_⟩;rw [v1,show i + (es.length + 1)=i + 1 + es.length by omega];exact a
theorem z8u {kvs:List (Key×V)} {k:Key}:(valV kvs k).isSome=true↔k∈kvs.map (·.1):=by
 induction kvs with
 | nil=>simp [valV]
 | cons p r ih=>
  obtain ⟨a,pv⟩:=p;by_cases y:a=k
  ·subst y;rw [z0r rfl];simp
  ·rw [z0p y,ih,W0,A3];exact ⟨λ z=>.inr z,λ z=>z.resolve_left λ x=>y x.symm⟩
theorem z1h {kvs:List (Key×V)} {k:Key} {v:V} (h:k∉kvs.map (·.1)):putK kvs k v=kvs++[(k,v)]:=by unfold putK;rw [if_neg];intro z;obtain ⟨p,a,e⟩:=List.any_eq_true.mp z;exact h (List.mem_map.mpr ⟨p,a,of_decide_eq_true e⟩)
theorem z1j {α β:Type} {R:α->β->Prop} :∀{xs:List α} {ys:List β},ys.length=xs.length->(∀(k:Nat) a b,xs[k]? = some a->ys[k]? = some b->R a b)->All2 R xs ys
 | [],[],_,_=>.nil
 | [],y :: ys,h,_=>by cases h
 | x :: xs,[],h,_=>by cases h
 | x :: xs,y :: ys,h,f=>.cons (f 0 x y rfl rfl) (z1j (by simpa using h) λ k a b c d=>f (k + 1) a b (by rw [B1];exact c) (by rw [B1];exact d))
end
section
variable {P:Program} {w:P0} {mg:Str->Option Value} {base:Heap}
structure NameOk (z:Str):Prop where
 l1:1<=z.length
 l8:z.length<=8
 s :∀c∈z.cps.toList,97<=c/\c<=122
theorem NameOk.ascii {z:Str} (h:NameOk z):z.cps.all (· < 128)=true:=by rw [Array.all_eq_true_iff_forall_mem];intro c a;have:=h.s c (Array.mem_toList_iff.mpr a);exact decide_eq_true (by omega)
theorem zcr :∀k:Fin 26,(W5 ("abcdefghijklmnopqrstuvwxyz" : Str) ⟨#[97 + k.val]⟩ 0 ("abcdefghijklmnopqrstuvwxyz" : Str).length 1).isEmpty=false:=by decide +kernel
theorem zc2 {c:Nat} (h:97<=c/\c<=122):(W5 ("abcdefghijklmnopqrstuvwxyz" : Str) ⟨#[c]⟩ 0 ("abcdefghijklmnopqrstuvwxyz" : Str).length 1).isEmpty=false:=by have:=zcr ⟨c - 97,by omega⟩;rw [show 97 + (c - 97)=c by omega] at this;exact this
def z3g:Sp:=λ vs H Q _=>∃z:Str,vs=[.str z]/\NameOk z/\∀H',Same H H'->Q (.bl true) H'
theorem zbc (T:TX (kx w) mg):Fo P w mg base CX0 1 40 y0y ["value"] z3g:=by
 refine (z4t w.params).ok zaw (λ p H Q E h=>?_) (λ G A I s H p Q E D h=>?_)
 ·obtain ⟨z,rfl,_⟩:=h;rfl
 ·obtain ⟨z,rfl,b,q⟩:=h;refine ⟨_,(z05 (ps_if (PW.pt (pw_or (pt_not (pt_val (z08 z0i rfl (T.no (z0h _)) m3 (z00 (pv 0) (z00 (z1f (v:=.ty "str") rfl (T.no (n_str _)) K9 rfl) pa_nil))) (λ _=>rfl))) (pw_or1 (pt_not (zdk op_le op_le pe_int (z08 z0s rfl (T.no (n_len _)) Q3 (z00 (pv 0) pa_nil)) (z13 (v:=.int (8)) rfl (T.of (z4u _)) ⟨_,rfl⟩))))))
   (z06 (ps_ret pe_bl))
   z0g)
   (z06 (ps_ret (z08 (z1u rfl) rfl (T.no (n_all _)) L9 (z00 (pe_cg (xs:=["sign"]) (g:=gName 0) (fr:=[]) (pi_str (pv 0)) (λ _ _ _ _ _=>(pg_cn (N:=["sign"]) 0)) (λ _ _ _ _ _=>pf_nil) (λ _ _ _ _ _=>(z1a zbj (pv 0) (z13 (v:=.str "abcdefghijklmnopqrstuvwxyz") rfl (T.of (z3r _)) ⟨_,rfl⟩) (by with_unfolding_all rfl)))) pa_nil))))),?_⟩
  have C:=b.l1;have d:=b.l8;refine sq_if (t_or ?_);refine ⟨_,rfl,_,_,"str",rfl,rfl,by decide,_,rfl,iteN (by decide) ?_⟩;refine ⟨_,rfl,.inr ⟨z,rfl,G0 d (by decide),_,_,rfl,rfl,_,rfl,?_⟩⟩;refine iteP (decide_eq_true (by omega)) ?_;refine ⟨_,_,rfl,rfl,_,rfl,iteN (by rw [decide_eq_true (show (z.length:Int)<=8 by omega)];decide) ?_⟩;refine t_nx (sq_ret (e_cb1 ?_));refine tcompS (x:=z) (H1:=H) (λ _=>true) (λ _ y _=>y=.bl true) (λ _ _ _ _ _ z=>z) (λ R h=>⟨_,rfl,h⟩) b.ascii (G0 (m:=8) d (by decide)) ?_ ?_
  ·intro i F v H1 f j KT J o B;obtain ⟨c,r,rfl⟩:=j;have n:c∈z.cps.toList:=Array.mem_toList_iff.mpr (C9 r);refine ⟨[some (.str ⟨#[c]⟩)],rfl,rfl,iteT ?_⟩;refine ⟨_,rfl,_,_,rfl,rfl,?_⟩;rw [zc2 (b.s c n)];exact o rfl _ _ (Same.refl _) rfl
  intro u H1 bs f l t;have e :∀y∈bs,y=.bl true:=λ y a=>by obtain ⟨m,k⟩:=List.mem_iff_getElem?.mp a;obtain ⟨_,_,z⟩:=z09 t k;exact z
  refine ⟨u,bs,rfl,SqL.of z02,λ y a=>⟨true,e y a⟩,?_⟩;rw [List.all_eq_true.mpr (λ y a=>decide_eq_true (e y a))];exact q _ (f.trans (Same.upd l))
structure ThingOk (t:Str×Str):Prop where
 n:NameOk t.1
 k:kindB (.str t.2)=true
def ThV (H:Hp) (t:Str×Str) (y:V):Prop:=∃p,y=.ref p/\H p=some (.tup [.str t.1,.str t.2])
theorem ThV.same {H H':Hp} {t:Str×Str} {y:V} (s:Same H H') (h:ThV H t y):ThV H' t y:=h.elim λ p z=>⟨p,z.1,s _ _ z.2⟩
theorem z4d {H:Hp} {p:Addr} {xs:List V} (e:H p=some (.tup xs)):tupOf H (.ref p)=some xs:=by unfold tupOf;dsimp only;rw [e]
def z46:Sp:=λ vs H Q _=>∃t y,vs=[y]/\ThV H t y/\ThingOk t/\∀H',Same H H'->Q (.bl true) H'
theorem z8m (T:TX (kx w) mg) (c0:Ca P w mg base "is_tuple_of" ["value","many"] 1 z0t) (c1:Ca P w mg base "is_name" ["value"] 1 z3g) (c2:Ca P w mg base "is_kind" ["kind"] 1 z32):Fo P w mg base CX0 2 194 y0l ["thing"] z46:=by
 refine (z3e w.params).ok z95 (λ d H Q E h=>?_) (λ f A g s H d Q E b h=>?_)
 ·obtain ⟨t,y,rfl,_⟩:=h;rfl
 ·obtain ⟨t,y,rfl,⟨p,rfl,a⟩,ok,q⟩:=h;refine ⟨_,(z06 (ps_ret (pe_and (pe_cal c0 (b.mono (by decide)) rfl (z00 (pv 0) (z00 pe_int pa_nil))) (pe_and (pe_cal c1 (b.mono (by decide)) rfl (z00 (pe_ix ix_seq (pv 0) pe_int (λ _ _=>rfl)) pa_nil)) (pe_one (pe_cal c2 (b.mono (by decide)) rfl (z00 (pe_ix ix_seq (pv 0) pe_int (λ _ _=>rfl)) pa_nil))))))),?_⟩;refine ⟨_,rfl,_,"tuple",2,rfl,.inr (.inl ⟨⟨_,a⟩,rfl⟩),?_⟩;rw [z4d a];refine ⟨_,rfl,iteP (by simp) ?_⟩;refine ⟨_,rfl,.inr (.inl ⟨p,_,0,.str t.1,rfl,rfl,SqT.of a,z04 (j:=0) rfl,t.1,rfl,ok.n,λ e c=>⟨true,rfl,iteP rfl ?_⟩⟩)⟩;refine ⟨_,rfl,.inr (.inl ⟨p,_,1,.str t.2,rfl,rfl,SqT.of (c _ _ a),z04 (j:=1) rfl,_,"str",rfl,rfl,?_⟩)⟩;rw [ok.k];exact q _ c
def z1z (K:c0):Sp:=λ vs H Q _=>∃(a p0:Addr) (t:Str×Str),vs=[.ref a]/\H a=some (.lst [.ref p0])/\ThV H t (.ref p0)/\ThingOk t/\∀c H',Same H H'->H' c=some (.tup [.ref p0])->Q (.ref c) H'
theorem z4k (T:TX (kx w) mg) (c0:Ca P w mg base "is_thing" ["thing"] 2 z46):Fo P w mg base CX0 3 187 y03 ["things"] (z1z (kx w)):=by
 refine (z1d w.params).ok z5b (λ vs H Q E h=>?_) (λ a2 A a3 s H vs Q E hr h=>?_)
 ·obtain ⟨a,b,t,rfl,_⟩:=h;rfl
 ·obtain ⟨a,b,t,rfl,n,I,ok,q⟩:=h;refine ⟨_,(z05 (ps_if (PW.pt (pw_or (pt_not (pt_val (z08 z0i rfl (T.no (z0h _)) m3 (z00 (pv 0) (z00 (z1f (v:=.ty "list") rfl (T.no (n_list _)) boot_list rfl) pa_nil))) (λ _=>rfl))) (pw_or1 (pt_not (pt_val (z08 (z1u rfl) rfl (T.no (n_all _)) L9 (z00 (pe_cg (xs:=["thing"]) (g:=gName 0) (fr:=[]) (z0n (pv 0)) (λ _ _ _ _ _=>(pg_cn (N:=["thing"]) 0)) (λ _ _ _ _ _=>pf_nil) (λ _ _ _ _ _=>(pe_cal c0 (hr.mono (by decide)) rfl (z00 (pv 0) pa_nil)))) pa_nil)) (λ _=>rfl))))))
   (z06 z1r)
   z0g)
   (z05 (ps_if (z0a op_gt (z08 z0s rfl (T.no (n_len _)) Q3 (z00 (pv 0) pa_nil)) (z13 (v:=.int (6)) rfl (T.of (z5n _)) ⟨_,rfl⟩) (nomark _))
   (z06 z1r)
   z0g)
   (z05 (ps_if (z0a op_lt (zb5 rfl rfl (T.no (n_len _)) rfl (T.no (n_set _)) Q3 boot_set (pe_cg (xs:=["thing"]) (g:=gName 0) (fr:=[]) (z0n (pv 0)) (λ _ _ _ _ _=>(pg_cn (N:=["thing"]) 0)) (λ _ _ _ _ _=>pf_nil) (λ _ _ _ _ _=>(pe_ix (z0q (K:=KX w.params) rfl) (pv 0) pe_int (λ _ _=>rfl))))) (z08 z0s rfl (T.no (n_len _)) Q3 (z00 (pv 0) pa_nil)) (nomark _))
   (z06 z1r)
   z0g)
   (z06 (ps_ret (z59 z2g rfl (T.no (zaf _)) boot_tuple (z00 (z08 z6s rfl (T.no (z6u _)) boot_sorted (z00 (pv 0) pa_nil)) pa_nil))))))),?_⟩
  refine sq_if (t_or ?_);refine ⟨_,rfl,_,_,"list",rfl,.inl ⟨⟨_,n⟩,rfl⟩,by decide,_,rfl,iteN (by decide) ?_⟩;refine tB_not (e_cb1 ?_);refine z0m (K:=KX w.params) (a:=a) (xs:=[.ref b]) (H1:=H) (λ _=>true) (λ _ y _=>y=.bl true) (λ _ _ _ _ _ z=>z) (λ R h=>⟨_,rfl,h⟩) (SqL.of n) w_1 ?_ ?_
  ·intro i hi v H1 C l KT KF x W;cases List.mem_singleton.mp (x0 l);exact ⟨[some (.ref b)],rfl,rfl,iteT ⟨_,rfl,t,_,rfl,I.same C,ok,λ G d=>x rfl _ _ d rfl⟩⟩
  intro O H1 bs C Z a1;have L :∀y∈bs,y=.bl true:=λ y f=>by obtain ⟨m,U⟩:=List.mem_iff_getElem?.mp f;obtain ⟨_,_,z⟩:=z09 a1 U;exact z
  refine ⟨O,bs,rfl,SqL.of z02,λ y f=>⟨true,L y f⟩,?_⟩;rw [List.all_eq_true.mpr (λ y f=>decide_eq_true (L y f))];refine ⟨_,rfl,iteN (by decide) ?_⟩;have d:=C.trans (Same.upd (o:=.lst bs) Z);generalize upd H1 O (.lst bs)=G at d⊢;have u:=d _ _ n;refine t_nx (sq_if ?_);refine ⟨_,rfl,.inl ⟨a,_,rfl,.inl (SqL.of u),_,_,rfl,rfl,_,rfl,iteN (show ¬ decide ((6:Int) < ((1:Nat):Int))=true by decide) ?_⟩⟩;refine t_nx (sq_if (t_test (zfa ?_)));refine z0m (K:=KX w.params) (a:=a) (xs:=[.ref b]) (H1:=G) (λ _=>true) (λ i y _=>y=.str t.1) (λ _ _ _ _ _ z=>z) (λ R h=>⟨_,rfl,h⟩) (SqL.of u) w_1 ?_ ?_
  ·intro i hi v D B l KT KF x W;cases List.mem_singleton.mp (x0 l);obtain ⟨p,e,ep⟩:=I.same (d.trans B);cases e;exact ⟨[some (.ref b)],rfl,rfl,iteT ⟨_,rfl,.inr (.inl ⟨b,_,0,.str t.1,rfl,rfl,SqT.of ep,z04 (j:=0) rfl,x rfl _ _ (Same.refl _) rfl⟩)⟩⟩
  intro k D zs B a0 S;have ez:zs=[V.str t.1]:=by
   cases S with
   | cons a r=>cases r;rw [a]
  subst ez;have F:=B.trans (Same.upd (o:=.lst [V.str t.1]) a0);have J:upd D k (.lst [V.str t.1]) k=some (.lst ([t.1].map V.str)):=z02;generalize upd D k (.lst [V.str t.1])=H4 at F J⊢;have M:=F _ _ u;refine ⟨k,[t.1],rfl,SqL.of J,(show (1:Nat) < 100 by decide),_,rfl,.inl ⟨a,_,rfl,.inl (SqL.of M),_,_,rfl,rfl,_,rfl,iteN (λ e=>absurd (of_decide_eq_true e) (by show ¬ ((addT [] t.1).length:Int) < ((1:Nat):Int);unfold addT;rw [if_neg B0];exact (show ¬ ((1:Nat):Int) < ((1:Nat):Int) by decide))) ?_⟩⟩;refine t_nx (sq_ret ?_);refine ⟨_,rfl,a,_,rfl,SqL.of M,λ Y X=>?_⟩;have s5:=F.trans (Same.upd (o:=.lst [.ref b]) X);exact ⟨Y,_,rfl,.inl ⟨SqL.of z02,λ c hc=>q c _ (d.trans (s5.trans (Same.upd hc))) z02⟩⟩
def z61:Sp:=λ vs H Q _=>∃h:Int,vs=[.int h]/\0<=h/\h<=5/\Q (.bl true) H
theorem z9e (T:TX (kx w) mg) (c0:Ca P w mg base "is_whole" ["value"] 1 z1i):Fo P w mg base CX0 2 227 y11 ["hand"] z61:=by
 refine (z52 w.params).ok zan (λ d H Q E h=>?_) (λ f A g s H d Q E e h=>?_)
 ·obtain ⟨h,rfl,_⟩:=h;rfl
 ·obtain ⟨h,rfl,b,c,q⟩:=h;refine ⟨_,(z06 (ps_ret (pe_and (pe_cal c0 (e.mono (by decide)) rfl (z00 (pv 0) pa_nil)) (pe_one (z9m op_le op_le pe_int (pv 0) (z13 (v:=.int (5)) rfl (T.of (z92 _)) ⟨_,rfl⟩)))))),?_⟩;refine ⟨_,rfl,_,"int",rfl,rfl,_,rfl,iteP (by decide) ?_⟩;refine ⟨_,rfl,_,_,rfl,rfl,_,rfl,?_⟩;rw [decide_eq_true b];refine iteT ⟨_,_,rfl,rfl,?_⟩;have a:decide (h<=5)=true:=decide_eq_true c;show Q (.bl (decide (h<=5))) H;rw [a];exact q
def z2a:Sp:=λ vs H Q _=>∃(p:Addr) (xs:List V) (z wd:Str) (h m:Int),vs=[.ref p,.str wd,.int m]/\H p=some (.tup (.str z :: .int h :: xs))/\0<=h/\h<=5/\Q (.bl (decide (((xs.length + 2:Nat):Int)=m) && decide (z=wd))) H
theorem z8y (T:TX (kx w) mg) (c0:Ca P w mg base "is_tuple_of" ["value","many"] 1 z0t) (c1:Ca P w mg base "is_hand" ["hand"] 2 z61):Fo P w mg base CX0 3 220 y0n ["event","word","many"] z2a:=by
 refine (z2y w.params).ok z8h (λ i H Q E h=>?_) (λ k A l s H i Q E b h=>?_)
 ·obtain ⟨p,d,z,c,h,m,rfl,_⟩:=h;rfl
 ·obtain ⟨p,d,z,c,h,m,rfl,a,f,g,q⟩:=h;refine ⟨_,(z06 (ps_ret (pe_and (pe_cal c0 (b.mono (by decide)) rfl (z00 (pv 0) (z00 (pv 2) pa_nil))) (pe_and (z08 z0i rfl (T.no (z0h _)) m3 (z00 (pe_ix ix_seq (pv 0) pe_int (λ _ _=>rfl)) (z00 (z1f (v:=.ty "str") rfl (T.no (n_str _)) K9 rfl) pa_nil))) (pe_and (z1a opEq (pe_ix ix_seq (pv 0) pe_int (λ _ _=>rfl)) (pv 1) (nomark _)) (pe_one (pe_cal c1 (b.mono (by decide)) rfl (z00 (pe_ix ix_seq (pv 0) pe_int (λ _ _=>rfl)) pa_nil)))))))),?_⟩;refine ⟨_,rfl,_,rfl,_,"tuple",m,rfl,.inr (.inl ⟨⟨_,a⟩,rfl⟩),?_⟩;rw [z4d a];refine ⟨_,rfl,?_⟩;by_cases hm:((d.length + 2:Nat):Int)=m;rotate_left
  ·rw [decide_eq_false hm,o7] at q;exact iteN (λ e=>hm (of_decide_eq_true e)) q
  rw [decide_eq_true hm,y6] at q;refine iteP (decide_eq_true hm) ?_;refine ⟨_,rfl,.inr (.inl ⟨p,_,0,.str z,rfl,rfl,SqT.of a,z04 (j:=0) rfl,_,_,"str",rfl,rfl,by decide,_,rfl,iteP (by decide) ?_⟩)⟩;refine ⟨_,rfl,.inr (.inl ⟨p,_,0,.str z,rfl,rfl,SqT.of a,z04 (j:=0) rfl,_,rfl,rfl,_,rfl,?_⟩)⟩;by_cases hz:z=c
  ·subst hz;refine iteP (decide_eq_true rfl) ?_;rw [decide_eq_true rfl] at q;exact ⟨_,rfl,.inr (.inl ⟨p,_,1,.int h,rfl,rfl,SqT.of a,z04 (j:=1) rfl,h,rfl,f,g,q⟩)⟩
  ·refine iteN (λ e=>hz (by have:=of_decide_eq_true e;injection this)) ?_;rw [decide_eq_false hz] at q;exact q
def AnsOk (a:V):Prop:=a=.str "ok"\/a=.str "none"\/∃i,a=.int i/\z0o (.int i) 1000000000000=true
theorem zaa {H:Hp}:SqT (kx w) H 175 [.str "ok",.str "none"]:=
 .inr ⟨⟨(.type "tuple"),none,(.seq #[(.str "ok" 478),(.str "none" 479)] 0),#[]⟩,#[(.str "ok" 478),(.str "none" 479)],0,by kernel_rfl,rfl,rfl,w_2,.cons ⟨_,rfl⟩ (.cons ⟨_,rfl⟩ .nil)⟩
def z3a:Sp:=λ vs H Q _=>∃a,vs=[a]/\AnsOk a/\Q (.bl true) H
theorem z6z (T:TX (kx w) mg) (c0:Ca P w mg base "is_within" ["value","greatest"] 2 z1p):Fo P w mg base CX0 3 234 y0e ["answer"] z3a:=by
 refine (z29 w.params).ok z7c (λ c H Q E h=>?_) (λ d A e s H c Q E b h=>?_)
 ·obtain ⟨a,rfl,_⟩:=h;rfl
 ·obtain ⟨a,rfl,ok,q⟩:=h;refine ⟨_,(z05 (ps_if (pt_val (z08 z0i rfl (T.no (z0h _)) m3 (z00 (pv 0) (z00 (z1f (v:=.ty "str") rfl (T.no (n_str _)) K9 rfl) pa_nil))) (λ _=>rfl))
   (z06 (ps_ret (z1a z82 (pv 0) (z13 (v:=.ref 175) rfl (T.of (z49 _)) rfl) (by with_unfolding_all rfl))))
   z0g)
   (z06 (ps_ret (pe_cal c0 (b.mono (by decide)) rfl (z00 (pv 0) (z00 (z13 (v:=.int (1000000000000)) rfl (T.of (z2k _)) ⟨_,rfl⟩) pa_nil)))))),?_⟩
  refine sq_if ?_;rcases ok with rfl|rfl|⟨i,rfl,hi⟩
  ·refine ⟨_,rfl,_,_,"str",rfl,rfl,by decide,_,rfl,iteP (by decide) ?_⟩;exact ⟨_,rfl,175,_,rfl,.inr zaa,rfl,rfl,q⟩
  ·refine ⟨_,rfl,_,_,"str",rfl,rfl,by decide,_,rfl,iteP (by decide) ?_⟩;exact ⟨_,rfl,175,_,rfl,.inr zaa,rfl,rfl,q⟩
  ·refine ⟨_,rfl,_,_,"int",rfl,rfl,by decide,_,rfl,iteN (by decide) ?_⟩;refine t_nx (sq_ret ?_);refine ⟨_,rfl,_,"int",_,rfl,rfl,?_⟩;rw [hi];exact q
inductive XOk (H:Hp):Str->Str->V->Prop
 | none {k v:Str}:formOf k v=0->XOk H k v .non
 | one {k v:Str} {i:Int}:formOf k v=1->z0o (.int i) 1000000000=true->XOk H k v (.int i)
 | two {k v:Str} {i j:Int} {p:Addr}:formOf k v=2->H p=some (.tup [.int i,.int j])->z0o (.int i) 1000000000=true->z0o (.int j) 1000000000=true->XOk H k v (.ref p)
theorem XOk.same {H H':Hp} {k v:Str} {x:V} (s:Same H H') (h:XOk H k v x):XOk H' k v x:=by
 cases h with
 | none e=>exact .none e
 | one e h=>exact .one e h
 | two e h1 h2 h3=>exact .two e (s _ _ h1) h2 h3
theorem XOk.deed {H:Hp} {k v:Str} {x:V} (h:XOk H k v x):deedB H (.str k) (.str v) x=true/\(∃T,TagOf H x T)/\Flat H x:=by
 cases h with
 | none e=>refine ⟨?_,⟨"NoneType",rfl⟩,λ b z=>by cases z⟩;unfold deedB;dsimp only;rw [e,if_pos rfl];rfl
 | one e h=>refine ⟨?_,⟨"int",rfl⟩,λ b z=>by cases z⟩;unfold deedB;dsimp only;rw [e,if_neg (by decide),if_pos rfl];exact h
 | two e h1 h2 h3=>
  rename_i i j p;refine ⟨?_,⟨"tuple",.inr (.inl ⟨⟨_,h1⟩,rfl⟩)⟩,λ b z=>?_⟩
  ·unfold deedB;dsimp only;rw [e,if_neg (by decide),if_neg (by decide),if_pos rfl,z4d h1];show (decide ([V.int i,V.int j].length=2) && (z0o (.int i) 1000000000 && (z0o (.int j) 1000000000 && true)))=true;rw [h2,h3];rfl
  ·rw [z4d h1] at z;cases z;refine ⟨(show (2:Nat)<=1000 by decide),λ y a=>?_⟩;simp only [A3,B0,or_false] at a;rcases a with rfl|rfl<;>exact ⟨"int",rfl⟩
noncomputable def EvT (H:Hp) (ts:List (Str×Str)):Ev->V->Prop
 | .beg h n v x,y=>∃p nm k vb,y=.ref p/\H p=some (.tup [.str "begin",.int h,n,v,x])/\0<=h/\h<=5/\n=.str nm/\v=.str vb/\(nm,k)∈ts/\NameOk nm/\XOk H k vb x
 | .fin h a,y=>∃p,y=.ref p/\H p=some (.tup [.str "end",.int h,a])/\0<=h/\h<=5/\AnsOk a
theorem EvT.same {H H':Hp} {ts:List (Str×Str)} (s:Same H H') :∀{e:Ev} {y:V},EvT H ts e y->EvT H' ts e y
 | .beg h n v x,_,⟨p,nm,k,vb,h1,h2,h3,h4,h5,h6,h7,h8,h9⟩=>⟨p,nm,k,vb,h1,s _ _ h2,h3,h4,h5,h6,h7,h8,h9.same s⟩
 | .fin h a,_,⟨p,h1,h2,h3⟩=>⟨p,h1,s _ _ h2,h3⟩
def KdAt (H:Hp) (d:Addr) (ts:List (Str×Str)):Prop:=∃kvs:List (Key×V),H d=some (.dK kvs)/\∀nm k,(nm,k)∈ts->valV kvs (.inr nm)=some (.str k)
theorem KdAt.same {H H':Hp} {d:Addr} {ts:List (Str×Str)} (s:Same H H') (h:KdAt H d ts):KdAt H' d ts:=h.elim λ a z=>⟨a,s _ _ z.1,z.2⟩
noncomputable def isBeg:Ev->Bool
 | .beg _ _ _ _=>true
 | .fin _ _=>false
def z3x:Sp:=λ vs H Q _=>∃e y d ts,vs=[y,.ref d]/\EvT H ts e y/\KdAt H d ts/\∀H',Same H H'->Q (.bl (isBeg e)) H'
theorem z8x (T:TX (kx w) mg) (c0:Ca P w mg base "is_event" ["event","word","many"] 3 z2a) (c1:Ca P w mg base "is_name" ["value"] 1 z3g) (c2:Ca P w mg base "is_deed" ["kind","verb","worth"] 4 z6b):Fo P w mg base CX0 5 206 y0m ["event","kinds"] z3x:=by
 refine (z3b w.params).ok z93 (λ K H Q E h=>?_) (λ S A U s H K Q E c h=>?_)
 ·obtain ⟨e,y,d,D,rfl,_⟩:=h;rfl
 ·obtain ⟨e,y,d,D,rfl,o,⟨V,F,L⟩,q⟩:=h;refine ⟨_,(z05 (ps_if (PW.pt (pw_or (pt_not (pt_val (pe_cal c0 (c.mono (by decide)) rfl (z00 (pv 0) (z00 pe_str (z00 pe_int pa_nil)))) (λ _=>rfl))) (pw_or (pt_not (pt_val (pe_cal c1 (c.mono (by decide)) rfl (z00 (pe_ix ix_seq (pv 0) pe_int (λ _ _=>rfl)) pa_nil)) (λ _=>rfl))) (pw_or1 (pt_cmp (zcj (hu_of c) (pe_ix ix_seq (pv 0) pe_int (λ _ _=>rfl)) (pv 1)) (by with_unfolding_all rfl))))))
   (z06 (ps_ret pe_bl))
   z0g)
   (z06 (ps_ret (pe_cal c2 (c.mono (by decide)) rfl (z00 (z5j (hu_of c) (pv 1) (pe_ix ix_seq (pv 0) pe_int (λ _ _=>rfl)) (λ _ _=>rfl)) (z00 (pe_ix ix_seq (pv 0) pe_int (λ _ _=>rfl)) (z00 (pe_ix ix_seq (pv 0) pe_int (λ _ _=>rfl)) pa_nil))))))),?_⟩
  refine sq_if ?_;cases e with
  | fin h a=>obtain ⟨p,rfl,f,l,m,_⟩:=o;refine ⟨_,rfl,p,[a],"end","begin",h,5,rfl,f,l,m,_,rfl,iteP (by rw [show decide (("end" : Str) = "begin")=false by decide +kernel,p7];rfl) ?_⟩;exact iteP rfl (q _ (Same.refl _))
  | beg h n v x=>obtain ⟨p,b,k,u,rfl,f,l,m,rfl,rfl,z,I,B⟩:=o;refine ⟨_,rfl,p,_,"begin","begin",h,5,rfl,f,l,m,_,rfl,iteN (by rw [show decide (("begin" : Str) = "begin")=true by decide +kernel];show ¬ (!(decide (((3 + 2:Nat):Int)=5) && true))=true;decide) ?_⟩;refine ⟨_,rfl,.inr (.inl ⟨p,_,2,.str b,rfl,rfl,SqT.of f,z04 (j:=2) rfl,b,rfl,I,λ J i=>⟨true,rfl,iteN (by decide) ?_⟩⟩)⟩;have M:=i _ _ F;have g:=i _ _ f;have r:DGet J d (.str b) (some (.str k)):=(L b k z) ▸ DGet.k (k:=.inr b) M;refine ⟨_,rfl,.inr (.inl ⟨p,_,2,.str b,rfl,rfl,SqT.of g,z04 (j:=2) rfl,?_⟩)⟩;refine ⟨_,rfl,d,_,rfl,r,_,rfl,iteN (by show ¬ (!true)=true;decide) ?_⟩;refine t_nx (sq_ret ?_);obtain ⟨O,⟨G,t⟩,N⟩:=(B.same i).deed;refine ⟨_,rfl,_,rfl,.inr (.inl ⟨p,_,2,.str b,rfl,rfl,SqT.of g,z04 (j:=2) rfl,d,_,rfl,r,?_⟩)⟩;refine ⟨_,rfl,.inr (.inl ⟨p,_,3,.str u,rfl,rfl,SqT.of g,z04 (j:=3) rfl,?_⟩)⟩;refine ⟨_,rfl,.inr (.inl ⟨p,_,4,x,rfl,rfl,SqT.of g,z04 (j:=4) rfl,_,_,_,"str","str",G,rfl,rfl,rfl,t,N,λ R C=>?_⟩)⟩;rw [O];exact q _ (i.trans C)
def z7e:Sp:=λ vs H Q _=>∃h a y ts,vs=[y]/\EvT H ts (.fin h a) y/\Q (.bl true) H
theorem zcu (T:TX (kx w) mg) (c0:Ca P w mg base "is_event" ["event","word","many"] 3 z2a) (c1:Ca P w mg base "is_answer" ["answer"] 3 z3a):Fo P w mg base CX0 4 213 y17 ["event"] z7e:=by
 refine (z6q w.params).ok zcw (λ i H Q E h=>?_) (λ k A l s H i Q E c h=>?_)
 ·obtain ⟨h,a,y,e,rfl,_⟩:=h;rfl
 ·obtain ⟨h,a,y,e,rfl,⟨p,rfl,b,f,g,d⟩,q⟩:=h;refine ⟨_,(z06 (ps_ret (pe_and (pe_cal c0 (c.mono (by decide)) rfl (z00 (pv 0) (z00 pe_str (z00 pe_int pa_nil)))) (pe_one (pe_cal c1 (c.mono (by decide)) rfl (z00 (pe_ix ix_seq (pv 0) pe_int (λ _ _=>rfl)) pa_nil)))))),?_⟩;refine ⟨_,rfl,p,[a],"end","end",h,3,rfl,b,f,g,_,rfl,iteP (by rw [show decide (("end" : Str) = "end")=true by decide +kernel];rfl) ?_⟩;exact ⟨_,rfl,.inr (.inl ⟨p,_,2,a,rfl,rfl,SqT.of b,z04 (j:=2) rfl,a,rfl,d,q⟩)⟩
def z1v (K:c0):Sp:=λ vs H Q _=>∃a ys ts es,vs=[.ref a]/\SqL K H a ys/\All2 (EvT H ts) es ys/\es.length<=1000/\EWf [] es/\∀H',Same H H'->Q (.bl true) H'
theorem z4l (T:TX (kx w) mg):Fo P w mg base CX0 1 241 y05 ["events"] (z1v (kx w)):=by
 refine (z1b w.params).ok sc_go_by_turns (λ vs H Q E h=>?_) (λ a0 A a1 s H vs Q E t h=>?_)
 ·obtain ⟨a,o,I,f,rfl,_⟩:=h;rfl
 ·obtain ⟨a,o,I,f,rfl,D,C,ln,L,q⟩:=h;refine ⟨_,(z05 (ps_set (i:=1) sc_go_by_turns.nd rfl (N1 rfl) z75)
   (z05 (ps_for g4 rfl (z0n (pv 0)) (z11 (i:=2) sc_go_by_turns.nd rfl (N1 rfl))
   (z05 (ps_set (i:=3) sc_go_by_turns.nd rfl (N1 rfl) (z1a opEq (pe_ix ix_seq (pv 2) pe_int (λ _ _=>rfl)) pe_str (nomark _)))
   (z05 (ps_if (z0a opEq (zdp (hu_of t) (pv 1) (pe_ix ix_seq (pv 2) pe_int (λ _ _=>rfl)) pe_bl ⟨rfl,rfl,rfl,rfl⟩) (pv 3) (nomark _))
   (z06 (ps_ret pe_bl))
   z0g)
   (z06 (z5h (hu_of t) (pv 1) (pe_ix ix_seq (pv 2) pe_int (λ _ _=>rfl)) (pv 3) rfl)))))
   (z06 (ps_ret pe_bl)))),?_⟩
  have ly:o.length=f.length:=z03 C;refine z0b ?_;intro d hd;refine g_name ?_;obtain ⟨H0,Y,B,S⟩:=newA (.dK []) hd;rw [<-Y];refine ⟨_,rfl,a,rfl,⟨_,B.seq D⟩,?_⟩;refine z55 (K:=KX w.params) (a:=a) (xs:=o) (λ i σ l=>Same H l/\(∃kvs os,l d=some (.dK kvs)/\kvs.length<=i/\EWf os (f.drop i)/\∀h:Int,(valV kvs (.inl h)).getD (.bl false)=.bl (decide (h∈os)))/\∃x2 x3,σ=[some (.ref a),some (.ref d),x2,x3])
   ⟨B,⟨[],[],S,A0 _,by rw [n5];exact L,λ h=>by rw [decide_eq_false B0];rfl⟩,_,_,rfl⟩ (λ _ σ l _ h=>h.1.seq D) ?_ ?_
  ·rintro i y σ F J ⟨s1,⟨kvs,os,ed,lk,wf1,kv⟩,x2,x3,rfl⟩;obtain ⟨e,O,M⟩:=z09 C J;obtain ⟨U,ee⟩:=List.getElem?_eq_some_iff.mp O;have G:f.drop i=e :: f.drop (i + 1):=by rw [m6 U,ee]
   rw [G] at wf1;have r:=EvT.same s1 M;refine g_name ?_;obtain ⟨p,xs,z,h,b,g,c,Z,W,X,R⟩ :∃(p:Addr) (xs:List V) (z:Str) (h:Int) (b:Bool),y=.ref p/\F p=some (.tup (.str z :: .int h :: xs))/\decide (z = "begin")=b/\decide (h∈os) = !b/\(∀k:Int,decide (k∈oStep os e)=if k=h then b else decide (k∈os))/\EWf (oStep os e) (f.drop (i + 1)):=by
    cases e with
    | beg h n v x=>
     obtain ⟨p,nm,k,vb,g,c,_⟩:=r;refine ⟨p,_,"begin",h,true,g,c,by decide +kernel,by rw [decide_eq_false (show h∉os from wf1.1)];rfl,λ k=>?_,wf1.2⟩;show decide (k∈os++[h])=_;by_cases z:k=h
     ·rw [if_pos z,decide_eq_true (List.mem_append.mpr (.inr (List.mem_singleton.mpr z)))]
     ·rw [if_neg z];by_cases y:k∈os
      ·rw [decide_eq_true y,decide_eq_true (List.mem_append.mpr (.inl y))]
      ·rw [decide_eq_false y,decide_eq_false (λ w=>(List.mem_append.mp w).elim y λ u=>z (List.mem_singleton.mp u))]
    | fin h a'=>
     obtain ⟨p,g,c,_⟩:=r;refine ⟨p,_,"end",h,false,g,c,by decide +kernel,by rw [decide_eq_true (show h∈os from wf1.1)];rfl,λ k=>?_,wf1.2⟩;show decide (k∈os.filter λ j=>decide (j≠h))=_;by_cases z:k=h
     ·rw [if_pos z,decide_eq_false (λ w=>(of_decide_eq_true (List.mem_filter.mp w).2) z)]
     ·rw [if_neg z];by_cases y:k∈os
      ·rw [decide_eq_true y,decide_eq_true (List.mem_filter.mpr ⟨y,decide_eq_true z⟩)]
      ·rw [decide_eq_false y,decide_eq_false (λ w=>y (List.mem_filter.mp w).1)]
   subst g;refine z0b ?_;refine ⟨_,rfl,.inr (.inl ⟨p,_,0,.str z,rfl,rfl,SqT.of c,z04 (j:=0) rfl,rfl,?_⟩)⟩;have N:decide (V.str z=V.str "begin")=b:=by
    rw [<-Z];by_cases y:z = "begin"
    ·rw [y,decide_eq_true rfl,decide_eq_true rfl]
    ·rw [decide_eq_false y,decide_eq_false (λ e=>y (by injection e))]
   rw [N];refine g_name ?_;refine sq_if ?_;refine ⟨_,rfl,d,rfl,.inl ⟨_,.inl ed⟩,_,rfl,.inr (.inl ⟨p,_,1,.int h,rfl,rfl,SqT.of c,z04 (j:=1) rfl,_,DGet.k (k:=.inl h) ed,?_⟩)⟩;rw [kv h,W];refine ⟨_,rfl,rfl,_,rfl,iteN (by cases b<;>decide) ?_⟩;refine t_nx ?_;refine ⟨_,rfl,_,rfl,_,rfl,.inr (.inl ⟨p,_,1,.int h,rfl,rfl,SqT.of c,z04 (j:=1) rfl,d,_,rfl,DPut.k (k:=.inl h) ed (F1 (m:=1000) (by omega) (by decide)),?_⟩)⟩;refine ⟨Same.keep s1 hd,⟨_,oStep os e,z02,G0 zae (by omega),R,λ k=>?_⟩,_,_,rfl⟩;rw [z6o,X k];by_cases z:k=h
   ·rw [if_pos (by rw [z]),if_pos z];rfl
   ·rw [if_neg (λ e=>z (z4 e)),if_neg z];exact kv k
  ·rintro σ F ⟨s1,_,x2,x3,rfl⟩;exact q _ s1
theorem zen {H:Hp} {ts:List (Str×Str)} {e:Ev} {y:V} (h:EvT H ts e y) :∃(p:Addr) (z:Str) (r:List V),y=.ref p/\H p=some (.tup (.str z :: r))/\decide (z = "begin")=isBeg e:=by
 cases e with
 | beg h n v x=>obtain ⟨p,d,k,f,b,c,_⟩:=h;exact ⟨p,_,_,b,c,(show decide (("begin" : Str) = "begin")=true by decide +kernel)⟩
 | fin h a=>obtain ⟨p,b,c,_⟩:=h;exact ⟨p,_,_,b,c,(show decide (("end" : Str) = "begin")=false by decide +kernel)⟩
theorem z85 {z y:Str}:decide (V.str z=V.str y)=decide (z=y):=by
 by_cases e:z=y
 ·rw [e,decide_eq_true rfl,decide_eq_true rfl]
 ·rw [decide_eq_false e,decide_eq_false (λ x=>e (by injection x))]
def z20 (K:c0):Sp:=λ vs H Q _=>∃a d ys ts es,vs=[.ref a,.ref d]/\H a=some (.lst ys)/\KdAt H d ts/\All2 (EvT H ts) es ys/\es.length<=1000/\(es.filter isBeg).length<=24/\EWf [] es/\∀c H',Same H H'->H' c=some (.tup ys)->Q (.ref c) H'
theorem z51 (T:TX (kx w) mg) (c0:Ca P w mg base "is_begin" ["event","kinds"] 5 z3x) (c1:Ca P w mg base "is_end" ["event"] 4 z7e) (c2:Ca P w mg base "go_by_turns" ["events"] 1 (z1v (kx w))):Fo P w mg base CX0 6 199 y04 ["events","kinds"] (z20 (kx w)):=by
 refine (z1e w.params).ok z4o (λ vs H Q E h=>?_) (λ a7 A a8 s H vs Q E J h=>?_)
 ·obtain ⟨a,d,l,u,k,rfl,_⟩:=h;rfl
 ·obtain ⟨a,d,l,u,k,rfl,I,kd,M,ln,a4,wf,q⟩:=h;refine ⟨_,(z05 (ps_if (PW.pt (pw_or (pt_not (pt_val (z08 z0i rfl (T.no (z0h _)) m3 (z00 (pv 0) (z00 (z1f (v:=.ty "list") rfl (T.no (n_list _)) boot_list rfl) pa_nil))) (λ _=>rfl))) (pw_or1 (pt_not (pt_val (z08 (z1u rfl) rfl (T.no (n_all _)) L9 (z00 (pe_cg (xs:=["event"]) (g:=gName 0) (fr:=[(1,"kinds")]) (z0n (pv 0)) (λ _ _ _ _ _=>(pg_cn (N:=["event","kinds"]) 0)) (λ _ _ _ _ _=>pf_nil) (λ _ _ _ _ _=>(pe_or (pe_cal c0 (J.mono (by decide)) rfl (z00 (pv 0) (z00 (pv 1) pa_nil))) (pe_one (pe_cal c1 (J.mono (by decide)) rfl (z00 (pv 0) pa_nil)))))) pa_nil)) (λ _=>rfl))))))
   (z06 z1r)
   z0g)
   (z05 (ps_if (z0a op_gt (z08 z0s rfl (T.no (n_len _)) Q3 (z00 (pe_cg (xs:=["event"]) (g:=gName 0) (fr:=[]) (z0n (pv 0)) (λ _ _ _ _ _=>(pg_cn (N:=["event"]) 0)) (λ _ _ _ _ _=>(pf_one (z0a opEq (pe_ix (z0q (K:=KX w.params) rfl) (pv 0) pe_int (λ _ _=>rfl)) pe_str (nomark _)))) (λ _ _ _ _ _=>(pv 0))) pa_nil)) (z13 (v:=.int (24)) rfl (T.of (z5c _)) ⟨_,rfl⟩) (nomark _))
   (z06 z1r)
   z0g)
   (z05 (ps_if (pt_not (pt_val (pe_cal c2 (J.mono (by decide)) rfl (z00 (pv 0) pa_nil)) (λ _=>rfl)))
   (z06 z1r)
   z0g)
   (z06 (ps_ret (z59 z2g rfl (T.no (zaf _)) boot_tuple (z00 (pv 0) pa_nil))))))),?_⟩
  have ly:l.length=k.length:=z03 M;refine sq_if (t_or ?_);refine ⟨_,rfl,_,_,"list",rfl,.inl ⟨⟨_,I⟩,rfl⟩,by decide,_,rfl,iteN (by decide) ?_⟩;refine tB_not (e_cb1 ?_);refine z0m (K:=KX w.params) (a:=a) (xs:=l) (H1:=H) (λ _=>true) (λ _ y _=>y=.bl true) (λ _ _ _ _ _ z=>z) (λ R h=>⟨_,rfl,h⟩) (SqL.of I) (G0 (m:=1000) (by omega) (by decide)) ?_ ?_
  ·intro i hi v H1 C F KT KF t G;obtain ⟨e,W,L⟩:=z09 M F;have S:=EvT.same C L;refine ⟨[some v],rfl,rfl,iteT ?_⟩;refine ⟨_,rfl,_,rfl,e,v,d,u,rfl,S,kd.same C,λ U b=>⟨_,rfl,?_⟩⟩;cases e with
   | beg h n v' x=>exact iteP rfl (t rfl _ _ b rfl)
   | fin h a'=>exact iteN (λ z=>by cases z) ⟨_,rfl,h,a',v,u,rfl,EvT.same b S,t rfl _ _ b rfl⟩
  intro l1 H1 bs C a2 a6;have Y :∀y∈bs,y=.bl true:=λ y f=>by obtain ⟨m,hm⟩:=List.mem_iff_getElem?.mp f;obtain ⟨_,_,z⟩:=z09 a6 hm;exact z
  refine ⟨l1,bs,rfl,SqL.of z02,λ y f=>⟨true,Y y f⟩,?_⟩;rw [List.all_eq_true.mpr (λ y f=>decide_eq_true (Y y f))];refine ⟨_,rfl,iteN (by decide) ?_⟩;have b:=C.trans (Same.upd (o:=.lst bs) a2);generalize upd H1 l1 (.lst bs)=U at b⊢;have X:=b _ _ I;have Z:=z01 (λ _ _ z=>EvT.same b z) M;refine t_nx (sq_if (zdq ?_));refine z0m (K:=KX w.params) (a:=a) (xs:=l) (H1:=U) (λ i=>isBeg (k[i]?.getD (.fin 0 .non))) (λ _ y _=>True) (λ _ _ _ _ _ z=>z) (λ R h=>⟨_,rfl,h⟩) (SqL.of X) (G0 (m:=1000) (by omega) (by decide)) ?_ ?_
  ·intro i hi v H3 O F KT KF t G;obtain ⟨e,W,L⟩:=z09 Z F;rw [W] at t G;obtain ⟨p,z,r,rfl,ep,hz⟩:=zen (EvT.same O L);refine ⟨[some (.ref p)],rfl,rfl,?_⟩;refine ⟨_,rfl,.inr (.inl ⟨p,_,0,.str z,rfl,rfl,SqT.of ep,z04 (j:=0) rfl,rfl,_,rfl,?_⟩)⟩;rw [z85,hz];cases hbe:isBeg e with
   | true=>exact iteP rfl ⟨_,rfl,t hbe _ _ (Same.refl _) trivial⟩
   | false=>exact iteN (by decide) (G hbe _ (Same.refl _))
  intro l3 H3 B O a5 a1;have lz:B.length<=24:=by rw [z03 a1,ly];have:=congrArg List.length (z0y isBeg (λ e=>e) (.fin 0 .non) k);rw [D0,D0] at this;rw [this];exact a4
  have D:=O.trans (Same.upd (o:=.lst B) a5);refine .inl ⟨l3,B,rfl,.inl (SqL.of z02),?_⟩;generalize upd H3 l3 (.lst B)=H4 at D⊢;refine ⟨_,_,rfl,rfl,_,rfl,iteN (λ e=>absurd (of_decide_eq_true e) (by omega)) ?_⟩;refine t_nx (sq_if ?_);have a0:=D _ _ X;have a3:=z01 (λ _ _ z=>EvT.same D z) Z;refine ⟨_,rfl,a,l,u,k,rfl,SqL.of a0,a3,ln,wf,λ H5 V=>⟨true,rfl,iteN (by decide) ?_⟩⟩;refine t_nx (sq_ret ?_);refine ⟨_,rfl,a,_,rfl,.inl ⟨SqL.of (V _ _ a0),λ c hc=>?_⟩⟩;exact q c _ (((b.trans D).trans V).trans (Same.upd hc)) z02
theorem val_in :∀{kvs:List (Key×V)} {k:Key} {v:V},(kvs.map (·.1)).Nodup->(k,v)∈kvs->valV kvs k=some v
 | (k',v') :: kvs,k,v,nd,h=>by
  rw [W0,List.nodup_cons] at nd;rcases List.mem_cons.mp h with e|h
  ·cases e;exact z0r rfl
  ·rw [z0p (λ e=>nd.1 (by have e:k'=k:=e;subst e;exact List.mem_map.mpr ⟨_,h,rfl⟩))];exact val_in nd.2 h
def z2v (K:c0):Sp:=λ vs H Q _=>∃(a b p0:Addr) (t:Str×Str) (zs:List V) (es:List Ev),vs=[.ref a,.ref b]/\H a=some (.lst [.ref p0])/\ThV H t (.ref p0)/\ThingOk t/\H b=some (.lst zs)/\All2 (EvT H [t]) es zs/\es.length<=1000/\(es.filter isBeg).length<=24/\EWf [] es/\
 ∀tt c e H',Same H H'->H' tt=some (.tup [.ref c,.ref e])->H' c=some (.tup [.ref p0])->H' e=some (.tup zs)->Q (.ref tt) H'
theorem z6j (T:TX (kx w) mg) (c0:Ca P w mg base "make_things" ["things"] 3 (z1z (kx w))) (c1:Ca P w mg base "make_events" ["events","kinds"] 6 (z20 (kx w))):Fo P w mg base CX0 7 182 y0d ["things","events"] (z2v (kx w)):=by
 refine (z27 w.params).ok sc_make_tale (λ R H Q E h=>?_) (λ W A X s H R Q E r h=>?_)
 ·obtain ⟨a,b,g,t,u,v,rfl,_⟩:=h;rfl
 ·obtain ⟨a,b,g,t,u,v,rfl,G,n,ok,M,N,I,S,J,q⟩:=h;refine ⟨_,(z05 (ps_set (i:=2) sc_make_tale.nd rfl (N1 rfl) (pe_cal c0 (r.mono (by decide)) rfl (z00 (pv 0) pa_nil)))
   (z06 (ps_ret (pe_tup (z00 (pv 2) (z00 (pe_cal c1 (r.mono (by decide)) rfl (z00 (pv 1) (z00 (z59 (zaj rfl) rfl (T.no (n_dict _)) boot_dict (z00 (pv 2) pa_nil)) pa_nil))) pa_nil)))))),?_⟩
  refine z0b ⟨_,rfl,a,g,t,rfl,G,n,ok,λ c y D m=>g_name ?_⟩;obtain ⟨p,e,U⟩:=n.same D;cases e;refine ⟨_,rfl,_,rfl,_,rfl,c,_,[(.inr t.1,.str t.2)],rfl,m,.cons ⟨g,rfl,SqT.of U⟩ .nil,λ d hd=>?_⟩;have f:=D.trans (Same.upd (o:=.dK (mergeK [] [(.inr t.1,.str t.2)])) hd);have B:KdAt (upd y d (.dK (mergeK [] [(.inr t.1,.str t.2)]))) d [t]:=⟨_,z02,λ l k F=>by cases List.mem_singleton.mp F;show valV (putK ([]:List (Key×V)) (.inr l:Key) (.str k)) (.inr l:Key)=_;rw [z6o,if_pos rfl]⟩
  have x:=(Same.upd (o:=.dK (mergeK [] [(.inr t.1,.str t.2)])) hd) _ _ m;generalize upd y d (.dK (mergeK [] [(.inr t.1,.str t.2)]))=H2 at f B x⊢;refine ⟨b,d,u,[t],v,rfl,f _ _ M,B,z01 (λ _ _ z=>EvT.same f z) N,I,S,J,λ e Y C O=>⟨w_2,λ K L=>?_⟩⟩;have j:=Same.upd (o:=.tup [.ref c,.ref e]) L;exact q K c e _ ((f.trans C).trans j) z02 (j _ _ (C _ _ x)) (j _ _ O)
end
section
mutual
noncomputable def HPd (H:Hp):PyData->V->Prop
 | .none,v=>v=.non
 | .bool b,v=>v=.bl b
 | .int i,v=>v=.int i
 | .str z,v=>v=.str z
 | .list ds,v=>∃a xs,v=.ref a/\H a=some (.lst xs)/\HPds H ds xs
 | .tuple ds,v=>∃a xs,v=.ref a/\H a=some (.tup xs)/\HPds H ds xs
 | .dict kvs,v=>kvs=[]/\∃a,v=.ref a/\H a=some (.dK [])
noncomputable def HPds (H:Hp):List PyData->List V->Prop
 | [],xs=>xs=[]
 | d :: ds,xs=>∃x r,xs=x :: r/\HPd H d x/\HPds H ds r
end
theorem HPds.all {H:Hp} :∀{ds:List PyData} {xs:List V},HPds H ds xs->All2 (HPd H) ds xs
 | [],_,h=>by cases (show _=[] from h);exact .nil
 | d :: ds,xs,h=>by obtain ⟨x,r,rfl,a,b⟩:=h;exact .cons a (HPds.all b)
noncomputable def dif (B H:Hp):Hp:=λ p=>if B p=none then H p else none
noncomputable def tDat (P:L2.St->Prop) (d:PyData):TE:=λ σ H Q=>P σ/\∀v H',Same H H'->HPd (dif H H') d v->Q v H'
noncomputable def tDats (P:L2.St->Prop) (ds:List PyData):TA:=λ σ H Q=>P σ/\∀xs H',Same H H'->HPds (dif H H') ds xs->Q xs H'
variable {X:Cx} {pos:Pos} {P:L2.St->Prop}
structure QD (X:Cx) (P:L2.St->Prop) (e:Expr) (d:PyData):Prop where
 run:PE X e (tDat P d)
structure QDs (X:Cx) (P:L2.St->Prop) (es:List Expr) (ds:List PyData):Prop where
 run:PA X es (tDats P ds)
theorem HPds.length {H:Hp} {ds:List PyData} {xs:List V} (h:HPds H ds xs):xs.length=ds.length:=z03 h.all
theorem z89 {P P':Program} {w w':P0} {h:Heap} {a:Addr} (d:h.DictOf (z0f P w) a []):h.DictOf (z0f P' w') a []:=by
 obtain ⟨o,g,c,i,j,hd,k,f,nd⟩:=d;have b:g = #[]:=by have:=f.length;exact Array.eq_empty_of_size_eq_zero (by simpa using this)
 subst b;exact ⟨o,#[],c,i,j,hd,(λ e b=>by simp at b),.nil,nd⟩
theorem z5o (n:Nat):(Z1 n).all (λ _=>true)=true:=List.all_eq_true.mpr λ _ _=>rfl
mutual
theorem zev {pins:List (Addr×Obj)} {σ:L2.St} {H:Hp} {s:y0} (I:Inv X pins σ H s) :∀(d:PyData) (A:W1) (x y:V) (u v:Value),HPd H d x->HPd H d y->RelV x u->RelV y v->A.units + d.depth + 1 < cLine->N8 A s u v true
 | .none,A,x,y,u,v,hx,hy,rx,ry,hu=>by cases (show x=.non from hx);cases (show y=.non from hy);cases (show u=.none from rx);cases (show v=.none from ry);exact M4 _
 | .bool b,A,x,y,u,v,hx,hy,rx,ry,hu=>by cases (show x=.bl b from hx);cases (show y=.bl b from hy);cases (show u=.bool b from rx);cases (show v=.bool b from ry);exact M4 _
 | .int i,A,x,y,u,v,hx,hy,rx,ry,hu=>by
  cases (show x=.int i from hx);cases (show y=.int i from hy);obtain ⟨t,rfl⟩:=rx;obtain ⟨p,rfl⟩:=ry;have:=l9 (A:=A) (s:=s) i t i p
  rwa [beq_self_eq_true] at this
 | .str i,A,x,y,u,v,hx,hy,rx,ry,hu=>by
  cases (show x=.str i from hx);cases (show y=.str i from hy);obtain ⟨t,rfl⟩:=rx;obtain ⟨p,rfl⟩:=ry;have:=g9 (A:=A) (s:=s) i t i p
  rwa [beq_self_eq_true] at this
 | .list ds,A,x,y,u,v,hx,hy,rx,ry,hu=>by
  obtain ⟨a,F,rfl,f,l⟩:=hx;obtain ⟨b,D,rfl,h,g⟩:=hy;cases (show u=.ref a from rx);cases (show v=.ref b from ry);obtain ⟨n,c,C,_⟩:=I.list (SqL.of f);obtain ⟨m,k,o,_⟩:=I.list (SqL.of h);have hd:A.units + (F2 ds + 1) + 1 < cLine:=hu;have P:=c.length;have L:=k.length;have M:=l.length;have O:=g.length;by_cases hll:a=b
  ·subst hll;exact M4 _
  ·refine Z6 hll ?_;have:=w9 (A:=A) (e:=λ _=>true) C.isList o.isList (by simp;omega) (by omega) (λ j z B=>?_)
   ·rwa [z5o] at this
   ·have:=z26 I ds A.in1 F D n m l g c k (show A.units + 1 + F2 ds + 1 < cLine by omega) j (by simpa using z) (by simpa using B);simpa using this
 | .tuple ds,A,x,y,u,v,hx,hy,rx,ry,hu=>by
  obtain ⟨a,F,rfl,f,l⟩:=hx;obtain ⟨b,D,rfl,h,g⟩:=hy;cases (show u=.ref a from rx);cases (show v=.ref b from ry);obtain ⟨n,c,C,_⟩:=I.tuple (SqT.of f);obtain ⟨m,k,o,_⟩:=I.tuple (SqT.of h);have hd:A.units + (F2 ds + 1) + 1 < cLine:=hu;have P:=c.length;have L:=k.length;have M:=l.length;have O:=g.length;by_cases hll:a=b
  ·subst hll;exact M4 _
  ·refine Z6 hll ?_;have:=SeqAt.RcAt.tuples (A:=A) (e:=λ _=>true) C o (by omega) (λ j z B=>?_)
   ·rw [z5o,y6] at this
    rwa [show (n.toArray.size == m.toArray.size)=true by simp;omega] at this
   ·have:=z26 I ds A.in1 F D n m l g c k (show A.units + 1 + F2 ds + 1 < cLine by omega) j (by simpa using z) (by simpa using B);simpa using this
 | .dict kvs,A,x,y,u,v,hx,hy,rx,ry,hu=>by
  obtain ⟨rfl,a,rfl,f⟩:=hx;obtain ⟨_,b,rfl,h⟩:=hy;cases (show u=.ref a from rx);cases (show v=.ref b from ry);by_cases hll:a=b
  ·subst hll;exact M4 _
  ·refine Z6 hll λ S w E Q q=>?_;obtain ⟨_,G,T,c,R⟩:=dk_of I.hok f;obtain ⟨_,N,U,K,J⟩:=dk_of I.hok h;cases c;cases K;exact PySem.W.keq_eq (r:=true) G N (z89 R) (z89 J) (by omega) (λ _=>.nil) q
theorem z26 {pins:List (Addr×Obj)} {σ:L2.St} {H:Hp} {s:y0} (I:Inv X pins σ H s) :∀(ds:List PyData) (A:W1) (xs ys:List V) (us vs:List Value),HPds H ds xs->HPds H ds ys->Vals xs us->Vals ys vs->A.units + F2 ds + 1 < cLine->∀j (h1:j < us.length) (h2:j < vs.length),N8 A s us[j] vs[j] true
 | [],A,xs,ys,us,vs,hx,hy,rx,ry,hu,j,h1,h2=>by cases (show xs=[] from hx);cases rx;exact absurd h1 (P8 _)
 | d :: ds,A,xs,ys,us,vs,hx,hy,rx,ry,hu,j,h1,h2=>by
  obtain ⟨x,g,rfl,c,e⟩:=hx;obtain ⟨y,b,rfl,f,a⟩:=hy;cases rx with
  | cons r1 r2=>
   cases ry with
   | cons q1 q2=>
    have hd:A.units + max d.depth (F2 ds) + 1 < cLine:=hu;cases j with
    | zero=>exact zev I d A x y _ _ c f r1 q1 (by omega)
    | succ j=>exact z26 I ds A g b _ _ e a r2 q2 (by omega) j (P9 h1) (P9 h2)
end
noncomputable def rNeS:R2:=λ x y H Q=>∃ds,((HPd H (.list ds) x/\HPd H (.list ds) y)\/(HPd H (.tuple ds) x/\HPd H (.tuple ds) y))/\F2 ds<=49/\Q (.bl false) H
theorem op_neS {k:Nat} (hr:Room k X.A):OpR X (G2 .NotEq) rNeS:=by
 intro S s σ H x y u v Q I J G h;obtain ⟨i,K,R,q⟩:=h;have P:=hr.units;rcases K with ⟨F,p⟩|⟨F,p⟩
 ·obtain ⟨a,E,rfl,o,g⟩:=F;obtain ⟨b,D,rfl,C,c⟩:=p;cases (show u=.ref a from J);cases (show v=.ref b from G);obtain ⟨m,d,B,_⟩:=I.list (SqL.of o);obtain ⟨l,f,n,_⟩:=I.list (SqL.of C);have O:=d.length;have L:=f.length;have M:=g.length;have N:=c.length;have z:SeqAt.RcNeAt X.A s (.ref a) (.ref b) false:=by
   have:=S8 (A:=X.A) (e:=λ _=>true) B.isList n.isList (by simp;omega) (by omega) (λ j r t=>?_)
   ·rwa [z5o] at this
   ·have:=z26 I i X.A.in1 E D m l g c d f (show X.A.units + 1 + F2 i + 1 < cLine by omega) j (by simpa using r) (by simpa using t);simpa using this
  exact z X.prog X.w _ _ ⟨.bl _,H,I,rfl,q⟩
 ·obtain ⟨a,E,rfl,o,g⟩:=F;obtain ⟨b,D,rfl,C,c⟩:=p;cases (show u=.ref a from J);cases (show v=.ref b from G);obtain ⟨m,d,B,_⟩:=I.tuple (SqT.of o);obtain ⟨l,f,n,_⟩:=I.tuple (SqT.of C);have O:=d.length;have L:=f.length;have M:=g.length;have N:=c.length;have z:SeqAt.RcNeAt X.A s (.ref a) (.ref b) false:=by
   have:=SeqAt.RcNeAt.tuples (A:=X.A) (e:=λ _=>true) B n (by omega) (λ j r t=>?_)
   ·rw [z5o,y6] at this
    rwa [show (m.toArray.size == l.toArray.size)=true by simp;omega] at this
   ·have:=z26 I i X.A.in1 E D m l g c d f (show X.A.units + 1 + F2 i + 1 < cLine by omega) j (by simpa using r) (by simpa using t);simpa using this
  exact z X.prog X.w _ _ ⟨.bl _,H,I,rfl,q⟩
end
section
theorem z50 {α:Type} {l:List α} {i:Nat} {x:α} (h:l[i]? = some x):i < l.length:=(List.getElem?_eq_some_iff.mp h).1
theorem z8a :∀{es:List Ev} {i:Nat} {rs:List Rc} {e:Ev},dAll i rs (es++[e])=dstep (i + es.length) (dAll i rs es) e
 | [],i,rs,e=>rfl
 | x :: es,i,rs,e=>by show dAll (i + 1) (dstep i rs x) (es++[e])=dstep (i + (es.length + 1)) (dAll (i + 1) (dstep i rs x) es) e;rw [z8a,show i + (es.length + 1)=i + 1 + es.length by omega]
noncomputable def isW (r:Rc):Bool:=decide (r.v=.str "write")
noncomputable def intV:V->Int
 | .int i=>i
 | _=>0
def RdG (r:Rc):Prop:=r.v=.str "read"/\r.x=.non/\∀e,r.e=some e->r.a=.int (intV r.a)
def WrG (_:Int) (r:Rc):Prop:=r.v=.str "write"/\True/\r.x=.int (intV r.x)/\∀e,r.e=some e->r.a=.str "ok"
theorem z1c:(V.str "read")≠.str "write":=by decide +kernel
theorem WrG.w {wr:Int} {r:Rc} (h:WrG wr r):isW r=true:=decide_eq_true h.1
theorem RdG.w {r:Rc} (h:RdG r):isW r=false:=decide_eq_false λ e=>z1c (h.1.symm.trans e)
theorem z2o {rs:List Rc} {i:Nat} {r:Rc} (h:rs[i]? = some r):rs.take (i + 1)=rs.take i++[r]:=by rw [Y5,h];rfl
theorem z60 :∀(us ns:List Int),us.Nodup->(∀u∈us,u∉ns)->(us.foldl addI ns).length=ns.length + us.length
 | [],ns,_,_=>rfl
 | u :: us,ns,nd,h=>by
  rw [List.nodup_cons] at nd;have e:addI ns u=ns++[u]:=by unfold addI;rw [if_neg (h u (.head _))]
  rw [E8,e,z60 us (ns++[u]) nd.2 λ v a z=>?_]
  ·simp only [L0,v1,n4];omega
  ·rcases List.mem_append.mp z with z|z
   ·exact h v (.tail _ a) z
   ·rw [List.mem_singleton.mp z] at a;exact nd.1 a
structure TwG (es:List Ev):Prop where
 wf:dWf 0 [] es
 g :∀wr:Int,∀r∈dAll 0 [] es,RdG r\/WrG wr r
 nd:(((dAll 0 [] es).filter isW).map (λ r=>intV r.x)).Nodup
 n0:(0:Int)∉((dAll 0 [] es).filter isW).map (λ r=>intV r.x)
structure PosI (n:Nat) (rs:List Rc):Prop where
 b :∀r∈rs,r.b < n
 e :∀r∈rs,∀e,r.e=some e->e < n
 bb :∀(i j:Nat) (r q:Rc),rs[i]? = some r->rs[j]? = some q->r.b=q.b->i=j
 ee :∀(i j:Nat) (r q:Rc) (e:Nat),rs[i]? = some r->rs[j]? = some q->r.e=some e->q.e=some e->i=j
 be :∀r∈rs,∀q∈rs,∀e,q.e=some e->r.b≠e
theorem PosI.step {n:Nat} {rs:List Rc} (p:PosI n rs) (e:Ev):PosI (n + 1) (dstep n rs e):=by
 cases e with
 | beg h nm v x=>
  have f :∀{i:Nat} {r:Rc},(rs++[(⟨h,nm,v,x,.non,n,none⟩:Rc)])[i]? = some r->rs[i]? = some r\/(i=rs.length/\r=⟨h,nm,v,x,.non,n,none⟩):=λ {i r} q=>by
   rw [Y9] at q;split at q
   ·exact .inl q
   ·rename_i z;obtain ⟨y,_⟩:=List.getElem?_eq_some_iff.mp q;rw [c7] at y;have:i - rs.length=0:=by omega
    rw [this] at q;cases q;exact .inr ⟨by omega,rfl⟩
  show PosI (n + 1) (rs++[_]);refine ⟨λ r g=>?_,λ r g e d=>?_,λ i j r q k m z=>?_,λ i j r q e k m o s=>?_,λ r g q E e d=>?_⟩
  ·rcases List.mem_append.mp g with z|z
   ·exact i1 (p.b r z)
   ·rw [List.mem_singleton.mp z];exact A2 n
  ·rcases List.mem_append.mp g with z|z
   ·exact i1 (p.e r z e d)
   ·rw [List.mem_singleton.mp z] at d;cases d
  ·rcases f k with a|⟨a,rfl⟩
   ·rcases f m with b|⟨b,rfl⟩
    ·exact p.bb i j r q a b z
    ·have:=p.b r (x0 a);exact absurd z (O0 this)
   ·rcases f m with b|⟨b,rfl⟩
    ·have:=p.b q (x0 b);exact absurd z.symm (O0 this)
    ·omega
  ·rcases f k with a|⟨a,rfl⟩
   ·rcases f m with b|⟨b,rfl⟩
    ·exact p.ee i j r q e a b o s
    ·cases s
   ·cases o
  ·rcases List.mem_append.mp E with b|b
   ·rcases List.mem_append.mp g with a|a
    ·exact p.be r a q b e d
    ·rw [List.mem_singleton.mp a];exact X1 (p.e q b e d)
   ·rw [List.mem_singleton.mp b] at d;cases d
 | fin h a=>
  unfold dstep;dsimp only;cases lastI h (rs.map Rc.h) with
  | none=>exact ⟨λ r g=>i1 (p.b r g),λ r g e d=>i1 (p.e r g e d),p.bb,p.ee,p.be⟩
  | some j0=>
   dsimp only;have f :∀{i:Nat} {r:Rc},(rs.modify j0 λ r=>{ r with a:=a,e:=some n })[i]? = some r->∃c,rs[i]? = some c/\r.b=c.b/\((i=j0/\r.e=some n)\/r.e=c.e):=λ {i r} q=>by
    rw [B2] at q;cases z:rs[i]? with
    | none=>rw [z] at q;cases q
    | some c=>
     rw [z] at q;have q:some (if j0=i then { c with a:=a,e:=some n } else c)=some r:=q;by_cases y:j0=i
     ·rw [if_pos y] at q;cases q;exact ⟨c,rfl,rfl,.inl ⟨y.symm,rfl⟩⟩
     ·rw [if_neg y] at q;cases q;exact ⟨_,rfl,rfl,.inr rfl⟩
   have B :∀{r:Rc},r∈(rs.modify j0 λ r=>{ r with a:=a,e:=some n })->∃i,(rs.modify j0 λ r=>{ r with a:=a,e:=some n })[i]? = some r:=λ h=>List.mem_iff_getElem?.mp h;refine ⟨λ r g=>?_,λ r g e d=>?_,λ i j r q k m z=>?_,λ i j r q e k m o s=>?_,λ r g q E e d=>?_⟩
   ·obtain ⟨i,k⟩:=B g;obtain ⟨c,l,A,_⟩:=f k;rw [A];exact i1 (p.b c (x0 l))
   ·obtain ⟨i,k⟩:=B g;obtain ⟨c,l,_,⟨_,z⟩|z⟩:=f k
    ·rw [z] at d;cases d;exact A2 n
    ·rw [z] at d;exact i1 (p.e c (x0 l) e d)
   ·obtain ⟨c,l,A,_⟩:=f k;obtain ⟨u,t,G,_⟩:=f m;exact p.bb i j c u l t (by rw [<-A,<-G];exact z)
   ·obtain ⟨c,l,_,⟨H,F⟩|y⟩:=f k
    ·obtain ⟨u,t,_,⟨D,C⟩|w⟩:=f m
     ·rw [H,D]
     ·rw [F] at o;cases o;rw [w] at s;exact absurd (p.e u (x0 t) _ s) (X2 _)
    ·obtain ⟨u,t,_,⟨D,C⟩|w⟩:=f m
     ·rw [C] at s;cases s;rw [y] at o;exact absurd (p.e c (x0 l) _ o) (X2 _)
     ·exact p.ee i j c u e l t (by rw [<-y];exact o) (by rw [<-w];exact s)
   ·obtain ⟨i,k⟩:=B g;obtain ⟨j,m⟩:=B E;obtain ⟨c,l,A,_⟩:=f k;obtain ⟨u,t,_,⟨D,C⟩|w⟩:=f m
    ·rw [C] at d;cases d;rw [A];exact O0 (p.b c (x0 l))
    ·rw [A];exact p.be c (x0 l) u (x0 t) e (by rw [<-w];exact d)
theorem PosI.all :∀(es:List Ev) {n:Nat} {rs:List Rc},PosI n rs->PosI (n + es.length) (dAll n rs es)
 | [],_,_,p=>p
 | e :: es,n,rs,p=>by have:=PosI.all es (p.step e);rw [show n + (e :: es).length=n + 1 + es.length by rw [v1];omega];exact this
theorem PosI.nil:PosI 0 []:=⟨λ _ h=>absurd h B0,λ _ h=>absurd h B0,λ i j r q h=>by simp at h,λ i j r q e h=>by simp at h,λ _ h=>absurd h B0⟩
theorem z31 {α β:Type} {R:α->β->Prop} :∀{xs:List α} {x:α} {ys:List β},All2 R (xs++[x]) ys->∃ys' y,ys=ys'++[y]/\All2 R xs ys'/\R x y
 | [],x,_,.cons a .nil=>⟨[],_,rfl,.nil,a⟩
 | z :: xs,x,_,.cons a r=>by obtain ⟨ys',y,rfl,b,c⟩:=z31 r;exact ⟨_ :: ys',y,rfl,.cons a b,c⟩
theorem z3i {α β:Type} {S:α->β->Prop} {q:α->Bool} {es:List α} :∀(n:Nat),n<=es.length->∀{ws:List β},All2 (λ i y=>∀e,es[i]? = some e->S e y) ((Z1 n).filter λ i=>(es[i]?.map q).getD false) ws->All2 S ((es.take n).filter q) ws
 | 0,_,ws,h=>by cases h;exact .nil
 | n + 1,hn,ws,h=>by
  have e:es[n]? = some es[n]:=M0 hn;rw [C8,C2] at h;rw [Y5,e,C2];by_cases z:q es[n]=true
  ·rw [R1 (by rw [e];exact z)] at h;obtain ⟨c,y,rfl,a,b⟩:=z31 h;show All2 S (_++[es[n]].filter q) _;rw [R1 z];exact z0l (z3i n (by omega) a) (b _ e)
  ·rw [U1 (by rw [e];exact z)] at h;show All2 S (_++[es[n]].filter q) _;rw [U1 z,W4,O2];rw [W4,O2] at h;exact z3i n (by omega) h
end
section
variable {P:Program} {w:P0} {mg:Str->Option Value} {base:Heap}
def z1t (K:c0):Sp:=λ vs H Q _=>∃y r wr e,vs=[y]/\RcAt K H r y/\(RdG r\/WrG wr r)/\r.e=some e/\Q (.bl true) H
theorem z4y (T:TX (kx w) mg) (c0:Ca P w mg base "is_whole" ["value"] 1 z1i):Fo P w mg base CX0 2 266 y07 ["deed"] (z1t (kx w)):=by
 refine (z19 w.params).ok z54 (λ f H Q E h=>?_) (λ k A l s H f Q E d h=>?_)
 ·obtain ⟨y,r,i,e,rfl,_⟩:=h;rfl
 ·obtain ⟨y,r,i,e,rfl,⟨p,rfl,b⟩,g,c,q⟩:=h;refine ⟨_,(z05 (ps_if (z0a opEq (pe_ix ix_seq (pv 0) pe_int (λ _ _=>rfl)) pe_str (nomark _))
   (z06 (ps_ret (z1a opEq (pe_ix ix_seq (pv 0) pe_int (λ _ _=>rfl)) pe_str (nomark _))))
   z0g)
   (z06 (ps_ret (pe_cal c0 (d.mono (by decide)) rfl (z00 (pe_ix ix_seq (pv 0) pe_int (λ _ _=>rfl)) pa_nil))))),?_⟩
  rcases g with g|g
  ·refine ⟨_,rfl,.inr (.inl ⟨p,_,2,.str "read",rfl,rfl,b,by rw [g.1];exact z04 (j:=2) rfl,rfl,_,rfl,iteK ?_⟩)⟩;exact ⟨_,rfl,.inr (.inl ⟨p,_,4,.int (intV r.a),rfl,rfl,b,by rw [g.2.2 e c];exact z04 (j:=4) rfl,_,"int",rfl,rfl,by rw [show decide (("int" : String) = "int")=true by decide];exact q⟩)⟩
  ·refine ⟨_,rfl,.inr (.inl ⟨p,_,2,.str "write",rfl,rfl,b,by rw [g.1];exact z04 (j:=2) rfl,rfl,_,rfl,iteP (by decide +kernel) ?_⟩)⟩;exact ⟨_,rfl,.inr (.inl ⟨p,_,4,.str "ok",rfl,rfl,b,by rw [g.2.2.2 e c];exact z04 (j:=4) rfl,rfl,q⟩)⟩
structure ToldAt (K:c0) (H:Hp) (l:Addr) (wr:Int) (rs:List Rc) (zs:List V):Prop where
 l:H l=some (.lst zs)
 a:All2 (RcAt K H) rs zs
 g :∀r∈rs,RdG r\/WrG wr r
 n:rs.length<=63
theorem ToldAt.same {K:c0} {H H':Hp} {l:Addr} {wr:Int} {rs:List Rc} {zs:List V} (s:Same H H') (h:ToldAt K H l wr rs zs):ToldAt K H' l wr rs zs:=⟨s _ _ h.l,z01 (λ _ _ z=>RcAt.tups (.of s) z) h.a,h.g,h.n⟩
noncomputable def r00:Rc:=⟨0,.non,.non,.non,.non,0,none⟩
theorem getD_some {rs:List Rc} {i:Nat} {r:Rc} (h:rs[i]? = some r):rs[i]?.getD r00=r:=by rw [h];rfl
theorem zb3 (x:Int) :∀ns:List Int,inV (.int x) (ns.map V.int)=decide (x∈ns)
 | []=>by rw [decide_eq_false B0];rfl
 | n :: r=>by
  show ((n == x) || inV (.int x) (r.map V.int))=_;rw [zb3 x r];by_cases e:n=x
  ·rw [beq_iff_eq.mpr e,Bool.true_or,decide_eq_true (List.mem_cons.mpr (.inl e.symm))]
  ·rw [Bool.eq_false_iff.mpr (λ h=>e (beq_iff_eq.mp h)),Bool.false_or];by_cases m:x∈r
   ·rw [decide_eq_true m,decide_eq_true (List.mem_cons.mpr (.inr m))]
   ·rw [decide_eq_false m,decide_eq_false (λ h=>(List.mem_cons.mp h).elim (λ y=>e y.symm) m)]
theorem z7z :∀ns:List Int,(ns.map V.int).all flatV=true
 | []=>rfl
 | _ :: r=>by show (true && (r.map V.int).all flatV)=true;rw [z7z r];rfl
theorem z7h {f:Rc->V} {rs:List Rc} {zs ys:List V} (lz:zs.length=rs.length) (h:All2 (λ (i:Nat) y=>y=f (rs[i]?.getD r00)) ((Z1 zs.length).filter λ i=>isW (rs[i]?.getD r00)) ys):ys=(rs.filter isW).map f:=by rw [lz] at h;rw [z10 h];exact z0y isW f r00 rs
def z33 (K:c0):Sp:=λ vs H Q _=>∃l zs rs wr,vs=[.ref l]/\ToldAt K H l wr rs zs/\((rs.filter isW).map (λ r=>intV r.x)).Nodup/\(0:Int)∉(rs.filter isW).map (λ r=>intV r.x)/\∀H',Same H H'->Q (.bl true) H'
theorem z7a (T:TX (kx w) mg) (c0:Ca P w mg base "is_answered" ["deed"] 2 (z1t (kx w))):Fo P w mg base CX0 3 259 y0f ["told"] (z33 (kx w)):=by
 refine (z23 w.params).ok sc_are_plain (λ vs H Q E h=>?_) (λ a5 A a6 s H vs Q E hr h=>?_)
 ·obtain ⟨l,B,b,W,rfl,_⟩:=h;rfl
 ·obtain ⟨l,B,b,W,rfl,c,nd,n0,q⟩:=h;refine ⟨_,(z05 (z5s (i:=1) sc_are_plain.nd rfl (N1 rfl) (xs:=["deed"]) (g:=gName 0) (fr:=[]) rfl (z0n (pv 0)) (λ _ z=>absurd z B0) (z2r rfl) (λ _ z=>absurd z B0) (by decide +kernel) rfl (by decide +kernel) (λ _ _ _ _ _=>(pg_cn (N:=["deed"]) 0)) (λ _ _ _ _ _=>(pf_one (z0a opEq (pe_ix (z0q (K:=KX w.params) rfl) (pv 0) pe_int (λ _ _=>rfl)) pe_str (nomark _)))) (λ _ _ _ _ _=>(pe_ix (z0q (K:=KX w.params) rfl) (pv 0) pe_int (λ _ _=>rfl))))
   (z05 (ps_if (PW.pt (pw_or (z0a z82 pe_int (pv 1) (by with_unfolding_all rfl)) (pw_or1 (z0a op_lt (zcn rfl rfl (T.no (n_len _)) rfl (T.no (n_set _)) Q3 boot_set (pv 1)) (z08 z0s rfl (T.no (n_len _)) Q3 (z00 (pv 1) pa_nil)) (nomark _)))))
   (z06 (ps_ret pe_bl))
   z0g)
   (z06 (ps_ret (z08 (z1u rfl) rfl (T.no (n_all _)) L9 (z00 (pe_cg (xs:=["deed"]) (g:=gName 0) (fr:=[]) (z0n (pv 0)) (λ _ _ _ _ _=>(pg_cn (N:=["deed"]) 0)) (λ _ _ _ _ _=>pf_nil) (λ _ _ _ _ _=>(pe_or (z1a op_isN (pe_ix (z0q (K:=KX w.params) rfl) (pv 0) pe_int (λ _ _=>rfl)) pe_non (nomark _)) (pe_one (pe_cal c0 (hr.mono (by decide)) rfl (z00 (pv 0) pa_nil)))))) pa_nil)))))),?_⟩
  have Z:B.length=b.length:=z03 c.a;have a3:=c.n;refine z0b ?_;refine z0m (K:=KX w.params) (a:=l) (xs:=B) (H1:=H) (λ i=>isW (b[i]?.getD r00)) (λ i y _=>y=.int (intV (b[i]?.getD r00).x)) (λ _ _ _ _ _ z=>z) (λ R h=>⟨_,rfl,h⟩) (SqL.of c.l) (G0 (m:=63) (by omega) (by decide)) ?_ ?_
  ·intro i hi v H1 J F KT KF u G;obtain ⟨r,D,p,rfl,M⟩:=z09 c.a F;have d:=J.seqT M;rw [getD_some D] at u G;refine ⟨[some (.ref p)],rfl,rfl,?_⟩;rcases c.g r (x0 D) with g|g
   ·refine ⟨_,rfl,.inr (.inl ⟨p,_,2,.str "read",rfl,rfl,d,by rw [g.1];exact z04 (j:=2) rfl,rfl,_,rfl,iteK (G g.w _ (Same.refl _))⟩)⟩
   ·refine ⟨_,rfl,.inr (.inl ⟨p,_,2,.str "write",rfl,rfl,d,by rw [g.1];exact z04 (j:=2) rfl,rfl,_,rfl,iteP (by decide +kernel) ?_⟩)⟩;exact ⟨_,rfl,.inr (.inl ⟨p,_,3,.int (intV r.x),rfl,rfl,d,by rw [<-g.2.2.1];exact z04 (j:=3) rfl,u g.w _ _ (Same.refl _) rfl⟩)⟩
  intro k H1 ys J a0 a4;have ey:=z7h (f:=λ r=>V.int (intV r.x)) Z a4;have a1:ys=((b.filter isW).map (λ r=>intV r.x)).map V.int:=by rw [ey,g3];rfl
  have lu:((b.filter isW).map (λ r=>intV r.x)).length<=63:=by rw [D0];exact G0 (Z0 _ _) a3
  subst a1;generalize (b.filter isW).map (λ r=>intV r.x)=us at nd n0 lu⊢;have O:=Same.upd (o:=.lst (us.map V.int)) a0;have C:upd H1 k (.lst (us.map V.int)) k=some (.lst (us.map V.int)):=z02;have I:=J.trans O;generalize upd H1 k (.lst (us.map V.int))=H2 at O C I⊢;refine g_name ?_;refine sq_if ?_;refine t_or ?_;refine ⟨_,rfl,k,_,rfl,.inl (SqL.of C),rfl,z7z _,_,rfl,iteN (by show ¬ inV _ _=true;rw [zb3,decide_eq_false n0];decide) ?_⟩;refine ⟨_,rfl,k,us,rfl,SqL.of C,by omega,_,rfl,.inl ⟨k,_,rfl,.inl (SqL.of C),_,_,rfl,rfl,_,rfl,iteN ?_ ?_⟩⟩
  ·rw [z60 us [] nd (λ _ _=>B0),n4,D0];exact λ e=>absurd (of_decide_eq_true e) (by omega)
  refine t_nx (sq_ret (e_cb1 ?_));have S:=c.same I;refine z0m (K:=KX w.params) (a:=l) (xs:=B) (H1:=H2) (λ _=>true) (λ i y _=>y=.bl true) (λ _ _ _ _ _ z=>z) (λ R h=>⟨_,rfl,h⟩) (SqL.of S.l) (G0 (m:=63) (by omega) (by decide)) ?_ ?_
  ·intro i hi v H3 L F KT KF u G;obtain ⟨r,D,p,rfl,M⟩:=z09 S.a F;have d:=L.seqT M;refine ⟨[some (.ref p)],rfl,rfl,iteT ?_⟩;cases he:r.e with
   | none=>exact ⟨_,rfl,.inr (.inl ⟨p,_,6,.non,rfl,rfl,d,by rw [he];exact z04 (j:=6) rfl,rfl,_,rfl,iteP (by decide) (u rfl _ _ (Same.refl _) rfl)⟩)⟩
   | some e=>refine ⟨_,rfl,.inr (.inl ⟨p,_,6,.int e,rfl,rfl,d,by rw [he];exact z04 (j:=6) rfl,rfl,_,rfl,iteN (by simp) ?_⟩)⟩;exact ⟨_,rfl,_,r,W,e,rfl,⟨p,rfl,d⟩,c.g r (x0 D),he,u rfl _ _ (Same.refl _) rfl⟩
  intro l3 H3 bs L a2 X;have U :∀y∈bs,y=.bl true:=λ y t=>by obtain ⟨m,Y⟩:=List.mem_iff_getElem?.mp t;obtain ⟨_,_,z⟩:=z09 X Y;exact z
  refine ⟨l3,bs,rfl,SqL.of z02,λ y t=>⟨true,U y t⟩,?_⟩;rw [List.all_eq_true.mpr (λ y t=>decide_eq_true (U y t))];exact q _ (I.trans (L.trans (Same.upd a2)))
structure TalR (K:c0) (H:Hp) (t:Addr) (nm:Str) (wr:Int) (es:List Ev) (ys:List V):Prop where
 t :∃pt te th,SqT K H t [.ref pt,.ref te]/\SqT K H pt [.ref th]/\SqT K H th [.str nm,.str "register"]/\SqT K H te ys
 ev:All2 (EvAt K H) es ys
 tw:TwG es
 ln:es.length<=62
theorem TalR.same {K:c0} {H H':Hp} {t:Addr} {nm:Str} {wr:Int} {es:List Ev} {ys:List V} (s:Same H H') (h:TalR K H t nm wr es ys):TalR K H' t nm wr es ys:=by obtain ⟨pt,e,f,a,b,c,d⟩:=h.t;exact ⟨⟨pt,e,f,s.seqT a,s.seqT b,s.seqT c,s.seqT d⟩,z01 (λ _ _ z=>EvAt.tups (.of s) z) h.ev,h.tw,h.ln⟩
theorem z6w :∀{es:List Ev} {i:Nat} {rs:List Rc},(dAll i rs es).length<=rs.length + es.length
 | [],_,_=>A0 _
 | e :: es,i,rs=>by
  have h:=z6w (es:=es) (i:=i + 1) (rs:=dstep i rs e);have b:(dstep i rs e).length<=rs.length + 1:=by
   cases e with
   | beg k n v x=>exact W6 (L0 ..)
   | fin k a=>
    unfold dstep;dsimp only;cases lastI k (rs.map Rc.h) with
    | none=>exact N5 _
    | some j=>dsimp only;rw [Y4];exact N5 _
  show (dAll (i + 1) (dstep i rs e) es).length<=_;rw [v1];omega
def z21 (K:c0):Sp:=λ vs H Q _=>∃t nm wr es ys,vs=[.ref t]/\TalR K H t nm wr es ys/\∀l zs H',Same H H'->ToldAt K H' l wr (dAll 0 [] es) zs->Q (.ref l) H'
theorem z7j:plainP (.list [.str "register"])=true:=by decide +kernel
theorem zel:PyData.eqv (.list [.str "register"]) (.list [.str "register"])=true:=by decide +kernel
theorem z4m (T:TX (kx w) mg) (c0:Ca P w mg base "deeds" ["tale"] 1 (zb2 (kx w))) (c1:Ca P w mg base "are_plain" ["told"] 3 (z33 (kx w))):Fo P w mg base CX0 4 254 y06 ["tale"] (z21 (kx w)):=by
 refine (z1g w.params).ok sc_plain_deeds (λ vs H Q E h=>?_) (λ a3 A a4 s H vs Q E p h=>?_)
 ·obtain ⟨t,D,f,c,J,rfl,_⟩:=h;rfl
 ·obtain ⟨t,D,f,c,J,rfl,b,q⟩:=h;refine ⟨_,(z05 (ps_set (i:=1) sc_plain_deeds.nd rfl (N1 rfl) (pe_cal c0 (p.mono (by decide)) rfl (z00 (pv 0) pa_nil)))
   (z05 (ps_if (PW.pt (pw_or (z0a (op_neP p) (pe_cg (xs:=["name","kind"]) (g:=gTup (kx w) 2 (gCons (gName 0) (gCons (gName 1) gNil))) (fr:=[]) (pi_tup (pe_ix ix_seq (pv 0) pe_int (λ _ _=>rfl))) (λ _ _ _ _ _=>(pg_tup rfl (z0k (pg_cn (N:=["name","kind"]) 0) (z0k (pg_cn (N:=["name","kind"]) 1) z2j)))) (λ _ _ _ _ _=>pf_nil) (λ _ _ _ _ _=>(pv 1))) (pe_lst (z00 pe_str pa_nil)) (nomark _)) (pw_or1 (pt_not (pt_val (pe_cal c1 (p.mono (by decide)) rfl (z00 (pv 1) pa_nil)) (λ _=>rfl))))))
   (z06 z1r)
   z0g)
   (z06 (ps_ret (pv 1))))),?_⟩
  obtain ⟨pt,te,x,U,sp,sh,X⟩:=b.t;have tw:=b.tw;have wf:=tw.wf;have a5:=b.ln;have Y:(dAll 0 [] c).length<=63:=G0 z6w (by simp;omega);refine z0b ?_;refine ⟨_,rfl,t,te,.ref pt,J,c,rfl,U,X,b.ev,by omega,wf,λ l u H1 k a2 el al=>?_⟩;refine g_name ?_;have I:ToldAt (kx w) H1 l f (dAll 0 [] c) u:=⟨el,al,tw.g f,Y⟩
  refine sq_if (t_or (t_test ?_));refine z87 (K:=KX w.params) (a:=pt) (xs:=[.ref x]) (H1:=H1) (λ _=>true) (λ i y _=>y=.str "register") (λ _ _ _ _ _ z=>z) (λ R h=>⟨_,rfl,.inr (.inl ⟨t,_,0,.ref pt,rfl,rfl,k.seqT U,z04 (j:=0) rfl,h⟩)⟩) (k.seqT sp) w_1 ?_ ?_
  ·intro i hi v n m W KT KF Z h2;have:v=.ref x:=List.mem_singleton.mp (x0 W);subst this;refine ⟨x,_,rfl,(k.trans m).seqT sh,rfl,_,_,rfl,_,_,rfl,rfl,[some (.str D),some (.str "register")],rfl,rfl,iteT ⟨_,rfl,Z rfl _ _ (Same.refl _) rfl⟩⟩
  intro e n F m a1 B;have ek:F=[.str "register"]:=by
   replace B:All2 (λ (_:Nat) (y:V)=>y=.str "register") [0] F:=B;cases B with
   | cons a r=>cases r;rw [a]
  subst ek;have O:=Same.upd (o:=.lst [V.str "register"]) a1;have L:upd n e (.lst [V.str "register"]) e=some (.lst [V.str "register"]):=z02;have M:=m.trans O;generalize upd n e (.lst [V.str "register"])=H3 at O L M⊢;refine ⟨w_1,λ S a0=>?_⟩;have C:=Same.upd (o:=.lst [V.str "register"]) a0;refine ⟨.list [.str "register"],.list [.str "register"],⟨e,_,rfl,SqL.of (C _ _ L),⟨_,_,rfl,rfl,rfl⟩⟩,⟨S,_,rfl,SqL.of z02,⟨_,_,rfl,rfl,rfl⟩⟩,z7j,z7j,(show (1:Nat)<=60 by decide),_,rfl,iteN (by rw [zel];decide) ?_⟩;have d:=M.trans C;generalize upd H3 S (.lst [V.str "register"])=H4 at C d⊢;refine ⟨_,rfl,l,u,_,f,rfl,I.same d,tw.nd,tw.n0,λ H5 G=>⟨true,rfl,iteN (by decide) ?_⟩⟩;exact ⟨_,rfl,q l u H5 (k.trans (d.trans G)) (I.same (d.trans G))⟩
structure Ent where
 x:Int
 b:Int
 e:Option Int
noncomputable def ent0:Ent:=⟨0,-2,some (-1)⟩
noncomputable def entW (r:Rc):Ent:=⟨intV r.x,r.b,r.e.map λ n=>(n:Int)⟩
noncomputable def ents (rs:List Rc):List Ent:=ent0 :: (rs.filter isW).map entW
theorem ents_mem {rs:List Rc} {t:Ent}:t∈ents rs↔t=ent0\/∃w∈rs,isW w=true/\t=entW w:=by
 unfold ents;rw [A3,List.mem_map];constructor
 ·rintro (h|⟨w,hw,e⟩)
  ·exact .inl h
  ·exact .inr ⟨w,(List.mem_filter.mp hw).1,(List.mem_filter.mp hw).2,e.symm⟩
 ·rintro (h|⟨w,hw,hi,e⟩)
  ·exact .inl h
  ·exact .inr ⟨w,List.mem_filter.mpr ⟨hw,hi⟩,e.symm⟩
theorem z2s (rs:List Rc) (r:Rc):ents (rs++[r])=ents rs++if isW r=true then [entW r] else []:=by
 unfold ents;rw [C2,N2,List.cons_append];by_cases z:isW r=true
 ·rw [if_pos z,R1 z];rfl
 ·rw [if_neg z,U1 z];rfl
noncomputable def endO:Option Int->V
 | none=>.non
 | some i=>.int i
theorem endV_O (o:Option Nat):endV o=endO (o.map λ n=>(n:Int)):=by cases o<;>rfl
def EntV (K:c0) (H:Hp) (t:Ent) (v:V):Prop:=∃p,v=.ref p/\SqT K H p [.int t.b,endO t.e]
def EntAt (K:c0) (H:Hp) (t:Ent) (kv:Key×V):Prop:=kv.1=.inl t.x/\EntV K H t kv.2
theorem EntV.tups {K:c0} {H H':Hp} {t:Ent} {v:V} (f :∀c xs,SqT K H c xs->SqT K H' c xs) (h:EntV K H t v):EntV K H' t v:=h.elim λ p z=>⟨p,z.1,f _ _ z.2⟩
theorem EntAt.tups {K:c0} {H H':Hp} {t:Ent} {kv:Key×V} (f :∀c xs,SqT K H c xs->SqT K H' c xs) (h:EntAt K H t kv):EntAt K H' t kv:=⟨h.1,h.2.tups f⟩
theorem z5a {K:c0} {H:Hp} :∀{ts:List Ent} {kvs:List (Key×V)},All2 (EntAt K H) ts kvs->kvs.map (·.1)=ts.map λ t=>Sum.inl t.x
 | _,_,.nil=>rfl
 | _,_,.cons a r=>by rw [W0,W0,z5a r,a.1]
theorem z4g (rs:List Rc):(ents rs).length<=rs.length + 1:=by unfold ents;rw [v1,D0];exact Nat.succ_le_succ (Z0 _ _)
theorem zd3 {rs:List Rc} {i:Nat} {r:Rc} (nd:((rs.filter isW).map (λ r=>intV r.x)).Nodup) (n0:(0:Int)∉(rs.filter isW).map (λ r=>intV r.x)) (h:rs[i]? = some r) (hw:isW r=true):(Sum.inl (intV r.x):Key)∉(ents (rs.take i)).map λ t=>(Sum.inl t.x:Key):=λ z=>by
 obtain ⟨t,d,e⟩:=List.mem_map.mp z;have e:=z4 e;rcases ents_mem.mp d with rfl|⟨w,hm,hi,rfl⟩
 ·exact n0 (List.mem_map.mpr ⟨r,List.mem_filter.mpr ⟨x0 h,hw⟩,e.symm⟩)
 ·have b:rs=rs.take i++r :: rs.drop (i + 1):=by obtain ⟨a,c⟩:=List.getElem?_eq_some_iff.mp h;rw [<-c,<-m6 a,List.take_append_drop]
  rw [b,C2,N2,List.nodup_append] at nd;exact nd.2.2 _ (List.mem_map.mpr ⟨w,List.mem_filter.mpr ⟨hm,hi⟩,rfl⟩) _ (List.mem_map.mpr ⟨r,List.mem_filter.mpr ⟨.head _,hw⟩,rfl⟩) e
theorem zdo {H:Hp}:SqT (kx w) H 249 [.int (-2),.int (-1)]:=
 .inr ⟨⟨(.type "tuple"),none,(.seq #[(.int (-2) 573),(.int (-1) 575)] 0),#[]⟩,#[(.int (-2) 573),(.int (-1) 575)],0,by kernel_rfl,rfl,rfl,w_2,.cons ⟨_,rfl⟩ (.cons ⟨_,rfl⟩ .nil)⟩
def z5i (K:c0):Sp:=λ vs H Q _=>∃l zs rs wr,vs=[.ref l]/\ToldAt K H l wr rs zs/\((rs.filter isW).map (λ r=>intV r.x)).Nodup/\(0:Int)∉(rs.filter isW).map (λ r=>intV r.x)/\∀d kvs H',Same H H'->H d=none->H' d=some (.dK kvs)->All2 (EntAt K H') (ents rs) kvs->Q (.ref d) H'
theorem zb8 (T:TX (kx w) mg):Fo P w mg base CX0 1 273 y12 ["told"] (z5i (kx w)):=by
 refine (z4w w.params).ok sc_writers (λ Y H Q E h=>?_) (λ a1 A a2 s H Y Q E V h=>?_)
 ·obtain ⟨l,D,C,Z,rfl,_⟩:=h;rfl
 ·obtain ⟨l,D,C,Z,rfl,f,nd,n0,q⟩:=h;refine ⟨_,(z05 (ps_set (i:=1) sc_writers.nd rfl (N1 rfl) (zdb (zal pe_int (z13 (v:=.ref 249) rfl (T.of (z6a _)) rfl) zd7) rfl rfl (by simp) (by decide)))
   (z05 (ps_for g4 rfl (z0n (pv 0)) (z11 (i:=2) sc_writers.nd rfl (N1 rfl))
   (z06 (ps_if (z0a opEq (pe_ix ix_seq (pv 2) pe_int (λ _ _=>rfl)) pe_str (nomark _))
   (z06 (z5h (hu_of V) (pv 1) (pe_ix ix_seq (pv 2) pe_int (λ _ _=>rfl)) (z3j slSeq (pv 2) (z3z pe_int) z81) rfl))
   z0g)))
   (z06 (ps_ret (pv 1))))),?_⟩
  have R:D.length=C.length:=z03 f.a;have a3:=f.n;intro d hd;refine ⟨z02,[(.inl 0,.ref 249)],rfl,(show (1:Nat)<=15 by decide),?_⟩;have I:Same H (upd (upd H d (.dK [])) d (.dK (mergeK [] [(.inl 0,.ref 249)]))):=Same.keep (Same.upd hd) hd;have N:upd (upd H d (.dK [])) d (.dK (mergeK [] [(.inl 0,.ref 249)])) d=some (.dK [(.inl 0,.ref 249)]):=z02;generalize upd (upd H d (.dK [])) d (.dK (mergeK [] [(.inl 0,.ref 249)]))=H1 at I N⊢;refine ⟨_,rfl,l,rfl,⟨_,SqL.of (I _ _ f.l)⟩,?_⟩;refine z55 (K:=KX w.params) (a:=l) (xs:=D) (λ i σ t=>Same H t/\(∃kvs,t d=some (.dK kvs)/\All2 (EntAt (kx w) t) (ents (C.take i)) kvs)/\∃x2,σ=[some (.ref l),some (.ref d),x2])
   ⟨I,⟨_,N,.cons ⟨rfl,249,rfl,zdo⟩ .nil⟩,_,rfl⟩ (λ _ σ t _ h=>SqL.of (h.1 _ _ f.l)) ?_ ?_
  ·rintro i y σ J S ⟨s2,⟨kvs,ed,wk⟩,x2,rfl⟩;obtain ⟨r,o,p,rfl,sp⟩:=z09 f.a S;have hi:i < 63:=by have:=(List.getElem?_eq_some_iff.mp o).1;omega
   have lk:kvs.length<=64:=by rw [z03 wk];refine G0 (z4g _) ?_;rw [j3];omega
   have u:=s2.seqT sp;refine g_name ?_;rcases f.g r (x0 o) with g|g
   ·refine ⟨_,rfl,.inr (.inl ⟨p,_,2,.str "read",rfl,rfl,u,by rw [g.1];exact z04 (j:=2) rfl,rfl,_,rfl,iteK ?_⟩)⟩;refine ⟨s2,⟨kvs,ed,?_⟩,_,rfl⟩;rw [z2o o,z2s,if_neg (by rw [g.w];decide),O2];exact wk
   ·refine ⟨_,rfl,.inr (.inl ⟨p,_,2,.str "write",rfl,rfl,u,by rw [g.1];exact z04 (j:=2) rfl,rfl,_,rfl,iteP (by decide +kernel) ?_⟩)⟩;refine ⟨_,rfl,5,rfl,.inr (.inl ⟨p,_,rfl,u,λ z=>absurd z.1 (show ¬ HT.sIx 7 0 (some 5)=0 by decide),λ L a0=>?_⟩)⟩;have U:cutV [.int r.h,r.n,r.v,r.x,r.a,.int r.b,endV r.e] (some 5) none=[.int r.b,endV r.e]:=rfl;rw [U];obtain ⟨O,W,B,X⟩:=newA (.tup [.int r.b,endV r.e]) a0;rw [<-W];have M:=B _ _ ed;refine ⟨_,rfl,_,rfl,.inr (.inl ⟨p,_,3,.int (intV r.x),rfl,rfl,B.seqT u,by rw [<-g.2.2.1];exact z04 (j:=3) rfl,d,_,rfl,DPut.k (k:=.inl (intV r.x)) M (F1 (m:=100) (by omega) (by decide)),?_⟩)⟩;have F:Tups (kx w) O (upd O d (.dK (putK kvs (.inl (intV r.x)) (.ref L)))):=Tups.dict M;have G:=zd3 nd n0 o g.w;rw [<-z5a wk] at G;refine ⟨Same.keep (s2.trans B) hd,⟨_,z02,?_⟩,_,rfl⟩;rw [z2o o,z2s,if_pos g.w,z1h G];rw [z1h G] at F;refine z0l (z01 (λ _ _ z=>EntAt.tups (λ c xs y=>F _ _ (B.seqT y)) z) wk) ⟨rfl,L,rfl,?_⟩;have:=F _ _ (SqT.of X);rw [endV_O] at this;exact this
  ·rintro σ J ⟨s2,⟨kvs,ed,wk⟩,x2,rfl⟩;rw [R,K3] at wk;exact ⟨_,rfl,q d kvs J s2 hd ed wk⟩
def NumAt (H:Hp) (zs:List V) (i:Nat) (y:V):Prop:=∃p z,y=.ref p/\H p=some (.tup [.int (i:Nat),z])/\zs[i]? = some z
theorem NumAt.same {H H':Hp} {zs:List V} {i:Nat} {y:V} (s:Same H H') (h:NumAt H zs i y):NumAt H' zs i y:=by obtain ⟨p,z,c,a,b⟩:=h;exact ⟨p,z,c,s _ _ a,b⟩
noncomputable def isRE (r:Rc):Bool:=decide (r.v=.str "read") && r.e.isSome
def z1x (K:c0):Sp:=λ vs H Q _=>∃l zs rs wr,vs=[.ref l]/\ToldAt K H l wr rs zs/\∀a ws H',Same H H'->H' a=some (.lst ws)->All2 (NumAt H' zs) ((Z1 rs.length).filter λ i=>isRE (rs[i]?.getD r00)) ws->Q (.ref a) H'
theorem z4p (T:TX (kx w) mg):Fo P w mg base CX0 1 278 y08 ["told"] (z1x (kx w)):=by
 refine (z16 w.params).ok z4j (λ U H Q E h=>?_) (λ a0 A a1 s H U Q E hr h=>?_)
 ·obtain ⟨l,c,k,X,rfl,_⟩:=h;rfl
 ·obtain ⟨l,c,k,X,rfl,b,q⟩:=h;refine ⟨_,(z06 (ps_ret (pe_cg (xs:=["number","deed"]) (g:=gTup (kx w) 2 (gCons (gName 0) (gCons (gName 1) gNil))) (fr:=[]) (ze4 rfl (T.no (z3y _)) (z00 (pv 0) pa_nil)) (λ _ _ _ _ _=>(pg_tup rfl (z0k (pg_cn (N:=["number","deed"]) 0) (z0k (pg_cn (N:=["number","deed"]) 1) z2j)))) (λ _ _ _ _ _=>(pf_one (PW.pt (pw_and (z0a opEq (pe_ix (z0q (K:=KX w.params) rfl) (pv 1) pe_int (λ _ _=>rfl)) pe_str (nomark _)) (z2x (z0a z45 (pe_ix (z0q (K:=KX w.params) rfl) (pv 1) pe_int (λ _ _=>rfl)) pe_non (nomark _))))))) (λ _ _ _ _ _=>(pe_tup (z00 (pv 0) (z00 (pv 1) pa_nil))))))),?_⟩;have I:c.length=k.length:=z03 b.a;have a2:=b.n;refine sq_ret ?_;refine zcp (K:=KX w.params) (a:=l) (xs:=c) (H1:=H) (λ i=>isRE (k[i]?.getD r00)) (λ i y J=>NumAt J c i y) (λ _ _ _ _ s z=>z.same s) (λ R h=>⟨_,rfl,h⟩) (SqL.of b.l) (G0 (m:=63) (by omega) (by decide)) ?_ ?_
  ·intro i hi v H1 t V KT KF C f;obtain ⟨x,O,u,rfl,S⟩:=V;obtain ⟨r,F,p,rfl,Y⟩:=z09 b.a u;have d:=t.seqT Y;rw [getD_some F] at C f;refine ⟨O,_,rfl,SqT.of S,rfl,_,_,rfl,_,_,rfl,rfl,[some (.int (i:Nat)),some (.ref p)],rfl,rfl,?_⟩;rcases b.g r (x0 F) with g|g
   ·refine ⟨_,rfl,.inr (.inl ⟨p,_,2,.str "read",rfl,rfl,d,by rw [g.1];exact z04 (j:=2) rfl,rfl,_,rfl,iteP (by decide +kernel) ?_⟩)⟩;cases he:r.e with
    | none=>exact ⟨_,rfl,.inr (.inl ⟨p,_,6,.non,rfl,rfl,d,by rw [he];exact z04 (j:=6) rfl,rfl,_,rfl,iteN (by decide) (f (by unfold isRE;rw [he];exact p7 _) _ (Same.refl _))⟩)⟩
    | some e=>refine ⟨_,rfl,.inr (.inl ⟨p,_,6,.int e,rfl,rfl,d,by rw [he];exact z04 (j:=6) rfl,rfl,_,rfl,iteP (by simp) ?_⟩)⟩;refine ⟨_,rfl,_,rfl,w_2,λ W M=>C (by unfold isRE;rw [he,decide_eq_true g.1];rfl) _ _ (Same.upd M) ⟨W,_,rfl,z02,u⟩⟩
   ·refine ⟨_,rfl,.inr (.inl ⟨p,_,2,.str "write",rfl,rfl,d,by rw [g.1];exact z04 (j:=2) rfl,rfl,_,rfl,iteK ?_⟩)⟩;refine iteN (by decide) (f ?_ _ (Same.refl _));unfold isRE;rw [decide_eq_false (λ e=>z1c (e.symm.trans g.1))];rfl
  intro Z H1 D t L G;rw [I] at G;have B:=Same.upd (o:=.lst D) L;exact q Z D _ (t.trans B) z02 (z01 (λ _ _ z=>z.same B) G)
theorem ck_T (P:T0):CodeK (KX P) cdT tbT:=⟨⟨(.type "code"),none,(.fields #[(.str "zones" 611),(.str "zones" 612),(.str "/claim/cut.py" 613),(.int (150) 0),(.int (1) 0),(.int (0) 0),(.int (0) 0),(.int (3) 0),(.ref 279),(.bool true),(.int (181) 0),(.ref 280),.none,.none,.none,(.ref 281),(.int (614) 0),(.int (150) 0),(.str "/claim/cut.py" 615)]),#[]⟩,_,_,_,_,_,_,_,_,by kernel_rfl,rfl,rfl,rfl,rfl,rfl,rfl,rfl,rfl,by decide⟩
structure Zt where
 x:Int
 lo:Int
 hi:Int
 on:Bool
noncomputable def onS:Bool->Str
 | true=>"on"
 | false=>"in"
def ZtV (H:Hp) (z:Zt) (y:V):Prop:=∃p,y=.ref p/\H p=some (.tup [.int z.x,.int z.lo,.int z.hi,.str (onS z.on)])
theorem ZtV.same {H H':Hp} {z:Zt} {y:V} (s:Same H H') (h:ZtV H z y):ZtV H' z y:=h.elim λ p e=>⟨p,e.1,s _ _ e.2⟩
def MinI (l:Int) (ns:List Int):Prop:=l∈ns/\∀u∈ns,l<=u
def MaxI (l:Int) (ns:List Int):Prop:=l∈ns/\∀u∈ns,u<=l
noncomputable def zOf (x l g:Int):Zt:=if l < g then ⟨x,l,g,true⟩ else ⟨x,g,l,false⟩
def SpV (K:c0) (H:Hp) (s:Int×Option Int) (y:V):Prop:=∃p,y=.ref p/\SqT K H p [.int s.1,endO s.2]
theorem zb7 :∀{n:Nat} {ss:List (Int×Option Int)} {ys:List V},n<=ss.length->All2 (λ (i:Nat) y=>∀s e,ss[i]? = some s->s.2=some e->y=V.int e) ((Z1 n).filter λ i=>(ss[i]?.map λ s=>s.2.isSome).getD false) ys->ys=((ss.take n).filterMap (·.2)).map V.int
 | 0,ss,ys,_,h=>by cases h;rfl
 | n + 1,ss,ys,hn,h=>by
  have e:ss[n]? = some ss[n]:=M0 hn;rw [C8,C2] at h;rw [Y5,e,List.filterMap_append,N2];cases z:ss[n].2 with
  | none=>rw [U1 (by rw [e];show ¬ ss[n].2.isSome=true;rw [z];decide),W4,O2] at h;rw [zb7 (by omega) h];show _=_++([ss[n]].filterMap (·.2)).map V.int;rw [n9 z];exact (O2 _).symm
  | some v=>rw [R1 (by rw [e];show ss[n].2.isSome=true;rw [z];rfl),W4] at h;obtain ⟨c,y,rfl,a,b⟩:=z31 h;rw [zb7 (by omega) a,b _ v e z];show _=_++([ss[n]].filterMap (·.2)).map V.int;rw [r6 z];rfl
def z2z (K:c0):Sp:=λ vs H Q _=>∃(x:Int) (l:Addr) (ys:List V) (ss:List (Int×Option Int)),vs=[.int x,.ref l]/\H l=some (.lst ys)/\All2 (SpV K H) ss ys/\ss.length<=100/\ss.filterMap (·.2)≠[]/\ss≠[]/\∀p lo g H',Same H H'->MinI lo (ss.filterMap (·.2))->MaxI g (ss.map (·.1))->ZtV H' (zOf x lo g) (.ref p)->Q (.ref p) H'
theorem zaz (T:TX (kx w) mg):Fo P w mg base CX0 1 288 y13 ["worth","spans"] (z2z (kx w)):=by
 refine (z4r w.params).ok sc_zone_of (λ vs H Q E h=>?_) (λ a4 A a5 s H vs Q E hr h=>?_)
 ·obtain ⟨x,l,J,b,rfl,_⟩:=h;rfl
 ·obtain ⟨x,l,J,b,rfl,el,I,a6,a2,a3,q⟩:=h;have W:=z03 I;refine ⟨_,(z05 (ps_set (i:=2) sc_zone_of.nd rfl (N1 rfl) (z08 (z2p rfl) rfl (T.no (n_min _)) boot_min (z00 (pe_cg (xs:=["begin","end"]) (g:=gTup (kx w) 2 (gCons (gName 0) (gCons (gName 1) gNil))) (fr:=[]) (z0n (pv 1)) (λ _ _ _ _ _=>(pg_tup rfl (z0k (pg_cn (N:=["begin","end"]) 0) (z0k (pg_cn (N:=["begin","end"]) 1) z2j)))) (λ _ _ _ _ _=>(pf_one (z0a z45 (pv 1) pe_non (nomark _)))) (λ _ _ _ _ _=>(pv 1))) pa_nil)))
   (z05 (ps_set (i:=3) sc_zone_of.nd rfl (N1 rfl) (z08 (z7r rfl) rfl (T.no (n_max _)) boot_max (z00 (pe_cg (xs:=["begin","end"]) (g:=gTup (kx w) 2 (gCons (gName 0) (gCons (gName 1) gNil))) (fr:=[]) (z0n (pv 1)) (λ _ _ _ _ _=>(pg_tup rfl (z0k (pg_cn (N:=["begin","end"]) 0) (z0k (pg_cn (N:=["begin","end"]) 1) z2j)))) (λ _ _ _ _ _=>pf_nil) (λ _ _ _ _ _=>(pv 0))) pa_nil)))
   (z05 (ps_if (z0a op_lt (pv 2) (pv 3) (nomark _))
   (z06 (ps_ret (pe_tup (z00 (pv 0) (z00 (pv 2) (z00 (pv 3) (z00 pe_str pa_nil)))))))
   z0g)
   (z06 (ps_ret (pe_tup (z00 (pv 0) (z00 (pv 3) (z00 (pv 2) (z00 pe_str pa_nil)))))))))),?_⟩
  refine z0b (e_cb1 ?_);refine z0m (K:=KX w.params) (a:=l) (xs:=J) (H1:=H) (λ i=>(b[i]?.map λ s=>s.2.isSome).getD false) (λ i y _=>∀s e,b[i]? = some s->s.2=some e->y=V.int e) (λ _ _ _ _ _ z=>z) (λ R h=>⟨_,rfl,h⟩) (SqL.of el) (G0 (m:=100) (by omega) (by decide)) (λ i hi v H1 r D KT KF d j=>?_) λ t H1 S r a0 k=>?_
  ·obtain ⟨c,L,p,rfl,O⟩:=z09 I D;rw [L] at d j;refine ⟨p,_,rfl,r.seqT O,rfl,_,_,rfl,_,_,rfl,rfl,[some (.int c.1),some (endO c.2)],rfl,rfl,?_⟩;cases z:c.2 with
   | none=>exact ⟨_,rfl,rfl,_,rfl,iteN (by decide) (j (by show c.2.isSome=false;rw [z];rfl) _ (Same.refl _))⟩
   | some e=>exact ⟨_,rfl,rfl,_,rfl,iteP (by simp [endO]) ⟨_,rfl,d (by show c.2.isSome=true;rw [z];rfl) _ _ (Same.refl _) λ U e' G C=>by cases G;rw [z] at C;cases C;rfl⟩⟩
  rw [W] at k;have f:=zb7 (A0 _) k;rw [K3] at f;subst f;have B:=r.trans (Same.upd (o:=.lst ((b.filterMap (·.2)).map V.int)) a0);have X:upd H1 t (.lst ((b.filterMap (·.2)).map V.int)) t=some (.lst ((b.filterMap (·.2)).map V.int)):=z02;generalize upd H1 t (.lst ((b.filterMap (·.2)).map V.int))=H2 at B X⊢;refine ⟨t,_,rfl,SqL.of X,a2,λ M d j=>g_name ?_⟩;refine z0b (e_cb1 ?_);refine z0m (K:=KX w.params) (a:=l) (xs:=J) (H1:=H2) (λ _=>true) (λ i y _=>y=V.int (b[i]?.getD (0,none)).1) (λ _ _ _ _ _ z=>z) (λ R h=>⟨_,rfl,h⟩) (SqL.of (B _ _ el)) (G0 (m:=100) (by omega) (by decide)) (λ i hi v H1 r D KT KF d j=>?_) λ u Z S s3 a1 k=>?_
  ·obtain ⟨c,L,p,rfl,O⟩:=z09 I D;exact ⟨p,_,rfl,(B.trans r).seqT O,rfl,_,_,rfl,_,_,rfl,rfl,[some (.int c.1),some (endO c.2)],rfl,rfl,iteT ⟨_,rfl,d rfl _ _ (Same.refl _) (by rw [L];rfl)⟩⟩
  rw [W,List.filter_eq_self.mpr (λ _ _=>rfl)] at k;have f:=z10 k;have f:S=(b.map (·.1)).map V.int:=by
   rw [f];apply m5;intro m;rw [S0,S0,S0];by_cases z:m < b.length
   ·rw [List.getElem?_range z,M0 z];show some (V.int (b[m]?.getD (0,none)).1)=_;rw [M0 z];rfl
   ·rw [T3 (by rw [k5];omega),T3 (by omega)];rfl
  subst f;have u3:=B.trans (s3.trans (Same.upd (o:=.lst ((b.map (·.1)).map V.int)) a1));have Y:upd Z u (.lst ((b.map (·.1)).map V.int)) u=some (.lst ((b.map (·.1)).map V.int)):=z02;generalize upd Z u (.lst ((b.map (·.1)).map V.int))=H4 at u3 Y⊢;refine ⟨u,_,rfl,SqL.of Y,λ z=>a3 (List.map_eq_nil_iff.mp z),λ g G C=>g_name ?_⟩;have fin :∀(p:Addr) n,Same H4 n->ZtV n (zOf x M g) (.ref p)->Q (.ref p) n:=λ p n U z=>q p M g n (u3.trans U) ⟨d,j⟩ ⟨G,C⟩ z;refine sq_if ⟨_,rfl,_,rfl,_,_,rfl,rfl,_,rfl,ite2 (λ z=>?_) λ z=>t_nx ?_⟩
  ·have z:=of_decide_eq_true z;refine ⟨_,rfl,_,rfl,_,rfl,w_4,λ p F=>fin p _ (Same.upd F) ⟨p,rfl,?_⟩⟩;unfold zOf;rw [if_pos z];exact z02
  ·have z:¬ M < g:=λ y=>z (decide_eq_true y);refine ⟨_,rfl,_,rfl,_,rfl,w_4,λ p F=>fin p _ (Same.upd F) ⟨p,rfl,?_⟩⟩;unfold zOf;rw [if_neg z];exact z02
theorem slSeqK {X:Cx} {K:c0} (hK:X.K=K):SlR X (λ x lo hi H Q=>rSlL K x lo hi H Q\/rSlT K x lo hi H Q\/rSlS x lo hi H Q):=hK ▸ slSeq
theorem zew {K:c0} {tl te:TE} {tc:TT} {g:TG} {m:Nat} {fr:List (Nat×Str)} {σ:L2.St} {H:Hp} {Q:VK} (h:tl σ H λ x H1=>tCompG (iList K λ _ _ R=>R x H1) m fr g tc te σ H1 Q):tCompG (iList K tl) m fr g tc te σ H Q:=h
noncomputable def lamP:Pos:=⟨157,29,157,49⟩
noncomputable def lamQ:Str:=(("zones" : Str)++".<locals>.")++"<lambda>"
abbrev LamH:Hp->Prop:=LamT tbT lamP lamQ
theorem LamH.same {H H':Hp} (s:Same H H') (h:LamH H):LamH H':=by
 rcases h with z|⟨c',z,y⟩
 ·exact .inl (s _ _ z)
 ·exact .inr ⟨c',s _ _ z,s _ _ y⟩
noncomputable def rdsF (rs:List Rc) (x:Int):List Rc:=(rs.filter isRE).filter λ r=>decide (intV r.a=x)
noncomputable def spR (r:Rc):Int×Option Int:=((r.b:Int),r.e.map λ n=>(n:Int))
noncomputable def spans (rs:List Rc) (t:Ent):List (Int×Option Int):=(t.b,t.e) :: (rdsF rs t.x).map spR
noncomputable def cntB (rs:List Rc) (t:Ent):Bool:=decide ((spans rs t).filterMap (·.2)≠[])
def ZnR (rs:List Rc) (t:Ent) (z:Zt):Prop:=∃l g,MinI l ((spans rs t).filterMap (·.2))/\MaxI g ((spans rs t).map (·.1))/\z=zOf t.x l g
def ZonS (rs:List Rc) (zl:List Zt):Prop:=∃zl0,All2 (ZnR rs) ((ents rs).filter (cntB rs)) zl0/\zl.Perm zl0/\zl.Pairwise λ z z'=>z.lo<=z'.lo
theorem z4x {α β γ:Type} {f:α->β} {R:β->γ->Prop} :∀{xs:List α} {ys:List γ},All2 (λ x y=>R (f x) y) xs ys->All2 R (xs.map f) ys
 | _,_,.nil=>.nil
 | _,_,.cons a r=>.cons a (z4x r)
def RdN (K:c0) (H:Hp) (r:Rc) (y:V):Prop:=∃(p:Addr) (i:Int) (z:V),y=.ref p/\H p=some (.tup [.int i,z])/\RcAt K H r z
theorem rdn_of {K:c0} {H:Hp} {rs:List Rc} {zs ws:List V} (a:All2 (RcAt K H) rs zs) (h:All2 (NumAt H zs) ((Z1 rs.length).filter λ i=>isRE (rs[i]?.getD r00)) ws):All2 (RdN K H) (rs.filter isRE) ws:=by have e:=z0y isRE id r00 rs;rw [List.map_id] at e;rw [<-e];refine z4x (z01 (λ i y z=>?_) h);obtain ⟨p,v,rfl,b,c⟩:=z;obtain ⟨r,d,q⟩:=z09 a c;exact ⟨p,i,v,rfl,b,by rw [d];exact q⟩
theorem key_zt {H:Hp} {zl:List Zt} {ys out:List V} (a:All2 (ZtV H) zl ys) (k:KeyOut (zl.map (·.lo)) ys out) :∃zl',zl'.Perm zl/\zl'.Pairwise (λ z z'=>z.lo<=z'.lo)/\All2 (ZtV H) zl' out:=by
 obtain ⟨n,d,rfl,f⟩:=k;have e:(zl.map (·.lo)).zip ys=(zl.zip ys).map λ p=>(p.1.lo,p.2):=by rw [List.zip_map_left];exact J7 λ p _=>rfl
 obtain ⟨b,g,rfl⟩:=z7o d _ e;have m :∀{zl:List Zt} {ys:List V},All2 (ZtV H) zl ys->(∀q∈zl.zip ys,ZtV H q.1 q.2)/\(zl.zip ys).map W9=zl:=by
  intro zl ys a;induction a with
  | nil=>exact ⟨λ q c=>absurd c B0,rfl⟩
  | cons a r ih=>
   refine ⟨λ q c=>?_,?_⟩
   ·rcases List.mem_cons.mp c with rfl|c
    ·exact a
    ·exact ih.1 q c
   ·show _ :: (List.zip _ _).map W9=_;rw [ih.2]
 obtain ⟨l,j⟩:=m a;refine ⟨b.map W9,?_,?_,?_⟩
 ·rw [<-j];exact g.map _
 ·rw [j5] at f⊢;exact f
 ·rw [g3];have i :∀b:List (Zt×V),(∀q∈b,ZtV H q.1 q.2)->All2 (ZtV H) (b.map W9) (b.map (Prod.snd ∘ λ p=>(p.1.lo,p.2))):=by
   intro b;induction b with
   | nil=>exact λ _=>.nil
   | cons q b ih=>exact λ h=>.cons (h q (.head _)) (ih λ p d=>h p (.tail _ d))
  exact i b λ q c=>l q (g.mem_iff.mp c)
theorem sp_ne {rs:List Rc} {t:Ent} (h:rdsF rs t.x≠[]):(spans rs t).filterMap (·.2)≠[]:=by
 obtain ⟨r,d,e⟩:=List.exists_cons_of_ne_nil h;have b:r∈rdsF rs t.x:=by rw [e];exact .head _
 have a:=(List.mem_filter.mp (List.mem_filter.mp b).1).2;unfold isRE at a;rw [K4] at a;obtain ⟨k,c⟩:=Option.isSome_iff_exists.mp a.2;refine List.ne_nil_of_mem (List.mem_filterMap.mpr ⟨spR r,.tail _ (List.mem_map.mpr ⟨r,b,rfl⟩),(?_:_=some (k:Int))⟩);unfold spR;rw [c];rfl
theorem SameB.tups {T:Addr} {K:c0} {H H':Hp} (s:SameB T H H') (h :∃ps,H T=some (.tbl ps)):Tups K H H':=λ a b e=>by
 obtain ⟨ps,z⟩:=h;rcases e with (e|⟨o,e⟩)|e
 ·exact .inl (.inl (s _ _ (λ q=>by rw [q,z] at e;cases e) e))
 ·exact .inl (.inr ⟨o,s _ _ (λ q=>by rw [q,z] at e;cases e) e⟩)
 ·exact .inr e
theorem SameB.of {T:Addr} {H H':Hp} (s:Same H H'):SameB T H H':=λ b o _ e=>s b o e
theorem SameB.trans {T:Addr} {H H1 H2:Hp} (s:SameB T H H1) (r:SameB T H1 H2):SameB T H H2:=λ b o n e=>r b o n (s b o n e)
theorem ZtV.sb {H H':Hp} {z:Zt} {y:V} (s:SameB tbT H H') (h :∃ps,H tbT=some (.tbl ps)) (e:ZtV H z y):ZtV H' z y:=by obtain ⟨ps,b⟩:=h;obtain ⟨p,rfl,a⟩:=e;exact ⟨p,rfl,s _ _ (λ q=>by rw [q,b] at a;cases a) a⟩
def zas (K:c0):Sp:=λ vs H Q _=>∃t nm wr es ys,vs=[.ref t]/\TalR K H t nm wr es ys/\LamH H/\∀D out zl H',SameB tbT H H'->LamH H'->H D=none->H' D=some (.lst out)->ZonS (dAll 0 [] es) zl->All2 (ZtV H') zl out->Q (.ref D) H'
theorem zea (T:TX (kx w) mg) (B:BtMain base mg) (c0:Ca P w mg base "plain_deeds" ["tale"] 4 (z21 (kx w))) (c1:Ca P w mg base "writers" ["told"] 1 (z5i (kx w))) (c2:Ca P w mg base "ended_reads" ["told"] 1 (z1x (kx w))) (c3:Ca P w mg base "zone_of" ["worth","spans"] 1 (z2z (kx w))):Fo P w mg base CX0 6 283 y1k ["tale"] (zas (kx w)):=by
 refine (zax w.params).okC (c:=cdT) rfl sc_zones (λ vs H Q E h=>?_) (λ A f6 s H vs Q E J h=>?_)
 ·obtain ⟨t,nm,S,es,ys,rfl,_⟩:=h;rfl
 ·obtain ⟨t,nm,S,es,ys,rfl,ta,lm,q⟩:=h;refine ⟨_,(z05 (ps_set (i:=1) sc_zones.nd rfl (N1 rfl) (pe_cal c0 (J.mono (by decide)) rfl (z00 (pv 0) pa_nil)))
   (z05 (ps_set (i:=2) sc_zones.nd rfl (N1 rfl) (pe_lst pa_nil))
   (z05 (ps_for g4 rfl (zdt (pe_cal c1 (J.mono (by decide)) rfl (z00 (pv 1) pa_nil))) (pg_tup rfl (z0k (z11 (i:=3) sc_zones.nd rfl (G1 rfl)) (z0k (z11 (i:=4) sc_zones.nd rfl (N1 rfl)) z2j)))
   (z05 (ps_set (i:=5) sc_zones.nd rfl (N1 rfl) (pe_op opAdd (pe_lst (z00 (pv 4) pa_nil)) (pe_cg (xs:=["number","read"]) (g:=gTup (kx w) 2 (gCons (gName 0) (gCons (gName 1) gNil))) (fr:=[(3,"worth")]) (z0n (pe_cal c2 (J.mono (by decide)) rfl (z00 (pv 1) pa_nil))) (λ _ _ _ _ _=>(pg_tup rfl (z0k (pg_cn (N:=["number","read","worth"]) 0) (z0k (pg_cn (N:=["number","read","worth"]) 1) z2j)))) (λ _ _ _ _ _=>(pf_one (z0a opEq (pe_ix (z0q (K:=KX w.params) rfl) (pv 1) pe_int (λ _ _=>rfl)) (pv 2) (nomark _)))) (λ _ _ _ _ _=>(z3j (slSeqK (K:=KX w.params) rfl) (pv 1) (z3z pe_int) z81)))))
   (z06 (ps_if (PW.pt (pw_or (z0a z45 (pe_ix ix_seq (pv 4) pe_int (λ _ _=>rfl)) pe_non (nomark _)) (pw_or1 (z0a op_gt (z08 z0s rfl (T.no (n_len _)) Q3 (z00 (pv 5) pa_nil)) pe_int (nomark _)))))
   (z06 (z1n (z0z (pv 2) (z00 (pe_cal c3 (J.mono (by decide)) rfl (z00 (pv 3) (z00 (pv 5) pa_nil))) pa_nil))))
   z0g))))
   (z06 (ps_ret (za5 (k:=0) (N:=["zone"]) (px:="zone") B rfl (ck_T _) (J.mono (by decide)) rfl (T.no (z6u _)) (z00 (pv 2) pa_nil) ⟨rfl,rfl,rfl,by decide +kernel,rfl,by decide +kernel,by decide +kernel⟩ (λ _ _ _ _=>rfl) (λ _ _ _ _=>(pe_ix (z0q (K:=KX w.params) rfl) (pv 0) pe_int (λ _ _=>rfl))))))))),?_⟩
  refine z0b ⟨_,rfl,t,nm,S,es,ys,rfl,ta,λ l zs H1 s1 tl=>g_name ?_⟩;have nd:=ta.tw.nd;have b7:(dAll 0 [] es).length<=62:=G0 z6w (by simpa using ta.ln);have n0:=ta.tw.n0;generalize dAll 0 [] es=rs at tl nd n0 q b7;refine z0b ⟨w_0,λ F a9=>g_name ?_⟩;have u2:=s1.trans (Same.upd (o:=.lst []) a9);have ef:upd H1 F (.lst []) F=some (.lst []):=z02;have a0:=tl.same (Same.upd (o:=.lst []) a9);have nf:H F=none:=s1.free a9;have nl:l≠F:=λ z=>by have:=tl.l;rw [z,a9] at this;cases this
  generalize upd H1 F (.lst [])=H2 at u2 ef a0⊢;have f4:=a0.n;have le:=z4g rs;have f8:rs.length<=62:=b7;refine ⟨_,rfl,l,zs,rs,S,rfl,a0,nd,n0,λ d G U s3 b3 ed wk=>⟨d,G,rfl,ed,λ L=>?_⟩⟩;have e8:H d=none:=u2.free b3;have e5:F≠d:=λ z=>by rw [z,b3] at ef;cases ef
  have u4:Same H (upd U d (.frz L (.dK G))):=Same.keep (u2.trans s3) e8;have b6:=a0.same (Same.keep (o:=.frz L (.dK G)) s3 b3);have d1:All2 (EntAt (kx w) (upd U d (.frz L (.dK G)))) (ents rs) G:=z01 (λ _ _ z=>z.tups (Tups.dict ed)) wk;have b5:upd U d (.frz L (.dK G)) F=some (.lst []):=by rw [upd_ne e5];exact s3 _ _ ef
  have c6:upd U d (.frz L (.dK G)) d=some (.frz L (.dK G)):=z02;have lk:=z03 wk;generalize upd U d (.frz L (.dK G))=H4 at u4 b6 d1 b5 c6⊢;clear wk a0 ed s3 ef u2 tl;refine zbu (λ i σ u=>Same H u/\u d=some (.frz L (.dK G))/\ToldAt (kx w) u l S rs zs/\All2 (EntAt (kx w) u) (ents rs) G/\(∃fs zl,u F=some (.lst fs)/\All2 (ZtV u) zl fs/\All2 (ZnR rs) (((ents rs).take i).filter (cntB rs)) zl)/\∃x3 x4 x5,σ=[some (.ref t),some (.ref l),some (.ref F),x3,x4,x5]) ⟨u4,c6,b6,d1,⟨[],[],b5,.nil,.nil⟩,_,_,_,rfl⟩ (λ i σ u h=>h.2.1) ?_ ?_
  ·rintro i k v σ H5 p hk ⟨u5,ed5,tl5,wk5,⟨fs,zl,ef5,az,an⟩,x3,x4,x5,rfl⟩ hp;obtain ⟨f,b9,e1,C,e2,sw⟩:=z09 wk5 hk;have e1:k=.inl f.x:=e1;have e2:v=.ref C:=e2;subst e1 e2;have hi:=z50 b9;have u6:=Same.upd (o:=.tup [kV (.inl f.x),.ref C]) hp;have e6:upd H5 p (.tup [kV (.inl f.x),.ref C]) p=some (.tup [.int f.x,.ref C]):=z02;generalize upd H5 p (.tup [kV (.inl f.x),.ref C])=H6 at u6 e6⊢;refine ⟨p,_,rfl,SqT.of e6,rfl,_,_,rfl,_,_,rfl,rfl,?_⟩;refine z0b ⟨_,rfl,w_1,λ l0 f2=>?_⟩;have u7:=u6.trans (Same.upd (o:=.lst [.ref C]) f2);have e7:upd H6 l0 (.lst [.ref C]) l0=some (.lst [.ref C]):=z02;generalize upd H6 l0 (.lst [.ref C])=H7 at u7 e7⊢;have c8:=tl5.same u7;refine zew ⟨_,rfl,l,zs,rs,S,rfl,c8,λ la ws H8 s8 e3 aw=>?_⟩;have aw:=rdn_of (c8.same s8).a aw;have lw:=z03 aw;have f5:(rs.filter isRE).length<=rs.length:=Z0 _ _;refine z0m (K:=KX w.params) (a:=la) (xs:=ws) (H1:=H8) (λ j=>((rs.filter isRE)[j]?.map λ r=>decide (intV r.a=f.x)).getD false) (λ j y u=>∀r,(rs.filter isRE)[j]? = some r->SpV (kx w) u (spR r) y) (λ _ _ _ _ s z r J=>(z r J).elim λ p e=>⟨p,e.1,s.seqT e.2⟩) (λ R h=>h) (SqL.of e3) (G0 (m:=63) (by omega) (by decide)) (λ j hj v H9 s9 hv KT KF Z X=>?_) λ l1 H9 I s9 c5 Y=>?_
   ·obtain ⟨r,J,p',i',z,rfl,d6,O,rfl,a2⟩:=z09 aw hv;have hm:=List.mem_filter.mp (x0 J);have ra:r.a=.int (intV r.a):=by
     have a4:=hm.2;unfold isRE at a4;rw [K4] at a4;obtain ⟨e,he⟩:=Option.isSome_iff_exists.mp a4.2;rcases tl5.g r hm.1 with g|g
     ·exact g.2.2 e he
     ·exact absurd ((of_decide_eq_true a4.1).symm.trans g.1) z1c
    rw [J] at Z X;have a2:=s9.seqT a2;refine ⟨p',_,rfl,SqT.of (s9 _ _ d6),rfl,_,_,rfl,_,_,rfl,rfl,[some (.int i'),some (.ref O)],rfl,rfl,?_⟩;refine ⟨_,rfl,.inr (.inl ⟨O,_,4,.int (intV r.a),rfl,rfl,a2,by rw [<-ra];exact z04 (j:=4) rfl,_,rfl,rfl,_,rfl,?_⟩)⟩;refine ite2 (λ z=>?_) λ z=>X (decide_eq_false λ y=>z (decide_eq_true (by rw [y]))) _ (Same.refl _);have z:=of_decide_eq_true z;injection z with z;refine ⟨_,rfl,5,rfl,.inr (.inl ⟨O,_,rfl,a2,λ z=>absurd z.1 (show ¬ HT.sIx 7 0 (some 5)=0 by decide),λ p1 d7=>?_⟩)⟩;refine Z (decide_eq_true z) _ _ (Same.upd d7) λ r' e0=>?_;cases e0;refine ⟨p1,rfl,?_⟩;show SqT _ _ _ [.int (r.b:Int),endO (r.e.map λ n=>(n:Int))];rw [<-endV_O];exact SqT.of z02
   rw [lw] at Y;have Y:=z3i (q:=λ r:Rc=>decide (intV r.a=f.x)) _ (A0 _) Y;rw [K3] at Y;have f7:=z03 Y;have f3:((rs.filter isRE).filter λ r=>decide (intV r.a=f.x)).length<=(rs.filter isRE).length:=Z0 _ _;have u9:=s8.trans (s9.trans (Same.upd (o:=.lst I) c5));have e9:upd H9 l1 (.lst I) l1=some (.lst I):=z02;have a5:All2 (λ r y=>SpV (kx w) (upd H9 l1 (.lst I)) (spR r) y) (rdsF rs f.x) I:=z01 (λ _ _ z=>z.elim λ p e=>⟨p,e.1,(Same.upd (o:=.lst I) c5).seqT e.2⟩) Y;generalize upd H9 l1 (.lst I)=H10 at u9 e9 a5⊢;refine .inr (.inr (.inl ⟨l0,l1,_,_,rfl,rfl,u9 _ _ e7,e9,G0 (m:=64) (by show 1 + I.length<=64;omega) (by decide),λ W d8=>g_name ?_⟩));have d3:=Same.upd (o:=.lst ([.ref C]++I)) d8;have M:=(u7.trans u9).trans d3;have b0:upd H10 W (.lst ([.ref C]++I)) W=some (.lst (.ref C :: I)):=z02;have c4:All2 (SpV (kx w) (upd H10 W (.lst ([.ref C]++I)))) (spans rs f) (.ref C :: I):=.cons ⟨C,rfl,M.seqT sw⟩ (z4x (z01 (λ _ _ z=>z.elim λ p e=>⟨p,e.1,d3.seqT e.2⟩) a5));generalize upd H10 W (.lst ([.ref C]++I))=H11 at M b0 c4⊢;have a6:=M _ _ ef5;have c7:(ents rs).take (i + 1)=(ents rs).take i++[f]:=by rw [Y5,b9];rfl
   have skip:¬ (spans rs f).filterMap (·.2)≠[]->Same H H11/\H11 d=some (.frz L (.dK G))/\ToldAt (kx w) H11 l S rs zs/\All2 (EntAt (kx w) H11) (ents rs) G/\∃fs zl,H11 F=some (.lst fs)/\All2 (ZtV H11) zl fs/\All2 (ZnR rs) (((ents rs).take (i + 1)).filter (cntB rs)) zl:=λ z=>by refine ⟨u5.trans M,M _ _ ed5,tl5.same M,z01 (λ _ _ z=>z.tups (Tups.of M)) wk5,fs,zl,a6,z01 (λ _ _ z=>z.same M) az,?_⟩;rw [c7,C2,U1 (by unfold cntB;rw [decide_eq_false z];decide),W4,O2];exact an
   have go:(spans rs f).filterMap (·.2)≠[]->∀{N:Hp->Prop},(∀u,(Same H u/\u d=some (.frz L (.dK G))/\ToldAt (kx w) u l S rs zs/\All2 (EntAt (kx w) u) (ents rs) G/\∃fs zl,u F=some (.lst fs)/\All2 (ZtV u) zl fs/\All2 (ZnR rs) (((ents rs).take (i + 1)).filter (cntB rs)) zl)->N u)->z2z (kx w) [.int f.x,.ref W] H11 (λ y H2=>zar (.ref F) [y] H2 λ _ U=>N U) E0:=λ a8 N hN=>by
    refine ⟨f.x,W,_,spans rs f,rfl,b0,c4,by show (((rs.filter isRE).filter λ r=>decide (intV r.a=f.x)).map spR).length + 1<=100;rw [D0];omega,a8,g8 _ _,λ O lo g a3 b8 Z X hz=>?_⟩;have b1:=b8 _ _ a6;have e4:=z03 an;have c9:=z03 az;have f0:(((ents rs).take i).filter (cntB rs)).length<=((ents rs).take i).length:=Z0 _ _;rw [j3] at f0;refine ⟨F,_,_,rfl,rfl,b1,U0 (m:=100) (by omega) (by decide),hN _ ?_⟩;have a1:=M.trans b8;have d4:Tups (kx w) a3 (upd a3 F (.lst (fs++[.ref O]))):=Tups.lst b1;have zt :∀{z:Zt} {y:V},ZtV a3 z y->ZtV (upd a3 F (.lst (fs++[.ref O]))) z y:=λ ⟨p,e,ep⟩=>⟨p,e,by rw [upd_ne (ne_of ep b1 (by intro z;cases z))];exact ep⟩
    have a7:=tl5.same a1;refine ⟨Same.keep (u5.trans a1) nf,by rw [upd_ne (λ z=>by rw [z] at ed5;rw [ef5] at ed5;cases ed5)];exact a1 _ _ ed5,⟨by rw [upd_ne nl];exact a7.l,z01 (λ _ _ z=>RcAt.tups d4 z) a7.a,a7.g,a7.n⟩,z01 (λ _ _ z=>z.tups λ c xs e=>d4 _ _ (a1.seqT e)) wk5,fs++[.ref O],zl++[zOf f.x lo g],z02,z0l (z01 (λ _ _ z=>zt (z.same a1)) az) (zt hz),?_⟩;rw [c7,C2,R1 (by unfold cntB;exact decide_eq_true a8)];exact z0l an ⟨lo,g,Z,X,rfl⟩
   refine z0u (t_or ⟨_,rfl,.inr (.inl ⟨C,_,1,endO f.e,rfl,rfl,M.seqT sw,z04 (j:=1) rfl,rfl,_,rfl,?_⟩)⟩);cases he:f.e with
   | some e=>exact iteP (by simp [endO]) (iteT ⟨_,rfl,.inl ⟨rfl,_,SqL.of a6⟩,_,rfl,_,rfl,go (by unfold spans;rw [he];exact g8 _ _) λ u h=>⟨h.1,h.2.1,h.2.2.1,h.2.2.2.1,h.2.2.2.2,_,_,_,rfl⟩⟩)
   | none=>
    refine iteN (by decide) ⟨_,rfl,.inl ⟨W,_,rfl,.inl (SqL.of b0),_,_,rfl,rfl,_,rfl,ite2 (λ z=>?_) λ z=>?_⟩⟩
    ·have z:=of_decide_eq_true z;rw [v1] at z;have a8:rdsF rs f.x≠[]:=λ y=>by have:=z03 a5;rw [y] at this;rw [this] at z;exact absurd z (by decide)
     exact ⟨_,rfl,.inl ⟨rfl,_,SqL.of a6⟩,_,rfl,_,rfl,go (sp_ne a8) λ u h=>⟨h.1,h.2.1,h.2.2.1,h.2.2.2.1,h.2.2.2.2,_,_,_,rfl⟩⟩
    ·have d9:rdsF rs f.x=[]:=by
      cases y:rdsF rs f.x with
      | nil=>rfl
      | cons r rr=>exfalso;have:=z03 a5;rw [y,v1] at this;refine z (decide_eq_true ?_);rw [v1];omega
     have h:=skip (λ y=>y (by unfold spans;rw [d9,he];rfl));exact ⟨h.1,h.2.1,h.2.2.1,h.2.2.2.1,h.2.2.2.2,_,_,_,rfl⟩
  rintro σ H5 ⟨u5,ed5,tl5,wk5,⟨fs,zl,ef5,az,an⟩,x3,x4,x5,rfl⟩;rw [lk,K3] at an;have c9:=z03 az;have e4:=z03 an;have f9:((ents rs).filter (cntB rs)).length<=(ents rs).length:=Z0 _ _;have b2:=LamH.same u5 lm;refine ⟨_,rfl,F,fs,zl.map (·.lo),rfl,SqL.of ef5,by rw [D0];exact c9.symm,by omega,b2,λ H7 sb d0=>⟨λ i y k hy hk=>?_,λ D d2 hD ko=>?_⟩⟩
  ·obtain ⟨z,hz,p,rfl,ep⟩:=z09 az hy;rw [S0,hz] at hk;cases hk;have b4:ZtV H7 z (.ref p):=ZtV.sb sb b2.tb ⟨p,rfl,ep⟩;obtain ⟨p',e',b4⟩:=b4;cases e';exact ⟨_,rfl,.inr (.inl ⟨p,_,1,_,rfl,rfl,SqT.of b4,z04 (j:=1) rfl,rfl,rfl⟩)⟩
  ·obtain ⟨f1,Z,X,h3⟩:=key_zt (z01 (λ _ _ z=>ZtV.sb sb b2.tb z) az) ko;have d5:H D=none:=by
    cases y:H D with
    | none=>rfl
    | some o=>
     exfalso;by_cases z:D=tbT
     ·obtain ⟨ps,e⟩:=d0.tb;rw [z,e] at hD;cases hD
     ·rw [sb _ _ z (u5 _ _ y)] at hD;cases hD
   have v8:=Same.upd (o:=.lst d2) hD;exact q D d2 f1 _ (SameB.trans (SameB.of u5) (SameB.trans sb (SameB.of v8))) (LamH.same v8 d0) d5 z02 ⟨zl,an,Z,X⟩ (z01 (λ _ _ z=>z.same v8) h3)
theorem t_and {t u:TT} {σ:L2.St} {H:Hp} {Q:Bool->Hp->Prop} (h:t σ H λ c H1=>if c=true then u σ H1 Q else Q false H1):tAnd t u σ H Q:=h
def z1m (K:c0):Sp:=λ vs H Q _=>∃(a:Addr) (ns:List Int) (k:Nat),vs=[.ref a,.int (k:Nat)]/\SqL K H a (ns.map V.int)/\∀i,Q (.int i) H
theorem z3n (T:TX (kx w) mg):Fo P w mg base CX0 1 295 y01 ["script","k"] (z1m (kx w)):=by
 refine (z12 w.params).ok z3o (λ d H Q E h=>?_) (λ f A g s H d Q E i h=>?_)
 ·obtain ⟨a,b,k,rfl,_⟩:=h;rfl
 ·obtain ⟨a,b,k,rfl,c,q⟩:=h;refine ⟨_,(z05 (ps_if (z0a op_lt (pv 1) (z08 z0s rfl (T.no (n_len _)) Q3 (z00 (pv 0) pa_nil)) (nomark _))
   (z06 (ps_ret (pe_ix ix_seq (pv 0) (pv 1) (λ _ _=>rfl))))
   z0g)
   (z06 (ps_ret pe_int))),?_⟩
  refine sq_if ?_;refine ⟨_,rfl,_,rfl,.inl ⟨a,_,rfl,.inl c,_,_,rfl,rfl,_,rfl,?_⟩⟩;by_cases z:k < b.length
  ·refine iteP (decide_eq_true (by rw [D0];omega)) ?_;refine ⟨_,rfl,_,rfl,.inl ⟨a,_,k,.int b[k],rfl,rfl,c,z04 (by rw [S0,M0 z];rfl),q _⟩⟩
  ·exact iteN (λ e=>z (by have:=of_decide_eq_true e;rw [D0] at this;omega)) (t_nx (sq_ret (q 0)))
def DkAt (H:Hp) (r:Addr):Prop:=∃a b c:Int,H r=some (.lst [.int a,.int b,.int c])/\0<=c/\c < 2147483587
structure Dk (r:Addr) (H H':Hp):Prop where
 k:Kept r H H'
 d:DkAt H' r
theorem Same.kp {H0 H H':Hp} {r:Addr} (s:Same H0 H) (n:H0 r=none) (k:Kept r H H'):Same H0 H':=λ b o e=>k b o (λ z=>by rw [z,n] at e;cases e) (s b o e)
theorem DkAt.same {H H':Hp} {r:Addr} (s:Same H H') (h:DkAt H r):DkAt H' r:=by obtain ⟨a,b,c,e,h⟩:=h;exact ⟨a,b,c,s _ _ e,h⟩
def z41:Sp:=λ vs H Q _=>∃c:Int,vs=[.int c]/\∀r o,H r=none->DkAt (upd H r o) r->Q (.ref r) (upd H r o)
theorem z8s (T:TX (kx w) mg):Fo P w mg base CX0 1 302 y0o ["cell"] z41:=by
 refine (z30 w.params).ok z8g (λ b H Q E h=>?_) (λ d A e s H b Q E a h=>?_)
 ·obtain ⟨c,rfl,_⟩:=h;rfl
 ·obtain ⟨c,rfl,q⟩:=h;refine ⟨_,(z06 (ps_ret (pe_lst (z00 (pe_op z7b (pv 0) pe_int) (z00 (pe_op op_mod (pv 0) pe_int) (z00 (pe_op op_mod (pv 0) pe_int) pa_nil)))))),?_⟩;refine ⟨_,rfl,_,_,rfl,rfl,(show CDivB c 2 from ⟨by decide,by decide⟩),_,rfl,_,_,rfl,rfl,(show (0:Int) < 2 by decide),_,rfl,_,_,rfl,rfl,(show (0:Int) < 2147483587 by decide),w_3,λ r a=>?_⟩;exact q r _ a ⟨_,_,_,z02,d7 _ (by decide),k6 _ (by decide)⟩
def z0v:Sp:=λ vs H Q _=>∃(r:Addr) (m:Int),vs=[.ref r,.int m]/\DkAt H r/\0 < m/\m < 2 ^ 64/\∀t H',Dk r H H'->0<=t->t < m->Q (.int t) H'
theorem z76 (T:TX (kx w) mg):Fo P w mg base CX0 1 309 y0g ["row","many"] z0v:=by
 refine (z28 w.params).ok sc__law_take (λ t H Q E h=>?_) (λ x A y s H t Q E v h=>?_)
 ·obtain ⟨r,m,rfl,_⟩:=h;rfl
 ·obtain ⟨r,m,rfl,⟨a,b,c,e,u,o⟩,f,p,q⟩:=h;refine ⟨_,(z05 (ps_if (PW.pt (pw_and (z0a opEq (pe_ix ix_seq (pv 0) pe_int (λ _ _=>rfl)) pe_int (nomark _)) (z2x (z0a opNe (pe_ix ix_seq (pv 0) pe_int (λ _ _=>rfl)) pe_int (nomark _)))))
   (z05 (ps_set (i:=2) sc__law_take.nd rfl (N1 rfl) (pe_op op_mod (pe_ix ix_seq (pv 0) pe_int (λ _ _=>rfl)) (pv 1)))
   (z05 (ps_asg (pe_op z7b (pe_ix ix_seq (pv 0) pe_int (λ _ _=>rfl)) (pv 1)) (pg_sub (pv 0) pe_int z1s))
   (z06 (ps_ret (pv 2)))))
   z0g)
   (z05 (ps_asg (pe_op op_mod (pe_op opAdd (pe_op opAdd (pe_op op_mul (pe_ix ix_seq (pv 0) pe_int (λ _ _=>rfl)) (pe_ix ix_seq (pv 0) pe_int (λ _ _=>rfl))) (pe_op op_mul pe_int (pe_ix ix_seq (pv 0) pe_int (λ _ _=>rfl)))) pe_int) pe_int) (pg_sub (pv 0) pe_int z1s))
   (z06 (ps_ret (pe_op op_mod (pe_op z7b (pe_ix ix_seq (pv 0) pe_int (λ _ _=>rfl)) pe_int) (pv 1)))))),?_⟩
  have d:SqL (kx w) H r [.int a,.int b,.int c]:=SqL.of e;refine z5y (λ l j=>j=H/\l=[some (.ref r),some (.int m),none]) ?_ λ g=>?_
  ·rintro σ z ⟨rfl,rfl⟩;have k:0<=(c * c + 69621 * c + 12345) % 2147483587:=d7 _ (by decide);have n:(c * c + 69621 * c + 12345) % 2147483587 < 2147483587:=k6 _ (by decide);refine z0b ⟨_,rfl,.inl ⟨r,_,2,.int c,rfl,rfl,d,rfl,_,rfl,.inl ⟨r,_,2,.int c,rfl,rfl,d,rfl,_,_,rfl,rfl,.inl ⟨by omega,by omega⟩,_,rfl,.inl ⟨r,_,2,.int c,rfl,rfl,d,rfl,_,_,rfl,rfl,.inl ⟨by decide,by decide⟩,.inl ⟨_,_,rfl,rfl,.inl ⟨_,_,rfl,rfl,_,_,rfl,rfl,(show (0:Int) < 2147483587 by decide),?_⟩⟩⟩⟩⟩⟩;refine ⟨_,rfl,r,_,2,2,rfl,rfl,e,rfl,?_⟩;refine ⟨_,rfl,.inl ⟨r,_,2,.int _,rfl,rfl,SqL.of z02,rfl,?_⟩⟩;refine ⟨_,_,rfl,rfl,(show CDivB _ 8 from ⟨by decide,by decide⟩),_,rfl,_,_,rfl,rfl,f,?_⟩;exact q _ _ ⟨.set,a,b,_,z02,k,n⟩ (d7 _ (by omega)) (k6 _ f)
  ·refine z0u (t_and ⟨_,rfl,.inl ⟨r,_,1,.int b,rfl,rfl,d,rfl,rfl,_,rfl,?_⟩⟩);refine ite2 (λ _=>?_) λ _=>iteF (g _ _ ⟨rfl,rfl⟩);refine ⟨_,rfl,.inl ⟨r,_,0,.int a,rfl,rfl,d,rfl,rfl,_,rfl,ite2 (λ _=>?_) λ _=>g _ _ ⟨rfl,rfl⟩⟩⟩;refine z0b ⟨_,rfl,.inl ⟨r,_,0,.int a,rfl,rfl,d,rfl,_,rfl,_,_,rfl,rfl,f,g_name ?_⟩⟩;refine z0b ⟨_,rfl,.inl ⟨r,_,0,.int a,rfl,rfl,d,rfl,_,rfl,_,_,rfl,rfl,⟨f,p⟩,?_⟩⟩;refine ⟨_,rfl,r,_,0,0,rfl,rfl,e,rfl,?_⟩;exact ⟨_,rfl,q _ _ ⟨.set,_,_,c,z02,u,o⟩ (d7 _ (by omega)) (k6 _ f)⟩
theorem p12:CPow 10 12:=⟨by decide,by decide,by decide⟩
theorem p12v:(10:Int) ^ (12:Int).toNat=1000000000000:=by decide
def bdI (i:Int):Prop:=-1000000000<=i/\i<=1000000000
def bdA (i:Int):Prop:=-1000000000000<=i/\i<=1000000000000
theorem bdI.a {i:Int} (h:bdI i):bdA i:=⟨by have:=h.1;omega,by have:=h.2;omega⟩
def RowR (H:Hp) (r:Rc) (y:V):Prop:=∃p late,y=.ref p/\H p=some (.lst [.int r.h,r.v,r.x,r.a,.int r.b,endV r.e,.int late])/\bdI late
theorem RowR.same {H H':Hp} {r:Rc} {y:V} (s:Same H H') (h:RowR H r y):RowR H' r y:=by obtain ⟨p,c,d,a,b⟩:=h;exact ⟨p,c,d,s _ _ a,b⟩
structure RwsA (H:Hp) (lr:Addr) (rs:List Rc) (zs:List V):Prop where
 l:H lr=some (.lst zs)
 a:All2 (RowR H) rs zs
 g :∀r∈rs,RdG r\/WrG 0 r
 x :∀r∈rs,isW r=true->bdI (intV r.x)
 n:rs.length<=24
theorem RwsA.same {H H':Hp} {lr:Addr} {rs:List Rc} {zs:List V} (s:Same H H') (h:RwsA H lr rs zs):RwsA H' lr rs zs:=⟨s _ _ h.l,z01 (λ _ _ z=>z.same s) h.a,h.g,h.x,h.n⟩
def z1w (K:c0):Sp:=λ vs H Q _=>∃(rw p lr:Addr) (r:Rc) (now:Int) (sp:Bool) (rs:List Rc) (zs:List V) (H0:Hp),vs=[.ref rw,.ref p,.int now,.ref lr,.bl sp]/\Same H0 H/\H0 rw=none/\DkAt H rw/\RowR H0 r (.ref p)/\(RdG r\/WrG 0 r)/\bdI now/\RwsA H0 lr rs zs/\∀a H',Same H0 H'->DkAt H' rw->(isW r=true->a=.str "ok")->(isW r=false->∃i,a=.int i/\bdA i)->Q a H'
theorem z4i (T:TX (kx w) mg) (c0:Ca P w mg base "_law_take" ["row","many"] 1 z0v):Fo P w mg base CX0 2 314 y09 ["row","deed","now","rows","spoilt"] (z1w (kx w)):=by
 refine (z18 w.params).ok sc__law_answer (λ vs H Q E h=>?_) (λ c2 A b8 s H vs Q E hr h=>?_)
 ·obtain ⟨C,p,lr,r,now,sp,D,zs,S,rfl,_⟩:=h;rfl
 ·obtain ⟨C,p,lr,r,now,sp,D,zs,S,rfl,O,n0,dk,rr,g,bn,U,q⟩:=h;refine q_of (z0c (QS.mk (ps_if (z0a opEq (pe_ix ix_seq (pv 1) pe_int (λ _ _=>rfl)) pe_str (nomark _))
   (z06 (ps_ret pe_str))
   z0g))
   (z0c (QS.mk (ps_if (PW.pt (pw_or (pt_not (pt_val (pv 4) (λ _=>rfl))) (pw_or1 (z0a op_gt (pe_cal c0 (hr.mono (by decide)) rfl (z00 (pv 0) (z00 pe_int pa_nil))) pe_int (nomark _)))))
   (z06 (ps_ret (pe_ix ix_seq (pe_lst (z00 (pe_ix ix_seq (pv 1) pe_int (λ _ _=>rfl)) (z00 (pv 2) pa_nil))) (pe_cal c0 (hr.mono (by decide)) rfl (z00 (pv 0) (z00 pe_int pa_nil))) (λ _ _=>rfl))))
   z0g))
   (z0c (qs_set (i:=5) sc__law_answer.nd rfl (N1 rfl) (qe_op opAdd (qe_lst (z1l (QE.mk pe_int) (z1l (QE.mk pe_int) (z1l (QE.mk (pe_op op_pow pe_int pe_int)) (z1l (QE.mk (pe_op op_sub pe_int (pe_op op_pow pe_int pe_int))) qa_nil))))) (QE.mk (pe_cg (xs:=["one"]) (g:=gName 0) (fr:=[]) (z0n (pv 3)) (λ _ _ _ _ _=>(pg_cn (N:=["one"]) 0)) (λ _ _ _ _ _=>(pf_one (z0a opEq (pe_ix (z0q (K:=KX w.params) rfl) (pv 0) pe_int (λ _ _=>rfl)) pe_str (nomark _)))) (λ _ _ _ _ _=>(pe_ix (z0q (K:=KX w.params) rfl) (pv 0) pe_int (λ _ _=>rfl)))))))
   (z2e (QS.mk (ps_ret (pe_ix ix_seq (pv 5) (pe_cal c0 (hr.mono (by decide)) rfl (z00 (pv 0) (z00 (z08 z0s rfl (T.no (n_len _)) Q3 (z00 (pv 5) pa_nil)) pa_nil))) (λ _ _=>rfl)))))))) ?_
  obtain ⟨p',G,e,ep,bl⟩:=rr;cases e;have a9:SqL (kx w) H p _:=SqL.of (O _ _ ep);rcases g with g|g;rotate_left
  ·exact sq_if ⟨_,rfl,.inl ⟨p,_,1,.str "write",rfl,rfl,a9,by rw [g.1];exact z04 (j:=1) rfl,rfl,_,rfl,iteP (by decide +kernel) (q _ _ O dk (λ _=>rfl) λ z=>by rw [g.w] at z;cases z)⟩⟩
  refine sq_if ⟨_,rfl,.inl ⟨p,_,1,.str "read",rfl,rfl,a9,by rw [g.1];exact z04 (j:=1) rfl,rfl,_,rfl,iteK (t_nx ?_)⟩⟩;have done :∀i B,bdA i->Same S B->DkAt B C->Q (.int i) B:=λ i B b Z d=>q _ _ Z d (λ z=>by rw [g.w] at z;cases z) λ _=>⟨i,rfl,b⟩
  have b6 :∀(l:Addr) (t:Int) B,0<=t->t < 2->B l=some (.lst [.int G,.int now])->Same S B->DkAt B C->rIx (kx w) (.ref l) (.int t) B Q:=λ l t B t0 Y el Z d=>by
   rcases (show t=0\/t=1 by omega) with rfl|rfl
   ·exact .inl ⟨l,_,0,.int G,rfl,rfl,SqL.of el,z04 (j:=0) rfl,done _ _ bl.a Z d⟩
   ·exact .inl ⟨l,_,1,.int now,rfl,rfl,SqL.of el,z04 (j:=1) rfl,done _ _ bn.a Z d⟩
  have a6 :∀H1,Same S H1->DkAt H1 C->∀l,H1 l=none->z0v [.ref C,.int 2] (upd H1 l (.lst [.int G,.int now])) (λ y M=>rIx (kx w) (.ref l) y M Q) E0:=λ H1 I d1 l J=>by
   have u:=Same.upd (o:=.lst [.int G,.int now]) J;have nl:l≠C:=λ z=>by obtain ⟨a,b,c,e,_⟩:=d1;rw [z,e] at J;cases J
   exact ⟨C,2,rfl,d1.same u,by decide,by decide,λ t M a0 t0 Y=>b6 l t M t0 Y (a0.k _ _ nl z02) (Same.kp (I.trans u) n0 a0.k) a0.d⟩
  refine sq_if (t_or ?_);have a8 :∀H1,Same S H1->SqL (kx w) H1 p [.int r.h,r.v,r.x,r.a,.int r.b,endV r.e,.int G]:=λ H1 I=>SqL.of (I _ _ ep);refine ⟨_,rfl,_,rfl,?_⟩;cases sp with
  | false=>exact iteP rfl (iteT ⟨_,rfl,.inl ⟨p,_,6,.int G,rfl,rfl,a8 _ O,z04 (j:=6) rfl,_,rfl,w_2,λ l J=>⟨_,rfl,a6 H O dk l J⟩⟩⟩)
  | true=>
   refine iteN (by decide) ⟨_,rfl,C,6,rfl,dk,by decide,by decide,λ t6 H1 a2 b7 b9=>⟨_,_,rfl,rfl,_,rfl,?_⟩⟩;have I:=Same.kp O n0 a2.k;refine ite2 (λ _=>⟨_,rfl,.inl ⟨p,_,6,.int G,rfl,rfl,a8 _ I,z04 (j:=6) rfl,_,rfl,w_2,λ l J=>⟨_,rfl,a6 H1 I a2.d l J⟩⟩⟩) λ _=>t_nx ?_;refine z0b ⟨_,_,rfl,rfl,p12,_,_,rfl,rfl,p12,_,_,rfl,rfl,w_4,λ l4 b3=>?_⟩;dsimp only;rw [p12v];have u2:=Same.upd (o:=.lst [.int 0,.int 7,.int 1000000000000,.int (1 - 1000000000000)]) b3;have e2:upd H1 l4 (.lst [.int 0,.int 7,.int 1000000000000,.int (1 - 1000000000000)]) l4=some (.lst (([0,7,1000000000000,1 - 1000000000000]:List Int).map V.int)):=z02;have d2:=a2.d.same u2;have s2:=I.trans u2;generalize upd H1 l4 (.lst [.int 0,.int 7,.int 1000000000000,.int (1 - 1000000000000)])=M at u2 e2 d2 s2⊢;have a3:=U.same s2;have lz:zs.length=D.length:=z03 a3.a;have b4:=U.n;refine z0m (K:=KX w.params) (a:=lr) (xs:=zs) (H1:=M) (λ i=>isW (D[i]?.getD r00)) (λ i y _=>y=.int (intV (D[i]?.getD r00).x)) (λ _ _ _ _ _ z=>z) (λ R h=>⟨_,rfl,h⟩) (SqL.of a3.l) (G0 (m:=24) (by omega) (by decide)) (λ i W v H3 s3 hv KT KF h1 h2=>?_) λ l5 H3 ys s3 a7 fa=>?_
   ·obtain ⟨r',b0,X,c1,rfl,F,_⟩:=z09 a3.a hv;have F:=SqL.of (K:=KX w.params) (s3 _ _ F);rw [getD_some b0] at h1 h2;refine ⟨[some (.ref X)],rfl,rfl,?_⟩;rcases U.g r' (x0 b0) with g|g
    ·exact ⟨_,rfl,.inl ⟨X,_,1,.str "read",rfl,rfl,F,by rw [g.1];exact z04 (j:=1) rfl,rfl,_,rfl,iteK (h2 g.w _ (Same.refl _))⟩⟩
    ·exact ⟨_,rfl,.inl ⟨X,_,1,.str "write",rfl,rfl,F,by rw [g.1];exact z04 (j:=1) rfl,rfl,_,rfl,iteP (by decide +kernel) ⟨_,rfl,.inl ⟨X,_,2,.int (intV r'.x),rfl,rfl,F,by rw [<-g.2.2.1];exact z04 (j:=2) rfl,h1 g.w _ _ (Same.refl _) rfl⟩⟩⟩⟩
   have ey:=z7h (f:=λ r=>V.int (intV r.x)) lz fa;have b2:ys=((D.filter isW).map (λ r=>intV r.x)).map V.int:=by rw [ey,g3];rfl
   subst b2;have lu:((D.filter isW).map (λ r=>intV r.x)).length<=24:=by rw [D0];exact G0 (Z0 _ _) b4
   have bx :∀i∈(D.filter isW).map (λ r=>intV r.x),bdA i:=λ i W=>by obtain ⟨r',a5,rfl⟩:=List.mem_map.mp W;exact (U.x r' (List.mem_filter.mp a5).1 (List.mem_filter.mp a5).2).a
   generalize (D.filter isW).map (λ r=>intV r.x)=us at lu bx a7⊢;have u3:=s3.trans (Same.upd (o:=.lst (us.map V.int)) a7);have F:upd H3 l5 (.lst (us.map V.int)) l5=some (.lst (us.map V.int)):=z02;generalize upd H3 l5 (.lst (us.map V.int))=H4 at u3 F⊢;refine .inr (.inr (.inl ⟨l4,l5,_,_,rfl,rfl,u3 _ _ e2,F,G0 (m:=28) (by rw [D0,D0];show 4 + us.length<=28;omega) (by decide),λ L a4=>g_name ?_⟩));have u6:=u3.trans (Same.upd (o:=.lst (([0,7,1000000000000,1 - 1000000000000]:List Int).map V.int++us.map V.int)) a4);have e6:upd H4 L (.lst (([0,7,1000000000000,1 - 1000000000000]:List Int).map V.int++us.map V.int)) L=some (.lst ((([0,7,1000000000000,1 - 1000000000000]:List Int)++us).map V.int)):=by rw [z02,N2]
   generalize upd H4 L (.lst (([0,7,1000000000000,1 - 1000000000000]:List Int).map V.int++us.map V.int))=H6 at u6 e6⊢;have bw :∀i∈([0,7,1000000000000,1 - 1000000000000]:List Int)++us,bdA i:=λ i W=>by
    rcases List.mem_append.mp W with z|z
    ·have b1 :∀i∈([0,7,1000000000000,1 - 1000000000000]:List Int),bdA i:=by unfold bdA;decide
     exact b1 i z
    ·exact bx i z
   have lw:0 < (([0,7,1000000000000,1 - 1000000000000]:List Int)++us).length:=by rw [L0];show 0 < 4 + _;omega
   have b5:(([0,7,1000000000000,1 - 1000000000000]:List Int)++us).length<=28:=by rw [L0];show 4 + us.length<=28;omega
   generalize ([0,7,1000000000000,1 - 1000000000000]:List Int)++us=ws at bw lw b5 e6;have d6:=d2.same u6;refine ⟨_,rfl,_,rfl,_,rfl,.inl ⟨L,_,rfl,.inl (SqL.of e6),C,_,rfl,d6,by rw [D0];omega,by rw [D0];omega,λ t H7 a1 t0 Y=>?_⟩⟩;rw [D0] at Y;obtain ⟨n,rfl⟩ :∃n:Nat,t=(n:Int):=⟨t.toNat,(O7 t0).symm⟩
   have hn:n < ws.length:=by omega
   have n6:L≠C:=λ z=>by obtain ⟨a,b,c,e,_⟩:=d2.same u3;rw [z,e] at a4;cases a4
   exact .inl ⟨L,_,n,.int ws[n],rfl,rfl,SqL.of (a1.k _ _ n6 e6),z04 (by rw [S0,M0 hn];rfl),done _ _ (bw _ (C6 hn)) (Same.kp (s2.trans u6) n0 a1.k) a1.d⟩
noncomputable def fixA (p:Nat) (v:V) (r:Rc):Rc:=if r.e=some p then { r with a:=v } else r
theorem fixA_h {p:Nat} {v:V} (r:Rc):(fixA p v r).h=r.h:=by unfold fixA;split<;>rfl
theorem fixA_x {p:Nat} {v:V} (r:Rc):(fixA p v r).x=r.x:=by unfold fixA;split<;>rfl
theorem fixA_v {p:Nat} {v:V} (r:Rc):(fixA p v r).v=r.v:=by unfold fixA;split<;>rfl
theorem fix_hs {p:Nat} {v:V} (rs:List Rc):(rs.map (fixA p v)).map Rc.h=rs.map Rc.h:=by rw [g3];exact J7 λ r _=>fixA_h r
theorem zbo {p j:Nat} {v:V} (n:p≠j) (rs:List Rc) (e:Ev):dstep j (rs.map (fixA p v)) e=(dstep j rs e).map (fixA p v):=by
 cases e with
 | beg h nm vb x=>show rs.map _++[_]=(rs++[_]).map _;rw [N2];congr 1
 | fin h a=>
  unfold dstep;dsimp only;rw [fix_hs];cases lastI h (rs.map Rc.h) with
  | none=>rfl
  | some k=>
   dsimp only;apply m5;intro m;rw [B2,S0,S0,B2];cases rs[m]? with
   | none=>rfl
   | some r=>
    show some (if k=m then _ else _)=some (fixA p v (if k=m then _ else _));by_cases z:k=m
    ·rw [if_pos z,if_pos z];congr 1;unfold fixA;rw [if_neg (show ¬ (some j:Option Nat)=some p from λ y=>n (A1 y).symm)];split<;>rfl
    ·rw [if_neg z,if_neg z]
theorem zb9 {p:Nat} {v:V} :∀(es:List Ev) (j:Nat) (rs:List Rc),p < j->dAll j (rs.map (fixA p v)) es=(dAll j rs es).map (fixA p v)
 | [],_,_,_=>rfl
 | e :: es,j,rs,h=>by show dAll (j + 1) (dstep j (rs.map _) e) es=(dAll (j + 1) (dstep j rs e) es).map _;rw [zbo (O0 h),zb9 es (j + 1) _ (by omega)]
theorem zee {p:Nat} {v:V} {rs:List Rc} (h :∀r∈rs,r.e≠some p):rs.map (fixA p v)=rs:=by
 conv=>rhs;rw [<-List.map_id rs]
 exact J7 λ r a=>by unfold fixA;rw [if_neg (h r a)];rfl
theorem z9v {v:V} :∀(es:List Ev) (i:Nat) (rs:List Rc) (p:Nat) (h:Int) (a:V),es[p]? = some (.fin h a)->PosI i rs->dAll i rs (es.set p (.fin h v))=(dAll i rs es).map (fixA (i + p) v)
 | e :: es,i,rs,0,h,a,he,ps=>by
  rw [Q1] at he;cases he;show dAll (i + 1) (dstep i rs (.fin h v)) es=(dAll (i + 1) (dstep i rs (.fin h a)) es).map (fixA i v);rw [<-zb9 es (i + 1) _ (by omega)];congr 1;unfold dstep;dsimp only;have b :∀r∈rs,r.e≠some i:=λ r c z=>X2 _ (ps.e r c i z);cases lastI h (rs.map Rc.h) with
  | none=>exact (zee b).symm
  | some k=>
   dsimp only;apply m5;intro m;rw [B2,S0,B2];cases z:rs[m]? with
   | none=>rfl
   | some r=>
    show some (if k=m then _ else _)=some (fixA i v (if k=m then _ else _));by_cases y:k=m
    ·rw [if_pos y,if_pos y];unfold fixA;rw [if_pos rfl]
    ·rw [if_neg y,if_neg y];unfold fixA;rw [if_neg (b r (x0 z))]
 | e :: es,i,rs,p + 1,h,a,he,ps=>by rw [B1] at he;show dAll (i + 1) (dstep i rs e) (es.set p _)=_;rw [z9v es (i + 1) (dstep i rs e) p h a he (ps.step e),show i + 1 + p=i + (p + 1) by omega];rfl
theorem zd5 {v:V} :∀(es:List Ev) (os:List Int) (p:Nat) (h:Int) (a:V),es[p]? = some (.fin h a)->EWf os es->EWf os (es.set p (.fin h v))
 | e :: es,os,0,h,a,he,w=>by rw [Q1] at he;cases he;exact w
 | e :: es,os,p + 1,h,a,he,w=>⟨w.1,zd5 es _ p h a (by rw [B1] at he;exact he) w.2⟩
theorem zag {v:V} :∀(es:List Ev) (p:Nat) (h:Int) (a:V),es[p]? = some (.fin h a)->(es.set p (.fin h v)).filter isBeg=es.filter isBeg
 | e :: es,0,h,a,he=>by rw [Q1] at he;cases he;rfl
 | e :: es,p + 1,h,a,he=>by
  rw [B1] at he;show (e :: es.set p _).filter isBeg=_;cases z:isBeg e with
  | true=>rw [R1 z,R1 z,zag es p h a he]
  | false=>rw [U1 (by rw [z];decide),U1 (by rw [z];decide),zag es p h a he]
theorem z99 :∀(es:List Ev) (j:Nat) (rs:List Rc),∀r∈dAll j rs es,∀e,r.e=some e->e < j->∃r0∈rs,r0.e=some e/\r0.h=r.h/\r0.a=r.a
 | [],_,_,r,hr,e,he,_=>⟨r,hr,he,rfl,rfl⟩
 | x :: es,j,rs,r,hr,e,he,hj=>by
  obtain ⟨f,c,d,g,i⟩:=z99 es (j + 1) (dstep j rs x) r hr e he (by omega);refine ⟨f,?_,d,g,i⟩;cases x with
  | beg h0 nm v y=>
   rcases List.mem_append.mp c with z|z
   ·exact z
   ·rw [List.mem_singleton.mp z] at d;cases d
  | fin h0 a=>
   unfold dstep at c;dsimp only at c;cases z:lastI h0 (rs.map Rc.h) with
   | none=>rw [z] at c;exact c
   | some k=>
    rw [z] at c;dsimp only at c;obtain ⟨m,b⟩:=List.mem_iff_getElem?.mp c;rw [B2] at b;cases y:rs[m]? with
    | none=>rw [y] at b;cases b
    | some r0=>
     rw [y] at b;have b:some (if k=m then { r0 with a:=a,e:=some j } else r0)=some f:=b;by_cases u:k=m
     ·rw [if_pos u] at b;cases b;have d:some j=some e:=d;cases d;omega
     ·rw [if_neg u] at b;cases b;exact x0 y
theorem end_at :∀(es:List Ev) (i:Nat) (rs:List Rc),(∀r∈rs,∀e,r.e=some e->e < i)->∀r∈dAll i rs es,∀e,r.e=some e->i<=e->es[e - i]? = some (.fin r.h r.a)
 | [],i,rs,h,r,hr,e,he,hi=>by have:=h r hr e he;omega
 | x :: es,i,rs,h,r,hr,e,he,hi=>by
  have g :∀q∈dstep i rs x,∀k,q.e=some k->k < i\/(k=i/\x=.fin q.h q.a):=λ q b k d=>by
   cases x with
   | beg h0 nm v y=>
    rcases List.mem_append.mp b with z|z
    ·exact .inl (h q z k d)
    ·rw [List.mem_singleton.mp z] at d;cases d
   | fin h0 a=>
    unfold dstep at b;dsimp only at b;cases z:lastI h0 (rs.map Rc.h) with
    | none=>rw [z] at b;exact .inl (h q b k d)
    | some j=>
     rw [z] at b;dsimp only at b;obtain ⟨m,c⟩:=List.mem_iff_getElem?.mp b;rw [B2] at c;cases y:rs[m]? with
     | none=>rw [y] at c;cases c
     | some r0=>
      rw [y] at c;have c:some (if j=m then { r0 with a:=a,e:=some i } else r0)=some q:=c;by_cases u:j=m
      ·rw [if_pos u] at c;cases c;cases d;have f:=(z56 _ z).1;rw [S0,u,y] at f;have f:some r0.h=some h0:=f;cases f;exact .inr ⟨rfl,rfl⟩
      ·rw [if_neg u] at c;cases c;exact .inl (h _ (x0 y) k d)
  by_cases z:e=i
  ·subst z;obtain ⟨o,s,l,n,p⟩:=z99 es (e + 1) _ r hr e he (by omega);rcases g o s e l with y|⟨_,y⟩
   ·omega
   ·rw [Nat.sub_self,Q1,y,n,p]
  ·have:=end_at es (i + 1) (dstep i rs x) (λ q b k d=>by rcases g q b k d with y|⟨y,_⟩<;>omega) r hr e he (by omega);rw [show e - i=e - (i + 1) + 1 by omega,B1];exact this
def WxI (rs:List Rc):Prop:=∀(i:Nat) (r:Rc),rs[i]? = some r->isW r=true->∃t:Int,0<=t/\t < 1000/\(intV r.x=(24 * t + i + 1) * 41666\/intV r.x=-((24 * t + i + 1) * 41666))
theorem WxI.nd {rs:List Rc} (x:WxI rs) (l:rs.length<=24):((rs.filter isW).map λ r=>intV r.x).Nodup:=by
 have p:rs.Pairwise λ r q=>isW r=true->isW q=true->intV r.x≠intV q.x:=by rw [List.pairwise_iff_getElem];intro i j d c k b a e;obtain ⟨t,s,w,v⟩:=x i _ (M0 d) b;obtain ⟨u,o,n,m⟩:=x j _ (M0 c) a;omega
 unfold List.Nodup;rw [j5];exact (p.filter isW).imp_of_mem λ g f h=>h (List.mem_filter.mp g).2 (List.mem_filter.mp f).2
theorem WxI.n0 {rs:List Rc} (x:WxI rs):(0:Int)∉(rs.filter isW).map λ r=>intV r.x:=λ z=>by obtain ⟨r,d,e⟩:=List.mem_map.mp z;obtain ⟨c,a⟩:=List.mem_filter.mp d;obtain ⟨i,b⟩:=List.mem_iff_getElem?.mp c;obtain ⟨t,f,h,g⟩:=x i r b a;omega
theorem WxI.bd {rs:List Rc} (x:WxI rs) (l:rs.length<=24) :∀r∈rs,isW r=true->bdI (intV r.x):=λ r c b=>by obtain ⟨i,a⟩:=List.mem_iff_getElem?.mp c;obtain ⟨t,d,f,e⟩:=x i r a b;have:=z50 a;unfold bdI;omega
theorem WxI.fix {rs:List Rc} {p:Nat} {v:V} (x:WxI rs):WxI (rs.map (fixA p v)):=λ i r b a=>by rw [S0] at b;obtain ⟨c,d,rfl⟩:=Option.map_eq_some_iff.mp b;rw [fixA_x];refine x i c d ?_;unfold isW at a⊢;rw [fixA_v] at a;exact a
noncomputable abbrev rTh:List (Str×Str):=[("r","register")]
structure Md (HL H:Hp) (lr le:Addr) (es:List Ev) (zs ys:List V):Prop where
 s:Same HL H
 fl:HL lr=none
 fe:HL le=none
 fz :∀p,V.ref p∈zs->HL p=none/\p≠lr/\p≠le
 nd:zs.Nodup
 n1:lr≠le
 l:H lr=some (.lst zs)
 a:All2 (RowR H) (dAll 0 [] es) zs
 g :∀r∈dAll 0 [] es,RdG r\/WrG 0 r
 n:(dAll 0 [] es).length<=24
 e:H le=some (.lst ys)
 ev:All2 (EvT H rTh) es ys
 wf:EWf [] es
 wx:WxI (dAll 0 [] es)
 n60:es.length<=60
 bg:(es.filter isBeg).length<=24
theorem Md.rws {HL H:Hp} {lr le:Addr} {es:List Ev} {zs ys:List V} (m:Md HL H lr le es zs ys):RwsA H lr (dAll 0 [] es) zs:=⟨m.l,m.a,m.g,m.wx.bd m.n,m.n⟩
theorem Md.same {HL H H':Hp} {lr le:Addr} {es:List Ev} {zs ys:List V} (m:Md HL H lr le es zs ys) (s:Same H H'):Md HL H' lr le es zs ys:=
 ⟨m.s.trans s,m.fl,m.fe,m.fz,m.nd,m.n1,s _ _ m.l,z01 (λ _ _ z=>z.same s) m.a,m.g,m.n,s _ _ m.e,z01 (λ _ _ z=>z.same s) m.ev,m.wf,m.wx,m.n60,m.bg⟩
theorem Md.pos {HL H:Hp} {lr le:Addr} {es:List Ev} {zs ys:List V} (m:Md HL H lr le es zs ys):PosI es.length (dAll 0 [] es):=by
 have:=PosI.all es PosI.nil
 rwa [z5] at this
theorem nd_at {zs:List V} (nd:zs.Nodup) {i j:Nat} {v:V} (h1:zs[i]? = some v) (h2:zs[j]? = some v):i=j:=by
 obtain ⟨c,d⟩:=List.getElem?_eq_some_iff.mp h1;obtain ⟨a,b⟩:=List.getElem?_eq_some_iff.mp h2;rcases Nat.lt_trichotomy i j with z|z|z
 ·exact absurd (d.trans b.symm) (List.pairwise_iff_getElem.mp nd i j c a z)
 ·exact z
 ·exact absurd (b.trans d.symm) (List.pairwise_iff_getElem.mp nd j i a c z)
theorem zd0 {zs ws:List V} {n:Nat} {p:Nat->Bool} (h:All2 (λ (i:Nat) y=>zs[i]? = some y) ((Z1 n).filter p) ws) {t:Nat} (ht:t < ws.length) :∃i v,ws[t]? = some v/\zs[i]? = some v/\p i=true:=by obtain ⟨i,a,e⟩:=z09 h (M0 ht);exact ⟨i,_,M0 ht,e,(List.mem_filter.mp (x0 a)).2⟩
theorem XOk.tp {H H':Hp} {k v:Str} {x:V} (s :∀a xs,H a=some (.tup xs)->H' a=some (.tup xs)) (h:XOk H k v x):XOk H' k v x:=by
 cases h with
 | none e=>exact .none e
 | one e h=>exact .one e h
 | two e h1 h2 h3=>exact .two e (s _ _ h1) h2 h3
theorem EvT.tp {H H':Hp} {ts:List (Str×Str)} (s :∀a xs,H a=some (.tup xs)->H' a=some (.tup xs)) :∀{e:Ev} {y:V},EvT H ts e y->EvT H' ts e y
 | .beg h n v x,_,⟨p,nm,k,vb,h1,h2,h3,h4,h5,h6,h7,h8,h9⟩=>⟨p,nm,k,vb,h1,s _ _ h2,h3,h4,h5,h6,h7,h8,XOk.tp s h9⟩
 | .fin h a,_,⟨p,h1,h2,h3⟩=>⟨p,h1,s _ _ h2,h3⟩
theorem zav {α β:Type} {R:α->β->Prop} {x:α} {y:β} :∀{xs:List α} {ys:List β} (j:Nat),All2 R xs ys->R x y->All2 R (xs.set j x) (ys.set j y)
 | _,_,_,.nil,_=>.nil
 | _,_,0,.cons _ r,h=>.cons h r
 | _,_,j + 1,.cons a r,h=>.cons a (zav j r h)
theorem zda {i:Int} (h:bdA i):AnsOk (.int i):=.inr (.inr ⟨i,rfl,by show (decide (-1000000000000<=i) && decide (i<=1000000000000))=true;rw [decide_eq_true h.1,decide_eq_true h.2];rfl⟩)
theorem ixN_at {n j:Nat} (h:j < n):ixN n (j:Int)=some j:=zd4 h
theorem Md.fix {HL H0 H':Hp} {lr le p tp:Addr} {es:List Ev} {zs ys:List V} {i:Nat} {r:Rc} {e:Nat} {late x:Int} (m:Md HL H0 lr le es zs ys) (hr:(dAll 0 [] es)[i]? = some r) (hz:zs[i]? = some (.ref p)) (hre:isRE r=true) (he:r.e=some e) (bl:bdI late) (bx:bdA x)
  (k :∀b o,b≠p->b≠le->H0 b=some o->H' b=some o) (hp:H' p=some (.lst [.int r.h,r.v,r.x,.int x,.int r.b,endV r.e,.int late])) (ht:H' tp=some (.tup [.str "end",.int r.h,.int x])) (hl:H' le=some (.lst (ys.set e (.ref tp)))) :
  Md HL H' lr le (es.set e (.fin r.h (.int x))) zs (ys.set e (.ref tp)):=by
 obtain ⟨T,J,Y⟩:=m.fz p (x0 hz);have C:=x0 hr;have A:es[e]? = some (.fin r.h r.a):=by
  have:=end_at es 0 [] (λ _ h=>absurd h B0) r C e he (L1 _)
  rwa [Nat.sub_zero] at this
 have t:=z9v (v:=.int x) es 0 [] e r.h r.a A PosI.nil;rw [z5] at t;have N:=m.pos;have F:RdG r:=by
  unfold isRE at hre;rw [K4] at hre;rcases m.g r C with g|g
  ·exact g
  ·exact absurd ((of_decide_eq_true hre.1).symm.trans g.1) z1c
 have only :∀(j:Nat) (q:Rc),(dAll 0 [] es)[j]? = some q->q.e=some e->j=i:=λ j q S K=>N.ee j i q r e S hr K he;have R :∀a B,H0 a=some (.tup B)->H' a=some (.tup B):=λ a B z=>k a _ (λ q=>by obtain ⟨_,_,_,_,Q,O,_⟩:=z09 m.a hz;cases Q;rw [q,O] at z;cases z) (λ q=>by rw [q,m.e] at z;cases z) z;have D:0<=r.h/\r.h<=5:=by obtain ⟨y,X,z⟩:=z7f m.ev A;obtain ⟨_,_,_,H,W,_⟩:=z;exact ⟨H,W⟩
 refine ⟨λ b o z=>k b o (λ q=>by rw [q,T] at z;cases z) (λ q=>by rw [q,m.fe] at z;cases z) (m.s b o z),m.fl,m.fe,m.fz,m.nd,m.n1,k _ _ (y3 J) m.n1 m.l,?_,?_,?_,hl,?_,zd5 es [] e r.h r.a A m.wf,?_,by rw [List.length_set];exact m.n60,by rw [zag es e r.h r.a A];exact m.bg⟩
 ·rw [t];refine z1j (by rw [D0];exact z03 m.a) λ j L v f u=>?_;rw [S0] at f;obtain ⟨d,c,rfl⟩:=Option.map_eq_some_iff.mp f;obtain ⟨Z,E,w,U,rfl,G,M⟩:=z09 m.a u;rw [c] at E;cases E;by_cases z:w=p
  ·subst z;have:=nd_at m.nd u hz;subst this;rw [hr] at c;cases c;refine ⟨w,late,rfl,?_,bl⟩;unfold fixA;rw [if_pos he];exact hp
  ·have I:d.e≠some e:=λ y=>by have:=only j d c y;subst this;rw [u] at hz;cases hz;exact z rfl
   refine ⟨w,U,rfl,?_,M⟩;unfold fixA;rw [if_neg I];exact k _ _ z (m.fz w (x0 u)).2.2 G
 ·rw [t];intro L P;obtain ⟨d,c,rfl⟩:=List.mem_map.mp P;obtain ⟨j,f⟩:=List.mem_iff_getElem?.mp c;by_cases z:d.e=some e
  ·have:=only j d f z;subst this;rw [hr] at f;cases f;unfold fixA;rw [if_pos z];exact .inl ⟨F.1,F.2.1,λ _ _=>rfl⟩
  ·unfold fixA;rw [if_neg z];exact m.g d c
 ·rw [t,D0];exact m.n
 ·exact zav e (z01 (λ _ _ z=>EvT.tp R z) m.ev) ⟨tp,rfl,ht,D.1,D.2,zda bx⟩
 ·rw [t];exact m.wx.fix
def z15 (K:c0):Sp:=λ vs H Q _=>∃(rw lr le:Addr) (es:List Ev) (zs ys:List V) (HL H0:Hp),vs=[.ref rw,.ref lr,.ref le]/\Same H0 H/\H0 rw=none/\DkAt H rw/\Md HL H0 lr le es zs ys/\∀es' ys' H',Md HL H' lr le es' zs ys'->Q .non H'
theorem z2m (T:TX (kx w) mg) (c0:Ca P w mg base "_law_take" ["row","many"] 1 z0v):Fo P w mg base CX0 2 319 y00 ["row","rows","events"] (z15 (kx w)):=by
 refine (z0w w.params).ok sc__law_exchanged (λ B H Q E h=>?_) (λ e0 A d7 s H B Q E Y h=>?_)
 ·obtain ⟨X,lr,le,es,V,ys,HL,H0,rfl,_⟩:=h;rfl
 ·obtain ⟨X,lr,le,es,V,ys,HL,H0,rfl,s0,n0,dk,f,q⟩:=h;refine ⟨_,(z05 (z5s (i:=3) sc__law_exchanged.nd rfl (N1 rfl) (xs:=["one"]) (g:=gName 0) (fr:=[]) rfl (z0n (pv 1)) (λ _ z=>absurd z B0) (z2r rfl) (λ _ z=>absurd z B0) (by decide +kernel) rfl (by decide +kernel) (λ _ _ _ _ _=>(pg_cn (N:=["one"]) 0)) (λ _ _ _ _ _=>(pf_one (PW.pt (pw_and (z0a opEq (pe_ix (z0q (K:=KX w.params) rfl) (pv 0) pe_int (λ _ _=>rfl)) pe_str (nomark _)) (z2x (z0a z45 (pe_ix (z0q (K:=KX w.params) rfl) (pv 0) pe_int (λ _ _=>rfl)) pe_non (nomark _))))))) (λ _ _ _ _ _=>(pv 0)))
   (z05 (z5s (i:=4) sc__law_exchanged.nd rfl (N1 rfl) (xs:=["one"]) (g:=gName 0) (fr:=[]) rfl (z0n (pv 1)) (λ _ z=>absurd z B0) (z2r rfl) (λ _ z=>absurd z B0) (by decide +kernel) rfl (by decide +kernel) (λ _ _ _ _ _=>(pg_cn (N:=["one"]) 0)) (λ _ _ _ _ _=>(pf_one (z0a opEq (pe_ix (z0q (K:=KX w.params) rfl) (pv 0) pe_int (λ _ _=>rfl)) pe_str (nomark _)))) (λ _ _ _ _ _=>(pv 0)))
   (z06 (ps_if (PW.pt (pw_and (z0a (z7p Y) (pv 3) (pe_lst pa_nil) (nomark _)) (pw_and (z0a (z7p Y) (pv 4) (pe_lst pa_nil) (nomark _)) (z2x (z0a opEq (pe_cal c0 (Y.mono (by decide)) rfl (z00 (pv 0) (z00 pe_int pa_nil))) pe_int (nomark _))))))
   (z05 (ps_set (i:=5) sc__law_exchanged.nd rfl (N1 rfl) (pe_ix ix_seq (pv 3) (pe_cal c0 (Y.mono (by decide)) rfl (z00 (pv 0) (z00 (z08 z0s rfl (T.no (n_len _)) Q3 (z00 (pv 3) pa_nil)) pa_nil))) (λ _ _=>rfl)))
   (z05 (ps_asg (pe_ix ix_seq (pe_ix ix_seq (pv 4) (pe_cal c0 (Y.mono (by decide)) rfl (z00 (pv 0) (z00 (z08 z0s rfl (T.no (n_len _)) Q3 (z00 (pv 4) pa_nil)) pa_nil))) (λ _ _=>rfl)) pe_int (λ _ _=>rfl)) (pg_sub (pv 5) pe_int z1s))
   (z06 (ps_asg (pe_tup (z00 pe_str (z00 (pe_ix ix_seq (pv 5) pe_int (λ _ _=>rfl)) (z00 (pe_ix ix_seq (pv 5) pe_int (λ _ _=>rfl)) pa_nil)))) (pg_sub (pv 2) (pe_ix ix_seq (pv 5) pe_int (λ _ _=>rfl)) z1s)))))
   z0g)))),?_⟩
  have lz:V.length=(dAll 0 [] es).length:=z03 f.a;have b6:=f.n;have Z:=f.rws.same s0;refine z0b ?_;refine z0m (K:=KX w.params) (a:=lr) (xs:=V) (H1:=H) (λ i=>isRE ((dAll 0 [] es)[i]?.getD r00)) (λ i y _=>V[i]? = some y) (λ _ _ _ _ _ z=>z) (λ R h=>⟨_,rfl,h⟩) (SqL.of Z.l) (G0 (m:=24) (by omega) (by decide)) (λ i hi v H3 L J KT KF h1 S=>?_) λ M H1 C s1 b0 a9=>?_
  ·obtain ⟨r',F,D,c7,rfl,u,_⟩:=z09 Z.a J;have u:=SqL.of (K:=KX w.params) (L _ _ u);rw [getD_some F] at h1 S;refine ⟨[some (.ref D)],rfl,rfl,t_and ?_⟩;rcases Z.g r' (x0 F) with g|g
   ·refine ⟨_,rfl,.inl ⟨D,_,1,.str "read",rfl,rfl,u,by rw [g.1];exact z04 (j:=1) rfl,rfl,_,rfl,iteP (by decide +kernel) ?_⟩⟩;cases G:r'.e with
    | none=>exact ⟨_,rfl,.inl ⟨D,_,5,.non,rfl,rfl,u,by rw [G];exact z04 (j:=5) rfl,rfl,_,rfl,iteN (by decide) (S (by unfold isRE;rw [G];exact p7 _) _ (Same.refl _))⟩⟩
    | some e=>exact ⟨_,rfl,.inl ⟨D,_,5,.int e,rfl,rfl,u,by rw [G];exact z04 (j:=5) rfl,rfl,_,rfl,iteP (by simp) ⟨_,rfl,h1 (by unfold isRE;rw [G,decide_eq_true g.1];rfl) _ _ (Same.refl _) J⟩⟩⟩
   ·refine ⟨_,rfl,.inl ⟨D,_,1,.str "write",rfl,rfl,u,by rw [g.1];exact z04 (j:=1) rfl,rfl,_,rfl,iteK (iteF (S ?_ _ (Same.refl _)))⟩⟩;unfold isRE;rw [decide_eq_false (λ e=>z1c (e.symm.trans g.1))];rfl
  have b8:M≠X:=λ z=>by obtain ⟨a,b,c,e,_⟩:=dk;rw [z,s1 _ _ e] at b0;cases b0
  have u1:=s1.trans (Same.upd (o:=.lst C) b0);have e1:upd H1 M (.lst C) M=some (.lst C):=z02;generalize upd H1 M (.lst C)=H2 at u1 e1⊢;have b7:=Z.same u1;refine g_name (z0b ?_);refine z0m (K:=KX w.params) (a:=lr) (xs:=V) (H1:=H2) (λ i=>isW ((dAll 0 [] es)[i]?.getD r00)) (λ i y _=>V[i]? = some y) (λ _ _ _ _ _ z=>z) (λ R h=>⟨_,rfl,h⟩) (SqL.of b7.l) (G0 (m:=24) (by omega) (by decide)) (λ i hi v H3 L J KT KF h1 S=>?_) λ I H3 B L a2 a7=>?_
  ·obtain ⟨r',F,D,c7,rfl,u,_⟩:=z09 b7.a J;have u:=SqL.of (K:=KX w.params) (L _ _ u);rw [getD_some F] at h1 S;refine ⟨[some (.ref D)],rfl,rfl,?_⟩;rcases Z.g r' (x0 F) with g|g
   ·exact ⟨_,rfl,.inl ⟨D,_,1,.str "read",rfl,rfl,u,by rw [g.1];exact z04 (j:=1) rfl,rfl,_,rfl,iteK (S g.w _ (Same.refl _))⟩⟩
   ·exact ⟨_,rfl,.inl ⟨D,_,1,.str "write",rfl,rfl,u,by rw [g.1];exact z04 (j:=1) rfl,rfl,_,rfl,iteP (by decide +kernel) ⟨_,rfl,h1 g.w _ _ (Same.refl _) J⟩⟩⟩
  have a8:I≠X:=λ z=>by obtain ⟨a,b,c,e,_⟩:=dk;rw [z,L _ _ (u1 _ _ e)] at a2;cases a2
  have u3:=u1.trans (L.trans (Same.upd (o:=.lst B) a2));have b1:=(L.trans (Same.upd (o:=.lst B) a2)) _ _ e1;have e2:upd H3 I (.lst B) I=some (.lst B):=z02;generalize upd H3 I (.lst B)=H4 at u3 e2 b1⊢;rw [lz] at a9 a7;have d4:=dk.same u3;have s4:=s0.trans u3;have done :∀H',Same H0 H'->Q .non H':=λ H' s'=>q es ys H' (f.same s');refine g_name ?_;have d6:C.length<=24:=by rw [z03 a9];exact G0 (Z0 _ _) (by rw [k5];exact b6)
  have d8:B.length<=24:=by rw [z03 a7];exact G0 (Z0 _ _) (by rw [k5];exact b6)
  refine z0u (t_and ⟨_,rfl,w_0,λ l5 c8=>?_⟩);obtain ⟨H5,v_,v5,u⟩:=newA (.lst []) c8;rw [<-v_];refine ⟨M,l5,C,rfl,rfl,SqL.of (v5 _ _ b1),SqL.of u,_,rfl,ite2 (λ z1=>?_) λ _=>iteF (done _ (s4.trans v5))⟩;refine t_and ⟨_,rfl,w_0,λ l6 d2=>?_⟩;have O:=v5.trans (Same.upd (o:=.lst []) d2);have e6:upd H5 l6 (.lst []) l6=some (.lst []):=z02;generalize upd H5 l6 (.lst [])=H6 at O e6⊢;refine ⟨I,l6,B,rfl,rfl,SqL.of (O _ _ e2),SqL.of e6,_,rfl,ite2 (λ z2=>?_) λ _=>iteF (done _ (s4.trans O))⟩;have s6:=s4.trans O;refine ⟨_,rfl,X,3,rfl,d4.same O,by decide,by decide,λ t3 H7 a3 _ _=>?_⟩;have s7:=Same.kp s6 n0 a3.k;have c2:=a3.k _ _ b8 (O _ _ b1);have d1:=a3.k _ _ a8 (O _ _ e2);refine ⟨rfl,_,rfl,ite2 (λ _=>?_) λ _=>done _ s7⟩;have p1:0 < C.length:=List.length_pos_iff.mpr (of_decide_eq_true z1);have p2:0 < B.length:=List.length_pos_iff.mpr (of_decide_eq_true z2);refine z0b ⟨_,rfl,_,rfl,_,rfl,.inl ⟨M,C,rfl,.inl (SqL.of c2),X,_,rfl,a3.d,by omega,by omega,λ t H8 a4 t0 t1=>?_⟩⟩;obtain ⟨n,rfl⟩ :∃n:Nat,t=(n:Int):=⟨t.toNat,(O7 t0).symm⟩
  obtain ⟨i,v,J,b3,b9⟩:=zd0 a9 (t:=n) (by omega);have s8:=Same.kp s7 n0 a4.k;refine .inl ⟨M,C,n,v,rfl,rfl,SqL.of (a4.k _ _ b8 c2),z04 J,g_name ?_⟩;have b5:=a4.k _ _ a8 d1;obtain ⟨r,F,p,a5,rfl,ep,bl⟩:=z09 f.a b3;have U:isRE r=true:=by rw [getD_some F] at b9;exact b9
  obtain ⟨e,G⟩ :∃e,r.e=some e:=by have U:=U;unfold isRE at U;rw [K4] at U;exact Option.isSome_iff_exists.mp U.2
  refine z0b ⟨_,rfl,_,rfl,_,rfl,.inl ⟨I,B,rfl,.inl (SqL.of b5),X,_,rfl,a4.d,by omega,by omega,λ t' H9 c3 c9 d9=>?_⟩⟩;obtain ⟨n',rfl⟩ :∃n:Nat,t'=(n:Int):=⟨t'.toNat,(O7 c9).symm⟩
  obtain ⟨i2,v2,c6,c4,c1⟩:=zd0 a7 (t:=n') (by omega);have s9:=Same.kp s8 n0 c3.k;obtain ⟨W,b2,q2,d5,rfl,c5,_⟩:=z09 f.a c4;have w2:isW W=true:=by rw [getD_some b2] at c1;exact c1
  have g2:W.x=.int (intV W.x):=by
   rcases f.g W (x0 b2) with g|g
   ·rw [g.w] at w2;cases w2
   ·exact g.2.2.1
  have bx:=(f.wx.bd f.n W (x0 b2) w2).a;generalize intV W.x=x2 at g2 bx;refine .inl ⟨I,B,n',.ref q2,rfl,rfl,SqL.of (c3.k _ _ a8 b5),z04 c6,.inl ⟨q2,_,2,.int x2,rfl,rfl,SqL.of (s9 _ _ c5),by rw [g2];exact z04 (j:=2) rfl,?_⟩⟩;refine ⟨_,rfl,p,_,3,3,rfl,rfl,s9 _ _ ep,rfl,?_⟩;obtain ⟨f1,f2,f3⟩:=f.fz p (x0 b3);have a0:upd H9 p (.lst ([.int r.h,r.v,r.x,r.a,.int r.b,endV r.e,.int a5].set 3 (.int x2))) p=some (.lst [.int r.h,r.v,r.x,.int x2,.int r.b,endV r.e,.int a5]):=z02;have a1 :∀b o,b≠p->H9 b=some o->upd H9 p (.lst ([.int r.h,r.v,r.x,r.a,.int r.b,endV r.e,.int a5].set 3 (.int x2))) b=some o:=λ b o n z=>by rw [upd_ne n];exact z
  generalize upd H9 p (.lst ([.int r.h,r.v,r.x,r.a,.int r.b,endV r.e,.int a5].set 3 (.int x2)))=H10 at a0 a1⊢;refine ⟨_,rfl,.inl ⟨p,_,0,.int r.h,rfl,rfl,SqL.of a0,z04 (j:=0) rfl,_,rfl,.inl ⟨p,_,3,.int x2,rfl,rfl,SqL.of a0,z04 (j:=3) rfl,w_3,λ tp b4=>?_⟩⟩⟩;obtain ⟨d3,v_,a6,d0⟩:=newA (.tup [.str "end",.int r.h,.int x2]) b4;rw [<-v_];have eL:=a6 _ _ (a1 _ _ (y3 f3) (s9 _ _ f.e));have ey:e < ys.length:=by rw [z03 f.ev];exact f.pos.e r (x0 F) e G
  refine ⟨_,rfl,_,rfl,.inl ⟨p,_,5,.int e,rfl,rfl,SqL.of (a6 _ _ a0),by rw [G];exact z04 (j:=5) rfl,le,ys,e,e,rfl,rfl,eL,ixN_at ey,?_⟩⟩;have nt:tp≠le:=λ z=>by rw [z,a1 _ _ (y3 f3) (s9 _ _ f.e)] at b4;cases b4
  refine q _ _ _ (f.fix (tp:=tp) F b3 U G bl bx (λ b o n1 n2 z=>?_) ?_ ?_ z02)
  ·rw [upd_ne n2];exact a6 _ _ (a1 _ _ n1 (s9 _ _ z))
  ·rw [upd_ne f3];exact a6 _ _ a0
  ·rw [upd_ne nt];exact d0
end
section
structure HdI (es:List Ev) (os:List (Int×Nat)):Prop where
 o:os.map (·.1)=es.foldl oStep []
 j :∀h j,(h,j)∈os->lastI h ((dAll 0 [] es).map Rc.h)=some j
noncomputable def heldK (os:List (Int×Nat)):List (Key×V):=os.map λ o=>(Sum.inl o.1,V.int (o.2:Nat))
theorem z7m (os:List (Int×Nat)):(heldK os).map (·.1)=(os.map (·.1)).map Sum.inl:=by unfold heldK;rw [g3,g3];rfl
theorem held_in {os:List (Int×Nat)} {h:Int}:(valV (heldK os) (.inl h)).isSome=true↔h∈os.map (·.1):=by rw [z8u,z7m];exact ⟨λ z=>by obtain ⟨k,a,e⟩:=List.mem_map.mp z;exact z4 e ▸ a,λ z=>List.mem_map.mpr ⟨h,z,rfl⟩⟩
theorem za4 :∀{os:List (Int×Nat)} {h:Int},h∈os.map (·.1)->∃b,(h,b)∈os/\valV (heldK os) (.inl h)=some (.int (b:Nat))
 | [],_,z=>absurd z B0
 | (k,c) :: os,h,z=>by
  by_cases e:k=h
  ·subst e;exact ⟨c,.head _,z0r rfl⟩
  ·rcases List.mem_cons.mp z with y|y
   ·exact absurd y.symm e
   ·obtain ⟨b,d,f⟩:=za4 (os:=os) y;exact ⟨b,.tail _ d,by show valV ((Sum.inl k,_) :: heldK os) _=_;rw [z0p (λ a=>e (z4 a))];exact f⟩
theorem z4v :∀{os:List (Int×Nat)} {h:Int},dropK (heldK os) (.inl h)=heldK (os.filter λ k=>decide (k.1≠h))
 | [],_=>rfl
 | (k,c) :: os,h=>by
  show dropK ((Sum.inl k,_) :: heldK os) _=_;by_cases e:k=h
  ·rw [zcb (by rw [e]),U1 (by simp [e]),z4v]
  ·rw [zcd (λ a=>e (z4 a)),R1 (by simp [e]),z4v];rfl
theorem zdy {os:List (Int×Nat)} {h:Int} {b:Nat} (n:h∉os.map (·.1)):putK (heldK os) (.inl h) (.int (b:Nat))=heldK (os++[(h,b)]):=by rw [z1h (by rw [z7m];exact λ z=>n (by obtain ⟨k,a,e⟩:=List.mem_map.mp z;exact z4 e ▸ a))];unfold heldK;rw [N2];rfl
theorem z25 {h:Int} :∀os:List (Int×Nat),(os.filter λ k=>decide (k.1≠h)).map (·.1)=(os.map (·.1)).filter λ k=>decide (k≠h)
 | []=>rfl
 | (k,c) :: os=>by
  by_cases e:k=h
  ·rw [U1 (by simp [e]),W0,U1 (by simp [e]),z25 os]
  ·rw [R1 (by simp [e]),W0,W0,R1 (by simp [e]),z25 os]
theorem z2n (es:List Ev) (e:Ev):dAll 0 [] (es++[e])=dstep es.length (dAll 0 [] es) e:=by
 have:=z8a (es:=es) (i:=0) (rs:=[]) (e:=e)
 rwa [z5] at this
theorem HdI.fin {es:List Ev} {os:List (Int×Nat)} {h:Int} {a:V} (x:HdI es os):HdI (es++[.fin h a]) (os.filter λ k=>decide (k.1≠h)):=by
 refine ⟨?_,λ k j b=>?_⟩
 ·rw [X7,z25,x.o];rfl
 ·rw [z2n];have c:(dstep es.length (dAll 0 [] es) (.fin h a)).map Rc.h=(dAll 0 [] es).map Rc.h:=by
   unfold dstep;dsimp only;cases lastI h ((dAll 0 [] es).map Rc.h) with
   | none=>rfl
   | some m=>exact zau λ _=>rfl
  rw [c];exact x.j k j (List.mem_filter.mp b).1
theorem HdI.beg {es:List Ev} {os:List (Int×Nat)} {h:Int} {nm v y:V} (x:HdI es os) (n:h∉os.map (·.1)):HdI (es++[.beg h nm v y]) (os++[(h,(dAll 0 [] es).length)]):=by
 refine ⟨?_,λ k j a=>?_⟩
 ·rw [X7,N2,x.o];rfl
 ·rw [z2n];show lastI k ((dAll 0 [] es++[_]).map Rc.h)=_;rw [N2];show lastI k (_++[h])=_;rw [z1y,D0];rcases List.mem_append.mp a with z|z
  ·rw [if_neg (λ q=>n (by rw [q];exact List.mem_map.mpr ⟨_,z,rfl⟩))];exact x.j k j z
  ·cases List.mem_singleton.mp z;rw [if_pos rfl]
theorem Md.kp {HL H H':Hp} {lr le:Addr} {es:List Ev} {zs ys:List V} (m:Md HL H lr le es zs ys) {d:Addr} {kvs:List (Key×V)} (hd:H d=some (.dK kvs)) (fd:HL d=none) (k :∀b o,b≠d->H b=some o->H' b=some o):Md HL H' lr le es zs ys:=by
 have f :∀{b:Addr} {c:List V},H b=some (.lst c)->b≠d:=λ e q=>by rw [q,hd] at e;cases e
 have r :∀{b:Addr} {c:List V},H b=some (.tup c)->b≠d:=λ e q=>by rw [q,hd] at e;cases e
 exact ⟨λ b o e=>k b o (λ q=>by rw [q,fd] at e;cases e) (m.s b o e),m.fl,m.fe,m.fz,m.nd,m.n1,k _ _ (f m.l) m.l,z01 (λ _ _ z=>by obtain ⟨p,i,t,h,j⟩:=z;exact ⟨p,i,t,k _ _ (f h) h,j⟩) m.a,m.g,m.n,k _ _ (f m.e) m.e,z01 (λ _ _ z=>EvT.tp (λ a c e=>k _ _ (r e) e) z) m.ev,m.wf,m.wx,m.n60,m.bg⟩
theorem Md.fin {HL H0 H':Hp} {lr le p tp:Addr} {es:List Ev} {zs ys:List V} {j:Nat} {r:Rc} {late:Int} {a:V} (m:Md HL H0 lr le es zs ys) (hj:lastI r.h ((dAll 0 [] es).map Rc.h)=some j) (hr:(dAll 0 [] es)[j]? = some r) (hz:zs[j]? = some (.ref p)) (ho:r.h∈es.foldl oStep []) (hh:0<=r.h/\r.h<=5) (l60:es.length < 60) (bl:bdI late) (ha1:isW r=true->a=.str "ok") (ha2:isW r=false->∃i,a=.int i/\bdA i)
  (k :∀b o,b≠p->b≠le->H0 b=some o->H' b=some o) (hp:H' p=some (.lst [.int r.h,r.v,r.x,a,.int r.b,.int (es.length:Nat),.int late])) (ht:H' tp=some (.tup [.str "end",.int r.h,a])) (hl:H' le=some (.lst (ys++[.ref tp]))) :
  Md HL H' lr le (es++[.fin r.h a]) zs (ys++[.ref tp]):=by
 obtain ⟨M,F,P⟩:=m.fz p (x0 hz);have A:dAll 0 [] (es++[.fin r.h a])=(dAll 0 [] es).modify j λ q=>{ q with a:=a,e:=some es.length }:=by rw [z2n];unfold dstep;dsimp only;rw [hj]
 have f :∀{i:Nat} {q:Rc},(dAll 0 [] (es++[.fin r.h a]))[i]? = some q->(i=j/\q={ r with a:=a,e:=some es.length })\/(i≠j/\(dAll 0 [] es)[i]? = some q):=λ {i q} z=>by
  rw [A,B2] at z;cases y:(dAll 0 [] es)[i]? with
  | none=>rw [y] at z;cases z
  | some r0=>
   rw [y] at z;have z:some (if j=i then { r0 with a:=a,e:=some es.length } else r0)=some q:=z;by_cases u:j=i
   ·subst u;rw [hr] at y;cases y;rw [if_pos rfl] at z;cases z;exact .inl ⟨rfl,rfl⟩
   ·rw [if_neg u] at z;cases z;exact .inr ⟨y3 u,rfl⟩
 have K :∀a t,H0 a=some (.tup t)->H' a=some (.tup t):=λ a t z=>k a _ (λ q=>by obtain ⟨_,_,_,_,J,I,_⟩:=z09 m.a hz;cases J;rw [q,I] at z;cases z) (λ q=>by rw [q,m.e] at z;cases z) z;have O:AnsOk a:=by
  cases w:isW r with
  | true=>exact .inl (ha1 w)
  | false=>obtain ⟨i,rfl,b⟩:=ha2 w;exact zda b
 have H:RdG { r with a:=a,e:=some es.length }\/WrG 0 { r with a:=a,e:=some es.length }:=by
  rcases m.g r (x0 hr) with g|g
  ·refine .inl ⟨g.1,g.2.1,λ _ _=>?_⟩;obtain ⟨i,e,_⟩:=ha2 g.w;show a=.int (intV a);rw [e];rfl
  ·exact .inr ⟨g.1,trivial,g.2.2.1,λ _ _=>ha1 g.w⟩
 refine ⟨λ b o z=>k b o (λ q=>by rw [q,M] at z;cases z) (λ q=>by rw [q,m.fe] at z;cases z) (m.s b o z),m.fl,m.fe,m.fz,m.nd,m.n1,k _ _ (y3 F) m.n1 m.l,?_,?_,?_,hl,?_,m.wf.snoc ho,?_,by rw [L0];show es.length + 1<=60;omega,?_⟩
 ·refine z1j (by rw [A,Y4];exact z03 m.a) λ i q v d c=>?_;rcases f d with ⟨rfl,rfl⟩|⟨ne,h0⟩
  ·rw [hz] at c;cases c;exact ⟨p,late,rfl,hp,bl⟩
  ·obtain ⟨Q,B,C,N,rfl,E,G⟩:=z09 m.a c;rw [h0] at B;cases B;refine ⟨C,N,rfl,k _ _ (λ z=>?_) (m.fz C (x0 c)).2.2 E,G⟩;subst z;exact ne (nd_at m.nd c hz)
 ·intro q L;obtain ⟨i,d⟩:=List.mem_iff_getElem?.mp L;rcases f d with ⟨_,rfl⟩|⟨_,h0⟩
  ·exact H
  ·exact m.g q (x0 h0)
 ·rw [A,Y4];exact m.n
 ·exact z0l (z01 (λ _ _ z=>EvT.tp K z) m.ev) ⟨tp,rfl,ht,hh.1,hh.2,O⟩
 ·intro i q d D;rcases f d with ⟨rfl,rfl⟩|⟨_,h0⟩
  ·exact m.wx i r hr D
  ·exact m.wx i q h0 D
 ·rw [C2];show (_++[]).length<=24;rw [O2];exact m.bg
theorem zba :∀(es:List Ev) (i:Nat) (rs:List Rc),(dAll i rs es).length=rs.length + (es.filter isBeg).length
 | [],_,_=>rfl
 | .beg h n v x :: es,i,rs=>by show (dAll (i + 1) (rs++[_]) es).length=rs.length + ((es.filter isBeg).length + 1);rw [zba es,L0];show rs.length + 1 + _=_;omega
 | .fin h a :: es,i,rs=>by
  show (dAll (i + 1) (dstep i rs (.fin h a)) es).length=rs.length + (es.filter isBeg).length;rw [zba es];congr 1;unfold dstep;dsimp only;cases lastI h (rs.map Rc.h) with
  | none=>rfl
  | some k=>exact Y4 ..
theorem nameR:NameOk "r":=⟨by decide +kernel,by decide +kernel,by decide +kernel⟩
def NewD (i:Nat) (v x:V):Prop:=(v=.str "read"/\x=.non)\/(v=.str "write"/\∃t y:Int,0<=t/\t < 1000/\x=.int y/\(y=(24 * t + i + 1) * 41666\/y=-((24 * t + i + 1) * 41666)))
theorem Md.beg {HL H0 H':Hp} {lr le p tp:Addr} {es:List Ev} {zs ys:List V} {h:Int} {v x:V} {late:Int} (m:Md HL H0 lr le es zs ys) (hn:(dAll 0 [] es).length < 24) (nd:NewD (dAll 0 [] es).length v x) (ho:h∉es.foldl oStep []) (hh:0<=h/\h<=5) (l60:es.length < 60) (bl:bdI late)
  (fp:H0 p=none) (k :∀b o,b≠lr->b≠le->H0 b=some o->H' b=some o) (hr:H' lr=some (.lst (zs++[.ref p]))) (hp:H' p=some (.lst [.int h,v,x,.non,.int (es.length:Nat),.non,.int late])) (ht:H' tp=some (.tup [.str "begin",.int h,.str "r",v,x])) (hl:H' le=some (.lst (ys++[.ref tp]))) :
  Md HL H' lr le (es++[.beg h (.str "r") v x]) (zs++[.ref p]) (ys++[.ref tp]):=by
 have n:dAll 0 [] (es++[.beg h (.str "r") v x])=dAll 0 [] es++[⟨h,.str "r",v,x,.non,es.length,none⟩]:=z2n es _;have E:=z03 m.a;have I:=zba es 0 [];rw [n4] at I;have S:HL p=none:=m.s.free fp;have J:p≠lr:=λ q=>by rw [q,m.l] at fp;cases fp
 have G:p≠le:=λ q=>by rw [q,m.e] at fp;cases fp
 have R:V.ref p∉zs:=λ q=>by obtain ⟨i,c⟩:=List.mem_iff_getElem?.mp q;obtain ⟨_,_,_,_,M,C,_⟩:=z09 m.a c;cases M;rw [fp] at C;cases C
 have N :∀a u,H0 a=some (.tup u)->H' a=some (.tup u):=λ a u z=>k a _ (λ q=>by rw [q,m.l] at z;cases z) (λ q=>by rw [q,m.e] at z;cases z) z;refine ⟨λ b o z=>k b o (λ q=>by rw [q,m.fl] at z;cases z) (λ q=>by rw [q,m.fe] at z;cases z) (m.s b o z),m.fl,m.fe,λ b w=>?_,?_,m.n1,hr,?_,?_,?_,hl,?_,m.wf.snoc ho,?_,by rw [L0];show es.length + 1<=60;omega,?_⟩
 ·rcases List.mem_append.mp w with z|z
  ·exact m.fz b z
  ·cases List.mem_singleton.mp z;exact ⟨S,J,G⟩
 ·exact List.nodup_append.mpr ⟨m.nd,List.nodup_cons.mpr ⟨B0,.nil⟩,λ a T b w e=>by rw [List.mem_singleton.mp w] at e;exact R (e ▸ T)⟩
 ·rw [n];refine z0l (z1j E λ i q v c A=>?_) ⟨p,late,rfl,hp,bl⟩;obtain ⟨U,d,B,Q,rfl,F,L⟩:=z09 m.a A;rw [c] at d;cases d;obtain ⟨_,D,K⟩:=m.fz B (x0 A);exact ⟨B,Q,rfl,k _ _ D K F,L⟩
 ·rw [n];intro q P;rcases List.mem_append.mp P with z|z
  ·exact m.g q z
  ·rw [List.mem_singleton.mp z];rcases nd with ⟨d,f⟩|⟨d,t,y,_,_,f,_⟩
   ·exact .inl ⟨d,f,λ _ z=>by cases z⟩
   ·exact .inr ⟨d,trivial,by show x=.int (intV x);rw [f];rfl,λ _ z=>by cases z⟩
 ·rw [n,L0];show _ + 1<=24;omega
 ·refine z0l (z01 (λ _ _ z=>EvT.tp N z) m.ev) ?_;rcases nd with ⟨rfl,rfl⟩|⟨rfl,t,y,t0,t1,rfl,hy⟩
  ·exact ⟨tp,"r","register","read",rfl,ht,hh.1,hh.2,rfl,rfl,.head _,nameR,.none (by decide +kernel)⟩
  ·refine ⟨tp,"r","register","write",rfl,ht,hh.1,hh.2,rfl,rfl,.head _,nameR,.one (by decide +kernel) ?_⟩;show (decide (-1000000000<=y) && decide (y<=1000000000))=true;rw [decide_eq_true (by omega),decide_eq_true (by omega)];rfl
 ·rw [n];intro i q c j;rw [Y9] at c;split at c
  ·exact m.wx i q c j
  ·rename_i z;obtain ⟨y,_⟩:=List.getElem?_eq_some_iff.mp c;rw [c7] at y;have H:i - (dAll 0 [] es).length=0:=by omega
   rw [H] at c;cases c;have O:i=(dAll 0 [] es).length:=by omega
   rcases nd with ⟨d,f⟩|⟨d,t,y,t0,t1,f,hy⟩
   ·unfold isW at j;rw [show (⟨h,.str "r",v,x,.non,es.length,none⟩:Rc).v=v from rfl,d,decide_eq_false z1c] at j;cases j
   ·refine ⟨t,t0,t1,?_⟩;show intV x=_\/intV x=_;rw [f,O];exact hy
 ·rw [C2];show (_++[_]).length<=24;rw [L0];show _ + 1<=24;omega
end
section
variable {P:Program} {w:P0} {mg:Str->Option Value} {base:Heap}
theorem Same.upd2 {B H:Hp} {l:Addr} {o:HO} (s:Same B H):Same (upd B l o) (upd H l o):=λ p x e=>by
 by_cases z:p=l
 ·subst z;rw [z02] at e⊢;exact e
 ·rw [upd_ne z] at e⊢;exact s _ _ e
theorem row_ok {es:List Ev} {h:Int} {j:Nat} (hj:lastI h ((dAll 0 [] es).map Rc.h)=some j) :∃r,(dAll 0 [] es)[j]? = some r/\r.h=h:=by have a:=(z56 _ hj).1;rw [S0] at a;obtain ⟨r,c,b⟩:=Option.map_eq_some_iff.mp a;exact ⟨r,c,b⟩
theorem nx_to3 {t:TS} {D:Ends} {rt:VK} {bk ct:L2.St->Hp->Prop} {σ:L2.St} {H:Hp} (h:t D σ H):({ nx:=t D,rt:=rt,bk:=bk,ct:=ct }:Ends).nx σ H:=h
theorem ev_at {K:c0} {H:Hp} {ts:List (Str×Str)} :∀{e:Ev} {y:V},EvT H ts e y->EvAt K H e y
 | .beg _ _ _ _,_,⟨p,_,_,_,h1,h2,_⟩=>⟨p,h1,SqT.of h2⟩
 | .fin _ _,_,⟨p,h1,h2,_⟩=>⟨p,h1,SqT.of h2⟩
theorem Md.tw {HL H:Hp} {lr le:Addr} {es:List Ev} {zs ys:List V} (m:Md HL H lr le es zs ys):TwG es:=⟨(DInv.nil.all m.wf).1,λ _ r a=>m.g r a,m.wx.nd m.n,m.wx.n0⟩
def z3f (K:c0):Sp:=λ vs H Q _=>∃(c:Addr) (sp:Bool) (ns:List Int),vs=[.ref c,.int 24,.bl sp]/\SqL K H c (ns.map V.int)/\ns.length<=60/\∀tt tl lr zs es ys H',Same H H'->H' tt=some (.tup [.ref tl,.ref lr])->TalR K H' tl "r" 0 es ys->RwsA H' lr (dAll 0 [] es) zs->Q (.ref tt) H'
theorem z79 (T:TX (kx w) mg) (c0:Ca P w mg base "_law_row" ["cell"] 1 z41) (c1:Ca P w mg base "_law_take" ["row","many"] 1 z0v) (c2:Ca P w mg base "_law_answer" ["row","deed","now","rows","spoilt"] 2 (z1w (kx w))) (c3:Ca P w mg base "_law_exchanged" ["row","rows","events"] 2 (z15 (kx w))) (c4:Ca P w mg base "make_tale" ["things","events"] 7 (z2v (kx w))):Fo P w mg base CX0 8 326 y0h ["cells","most","spoilt"] (z3f (kx w)):=by
 refine (z24 w.params).ok sc__law_made (λ vs H Q E h=>?_) (λ j3 A j0 s H vs Q E D h=>?_)
 ·obtain ⟨c,sp,ns,rfl,_⟩:=h;rfl
 ·obtain ⟨c,sp,ns,rfl,sq,j4,q⟩:=h;refine q_of (z0c (QS.mk (ps_set (i:=3) sc__law_made.nd rfl (N1 rfl) (pe_lst pa_nil)))
   (z0c (QS.mk (ps_set (i:=4) sc__law_made.nd rfl (N1 rfl) (pe_lst pa_nil)))
   (z0c (QS.mk (ps_set (i:=5) sc__law_made.nd rfl (N1 rfl) z75))
   (z0c (QS.mk (ps_set (i:=6) sc__law_made.nd rfl (N1 rfl) pe_int))
   (z0c (qs_for g4 rfl (z0n (pv 0)) (z11 (i:=7) sc__law_made.nd rfl (N1 rfl))
   (z0c (QS.mk (ps_set (i:=8) sc__law_made.nd rfl (N1 rfl) (pe_cal c0 (D.mono (by decide)) rfl (z00 (pv 7) pa_nil))))
   (z0c (QS.mk (ps_set (i:=9) sc__law_made.nd rfl (N1 rfl) (pe_cal c1 (D.mono (by decide)) rfl (z00 (pv 8) (z00 pe_int pa_nil)))))
   (z2e (qs_if (pt_cmp (pc_din (hu_of D) (pv 9) (pv 5)) (by with_unfolding_all rfl))
   (z0c (QS.mk (ps_set (i:=10) sc__law_made.nd rfl (N1 rfl) (pe_ix ix_seq (pv 3) (zdw (pv 5) (pv 9) ⟨rfl,rfl,rfl,rfl⟩) (λ _ _=>rfl))))
   (z0c (QS.mk (ps_if (PW.pt (pw_and (z0a opEq (pe_ix ix_seq (pv 10) pe_int (λ _ _=>rfl)) pe_str (nomark _)) (z2x (z0a opEq (pe_ix ix_seq (pv 10) pe_int (λ _ _=>rfl)) pe_int (nomark _)))))
   (z06 (ps_set (i:=6) sc__law_made.nd rfl (N1 rfl) (pe_ix ix_seq (pv 10) pe_int (λ _ _=>rfl))))
   z0g))
   (z0c (QS.mk (ps_asg (pe_cal c2 (D.mono (by decide)) rfl (z00 (pv 8) (z00 (pv 10) (z00 (pv 6) (z00 (pv 3) (z00 (pv 2) pa_nil)))))) (pg_sub (pv 10) pe_int z1s)))
   (z0c (QS.mk (ps_asg (z08 z0s rfl (T.no (n_len _)) Q3 (z00 (pv 4) pa_nil)) (pg_sub (pv 10) pe_int z1s)))
   (z2e (QS.mk (z1n (z0z (pv 4) (z00 (pe_tup (z00 pe_str (z00 (pv 9) (z00 (pe_ix ix_seq (pv 10) pe_int (λ _ _=>rfl)) pa_nil)))) pa_nil)))))))))
   (z2e (qs_if (z0a op_lt (z08 z0s rfl (T.no (n_len _)) Q3 (z00 (pv 3) pa_nil)) (pv 1) (nomark _))
   (z0c (qs_set (i:=11) sc__law_made.nd rfl (N1 rfl) (qe_ix ix_seq (qe_lst (z1l (QE.mk pe_str) (z1l (QE.mk pe_str) qa_nil))) (QE.mk (pe_cal c1 (D.mono (by decide)) rfl (z00 (pv 8) (z00 pe_int pa_nil)))) (λ _ _=>rfl)))
   (z0c (QS.mk (ps_set (i:=12) sc__law_made.nd rfl (N1 rfl) pe_non))
   (z0c (QS.mk (ps_set (i:=13) sc__law_made.nd rfl (N1 rfl) (pv 6)))
   (z0c (qs_if (z0a opEq (pv 11) pe_str (nomark _))
   (z0c (qs_set (i:=12) sc__law_made.nd rfl (N1 rfl) (qe_op op_mul (QE.mk (pe_op op_mul (pe_op opAdd (pe_op opAdd (pe_op op_mul pe_int (pe_cal c1 (D.mono (by decide)) rfl (z00 (pv 8) (z00 pe_int pa_nil)))) (z08 z0s rfl (T.no (n_len _)) Q3 (z00 (pv 3) pa_nil))) pe_int) pe_int)) (qe_ix ix_seq (qe_lst (z1l (QE.mk pe_int) (z1l (QE.mk (pe_un un_neg pe_int)) qa_nil))) (QE.mk (pe_cal c1 (D.mono (by decide)) rfl (z00 (pv 8) (z00 pe_int pa_nil)))) (λ _ _=>rfl))))
   (z0c (QS.mk (ps_set (i:=13) sc__law_made.nd rfl (N1 rfl) (pe_cal c1 (D.mono (by decide)) rfl (z00 (pv 8) (z00 pe_int pa_nil)))))
   (z2e (QS.mk (ps_if (z0a opEq (pv 13) pe_int (nomark _))
   (z06 (ps_set (i:=6) sc__law_made.nd rfl (N1 rfl) (pv 12)))
   z0g)))))
   (QSs.mk z0g))
   (z0c (QS.mk (z5h (hu_of D) (pv 5) (pv 9) (z08 z0s rfl (T.no (n_len _)) Q3 (z00 (pv 3) pa_nil)) rfl))
   (z0c (QS.mk (z1n (z0z (pv 3) (z00 (pe_lst (z00 (pv 9) (z00 (pv 11) (z00 (pv 12) (z00 pe_non (z00 (z08 z0s rfl (T.no (n_len _)) Q3 (z00 (pv 4) pa_nil)) (z00 pe_non (z00 (pv 13) pa_nil)))))))) pa_nil))))
   (z2e (QS.mk (z1n (z0z (pv 4) (z00 (pe_tup (z00 pe_str (z00 (pv 9) (z00 pe_str (z00 (pv 11) (z00 (pv 12) pa_nil)))))) pa_nil)))))))))))
   (QSs.mk z0g))))))))
   (z0c (QS.mk (ps_if (pt_val (pv 2) (λ _=>rfl))
   (z06 (z1n (pe_cal c3 (D.mono (by decide)) rfl (z00 (pe_cal c0 (D.mono (by decide)) rfl (z00 (z08 (zcz rfl) rfl (T.no (n_sum _)) boot_sum (z00 (pv 0) pa_nil)) pa_nil)) (z00 (pv 3) (z00 (pv 4) pa_nil))))))
   z0g))
   (z2e (QS.mk (ps_ret (pe_tup (z00 (pe_cal c4 (D.mono (by decide)) rfl (z00 (pe_lst (z00 (pe_tup (z00 pe_str (z00 pe_str pa_nil))) pa_nil)) (z00 (pv 4) pa_nil))) (z00 (pv 3) pa_nil)))))))))))) ?_
  refine z0b ⟨w_0,λ u f0=>g_name ?_⟩;obtain ⟨H1,v_,u1,e1⟩:=newA (.lst []) f0;rw [<-v_];refine z0b ⟨w_0,λ le b6=>g_name ?_⟩;have i6:u≠le:=λ z=>by rw [<-z,e1] at b6;cases b6
  have g7:=u1.free b6;have v2:=Same.upd (o:=.lst []) b6;have u2:=u1.trans v2;have b0:=v2 _ _ e1;have e2:upd H1 le (.lst []) le=some (.lst []):=z02;generalize upd H1 le (.lst [])=H2 at v2 u2 b0 e2⊢;refine z0b λ hd d8=>g_name ?_;have f4:=u2.free d8;have v3:=Same.upd (o:=.dK []) d8;have e3:upd H2 hd (.dK []) hd=some (.dK (heldK [])):=z02;have d5:Md H (upd H2 hd (.dK [])) u le [] [] []:=⟨u2.trans v3,f0,g7,λ p O=>absurd O B0,.nil,i6,v3 _ _ b0,.nil,λ r D=>absurd D B0,L1 _,v3 _ _ e2,.nil,trivial,(λ i r h=>by cases h),L1 _,L1 _⟩
  generalize upd H2 hd (.dK [])=H3 at e3 d5⊢;refine z0b (g_name ?_);refine ⟨_,rfl,c,rfl,⟨_,d5.s.seq sq⟩,?_⟩;refine z55 (K:=KX w.params) (a:=c) (xs:=ns.map V.int) (λ i σ H'=>∃es zs ys os now x7 x8 x9 x10 x11 x12 x13,Md H H' u le es zs ys/\H' hd=some (.dK (heldK os))/\HdI es os/\bdI now/\es.length<=i/\os.length<=i/\σ=[some (.ref c),some (.int 24),some (.bl sp),some (.ref u),some (.ref le),some (.ref hd),some (.int now),x7,x8,x9,x10,x11,x12,x13]) ⟨[],[],[],[],0,_,_,_,_,_,_,_,d5,e3,⟨rfl,λ h j z=>absurd z B0⟩,⟨by decide,by decide⟩,A0 _,A0 _,rfl⟩ (λ _ σ H' _ h=>by obtain ⟨_,_,_,_,_,_,_,_,_,_,_,_,t,_⟩:=h;exact t.s.seq sq) ?_ ?_
  ·rintro i y σ F hy ⟨es,zs,ys,os,now,x7,x8,x9,x10,x11,x12,x13,t,ehd,hdI,bn,lei,loi,rfl⟩;obtain ⟨cl,_,rfl⟩:=List.mem_map.mp (x0 hy);have hi:i < 60:=by have:=(List.getElem?_eq_some_iff.mp hy).1;rw [D0] at this;omega
   have lz:=z03 t.a;have ly:=z03 t.ev;refine g_name ?_;refine z0b ⟨_,rfl,cl,rfl,λ r o G b1=>g_name ?_⟩;have u5:=Same.upd (o:=o) G;generalize upd F r o=H5 at u5 b1⊢;refine z0b ⟨_,rfl,r,4,rfl,b1,by decide,by decide,λ h H6 c5 h0 h1=>g_name ?_⟩;have s6:=Same.kp u5 G c5.k;have b4:=s6 _ _ ehd;have f7:r≠hd:=λ z=>by rw [z,ehd] at G;cases G
   refine z0u ⟨_,rfl,_,rfl,hd,_,rfl,DGet.k (k:=.inl h) b4,_,rfl,?_⟩;by_cases hb:h∈os.map (·.1)
   ·refine iteP (held_in.mpr hb) ?_;obtain ⟨j,g3,g2⟩:=za4 hb;have hj:=hdI.j h j g3;obtain ⟨f,b3,i3⟩:=row_ok hj;obtain ⟨z,b7,pz⟩:=z7f t.a b3;obtain ⟨p,I,rfl,W,bl⟩:=id pz;obtain ⟨f1,f2,f3⟩:=t.fz p (x0 b7);have C:Md H (upd F hd (.dK (dropK (heldK os) (.inl h)))) u le es zs ys:=t.kp ehd f4 λ b o n e=>by rw [upd_ne n];exact e
    have U:=Same.upd2 (l:=hd) (o:=.dK (dropK (heldK os) (.inl h))) s6;have n7:upd F hd (.dK (dropK (heldK os) (.inl h))) r=none:=by rw [upd_ne f7];exact G
    have e4:DkAt (upd H6 hd (.dK (dropK (heldK os) (.inl h)))) r:=by obtain ⟨a,b,c,e,z⟩:=c5.d;exact ⟨a,b,c,by rw [upd_ne f7];exact e,z⟩
    have a1:upd F hd (.dK (dropK (heldK os) (.inl h))) hd=some (.dK (heldK (os.filter λ k=>decide (k.1≠h)))):=by rw [z02,z4v]
    have e8:upd H6 hd (.dK (dropK (heldK os) (.inl h))) u=some (.lst zs):=U _ _ C.l;refine z0b ⟨_,rfl,_,rfl,hd,rfl,.inl ⟨_,.inl b4⟩,_,rfl,heldK os,.inl h,.int (j:Nat),b4,rfl,g2,.inl ⟨u,zs,j,.ref p,rfl,rfl,SqL.of e8,z04 b7,g_name ?_⟩⟩;have a2:upd F hd (.dK (dropK (heldK os) (.inl h))) p=some (.lst [.int f.h,f.v,f.x,f.a,.int f.b,endV f.e,.int I]):=by rw [upd_ne (show p≠hd from λ z=>by rw [z,ehd] at W;cases W)];exact W
    generalize upd F hd (.dK (dropK (heldK os) (.inl h)))=H0' at C U n7 a1 a2;generalize upd H6 hd (.dK (dropK (heldK os) (.inl h)))=H7 at U e4 e8⊢;have b5:=SqL.of (K:=KX w.params) (U _ _ a2);have g0:=t.g f (x0 b3);refine z5y (λ σ' H'=>H'=H7/\∃now',bdI now'/\σ'=[some (.ref c),some (.int 24),some (.bl sp),some (.ref u),some (.ref le),some (.ref hd),some (.int now'),some (.int cl),some (.ref r),some (.int h),some (.ref p),x11,x12,x13]) ?_ λ L=>?_;rotate_left
    ·rcases g0 with g|g
     ·exact z0u (t_and ⟨_,rfl,.inl ⟨p,_,1,.str "read",rfl,rfl,b5,by rw [g.1];exact z04 (j:=1) rfl,rfl,_,rfl,iteK (iteF (L _ _ ⟨rfl,now,bn,rfl⟩))⟩⟩)
     ·refine z0u (t_and ⟨_,rfl,.inl ⟨p,_,1,.str "write",rfl,rfl,b5,by rw [g.1];exact z04 (j:=1) rfl,rfl,_,rfl,iteP (by decide +kernel) ⟨_,rfl,.inl ⟨p,_,6,.int I,rfl,rfl,b5,z04 (j:=6) rfl,rfl,_,rfl,ite2 (λ _=>?_) λ _=>L _ _ ⟨rfl,now,bn,rfl⟩⟩⟩⟩⟩);have bx:=t.wx.bd t.n f (x0 b3) g.w;exact ⟨_,rfl,.inl ⟨p,_,2,.int (intV f.x),rfl,rfl,b5,by rw [<-g.2.2.1];exact z04 (j:=2) rfl,g_name (L _ _ ⟨rfl,_,bx,rfl⟩)⟩⟩
    rintro σ j2 ⟨rfl,now',bn',rfl⟩;refine z0b ⟨_,rfl,_,rfl,_,rfl,_,rfl,_,rfl,r,p,u,f,now',sp,_,zs,H0',rfl,U,n7,e4,⟨p,I,rfl,a2,bl⟩,g0,bn',C.rws,λ a H8 R a8 i2 g5=>?_⟩;refine ⟨_,rfl,p,_,3,3,rfl,rfl,R _ _ a2,rfl,?_⟩;have e9:upd H8 p (.lst ([.int f.h,f.v,f.x,f.a,.int f.b,endV f.e,.int I].set 3 a)) p=some (.lst [.int f.h,f.v,f.x,a,.int f.b,endV f.e,.int I]):=z02;have k9 :∀b o,b≠p->H8 b=some o->upd H8 p (.lst ([.int f.h,f.v,f.x,f.a,.int f.b,endV f.e,.int I].set 3 a)) b=some o:=λ b o n z=>by rw [upd_ne n];exact z
    generalize upd H8 p (.lst ([.int f.h,f.v,f.x,f.a,.int f.b,endV f.e,.int I].set 3 a))=S at e9 k9⊢;have g6:=k9 _ _ (y3 f3) (R _ _ C.e);refine z0b ⟨_,rfl,.inl ⟨le,ys,rfl,.inl (SqL.of g6),_,rfl,p,_,5,5,rfl,rfl,e9,rfl,?_⟩⟩;have Z:upd S p (.lst ([.int f.h,f.v,f.x,a,.int f.b,endV f.e,.int I].set 5 (.int (ys.length:Nat)))) p=some (.lst [.int f.h,f.v,f.x,a,.int f.b,.int (ys.length:Nat),.int I]):=z02;have b2 :∀b o,b≠p->H8 b=some o->upd S p (.lst ([.int f.h,f.v,f.x,a,.int f.b,endV f.e,.int I].set 5 (.int (ys.length:Nat)))) b=some o:=λ b o n z=>by rw [upd_ne n];exact k9 _ _ n z
    generalize upd S p (.lst ([.int f.h,f.v,f.x,a,.int f.b,endV f.e,.int I].set 5 (.int (ys.length:Nat))))=H10 at Z b2⊢;have c6:=b2 _ _ (y3 f3) (R _ _ C.e);refine ⟨_,rfl,.inl ⟨rfl,_,SqL.of c6⟩,_,rfl,_,rfl,.inl ⟨p,_,3,a,rfl,rfl,SqL.of Z,z04 (j:=3) rfl,w_3,λ tp a0=>?_⟩⟩;have J:=Same.upd (o:=.tup [.str "end",.int h,a]) a0;have a5:upd H10 tp (.tup [.str "end",.int h,a]) tp=some (.tup [.str "end",.int h,a]):=z02;have nt:tp≠le:=λ z=>by rw [z,c6] at a0;cases a0
    generalize upd H10 tp (.tup [.str "end",.int h,a])=N at J a5⊢;refine ⟨le,ys,_,rfl,rfl,J _ _ c6,F1 (m:=100) (by omega) (by decide),?_⟩;subst i3;have ho:f.h∈es.foldl oStep []:=by rw [<-hdI.o];exact hb
    rw [ly] at Z;have a9:=C.fin (H':=upd N le (.lst (ys++[.ref tp]))) (tp:=tp) (a:=a) hj b3 b7 ho ⟨h0,by omega⟩ (by omega) bl i2 g5 (λ b o n1 n2 z=>by rw [upd_ne n2];exact J _ _ (b2 _ _ n1 (R _ _ z))) (by rw [upd_ne f3];exact J _ _ Z) (by rw [upd_ne nt];exact a5) z02;have d4:upd N le (.lst (ys++[.ref tp])) hd=some (.dK (heldK (os.filter λ k=>decide (k.1≠f.h)))):=by rw [upd_ne (λ z=>by rw [z] at a1;have:=C.e;rw [a1] at this;cases this)];exact J _ _ (b2 _ _ (λ z=>by rw [z] at a1;rw [a1] at a2;cases a2) (R _ _ a1))
    exact ⟨es++[.fin f.h a],zs,ys++[.ref tp],os.filter λ k=>decide (k.1≠f.h),now',_,_,_,_,_,_,_,a9,d4,hdI.fin,bn',by rw [L0];show es.length + 1<=i + 1;omega,G0 (Z0 _ _) (by omega),rfl⟩
   ·refine iteN (λ z=>hb (held_in.mp z)) ?_;have a6:=t.same s6;refine z0u ⟨_,rfl,.inl ⟨u,zs,rfl,.inl (SqL.of a6.l),_,rfl,_,_,rfl,rfl,_,rfl,ite2 (λ zl=>?_) λ _=>⟨es,zs,ys,os,now,_,_,_,_,_,_,_,a6,b4,hdI,bn,by omega,by omega,rfl⟩⟩⟩;have zl:zs.length < 24:=by have:=of_decide_eq_true zl;omega
    have f5:=c5.d;refine z0b ⟨w_2,λ lv d6=>?_⟩;have u7:=Same.upd (o:=.lst [.str "read",.str "write"]) d6;have e7:upd H6 lv (.lst [.str "read",.str "write"]) lv=some (.lst [.str "read",.str "write"]):=z02;have h4:lv≠r:=λ z=>by obtain ⟨a,b,c,e,_⟩:=f5;rw [z,e] at d6;cases d6
    generalize upd H6 lv (.lst [.str "read",.str "write"])=H7 at u7 e7⊢;refine ⟨_,rfl,r,2,rfl,f5.same u7,by decide,by decide,λ tv H8 a8 i9 j5=>?_⟩;have R:=Same.kp (s6.trans u7) G a8.k;obtain ⟨n,B,rfl,f8,ev⟩ :∃(n:Nat) (B:Str),tv=(n:Int)/\(B = "read"\/B = "write")/\[V.str "read",.str "write"][n]? = some (.str B):=by
     rcases (show tv=0\/tv=1 by omega) with rfl|rfl
     ·exact ⟨0,"read",rfl,.inl rfl,rfl⟩
     ·exact ⟨1,"write",rfl,.inr rfl,rfl⟩
    refine .inl ⟨lv,_,n,.str B,rfl,rfl,SqL.of (a8.k _ _ h4 e7),z04 ev,g_name ?_⟩;refine z0b (g_name ?_);refine z0b ⟨_,rfl,g_name ?_⟩;refine z5y (λ σ' H'=>∃x late' now',Same F H'/\DkAt H' r/\NewD zs.length (.str B) x/\bdI late'/\bdI now'/\σ'=[some (.ref c),some (.int 24),some (.bl sp),some (.ref u),some (.ref le),some (.ref hd),some (.int now'),some (.int cl),some (.ref r),some (.int h),x10,some (.str B),some x,some (.int late')]) ?_ λ L=>?_;rotate_left
    ·rcases f8 with rfl|rfl
     ·exact z0u ⟨_,rfl,rfl,_,rfl,iteK (L _ _ ⟨.non,now,now,R,a8.d,.inl ⟨rfl,rfl⟩,bn,bn,rfl⟩)⟩
     ·refine z0u ⟨_,rfl,rfl,_,rfl,iteP (by decide +kernel) ?_⟩;refine z0b ⟨_,rfl,r,1000,rfl,a8.d,by decide,by decide,λ tw S d7 i0 h6=>?_⟩;have s9:=Same.kp R G d7.k;refine ⟨24,_,rfl,rfl,.inl ⟨by decide,by decide⟩,_,rfl,.inl ⟨u,zs,rfl,.inl (SqL.of (s9 _ _ t.l)),.inl ⟨_,_,rfl,rfl,.inl ⟨_,_,rfl,rfl,_,_,rfl,rfl,.inl ⟨by omega,by omega⟩,?_⟩⟩⟩⟩;refine ⟨1,rfl,w_2,λ lx c9=>?_⟩;have e6:=d7.d;have d1:=Same.upd (o:=.lst [.int 1,.int (-1)]) c9;have Z:upd S lx (.lst [.int 1,.int (-1)]) lx=some (.lst [.int 1,.int (-1)]):=z02;have h7:lx≠r:=λ z=>by obtain ⟨a,b,c,e,_⟩:=e6;rw [z,e] at c9;cases c9
      generalize upd S lx (.lst [.int 1,.int (-1)])=H10 at d1 Z⊢;refine ⟨_,rfl,r,2,rfl,e6.same d1,by decide,by decide,λ ts N d2 j6 i7=>?_⟩;have g1:=Same.kp (s9.trans d1) G d2.k;obtain ⟨n2,X,rfl,f6,i5⟩ :∃(n:Nat) (X:Int),ts=(n:Int)/\(X=1\/X=-1)/\[V.int 1,.int (-1)][n]? = some (.int X):=by
       rcases (show ts=0\/ts=1 by omega) with rfl|rfl
       ·exact ⟨0,1,rfl,.inl rfl,rfl⟩
       ·exact ⟨1,-1,rfl,.inr rfl,rfl⟩
      refine .inl ⟨lx,_,n2,.int X,rfl,rfl,SqL.of (d2.k _ _ h7 Z),z04 i5,_,_,rfl,rfl,.inl ⟨by omega,by omega⟩,?_⟩;obtain ⟨y,hy,nw,f9⟩ :∃y:Int,(24 * tw + (zs.length:Int) + 1) * 41666 * X=y/\(y=(24 * tw + zs.length + 1) * 41666\/y=-((24 * tw + zs.length + 1) * 41666))/\bdI y:=by
       refine ⟨_,rfl,?_,?_⟩
       ·rcases f6 with rfl|rfl<;>omega
       ·unfold bdI;rcases f6 with rfl|rfl<;>omega
      show gName 12 (V.int ((24 * tw + (zs.length:Int) + 1) * 41666 * X)) _ _ _;rw [hy];refine g_name ?_;have nd:NewD zs.length (.str "write") (.int y):=.inr ⟨rfl,tw,y,i0,h6,rfl,nw⟩;refine z0b ⟨_,rfl,r,2,rfl,d2.d,by decide,by decide,λ tl c8 b9 j1 i8=>g_name ?_⟩;have e0:=Same.kp g1 G b9.k;have bl:bdI tl:=⟨by omega,by omega⟩
      refine z0u ⟨_,rfl,rfl,_,rfl,ite2 (λ _=>⟨_,rfl,g_name (L _ _ ⟨.int y,tl,y,e0,b9.d,nd,bl,f9,rfl⟩)⟩) λ _=>L _ _ ⟨.int y,tl,now,e0,b9.d,nd,bl,bn,rfl⟩⟩
    rintro σ S ⟨x,late',now',s9,d7,nd,bl,bn',rfl⟩;have h3:=SqL.of (K:=KX w.params) (s9 _ _ t.l);have put:=zdy (b:=zs.length) hb;refine ⟨_,rfl,.inl ⟨u,zs,rfl,.inl h3,_,rfl,_,rfl,hd,_,rfl,DPut.k (k:=.inl h) (s9 _ _ ehd) (F1 (m:=100) (by unfold heldK;rw [D0];omega) (by decide)),t_nx ?_⟩⟩;have C:Md H (upd F hd (.dK (putK (heldK os) (.inl h) (.int (zs.length:Nat))))) u le es zs ys:=t.kp ehd f4 λ b o n e=>by rw [upd_ne n];exact e
    have Y:=Same.upd2 (l:=hd) (o:=.dK (putK (heldK os) (.inl h) (.int (zs.length:Nat)))) s9;have a3:upd F hd (.dK (putK (heldK os) (.inl h) (.int (zs.length:Nat)))) hd=some (.dK (heldK (os++[(h,zs.length)]))):=by rw [z02,put]
    generalize upd F hd (.dK (putK (heldK os) (.inl h) (.int (zs.length:Nat))))=H0' at C Y a3;generalize upd S hd (.dK (putK (heldK os) (.inl h) (.int (zs.length:Nat))))=H10 at Y⊢;have b8:=Y _ _ C.l;have d0:=Y _ _ C.e;refine ⟨_,rfl,.inl ⟨rfl,_,SqL.of b8⟩,_,rfl,_,rfl,_,rfl,_,rfl,.inl ⟨le,ys,rfl,.inl (SqL.of d0),_,rfl,w_7,λ p O=>?_⟩⟩;have J:=Same.upd (o:=.lst [.int h,.str B,x,.non,.int (ys.length:Nat),.non,.int late']) O;have a5:upd H10 p (.lst [.int h,.str B,x,.non,.int (ys.length:Nat),.non,.int late']) p=some (.lst [.int h,.str B,x,.non,.int (ys.length:Nat),.non,.int late']):=z02;have fp:H0' p=none:=Y.free O;have g8:p≠u:=λ z=>by rw [z,b8] at O;cases O
    have h2:p≠le:=λ z=>by rw [z,d0] at O;cases O
    generalize upd H10 p (.lst [.int h,.str B,x,.non,.int (ys.length:Nat),.non,.int late'])=N at J a5⊢;refine ⟨u,zs,_,rfl,rfl,J _ _ b8,F1 (m:=100) (by omega) (by decide),t_nx ?_⟩;have b0:upd N u (.lst (zs++[.ref p])) u=some (.lst (zs++[.ref p])):=z02;have a7 :∀b o,b≠u->N b=some o->upd N u (.lst (zs++[.ref p])) b=some o:=λ b o n z=>by rw [upd_ne n];exact z
    generalize upd N u (.lst (zs++[.ref p]))=c8 at b0 a7⊢;have c7:=a7 _ _ (y3 t.n1) (J _ _ d0);refine ⟨_,rfl,.inl ⟨rfl,_,SqL.of c7⟩,_,rfl,_,rfl,_,rfl,w_5,λ tp a0=>?_⟩;have a4:=Same.upd (o:=.tup [.str "begin",.int h,.str "r",.str B,x]) a0;have e5:upd c8 tp (.tup [.str "begin",.int h,.str "r",.str B,x]) tp=some (.tup [.str "begin",.int h,.str "r",.str B,x]):=z02;have nt:tp≠le:=λ z=>by rw [z,c7] at a0;cases a0
    generalize upd c8 tp (.tup [.str "begin",.int h,.str "r",.str B,x])=H13 at a4 e5⊢;refine ⟨le,ys,_,rfl,rfl,a4 _ _ c7,F1 (m:=100) (by omega) (by decide),?_⟩;have ho:h∉es.foldl oStep []:=by rw [<-hdI.o];exact hb
    rw [ly] at a5;rw [lz] at nd zl;have a9:=C.beg (H':=upd H13 le (.lst (ys++[.ref tp]))) (tp:=tp) (p:=p) zl nd ho ⟨h0,by omega⟩ (by omega) bl fp (λ b o n1 n2 z=>by rw [upd_ne n2];exact a4 _ _ (a7 _ _ n1 (J _ _ (Y _ _ z)))) (by rw [upd_ne t.n1];exact a4 _ _ b0) (by rw [upd_ne h2];exact a4 _ _ (a7 _ _ g8 a5)) (by rw [upd_ne nt];exact e5) z02;have d4:upd H13 le (.lst (ys++[.ref tp])) hd=some (.dK (heldK (os++[(h,zs.length)]))):=by rw [upd_ne (λ z=>by rw [z] at a3;have:=C.e;rw [a3] at this;cases this)];exact a4 _ _ (a7 _ _ (λ z=>by rw [z] at a3;have:=C.l;rw [a3] at this;cases this) (J _ _ (Y _ _ a3)))
    have d9:=hdI.beg (nm:=.str "r") (v:=.str B) (y:=x) hb;rw [<-lz] at d9;exact ⟨es++[.beg h (.str "r") (.str B) x],zs++[.ref p],ys++[.ref tp],os++[(h,zs.length)],now',_,_,_,_,_,_,_,a9,d4,d9,bn',by rw [L0];show es.length + 1<=i + 1;omega,by rw [L0];show os.length + 1<=i + 1;omega,rfl⟩
  rintro σ F ⟨es,zs,ys,os,now,x7,x8,x9,x10,x11,x12,x13,t,ehd,hdI,bn,lei,loi,rfl⟩;refine nx_to3 ?_;refine z5y (λ σ' H'=>∃es zs ys,Md H H' u le es zs ys/\σ'=[some (.ref c),some (.int 24),some (.bl sp),some (.ref u),some (.ref le),some (.ref hd),some (.int now),x7,x8,x9,x10,x11,x12,x13]) ?_ λ L=>?_;rotate_left
  ·refine z0u ⟨_,rfl,_,rfl,?_⟩;cases sp with
   | false=>exact iteN (by decide) (L _ _ ⟨es,zs,ys,t,rfl⟩)
   | true=>exact iteP rfl ⟨_,rfl,c,ns,rfl,t.s.seq sq,ns.sum,rfl,λ r o G b1=>⟨_,rfl,_,rfl,r,u,le,es,zs,ys,H,F,rfl,Same.upd G,G,b1,t,λ i1 i4 H' a9=>L _ _ ⟨i1,zs,i4,a9,rfl⟩⟩⟩
  clear t ehd hdI lei loi;rintro σ H5 ⟨es,zs,ys,t,rfl⟩;refine ⟨w_2,λ M h5=>⟨w_1,λ la h9=>?_⟩⟩;have w1:=Same.upd (o:=.tup [.str "r",.str "register"]) h5;have w2:=Same.upd (o:=.lst [.ref M]) h9;have u6:=w1.trans w2;have W:=w2 _ _ (z02 (H:=H5) (a:=M) (o:=.tup [.str "r",.str "register"]));have ea:upd (upd H5 M (.tup [.str "r",.str "register"])) la (.lst [.ref M]) la=some (.lst [.ref M]):=z02;generalize upd (upd H5 M (.tup [.str "r",.str "register"])) la (.lst [.ref M])=H6 at u6 W ea⊢;have a6:=t.same u6;have j7:=t.n60;refine ⟨_,rfl,la,le,M,("r","register"),ys,es,rfl,ea,⟨M,rfl,W⟩,⟨nameR,by decide +kernel⟩,a6.e,a6.ev,by omega,t.bg,t.wf,λ tt c' e' H7 U g9 ec ee=>?_⟩;refine ⟨_,rfl,w_2,λ t2 h8=>?_⟩;have u8:=Same.upd (o:=.tup [.ref tt,.ref u]) h8;have d3:=a6.same (U.trans u8);exact q t2 tt u zs es ys _ d3.s z02 ⟨⟨c',e',M,SqT.of (u8 _ _ g9),SqT.of (u8 _ _ ec),SqT.of (u8 _ _ (U _ _ W)),SqT.of (u8 _ _ ee)⟩,z01 (λ _ _ z=>ev_at z) d3.ev,t.tw,by omega⟩ d3.rws
theorem zca {a:Addr} {ob:Obj} {kvs:List (Key×V)} {g:TG} {tb:TS} {D:Ends} {σ:L2.St} {H:Hp} (Pv:Nat->L2.St->Hp->Prop) (h0:Pv 0 σ H) (fr :∀i σ H,Pv i σ H->H a=some (.frz ob (.dK kvs)))
  (hs :∀i k σ H,(kvs.map (·.1))[i]? = some k->Pv i σ H->g (kV k) σ H λ σ2 H2=>tb { D with nx:=Pv (i + 1),ct:=Pv (i + 1),bk:=D.nx } σ2 H2) (hd :∀σ H,Pv kvs.length σ H->D.nx σ H) :
  ∃W:Nat->Nat->L2.St->Hp->Prop,(∃m,W 0 m σ H)/\∀i m σ H,W i m σ H->
   ((Itk a ob kvs).stop i H/\D.nx σ H)\/((Itk a ob kvs).go i H/\∃N:L2.St->Hp->Prop,(∀σ' H',N σ' H'->∃m',m' < m/\W (i + 1) m' σ' H')/\∀x H',(Itk a ob kvs).yld i H x H'->g x σ H' λ σ2 H2=>tb { D with nx:=N,ct:=N,bk:=D.nx } σ2 H2):=by
 refine ⟨λ i m σ H=>m=kvs.length - i/\i<=kvs.length/\Pv i σ H,⟨kvs.length,by simp,L1 _,h0⟩,?_⟩;rintro i m σ H ⟨rfl,hi,p⟩;by_cases hlt:i < kvs.length
 ·refine .inr ⟨⟨fr _ _ _ p,hlt⟩,Pv (i + 1),λ σ' H' q=>⟨kvs.length - (i + 1),by omega,rfl,hlt,q⟩,λ x H' y=>?_⟩;obtain ⟨rfl,k,u,b,rfl⟩:=y;exact hs i k σ _ (by rw [S0,b];rfl) p
 ·obtain rfl:i=kvs.length:=by omega
  exact .inl ⟨⟨fr _ _ _ p,A0 _⟩,hd σ H p⟩
def z40 (K:c0):Sp:=λ vs H Q _=>∃(p:Addr) (z:Zt),vs=[.ref p]/\ZtV H z (.ref p)/\Q (.int z.lo) H
theorem z94 (T:TX (kx w) mg):Fo P w mg base CX0 1 338 y0p ["zone"] (z40 (kx w)):=by
 refine (z39 w.params).ok z96 (λ b H Q E h=>?_) (λ d A f s H b Q E g h=>?_)
 ·obtain ⟨p,z,rfl,_⟩:=h;rfl
 ·obtain ⟨p,z,rfl,⟨c,e,a⟩,q⟩:=h;cases e;refine ⟨_,(z06 (ps_ret (pe_ix ix_seq (pv 0) pe_int (λ _ _=>rfl)))),?_⟩;exact ⟨_,rfl,.inr (.inl ⟨p,_,1,_,rfl,rfl,SqT.of a,z04 (j:=1) rfl,q⟩)⟩
noncomputable def enN (r:Rc):Int:=((r.e.getD 0:Nat):Int)
noncomputable def qR (x:Int) (r:Rc):Bool:=decide (intV r.a=x) && isRE r
theorem rds_eq (rs:List Rc) (x:Int):rdsF rs x=rs.filter (qR x):=by unfold rdsF qR;rw [List.filter_filter]
theorem re_end {r:Rc} (h:isRE r=true):r.v=.str "read"/\r.e=some (r.e.getD 0):=by unfold isRE at h;rw [K4] at h;obtain ⟨k,a⟩:=Option.isSome_iff_exists.mp h.2;exact ⟨of_decide_eq_true h.1,by rw [a];rfl⟩
theorem zez (rs:List Rc) (t:Ent):(spans rs t).filterMap (·.2)=t.e.toList++(rdsF rs t.x).map enN:=by
 have c :∀l:List Rc,(∀r∈l,isRE r=true)->(l.map spR).filterMap (·.2)=l.map enN:=by
  intro l;induction l with
  | nil=>exact λ _=>rfl
  | cons r l ih=>
   intro h;rw [W0,r6 (b:=enN r) (by show r.e.map (λ n=>(n:Int))=some (enN r);unfold enN;rw [(re_end (h r (.head _))).2];rfl),ih λ q a=>h q (.tail _ a)];rfl
 have k:=c (rdsF rs t.x) λ r d=>(List.mem_filter.mp (List.mem_filter.mp d).1).2;unfold spans;cases h:t.e with
 | none=>rw [n9 rfl,k];rfl
 | some e=>rw [r6 (f:=λ x:Int×Option Int=>x.2) (b:=e) rfl,k];rfl
theorem z6l {a b:Int} {ns:List Int} (h:MinI a ns) (h':MinI b ns):a=b:=Q8 (h.2 b h'.1) (h'.2 a h.1)
theorem ze6 {a:Int} {xs ys:List Int} (h:MinI a (xs++ys)):MinI a (ys++xs):=⟨by
 rcases List.mem_append.mp h.1 with z|z
 ·exact List.mem_append.mpr (.inr z)
 ·exact List.mem_append.mpr (.inl z),λ u b=>h.2 u (by
 rcases List.mem_append.mp b with z|z
 ·exact List.mem_append.mpr (.inr z)
 ·exact List.mem_append.mpr (.inl z))⟩
theorem zd6 {rs:List Rc} (nd:((rs.filter isW).map (λ r=>intV r.x)).Nodup) (n0:(0:Int)∉(rs.filter isW).map (λ r=>intV r.x)):((ents rs).map λ t=>(Sum.inl t.x:Key)).Nodup:=by
 have e:(ents rs).map (λ t=>(Sum.inl t.x:Key))=((0:Int) :: (rs.filter isW).map (λ r=>intV r.x)).map Sum.inl:=by unfold ents;rw [W0,g3,W0,g3];rfl
 rw [e];unfold List.Nodup;rw [j5];exact (List.nodup_cons.mpr ⟨n0,nd⟩:List.Nodup _).imp λ h z=>h (z4 z)
theorem zdf {f:Rc->Int} {l:List Rc} {ys:List V} (h:All2 (λ (j:Nat) y=>∀r,l[j]? = some r->y=V.int (f r)) ((Z1 l.length).filter λ j=>(l[j]?.map λ _=>true).getD false) ys):ys=(l.map f).map V.int:=by have h:=z3i (q:=λ _:Rc=>true) l.length (A0 _) h;rw [K3,List.filter_eq_self.mpr (λ _ _=>rfl)] at h;rw [z10 h,g3];rfl
def z2f (K:c0):Sp:=λ vs H Q _=>∃lr rs zs,vs=[.ref lr]/\RwsA H lr rs zs/\((rs.filter isW).map (λ r=>intV r.x)).Nodup/\(0:Int)∉(rs.filter isW).map (λ r=>intV r.x)/\∀D out zl H',Same H H'->H' D=some (.lst out)->ZonS rs zl->All2 (ZtV H') zl out->Q (.ref D) H'
theorem z5d (T:TX (kx w) mg) (c0:Ca P w mg base "_law_low" ["zone"] 1 (z40 (kx w))):Fo P w mg base CX0 4 331 y0a ["rows"] (z2f (kx w)):=by
 refine (z1q w.params).ok sc__law_zones (λ vs H Q E h=>?_) (λ j0 A i9 s H vs Q E U h=>?_)
 ·obtain ⟨lr,B,zs,rfl,_⟩:=h;rfl
 ·obtain ⟨lr,B,zs,rfl,ra,nd,n0,q⟩:=h;refine q_of (z0c (qs_set (i:=1) sc__law_zones.nd rfl (N1 rfl) (zf9 (zdv (QE.mk pe_int) (qe_tup (z1l (QE.mk (pe_un un_neg pe_int)) (z1l (QE.mk (pe_un un_neg pe_int)) qa_nil))) zf6) rfl rfl (by simp) (by decide)))
   (z0c (QS.mk (ps_for g4 rfl (z0n (pv 0)) (z11 (i:=2) sc__law_zones.nd rfl (N1 rfl))
   (z06 (ps_if (z0a opEq (pe_ix ix_seq (pv 2) pe_int (λ _ _=>rfl)) pe_str (nomark _))
   (z06 (z5h (hu_of U) (pv 1) (pe_ix ix_seq (pv 2) pe_int (λ _ _=>rfl)) (pe_tup (z00 (pe_ix ix_seq (pv 2) pe_int (λ _ _=>rfl)) (z00 (pe_ix ix_seq (pv 2) pe_int (λ _ _=>rfl)) pa_nil))) rfl))
   z0g))))
   (z0c (QS.mk (ps_set (i:=3) sc__law_zones.nd rfl (N1 rfl) (pe_lst pa_nil)))
   (z0c (QS.mk (ps_for g4 rfl (zex (pv 1)) (z11 (i:=4) sc__law_zones.nd rfl (G1 rfl))
   (z05 (z5s (i:=5) sc__law_zones.nd rfl (N1 rfl) (xs:=["one"]) (g:=gName 0) (fr:=[(4,"worth")]) rfl (z0n (pv 0)) (by intro p W;obtain rfl:=List.mem_singleton.mp W;first|exact ⟨rfl,.inl rfl⟩|exact ⟨rfl,.inr rfl⟩) (ze0 (n:="worth") (by decide +kernel) (λ _=>by first|exact .inl rfl|exact .inr rfl)) (by intro p W;obtain rfl:=List.mem_singleton.mp W;exact ⟨by decide +kernel,by first|exact .inl rfl|exact .inr rfl⟩) (by decide +kernel) rfl (by decide +kernel) (λ _ _ _ _ _=>(pg_cn (N:=["one","worth"]) 0)) (λ _ _ _ _ _=>(pf_one (PW.pt (pw_and (z0a opEq (pe_ix (z0q (K:=KX w.params) rfl) (pv 0) pe_int (λ _ _=>rfl)) pe_str (nomark _)) (pw_and (z0a z45 (pe_ix (z0q (K:=KX w.params) rfl) (pv 0) pe_int (λ _ _=>rfl)) pe_non (nomark _)) (z2x (z0a opEq (pe_ix (z0q (K:=KX w.params) rfl) (pv 0) pe_int (λ _ _=>rfl)) (pv 1) (nomark _)))))))) (λ _ _ _ _ _=>(pv 0)))
   (z05 (z5s (i:=6) sc__law_zones.nd rfl (N1 rfl) (xs:=["one"]) (g:=gName 0) (fr:=[]) rfl (z0n (pv 5)) (λ _ z=>absurd z B0) (z2r rfl) (λ _ z=>absurd z B0) (by decide +kernel) rfl (by decide +kernel) (λ _ _ _ _ _=>(pg_cn (N:=["one"]) 0)) (λ _ _ _ _ _=>pf_nil) (λ _ _ _ _ _=>(pe_ix (z0q (K:=KX w.params) rfl) (pv 0) pe_int (λ _ _=>rfl))))
   (z05 (ps_if (z0a z45 (pe_ix ix_seq (z5j (hu_of U) (pv 1) (pv 4) (λ _ _=>rfl)) pe_int (λ _ _=>rfl)) pe_non (nomark _))
   (z06 (z1n (z0z (pv 6) (z00 (pe_ix ix_seq (z5j (hu_of U) (pv 1) (pv 4) (λ _ _=>rfl)) pe_int (λ _ _=>rfl)) pa_nil))))
   z0g)
   (z05 (ps_set (i:=7) sc__law_zones.nd rfl (N1 rfl) (z08 (z7r rfl) rfl (T.no (n_max _)) boot_max (z00 (pe_op opAdd (pe_lst (z00 (pe_ix ix_seq (z5j (hu_of U) (pv 1) (pv 4) (λ _ _=>rfl)) pe_int (λ _ _=>rfl)) pa_nil)) (pe_cg (xs:=["one"]) (g:=gName 0) (fr:=[]) (z0n (pv 5)) (λ _ _ _ _ _=>(pg_cn (N:=["one"]) 0)) (λ _ _ _ _ _=>pf_nil) (λ _ _ _ _ _=>(pe_ix (z0q (K:=KX w.params) rfl) (pv 0) pe_int (λ _ _=>rfl))))) pa_nil)))
   (z06 (ps_if (PW.pt (pw_and (z0a (z7p U) (pv 6) (pe_lst pa_nil) (nomark _)) (z2x (z0a op_lt (z08 (z2p rfl) rfl (T.no (n_min _)) boot_min (z00 (pv 6) pa_nil)) (pv 7) (nomark _)))))
   (z06 (z1n (z0z (pv 3) (z00 (pe_tup (z00 (pv 4) (z00 (z08 (z2p rfl) rfl (T.no (n_min _)) boot_min (z00 (pv 6) pa_nil)) (z00 (pv 7) (z00 pe_str pa_nil))))) pa_nil))))
   (z06 (ps_if (z0a (z7p U) (pv 6) (pe_lst pa_nil) (nomark _))
   (z06 (z1n (z0z (pv 3) (z00 (pe_tup (z00 (pv 4) (z00 (pv 7) (z00 (z08 (z2p rfl) rfl (T.no (n_min _)) boot_min (z00 (pv 6) pa_nil)) (z00 pe_str pa_nil))))) pa_nil))))
   z0g))))))))))
   (z2e (QS.mk (ps_ret (zbi c0 (U.mono (by decide)) rfl (T.no (z6u _)) rfl (z00 (pv 3) pa_nil))))))))) ?_
  have lz:zs.length=B.length:=z03 ra.a;have h6:=ra.n;refine z0b λ d hd=>⟨2,rfl,1,rfl,w_2,λ J b0=>?_⟩
  have c7:d≠J:=λ z=>by rw [<-z,z02] at b0;cases b0
  have e1:upd (upd H d (.dK [])) J (.tup [.int (-2),.int (-1)]) d=some (.dK []):=by rw [upd_ne c7];exact z02
  refine ⟨e1,[(.inl 0,.ref J)],rfl,(show (1:Nat)<=15 by decide),g_name ?_⟩;have s1:Same H (upd (upd (upd H d (.dK [])) J (.tup [.int (-2),.int (-1)])) d (.dK (mergeK [] [(.inl 0,.ref J)]))):=Same.keep ((Same.upd hd).trans (Same.upd b0)) hd;have f0:upd (upd (upd H d (.dK [])) J (.tup [.int (-2),.int (-1)])) d (.dK (mergeK [] [(.inl 0,.ref J)])) J=some (.tup [.int (-2),.int (-1)]):=by rw [upd_ne c7.symm];exact z02
  have c9:upd (upd (upd H d (.dK [])) J (.tup [.int (-2),.int (-1)])) d (.dK (mergeK [] [(.inl 0,.ref J)])) d=some (.dK [(.inl 0,.ref J)]):=z02;generalize upd (upd (upd H d (.dK [])) J (.tup [.int (-2),.int (-1)])) d (.dK (mergeK [] [(.inl 0,.ref J)]))=H1 at s1 f0 c9⊢;refine ⟨_,rfl,lr,rfl,⟨_,SqL.of (s1 _ _ ra.l)⟩,?_⟩;refine z55 (K:=KX w.params) (a:=lr) (xs:=zs) (λ i σ t=>Same H t/\(∃kvs,t d=some (.dK kvs)/\All2 (EntAt (kx w) t) (ents (B.take i)) kvs)/\∃x2,σ=[some (.ref lr),some (.ref d),x2,none,none,none,none,none])
   ⟨s1,⟨_,c9,.cons ⟨rfl,J,rfl,SqT.of f0⟩ .nil⟩,_,rfl⟩ (λ _ σ t _ h=>SqL.of (h.1 _ _ ra.l)) ?_ ?_
  ·rintro i y σ H2 hy ⟨s2,⟨kvs,ed,wk⟩,x2,rfl⟩;obtain ⟨r,O,p,a8,rfl,S,_⟩:=z09 ra.a hy;have hi:=z50 O;have lk:kvs.length<=64:=by rw [z03 wk];refine G0 (z4g _) ?_;rw [j3];omega
   have a3:=SqL.of (K:=KX w.params) (s2 _ _ S);refine g_name ?_;rcases ra.g r (x0 O) with g|g
   ·refine ⟨_,rfl,.inl ⟨p,_,1,.str "read",rfl,rfl,a3,by rw [g.1];exact z04 (j:=1) rfl,rfl,_,rfl,iteK ?_⟩⟩;refine ⟨s2,⟨kvs,ed,?_⟩,_,rfl⟩;rw [z2o O,z2s,if_neg (by rw [g.w];decide),O2];exact wk
   ·refine ⟨_,rfl,.inl ⟨p,_,1,.str "write",rfl,rfl,a3,by rw [g.1];exact z04 (j:=1) rfl,rfl,_,rfl,iteP (by decide +kernel) ?_⟩⟩;refine ⟨_,rfl,.inl ⟨p,_,4,.int r.b,rfl,rfl,a3,z04 (j:=4) rfl,_,rfl,.inl ⟨p,_,5,endV r.e,rfl,rfl,a3,z04 (j:=5) rfl,w_2,λ p1 g9=>?_⟩⟩⟩;obtain ⟨H3,v_,s3,e3⟩:=newA (.tup [.int r.b,endV r.e]) g9;rw [<-v_];have a1:=s3 _ _ ed;refine ⟨_,rfl,_,rfl,.inl ⟨p,_,2,.int (intV r.x),rfl,rfl,s3.seq a3,by rw [<-g.2.2.1];exact z04 (j:=2) rfl,d,_,rfl,DPut.k (k:=.inl (intV r.x)) a1 (F1 (m:=100) (by omega) (by decide)),?_⟩⟩;have t4:Tups (kx w) H3 (upd H3 d (.dK (putK kvs (.inl (intV r.x)) (.ref p1)))):=Tups.dict a1;have fx:=zd3 nd n0 O g.w;rw [<-z5a wk] at fx;refine ⟨Same.keep (s2.trans s3) hd,⟨_,z02,?_⟩,_,rfl⟩;rw [z2o O,z2s,if_pos g.w,z1h fx];rw [z1h fx] at t4;refine z0l (z01 (λ _ _ z=>EntAt.tups (λ c xs y=>t4 _ _ (s3.seqT y)) z) wk) ⟨rfl,p1,rfl,?_⟩;have:=t4 _ _ (SqT.of e3);rw [endV_O] at this;exact this
  rintro σ H2 ⟨s2,⟨kvs,ed,wk⟩,x2,rfl⟩;rw [lz,K3] at wk;refine nx_to3 ?_;refine z0b ⟨w_0,λ G a9=>g_name ?_⟩;have v3:=Same.upd (o:=.lst []) a9;have u3:=s2.trans v3;have nf:H G=none:=s2.free a9;have ef:upd H2 G (.lst []) G=some (.lst []):=z02;have a1:=v3 _ _ ed;have b1:All2 (EntAt (kx w) (upd H2 G (.lst []))) (ents B) kvs:=z01 (λ _ _ z=>z.tups (Tups.of v3)) wk;have e8:G≠d:=λ z=>by rw [z,ed] at a9;cases a9
  generalize upd H2 G (.lst [])=H3 at v3 u3 ef a1 b1⊢;refine ⟨_,rfl,d,kvs,rfl,a1,λ ob=>?_⟩;have u4:Same H (upd H3 d (.frz ob (.dK kvs))):=Same.keep u3 hd;have f4:All2 (EntAt (kx w) (upd H3 d (.frz ob (.dK kvs)))) (ents B) kvs:=z01 (λ _ _ z=>z.tups (Tups.dict a1)) b1;have c6:upd H3 d (.frz ob (.dK kvs)) G=some (.lst []):=by rw [upd_ne e8];exact ef
  have d6:upd H3 d (.frz ob (.dK kvs)) d=some (.frz ob (.dK kvs)):=z02;have lk:=z03 wk;have le:=z4g B;have i4:(kvs.map (·.1)).Nodup:=by rw [z5a wk];exact zd6 nd n0
  generalize upd H3 d (.frz ob (.dK kvs))=H4 at u4 f4 c6 d6⊢;clear wk b1 ed a1 ef u3 v3 s2;refine zca (a:=d) (ob:=ob) (kvs:=kvs) (λ i σ t=>Same H t/\t d=some (.frz ob (.dK kvs))/\All2 (EntAt (kx w) t) (ents B) kvs/\(∃fs F,t G=some (.lst fs)/\All2 (ZtV t) F fs/\All2 (ZnR B) (((ents B).take i).filter (cntB B)) F)/\∃x4 x5 x6 x7,σ=[some (.ref lr),some (.ref d),x2,some (.ref G),x4,x5,x6,x7]) ⟨u4,d6,f4,⟨[],[],c6,.nil,.nil⟩,_,_,_,_,rfl⟩ (λ i σ t h=>h.2.1) ?_ ?_
  ·rintro i k σ H5 hk ⟨u5,ed5,wk5,⟨fs,F,ef5,az,an⟩,x4,x5,x6,x7,rfl⟩;rw [S0] at hk;obtain ⟨kv,f7,rfl⟩:=Option.map_eq_some_iff.mp hk;obtain ⟨f,d2,e1,pw,e2,sw⟩:=z09 wk5 f7;obtain ⟨k,v⟩:=kv;have e1:k=.inl f.x:=e1;have e2:v=.ref pw:=e2;subst e1 e2;have val:=val_in i4 (x0 f7);have hi:=z50 d2;have dg :∀t,Same H5 t->DGet t d (.int f.x) (some (.ref pw)):=λ t s'=>.inl ⟨kvs,.inl f.x,.inr ⟨ob,s' _ _ ed5⟩,rfl,val.symm⟩;have c3:=ra.same u5;show gName 4 (V.int f.x) _ _ _;refine g_name (z0b ?_);refine z0m (K:=KX w.params) (a:=lr) (xs:=zs) (H1:=H5) (λ j=>(B[j]?.map (qR f.x)).getD false) (λ j y t=>∀r,B[j]? = some r->RowR t r y) (λ _ _ _ _ s z r U=>(z r U).same s) (λ R h=>⟨_,rfl,h⟩) (SqL.of c3.l) (G0 (m:=24) (by omega) (by decide)) (λ j hj v H6 s6 hv KT KF I M=>?_) λ l1 H6 X s6 h4 fa=>?_
   ·obtain ⟨r,O,p,a8,rfl,S,bl⟩:=z09 c3.a hv;have d1:=s6 _ _ S;have e6:=SqL.of (K:=KX w.params) d1;rw [O] at I M;have M:qR f.x r=false->∀t,Same H6 t->KF t:=M;have I:qR f.x r=true->∀y t,Same H6 t->(∀r',some r=some r'->RowR t r' y)->KT y t:=I;unfold qR isRE at I M;refine ⟨[some (.ref p)],rfl,rfl,t_and ?_⟩;rcases ra.g r (x0 O) with g|g
    ·refine ⟨_,rfl,.inl ⟨p,_,1,.str "read",rfl,rfl,e6,by rw [g.1];exact z04 (j:=1) rfl,rfl,_,rfl,iteP (by decide +kernel) (t_and ?_)⟩⟩;cases he:r.e with
     | none=>exact ⟨_,rfl,.inl ⟨p,_,5,.non,rfl,rfl,e6,by rw [he];exact z04 (j:=5) rfl,rfl,_,rfl,iteN (by decide) (iteF (M (by rw [he];simp) _ (Same.refl _)))⟩⟩
     | some e=>
      refine ⟨_,rfl,.inl ⟨p,_,5,.int e,rfl,rfl,e6,by rw [he];exact z04 (j:=5) rfl,rfl,_,rfl,iteP (by simp) ?_⟩⟩;refine ⟨_,rfl,.inl ⟨p,_,3,.int (intV r.a),rfl,rfl,e6,by rw [<-g.2.2 e he];exact z04 (j:=3) rfl,_,rfl,rfl,_,rfl,ite2 (λ z=>?_) λ z=>?_⟩⟩
      ·have z:=of_decide_eq_true z;injection z with z;exact ⟨_,rfl,I (by rw [he,decide_eq_true z,decide_eq_true g.1];rfl) _ _ (Same.refl _) λ r' a4=>by cases a4;exact ⟨p,a8,rfl,d1,bl⟩⟩
      ·exact M (by rw [decide_eq_false (λ y=>z (decide_eq_true (by rw [y])))];rfl) _ (Same.refl _)
    ·exact ⟨_,rfl,.inl ⟨p,_,1,.str "write",rfl,rfl,e6,by rw [g.1];exact z04 (j:=1) rfl,rfl,_,rfl,iteK (iteF (M (by rw [show decide (r.v=V.str "read")=false from decide_eq_false (λ e=>z1c (e.symm.trans g.1))];simp) _ (Same.refl _)))⟩⟩
   rw [lz] at fa;have fa:=z3i (q:=qR f.x) _ (A0 _) fa;rw [K3,<-rds_eq] at fa;have v7:=Same.upd (o:=.lst X) h4;have u7:=s6.trans v7;have e7:upd H6 l1 (.lst X) l1=some (.lst X):=z02;have a7:All2 (RowR (upd H6 l1 (.lst X))) (rdsF B f.x) X:=z01 (λ _ _ z=>z.same v7) fa;generalize upd H6 l1 (.lst X)=H7 at v7 u7 e7 a7⊢;have e4:=z03 a7;have g0:(rdsF B f.x).length<=24:=by rw [rds_eq];exact G0 (Z0 _ _) h6
   have f9 :∀r∈rdsF B f.x,r.e=some (r.e.getD 0):=λ r U=>(re_end (List.mem_filter.mp (List.mem_filter.mp U).1).2).2;refine g_name (z0b ?_);refine z0m (K:=KX w.params) (a:=l1) (xs:=X) (H1:=H7) (λ j=>((rdsF B f.x)[j]?.map λ _=>true).getD false) (λ j y _=>∀r,(rdsF B f.x)[j]? = some r->y=V.int (enN r)) (λ _ _ _ _ _ z=>z) (λ R h=>⟨_,rfl,h⟩) (SqL.of e7) (G0 (m:=24) (by omega) (by decide)) (λ j hj v H8 Z hv KT KF I M=>?_) λ L H8 j1 Z c5 c2=>?_
   ·obtain ⟨r,O,p,a8,rfl,S,bl⟩:=z09 a7 hv;rw [O] at I;refine ⟨[some (.ref p)],rfl,rfl,iteT ⟨_,rfl,.inl ⟨p,_,5,.int (enN r),rfl,rfl,SqL.of (Z _ _ S),by rw [f9 r (x0 O)];exact z04 (j:=5) rfl,I rfl _ _ (Same.refl _) λ r' a4=>by cases a4;rfl⟩⟩⟩
   rw [e4] at c2;have ez:=zdf c2;subst ez;have v9:=Same.upd (o:=.lst (((rdsF B f.x).map enN).map V.int)) c5;have u9:=u7.trans (Z.trans v9);have i1:=(Z.trans v9) _ _ e7;have e9:upd H8 L (.lst (((rdsF B f.x).map enN).map V.int)) L=some (.lst (((rdsF B f.x).map enN).map V.int)):=z02;have n2:H7 L=none:=Z.free c5;generalize upd H8 L (.lst (((rdsF B f.x).map enN).map V.int))=H9 at v9 u9 i1 e9⊢;have i8:H5 L=none:=u7.free n2;refine g_name ?_;refine z5y (λ σ' t=>Same H7 t/\t L=some (.lst (((rdsF B f.x).map enN++f.e.toList).map V.int))/\σ'=[some (.ref lr),some (.ref d),x2,some (.ref G),some (.int f.x),some (.ref l1),some (.ref L),x7]) ?_ λ go=>?_;rotate_left
   ·refine z0u ⟨_,rfl,_,rfl,d,_,rfl,dg _ u9,.inr (.inl ⟨pw,_,1,endO f.e,rfl,rfl,u9.seqT sw,z04 (j:=1) rfl,rfl,_,rfl,?_⟩)⟩;cases he:f.e with
    | none=>exact iteN (by decide) (go _ _ ⟨Z.trans v9,by rw [he];exact e9.trans (by rw [Option.toList_none,O2]),rfl⟩)
    | some e=>refine iteP (by simp [endO]) ⟨_,rfl,.inl ⟨rfl,_,SqL.of e9⟩,_,rfl,_,rfl,d,_,rfl,dg _ u9,.inr (.inl ⟨pw,_,1,.int e,rfl,rfl,u9.seqT sw,by rw [he];exact z04 (j:=1) rfl,L,_,_,rfl,rfl,e9,F1 (m:=24) (by rw [D0,D0];exact g0) (by decide),go _ _ ⟨Same.keep (Z.trans v9) n2,?_,rfl⟩⟩)⟩;rw [z02,he,Option.toList_some,N2];rfl
   rintro σ g5 ⟨s10,e10,rfl⟩;have b2:=u7.trans s10;have i2:=s10 _ _ e7;have h0:All2 (RowR g5) (rdsF B f.x) X:=z01 (λ _ _ z=>z.same s10) a7;refine z0b (e_cb1 ?_);refine ⟨_,rfl,_,rfl,d,_,rfl,dg _ b2,.inr (.inl ⟨pw,_,0,.int f.b,rfl,rfl,b2.seqT sw,z04 (j:=0) rfl,w_1,λ l3 h7=>?_⟩)⟩;obtain ⟨f8,v_,b8,i0⟩:=newA (.lst [.int f.b]) h7;rw [<-v_];refine z0m (K:=KX w.params) (a:=l1) (xs:=X) (H1:=f8) (λ j=>((rdsF B f.x)[j]?.map λ _=>true).getD false) (λ j y _=>∀r,(rdsF B f.x)[j]? = some r->y=V.int ((λ r:Rc=>(r.b:Int)) r)) (λ _ _ _ _ _ z=>z) (λ R h=>⟨_,rfl,h⟩) (SqL.of (b8 _ _ i2)) (G0 (m:=24) (by omega) (by decide)) (λ j hj v H8 Z hv KT KF I M=>?_) λ l4 d9 bs d0 h5 d7=>?_
   ·obtain ⟨r,O,p,a8,rfl,S,bl⟩:=z09 h0 hv;rw [O] at I;exact ⟨[some (.ref p)],rfl,rfl,iteT ⟨_,rfl,.inl ⟨p,_,4,.int r.b,rfl,rfl,SqL.of ((b8.trans Z) _ _ S),z04 (j:=4) rfl,I rfl _ _ (Same.refl _) λ r' a4=>by cases a4;rfl⟩⟩⟩
   rw [e4] at d7;have ez:=zdf d7;subst ez;have b6:=Same.upd (o:=.lst (((rdsF B f.x).map λ r:Rc=>(r.b:Int)).map V.int)) h5;have f3:=b8.trans (d0.trans b6);have d4:upd d9 l4 (.lst (((rdsF B f.x).map λ r:Rc=>(r.b:Int)).map V.int)) l4=some (.lst (((rdsF B f.x).map λ r:Rc=>(r.b:Int)).map V.int)):=z02;have c8:=(d0.trans b6) _ _ i0;generalize upd d9 l4 (.lst (((rdsF B f.x).map λ r:Rc=>(r.b:Int)).map V.int))=H13 at b6 f3 d4 c8⊢;refine .inr (.inr (.inl ⟨l3,l4,_,_,rfl,rfl,c8,d4,G0 (m:=25) (by rw [D0,D0];show 1 + _<=25;omega) (by decide),λ l5 h9=>?_⟩));have b9:=Same.upd (o:=.lst ([V.int f.b]++((rdsF B f.x).map λ r:Rc=>(r.b:Int)).map V.int)) h9;have b3:=f3.trans b9;have d5:upd H13 l5 (.lst ([V.int f.b]++((rdsF B f.x).map λ r:Rc=>(r.b:Int)).map V.int)) l5=some (.lst (((spans B f).map (·.1)).map V.int)):=by
    have hb:(spans B f).map (·.1)=f.b :: (rdsF B f.x).map λ r:Rc=>(r.b:Int):=by unfold spans;rw [W0,g3];rfl
    rw [z02,hb];rfl
   generalize upd H13 l5 (.lst ([V.int f.b]++((rdsF B f.x).map λ r:Rc=>(r.b:Int)).map V.int))=H14 at b9 b3 d5⊢;refine ⟨l5,_,rfl,SqL.of d5,by unfold spans;exact g8 _ _,λ g g1 g2=>g_name ?_⟩;have b4:=b2.trans b3;have a2:=b3 _ _ e10;have a6:=b4 _ _ ef5;have e5:=zez B f;have d8:(ents B).take (i + 1)=(ents B).take i++[f]:=by rw [Y5,d2];rfl
   have h8:=z03 an;have e0:=z03 az;have i3:(((ents B).take i).filter (cntB B)).length<=((ents B).take i).length:=Z0 _ _;rw [j3] at i3;have f1:(rdsF B f.x).map enN++f.e.toList≠[]↔(spans B f).filterMap (·.2)≠[]:=by rw [e5];constructor<;>intro h z<;>(rw [List.append_eq_nil_iff] at z;exact h (List.append_eq_nil_iff.mpr ⟨z.2,z.1⟩))
   generalize hE:(rdsF B f.x).map enN++f.e.toList=E' at a2 f1;have mn :∀C,C∈E'->(∀a∈E',C<=a)->MinI C ((spans B f).filterMap (·.2)):=λ C I M=>by rw [e5];exact ze6 (by rw [hE];exact ⟨I,M⟩)
   have skip:E'=[]->∀t,Same H14 t->Same H t/\t d=some (.frz ob (.dK kvs))/\All2 (EntAt (kx w) t) (ents B) kvs/\∃fs F,t G=some (.lst fs)/\All2 (ZtV t) F fs/\All2 (ZnR B) (((ents B).take (i + 1)).filter (cntB B)) F:=λ z t s'=>by have u:=b4.trans s';refine ⟨u5.trans u,u _ _ ed5,z01 (λ _ _ z=>z.tups (Tups.of u)) wk5,fs,F,u _ _ ef5,z01 (λ _ _ z=>z.same u) az,?_⟩;rw [d8,C2,U1 (by unfold cntB;rw [decide_eq_false (λ y=>f1.mpr y z)];decide),W4,O2];exact an
   have put :∀(t:Hp) (p:Addr) (C:Int),Same H14 t->MinI C ((spans B f).filterMap (·.2))->ZtV t (zOf f.x C g) (.ref p)->Same H (upd t G (.lst (fs++[.ref p])))/\upd t G (.lst (fs++[.ref p])) d=some (.frz ob (.dK kvs))/\All2 (EntAt (kx w) (upd t G (.lst (fs++[.ref p])))) (ents B) kvs/\∃fs' F,upd t G (.lst (fs++[.ref p])) G=some (.lst fs')/\All2 (ZtV (upd t G (.lst (fs++[.ref p])))) F fs'/\All2 (ZnR B) (((ents B).take (i + 1)).filter (cntB B)) F:=λ t p C s' I hz=>by
    have u:=b4.trans s';have f2:=u _ _ ef5;have i6:Tups (kx w) t (upd t G (.lst (fs++[.ref p]))):=Tups.lst f2;have zt :∀{z:Zt} {y:V},ZtV t z y->ZtV (upd t G (.lst (fs++[.ref p]))) z y:=λ ⟨p,e,S⟩=>⟨p,e,by rw [upd_ne (ne_of S f2 (by intro z;cases z))];exact S⟩
    refine ⟨Same.keep (u5.trans u) nf,by rw [upd_ne e8.symm];exact u _ _ ed5,z01 (λ _ _ z=>z.tups λ c xs e=>i6 _ _ (u.seqT e)) wk5,fs++[.ref p],F++[zOf f.x C g],z02,z0l (z01 (λ _ _ z=>zt (z.same u)) az) (zt hz),?_⟩;rw [d8,C2,R1 (by unfold cntB;exact decide_eq_true (List.ne_nil_of_mem I.1))];exact z0l an ⟨C,g,I,⟨g1,g2⟩,rfl⟩
   have on :∀C p t,C < g->Same H14 t->t p=none->ZtV (upd t p (.tup [.int f.x,.int C,.int g,.str "on"])) (zOf f.x C g) (.ref p):=λ C p t z _ _=>⟨p,rfl,by unfold zOf;rw [if_pos z];exact z02⟩
   have g7 :∀C p t,¬ C < g->Same H14 t->t p=none->ZtV (upd t p (.tup [.int f.x,.int g,.int C,.str "in"])) (zOf f.x C g) (.ref p):=λ C p t z _ _=>⟨p,rfl,by unfold zOf;rw [if_neg z];exact z02⟩
   have d3:fs.length < sizeLine:=U0 (m:=100) (by omega) (by decide);refine z0u (t_and ⟨_,rfl,w_0,λ l6 i7=>?_⟩);obtain ⟨b5,v_,a0,g6⟩:=newA (.lst []) i7;rw [<-v_];refine ⟨L,l6,_,rfl,rfl,SqL.of (a0 _ _ a2),SqL.of g6,_,rfl,?_⟩;by_cases hEe:E'=[]
   ·refine iteN (by rw [hEe];decide) (iteF ?_);refine z0u ⟨_,rfl,w_0,λ l7 a5=>⟨L,l7,_,rfl,rfl,SqL.of ((a0.trans (Same.upd a5)) _ _ a2),SqL.of z02,_,rfl,iteN (by rw [hEe];decide) ?_⟩⟩;have h:=skip hEe _ (a0.trans (Same.upd (o:=.lst []) a5));exact ⟨h.1,h.2.1,h.2.2.1,h.2.2.2,_,_,_,_,rfl⟩
   ·have c4:decide (E'.map V.int≠[])=true:=decide_eq_true λ z=>hEe (List.map_eq_nil_iff.mp z);refine iteP c4 ⟨_,rfl,L,E',rfl,SqL.of (a0 _ _ a2),hEe,λ C m1 m2=>⟨_,rfl,_,_,rfl,rfl,_,rfl,ite2 (λ F=>?_) λ F=>?_⟩⟩
    ·have F:=of_decide_eq_true F;refine ⟨_,rfl,.inl ⟨rfl,_,SqL.of (a0 _ _ a6)⟩,_,rfl,_,rfl,L,E',rfl,SqL.of (a0 _ _ a2),hEe,λ b7 k1 k2=>⟨_,rfl,w_4,λ p W=>?_⟩⟩;cases z6l (mn C m1 m2) (mn b7 k1 k2);have Y:=a0.trans (Same.upd (o:=.tup [.int f.x,.int C,.int g,.str "on"]) W);refine ⟨G,fs,_,rfl,rfl,Y _ _ a6,d3,?_⟩;have h:=put _ p C Y (mn C m1 m2) (on C p b5 F a0 W);exact ⟨h.1,h.2.1,h.2.2.1,h.2.2.2,_,_,_,_,rfl⟩
    ·have F:¬ C < g:=λ y=>F (decide_eq_true y);refine z0u ⟨_,rfl,w_0,λ l7 a5=>?_⟩;have Y:=a0.trans (Same.upd (o:=.lst []) a5);have f6:upd b5 l7 (.lst []) l7=some (.lst []):=z02;generalize upd b5 l7 (.lst [])=H17 at Y f6⊢;refine ⟨L,l7,_,rfl,rfl,SqL.of (Y _ _ a2),SqL.of f6,_,rfl,iteP c4 ?_⟩;refine ⟨_,rfl,.inl ⟨rfl,_,SqL.of (Y _ _ a6)⟩,_,rfl,_,rfl,_,rfl,L,E',rfl,SqL.of (Y _ _ a2),hEe,λ b7 k1 k2=>⟨w_4,λ p W=>?_⟩⟩;cases z6l (mn C m1 m2) (mn b7 k1 k2);have c1:=Y.trans (Same.upd (o:=.tup [.int f.x,.int g,.int C,.str "in"]) W);refine ⟨G,fs,_,rfl,rfl,c1 _ _ a6,d3,?_⟩;have h:=put _ p C c1 (mn C m1 m2) (g7 C p H17 F Y W);exact ⟨h.1,h.2.1,h.2.2.1,h.2.2.2,_,_,_,_,rfl⟩
  rintro σ H5 ⟨u5,ed5,wk5,⟨fs,F,ef5,az,an⟩,x4,x5,x6,x7,rfl⟩;rw [lk,K3] at an;have e0:=z03 az;have h8:=z03 an;have j2:((ents B).filter (cntB B)).length<=(ents B).length:=Z0 _ _;refine ⟨_,rfl,G,fs,F.map (·.lo),rfl,SqL.of ef5,by rw [D0];exact e0.symm,by omega,λ i y k hy hk=>?_,λ D f5 hD ko=>?_⟩
  ·obtain ⟨z,hz,p,rfl,S⟩:=z09 az hy;rw [S0,hz] at hk;cases hk;exact ⟨p,z,rfl,⟨p,rfl,S⟩,rfl,rfl⟩
  ·obtain ⟨i5,I,M,h3⟩:=key_zt az ko;have v8:=Same.upd (o:=.lst f5) hD;exact q D f5 i5 _ (u5.trans v8) z02 ⟨F,an,I,M⟩ (z01 (λ _ _ z=>z.same v8) h3)
end
section
def PosOf (rs:List Rc) (x p:Int):Prop:=(x=0/\p < 0)\/∃(i:Nat) (r:Rc),rs[i]? = some r/\(p=r.b\/∃e:Nat,r.e=some e/\p=(e:Int))/\((isW r=true/\intV r.x=x)\/(isRE r=true/\intV r.a=x))
theorem zdu {n:Nat} {rs:List Rc} (ps:PosI n rs) {x x' p:Int} (h:PosOf rs x p) (h':PosOf rs x' p):x=x':=by
 rcases h with ⟨rfl,h⟩|⟨i,r,hi,hp,hx⟩
 ·rcases h' with ⟨rfl,_⟩|⟨j,q,hj,hp',_⟩
  ·rfl
  ·rcases hp' with z|⟨e,_,z⟩<;>omega
 ·rcases h' with ⟨rfl,h'⟩|⟨j,q,hj,hp',hx'⟩
  ·rcases hp with z|⟨e,_,z⟩<;>omega
  ·have d:i=j:=by
    rcases hp with z|⟨e,he,z⟩
    ·rcases hp' with y|⟨f,hf,y⟩
     ·exact ps.bb i j r q hi hj (by omega)
     ·exact absurd (by omega) (ps.be r (x0 hi) q (x0 hj) f hf)
    ·rcases hp' with y|⟨f,hf,y⟩
     ·exact absurd (by omega) (ps.be q (x0 hj) r (x0 hi) e he)
     ·have:e=f:=by omega
      subst this;exact ps.ee i j r q e hi hj he hf
   subst d;rw [hi] at hj;cases hj;have c:¬ (isW r=true/\isRE r=true):=λ ⟨a,b⟩=>z1c ((re_end b).1.symm.trans (of_decide_eq_true a));rcases hx with ⟨a,rfl⟩|⟨a,rfl⟩
   ·rcases hx' with ⟨_,b⟩|⟨b,_⟩
    ·exact b
    ·exact absurd ⟨a,b⟩ c
   ·rcases hx' with ⟨b,_⟩|⟨_,b⟩
    ·exact absurd ⟨b,a⟩ c
    ·exact b
theorem z9s {rs:List Rc} {t:Ent} (ht:t∈ents rs) {s:Int×Option Int} (hs:s∈spans rs t):PosOf rs t.x s.1/\∀e,s.2=some e->PosOf rs t.x e:=by
 rcases List.mem_cons.mp hs with rfl|hs
 ·rcases ents_mem.mp ht with rfl|⟨w,hw,hi,rfl⟩
  ·exact ⟨.inl ⟨rfl,by decide⟩,λ e a=>by cases a;exact .inl ⟨rfl,by decide⟩⟩
  ·obtain ⟨i,h⟩:=List.mem_iff_getElem?.mp hw;refine ⟨.inr ⟨i,w,h,.inl rfl,.inl ⟨hi,rfl⟩⟩,λ e a=>?_⟩;unfold entW at a;cases hk:w.e with
   | none=>rw [hk] at a;cases a
   | some k=>rw [hk] at a;cases a;exact .inr ⟨i,w,h,.inr ⟨k,hk,rfl⟩,.inl ⟨hi,rfl⟩⟩
 ·obtain ⟨r,d,rfl⟩:=List.mem_map.mp hs;obtain ⟨g,b⟩:=List.mem_filter.mp d;obtain ⟨f,c⟩:=List.mem_filter.mp g;have b:=of_decide_eq_true b;obtain ⟨i,h⟩:=List.mem_iff_getElem?.mp f;refine ⟨.inr ⟨i,r,h,.inl rfl,.inr ⟨c,b⟩⟩,λ e a=>?_⟩;unfold spR at a;cases hk:r.e with
  | none=>rw [hk] at a;cases a
  | some k=>rw [hk] at a;cases a;exact .inr ⟨i,r,h,.inr ⟨k,hk,rfl⟩,.inr ⟨c,b⟩⟩
theorem zn_pos {rs:List Rc} {t:Ent} {z:Zt} (ht:t∈ents rs) (h:ZnR rs t z):PosOf rs t.x z.lo:=by
 obtain ⟨l,g,c,b,rfl⟩:=h;unfold zOf;split
 ·obtain ⟨s,a,e⟩:=List.mem_filterMap.mp c.1;exact (z9s ht a).2 l e
 ·obtain ⟨s,a,e⟩:=List.mem_map.mp b.1;rw [<-e];exact (z9s ht a).1
theorem zeh {a b:Int} {ns:List Int} (h:MaxI a ns) (h':MaxI b ns):a=b:=Q8 (h'.2 a h.1) (h.2 b h'.1)
theorem zdd {rs:List Rc} {t:Ent} {z z':Zt} (h:ZnR rs t z) (h':ZnR rs t z'):z=z':=by obtain ⟨l,g,d,a,rfl⟩:=h;obtain ⟨e,f,b,c,rfl⟩:=h';rw [z6l d b,zeh a c]
theorem z7s {α β:Type} {R:α->β->Prop} (h :∀a b b',R a b->R a b'->b=b') :∀{xs:List α} {ys zs:List β},All2 R xs ys->All2 R xs zs->ys=zs
 | _,_,_,.nil,.nil=>rfl
 | _,_,_,.cons a r,.cons b s=>by rw [h _ _ _ a b,z7s h r s]
theorem ents_x {rs:List Rc} (nd:((ents rs).map λ t=>(Sum.inl t.x:Key)).Nodup) {t t':Ent} (h:t∈ents rs) (h':t'∈ents rs) (e:t.x=t'.x):t=t':=by
 obtain ⟨i,k⟩:=List.mem_iff_getElem?.mp h;obtain ⟨j,a⟩:=List.mem_iff_getElem?.mp h';obtain ⟨c,b⟩:=List.getElem?_eq_some_iff.mp k;obtain ⟨d,f⟩:=List.getElem?_eq_some_iff.mp a;have g:=List.pairwise_iff_getElem.mp nd;rcases Nat.lt_trichotomy i j with z|z|z
 ·refine absurd ?_ (g i j (by rw [D0];exact c) (by rw [D0];exact d) z);rw [E5,E5,b,f,e]
 ·subst z;rw [k] at a;exact A1 a
 ·refine absurd ?_ (g j i (by rw [D0];exact d) (by rw [D0];exact c) z);rw [E5,E5,b,f,e]
theorem za9 {α β:Type} {R:α->β->Prop} :∀{xs:List α} {ys:List β},All2 R xs ys->∀y∈ys,∃x∈xs,R x y
 | _,_,.cons a r,y,h=>by
  rcases List.mem_cons.mp h with rfl|h
  ·exact ⟨_,.head _,a⟩
  ·obtain ⟨x,b,c⟩:=za9 r y h;exact ⟨x,.tail _ b,c⟩
theorem z9l {n:Nat} {rs:List Rc} (ps:PosI n rs) (nd:((rs.filter isW).map (λ r=>intV r.x)).Nodup) (n0:(0:Int)∉(rs.filter isW).map (λ r=>intV r.x)) {zl zl':List Zt} (h:ZonS rs zl) (h':ZonS rs zl'):zl=zl':=by obtain ⟨a,d,l,p⟩:=h;obtain ⟨b,w,e,o⟩:=h';have:=z7s (R:=ZnR rs) (λ _ _ _ h h'=>zdd h h') d w;subst this;refine List.Perm.eq_of_pairwise (le:=λ z c:Zt=>z.lo<=c.lo) (λ z c v s q m=>?_) p o (l.trans e.symm);obtain ⟨t,u,j⟩:=za9 d z (l.mem_iff.mp v);obtain ⟨B,A,i⟩:=za9 d c (e.mem_iff.mp s);have g:=(List.mem_filter.mp u).1;have k:=(List.mem_filter.mp A).1;have f:=zn_pos g j;have y:=zn_pos k i;rw [Q8 q m] at f;have:=ents_x (zd6 nd n0) g k (zdu ps f y);subst this;exact zdd j i
end
section
variable {P:Program} {w:P0} {mg:Str->Option Value} {base:Heap}
section
variable {X:Cx}
noncomputable def rEqS:R2:=λ x y H Q=>∃ds,HPd H (.list ds) x/\HPd H (.list ds) y/\F2 ds<=49/\Q (.bl true) H
theorem op_eqS {k:Nat} (hr:Room k X.A):OpR X (G2 .Eq) rEqS:=by
 intro P s σ H x y u v Q I F z h;obtain ⟨c,E,n,N,q⟩:=h;have K:=hr.units;obtain ⟨a,D,rfl,m,i⟩:=E;obtain ⟨b,C,rfl,B,d⟩:=n;cases (show u=.ref a from F);cases (show v=.ref b from z);obtain ⟨J,f,t,_⟩:=I.list (SqL.of m);obtain ⟨G,g,l,_⟩:=I.list (SqL.of B);have R:=f.length;have L:=g.length;have M:=i.length;have O:=d.length;have r:SeqAt.RcAt X.A s (.ref a) (.ref b) true:=by
  have:=w9 (A:=X.A) (e:=λ _=>true) t.isList l.isList (by simp;omega) (by omega) (λ j o p=>?_)
  ·rwa [z5o] at this
  ·have:=z26 I c X.A.in1 D C J G i d f g (show X.A.units + 1 + F2 c + 1 < cLine by omega) j (by simpa using o) (by simpa using p);simpa using this
 exact r X.prog X.w _ _ ⟨.bl _,H,I,rfl,q⟩
end
theorem ze1 (ns:List Int) (a b:Option Int) :∃ms:List Int,cutV (ns.map V.int) a b=ms.map V.int/\ms.length<=ns.length:=by
 refine ⟨(ns.drop (HT.sIx (ns.map V.int).length 0 a)).take (HT.sIx (ns.map V.int).length (ns.map V.int).length b - HT.sIx (ns.map V.int).length 0 a),?_,?_⟩
 ·unfold cutV;rw [List.map_take,List.map_drop]
 ·rw [j3,B6];omega
theorem cut_60 (xs:List V):(cutV xs (some 1) (some 61)).length<=60:=by have a:HT.sIx xs.length 0 (some 1)=min 1 xs.length:=HT.sIx_nat xs.length 0 1;have b:HT.sIx xs.length xs.length (some 61)=min 61 xs.length:=HT.sIx_nat xs.length xs.length 61;unfold cutV;rw [a,b,j3,B6];omega
theorem TalR.tp {K:c0} {H H':Hp} {t:Addr} {nm:Str} {wr:Int} {es:List Ev} {ys:List V} (s:Tups K H H') (h:TalR K H t nm wr es ys):TalR K H' t nm wr es ys:=by obtain ⟨pt,e,f,a,b,c,d⟩:=h.t;exact ⟨⟨pt,e,f,s _ _ a,s _ _ b,s _ _ c,s _ _ d⟩,z01 (λ _ _ z=>EvAt.tups s z) h.ev,h.tw,h.ln⟩
theorem z2u {H:Hp} {α:Type} {f:α->PyData} :∀{xs:List α} {ys:List V},All2 (λ o y=>HPd H (f o) y) xs ys->HPds H (xs.map f) ys
 | _,_,.nil=>(rfl:([]:List V)=[])
 | _,_,.cons a r=>⟨_,_,rfl,a,z2u r⟩
noncomputable def ztP (z:Zt):PyData:=.tuple [.int z.x,.int z.lo,.int z.hi,.str (onS z.on)]
theorem zt_hpd {H:Hp} {z:Zt} {y:V} (h:ZtV H z y):HPd H (ztP z) y:=by obtain ⟨p,rfl,a⟩:=h;exact ⟨p,_,rfl,a,_,_,rfl,rfl,_,_,rfl,rfl,_,_,rfl,rfl,_,_,rfl,rfl,rfl⟩
theorem zt_dep :∀zl:List Zt,F2 (zl.map ztP)<=49
 | []=>L1 _
 | z :: zl=>by
  have a:=zt_dep zl;show max (ztP z).depth (F2 (zl.map ztP))<=49;have:(ztP z).depth<=2:=by simp [ztP,PyData.depth,F2]
  omega
def sp_law (K:c0):Sp:=λ vs H Q _=>∃(sc:Addr) (ns:List Int),vs=[.ref sc]/\SqL K H sc (ns.map V.int)/\ns.length<=63/\H tbT=some (.tbl #[])/\∀H',Q (.bl true) H'
theorem ok_law (T:TX (kx w) mg) (c0:Ca P w mg base "_law_cell_at" ["script","k"] 1 (z1m (kx w))) (c1:Ca P w mg base "_law_made" ["cells","most","spoilt"] 8 (z3f (kx w))) (c2:Ca P w mg base "_law_zones" ["rows"] 4 (z2f (kx w))) (c3:Ca P w mg base "zones" ["tale"] 6 (zas (kx w))):Fo P w mg base CX0 9 345 fd_law ["script"] (sp_law (kx w)):=by
 refine (F_law w.params).ok sc_law (λ vs H Q E h=>?_) (λ b8 A b5 s H vs Q E b h=>?_)
 ·obtain ⟨t,l,rfl,_⟩:=h;rfl
 ·obtain ⟨t,l,rfl,Y,hn,hT,q⟩:=h;refine ⟨_,(z05 (ps_asg (pe_cal c1 (b.mono (by decide)) rfl (z00 (z3j slSeq (pv 0) (z3z pe_int) (z3z pe_int)) (z00 pe_int (z00 (z1a op_gt (pe_op op_mod (pe_cal c0 (b.mono (by decide)) rfl (z00 (pv 0) (z00 pe_int pa_nil))) pe_int) pe_int (nomark _)) pa_nil)))) (pg_tup rfl (z0k (z11 (i:=1) sc_law.nd rfl (N1 rfl)) (z0k (z11 (i:=2) sc_law.nd rfl (N1 rfl)) z2j))))
   (z05 (ps_set (i:=3) sc_law.nd rfl (N1 rfl) (pe_cal c2 (b.mono (by decide)) rfl (z00 (pv 2) pa_nil)))
   (z05 (ps_set (i:=4) sc_law.nd rfl (N1 rfl) (pe_cal c3 (b.mono (by decide)) rfl (z00 (pv 1) pa_nil)))
   (z05 (ps_if (PW.pt (pw_or (pt_not (pt_val (z08 z0i rfl (T.no (z0h _)) m3 (z00 (pv 4) (z00 (z1f (v:=.ty "list") rfl (T.no (n_list _)) boot_list rfl) pa_nil))) (λ _=>rfl))) (pw_or1 (z0a (op_neS b) (pv 4) (pv 3) (nomark _)))))
   (z06 (ps_ret pe_bl))
   z0g)
   (z05 (z1n (zbp (pv 4)))
   (z06 (ps_ret (z1a (op_eqS b) (pe_cal c3 (b.mono (by decide)) rfl (z00 (pv 1) pa_nil)) (pv 3) (nomark _))))))))),?_⟩
  have b1:LamH H:=.inl hT;refine z0b ⟨_,rfl,1,rfl,61,rfl,.inl ⟨t,_,rfl,Y,λ l1 a8=>?_⟩⟩;obtain ⟨J,b2,_⟩:=ze1 l (some 1) (some 61);have B:=cut_60 (l.map V.int);rw [b2] at B⊢;rw [D0] at B;obtain ⟨H1,v_,W,e1⟩:=newA (.lst (J.map V.int)) a8;rw [<-v_];refine ⟨_,rfl,t,l,0,rfl,W.seq Y,λ z=>⟨_,_,rfl,rfl,(show (0:Int) < 3 by decide),_,_,rfl,rfl,l1,_,J,rfl,SqL.of e1,B,λ tt G lr zs n U H2 s2 a7 u ra=>?_⟩⟩;refine ⟨tt,_,rfl,SqT.of a7,rfl,_,_,rfl,_,_,rfl,rfl,?_⟩;have nd:=u.tw.nd;have n0:=u.tw.n0;have N:=PosI.all n PosI.nil;refine z0b ⟨_,rfl,lr,dAll 0 [] n,zs,rfl,ra,nd,n0,λ d C j H3 O g a0 az=>g_name ?_⟩;have m:=LamH.same (W.trans (s2.trans O)) b1;have I:=u.same O;refine z0b ⟨_,rfl,G,"r",0,n,U,rfl,I,m,λ D Z zl c sb a3 nD a a4 b3=>g_name ?_⟩;cases z9l N nd n0 a0 a4;have a9:d≠D:=λ z=>by rw [z,nD] at g;cases g
  have a1:d≠tbT:=λ z=>by obtain ⟨p,e⟩:=m.tb;rw [z,e] at g;cases g
  have M:=sb _ _ a1 g;have X:All2 (ZtV c) j C:=z01 (λ _ _ z=>ZtV.sb sb m.tb z) az;have b0:=TalR.tp (SameB.tups sb m.tb) I;refine sq_if (t_or ⟨_,rfl,_,_,"list",rfl,.inl ⟨⟨Z,a⟩,rfl⟩,by decide,_,rfl,iteN (by decide) ?_⟩);refine ⟨_,rfl,_,rfl,j.map ztP,.inl ⟨⟨D,_,rfl,a,z2u (f:=ztP) (z01 (λ _ _ z=>zt_hpd z) b3)⟩,⟨d,_,rfl,M,z2u (f:=ztP) (z01 (λ _ _ z=>zt_hpd z) X)⟩⟩,zt_dep _,_,rfl,iteN (by decide) (t_nx ?_)⟩;refine ⟨_,rfl,.inl ⟨rfl,_,SqL.of a⟩,D,Z,rfl,rfl,a,t_nx ?_⟩;have S:=TalR.tp (Tups.lst (K:=KX w.params) (o:=.lst []) a) b0;have F:upd c D (.lst []) d=some (.lst C):=by rw [upd_ne a9];exact M
  have zt :∀{z:Zt} {y:V},ZtV c z y->ZtV (upd c D (.lst [])) z y:=λ ⟨p,e,ep⟩=>⟨p,e,by rw [upd_ne (ne_of ep a (by intro z;cases z))];exact ep⟩
  have R:All2 (ZtV (upd c D (.lst []))) j C:=z01 (λ _ _ z=>zt z) X;have x:LamH (upd c D (.lst [])):=by
   rcases a3 with z|⟨c',z,y⟩
   ·exact .inl (by rw [upd_ne (ne_of z a (by intro q;cases q))];exact z)
   ·exact .inr ⟨c',by rw [upd_ne (ne_of z a (by intro q;cases q))];exact z,by rw [upd_ne (ne_of y a (by intro q;cases q))];exact y⟩
  generalize upd c D (.lst [])=H5 at S F R x⊢;refine ⟨_,rfl,G,"r",0,n,U,rfl,S,x,λ D2 b6 b7 H6 L b9 b4 a6 a5 a2=>?_⟩;cases z9l N nd n0 a0 a5;exact ⟨_,rfl,j.map ztP,⟨D2,_,rfl,a6,z2u (f:=ztP) (z01 (λ _ _ z=>zt_hpd z) a2)⟩,⟨d,_,rfl,L _ _ a1 F,z2u (f:=ztP) (z01 (λ _ _ z=>zt_hpd (ZtV.sb L x.tb z)) R)⟩,zt_dep _,q _⟩
end
theorem ky_in {w:P0} {h:Heap} (Y:(KY w.params).In h):(kx w).In h/\h.get? tbT=some (R6 #[]):=by
 have n0:z8 tbT (kx w)=none:=by kernel_rfl
 refine ⟨λ b o e=>Y b o ?_,Y tbT _ ?_⟩
 ·have e:z8 b (kx w)=some o:=e;show z8 b ((tbT,_) :: KX w.params)=some o;rw [L3,beq_eq_false_iff_ne.mpr λ z=>by rw [z,n0] at e;cases e];exact e
 ·show z8 tbT ((tbT,_) :: KX w.params)=some _;rw [L3,beq_self_eq_true]
theorem all_law {P:Program} {w:P0} {mg:Str->Option Value} {base:Heap} (T:TX (kx w) mg) (B:BtMain base mg):Fo P w mg base CX0 9 345 fd_law ["script"] (sp_law (kx w)):=by have m:=@cal_mk P w (kx w) mg base;have a:=m T (z2t _) (z9i _) (z9n _) (z8t T );have f:=m T (z2b _) (z8z _) (z8e _) (z70 T a);have p:=m T (z37 _) (z9u _) (z9x _) (z8i T f);have c:=m T (z17 _) (z5f _) (z5v _) (z58 T );have g:=m T (z48 _) (zc9 _) (zbt _) (zah T );have A:=m T (z4q _) (zcv _) (zct _) (z9k T g p c);have y:=m T (zb6 _) (zej _) (zf7 _) (ze2 T );have d:=m T (z4t _) (zbw _) (zch _) (zbc T );have j:=m T (z3e _) (z9w _) (za7 _) (z8m T c d g);have J:=m T (z1d _) (z69 _) (z68 _) (z4k T j);have z:=m T (z52 _) (zbq _) (zc4 _) (z9e T a);have e:=m T (z2y _) (zbd _) (zam _) (z8y T c z);have H:=m T (z29 _) (z8n _) (z8v _) (z6z T f);have l:=m T (z3b _) (zak _) (zaq _) (z8x T e d A);have s:=m T (z6q _) (zdm _) (zdr _) (zcu T e H);have E:=m T (z1b _) (z5x _) (z6i _) (z4l T );have q:=m T (z1e _) (z5r _) (z6d _) (z51 T l s E);have n:=m T (z27 _) (z8l _) (z8p _) (z6j T J q);have I:=m T (z19 _) (z65 _) (z6g _) (z4y T a);have C:=m T (z23 _) (z97 _) (z91 _) (z7a T I);have h:=m T (z1g _) (z5z _) (z66 _) (z4m T y C);have o:=m T (z4w _) (zbm _) (zcq _) (zb8 T );have F:=m T (z16 _) (z5k _) (z5u _) (z4p T );have x:=m T (z4r _) (zc8 _) (zcg _) (zaz T );have v:=m T (zax _) (zfc _) (zf1 _) (zea T B h o F x);have i:=m T (z12 _) (z4c _) (z4e _) (z3n T );have t:=m T (z30 _) (za0 _) (za1 _) (z8s T );have b:=m T (z28 _) (z8d _) (z8w _) (z76 T );have k:=m T (z18 _) (z5m _) (z6f _) (z4i T b);have D:=m T (z0w _) (z3l _) (z35 _) (z2m T b);have G:=m T (z24 _) (z8r _) (z90 _) (z79 T t b k D n);have r:=m T (z39 _) (z9c _) (z9f _) (z94 T );have u:=m T (z1q _) (z6y _) (z72 _) (z5d T r);exact ok_law T i G u v
end K13
open PySem PySem.W PyProof.Rows
set_option maxRecDepth 100000 in
set_option maxHeartbeats 0 in
theorem PySem.Challenge.cw_talejudge_k13_zones_told_holds : PySem.Challenge.rw_talejudge_k13_zones_told.Holds := by
 w_on;o_law
 refine holds_open (q:=K13.viewX) (loose:=K13.looseX) (Xt:=K13.XtX) (XP:=XL K13.viewX []) (Yf:=Hook.obs K13.HX) (Ya:=Hook.val K13.HX) (YP:=Hook.says K13.HX) (N:=200000) K13.leftX (Hook.of K13.HX) (Hook.keeps K13.HX) (λ s e=>xl_of s (Bool.and_eq_true_iff.mp e).1) XL.keeps (by rfl) (by rfl) (by rfl) (λ s e=>recFacts_of (Bool.and_eq_true_iff.mp e).2) (by rfl) (by assumption) (by decide +kernel) ⟨rfl,rfl,rfl,rfl,rfl,by decide +kernel⟩ ?hw ?hc
 case hw=>w_witness2
 case hc=>
  refine L2.walk_ofT (T:=K13.tbT) (c:=K13.cdT) (l:=PySem.Challenge.rw_talejudge_k13_zones_told) (n:=63) (k:=9) (x:="script") (K:=K13.KX) (CX:=λ _=>L2.CX0) (sp:=λ w=>K13.sp_law (K13.KX w.params)) rfl (by decide) rfl ⟨rfl,by decide,by decide,rfl⟩ (λ w h Y=>K13.ky_in (PySem.W.kIn_of Y)) (λ P=>by kernel_rfl) K13.ck_T ?F ?S ?C
  case F=>intro w r m h KX G b;have T:=L2.TX.mk' KX G;have g:=b.symm.trans (T.of (K13.g_law _));cases g;exact ⟨K13.fd_law,λ s u=>.of_eq rfl,λ t o p B=>K13.all_law T B⟩
  case S=>exact λ w H a f i d j=>⟨a,f,rfl,j,i,d,λ _=>rfl⟩
  case C=>exact λ _ _ _ _ _ z=>z
