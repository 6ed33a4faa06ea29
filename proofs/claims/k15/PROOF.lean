import PyProof.Rows.All
import Wide.All
import OpenK.AllK
import Wide.FinOn
import Lean
import PyProof.EqAt
import PyProof.EqKinds
import PyProof.TupleCall
import Open.Tops
import KE.KIntText
import PyProof.ZipIter
import PyProof.ReprRoads
import PyProof.Draws
import KE.KDictSum
import KE.KSortedM
import OpenK.KRaise
import OpenK.KOwn
import PyProof.ExcBaseAll.ValueError
import KE.KTryMore
import PyProof.NsDelKeeps
import KE.KDictOf
import KE.KEqDict
import PyProof.DictWalks
import PyProof.TupleKey
import PyProof.MinMaxWalk
import KE.KSortTup
import PyProof.StrWalks
import KE.KRevIter
import KE.KListMore
import PyProof.StrLawsTight
import PyProof.StrLawsChain
import KE.KSortKey
import KE.KLam
import PyProof.DictItems
import PySem.Challenge.RW_talejudge_k15_tales_that_are_not_plain
open PySem.PyData renaming keyHash->c0,depthAll->E9
open PySem.W renaming Frag->d0,kia_one->K3,nsIn->T3,keepIn->M4,kas_sort->C5,kla_obj->S5,fnOf->Z5,hideAll_get->M6,findIn->T6,cellsFrom_some->R7,tabObj->m8,codeIn->o8,CodeHd->p8,excIn->M8,methodObj->X8,instObj->w9,hideAll->x9,lookIn->N9,exmOne->O9,KasT->j0f,of_hideAll->j28,callWith_K->j29,specialIn->j2h,kitx_list->j2i,kitx_dict->j2j
open PySem renaming wpAny_bind->o0,Shared->B0,wpAny_pure->C0,wpAny->Q0,World->W0,model->Z0,Params->C1,starEach->E1,reduceHash->O1,wpAny_holding->R1,mainGlobals->B2,Around->D2,OsState->Z2,compareOp->n3,wpAny_mono->t3,wpAny_truthy_bool->M3,treeTable->O3,codeAny_builtin->Q3,wpAny_Call_Name_kw->R3,eval->V3,backTo->z4,bootBuiltins->D4,strKind->L4,wpAny_newObj_type->N4,sysModules->S4,codeAny->V4,wpAny_pyNext_list_item->a5,wpAny_pyIter_tuple->c5,codeAny_mono->d5,boot_len->B5,wpAny_pyNext_list_end->E5,rawInt->F5,wpAny_pyIter_list->K5,intKind->L5,mem_of_lookup->P5,codeAny_call_builtin->T5,Builtin->X5,attributeBase->d6,tupleKind->y6,sizeLine_eq->z6,eqIsQuiet->A6,placesWithHash->D6,foldedSetIterable->E6,PyData->G6,NameKind->J6,Keyword->K6,assignEach->S6,wpAny_attempt->V6,wpAny_field->X6,sliceBounds->Y6,callSpecialIfBoundUnlessNone?->Z6,binaryOp->c7,wpAny_passesOwn->A7,importedModules->B7,wpAny_typeOf->F7,tupleKind_room_in1->N7,getattributeRaised->O7,SetTable->Q7,Fin->S7,wpAny_pyIter_enum->Z7,relabel->a8,keywordEach->b8,pyNext->j8,behindInMarks->k8,Paired->t8,wpAny_isInstance->E8,wpAny_call_entry->F8,wpAny_callSpecial?_slot->G8,getAttr?->J8,wpAny_rule->P8,strKind_is->Q8,wpAny_execs_nil->S8,letOwnedTupleGo->T8,getAttrByItsOwn->U8,boundAndCalled->j9,swapsWith->m9,getItem->o9,wpAny_standAt->B9,wpAny_newList->C9,atKey->D9,wpAny_call->K9,builtinsNs->L9,IsPart->R9,wpAny_loadPart_at->Y9,valueAt->Z9,holding->j00,callerA->j01,backToKw->j02,Result->j0e,wpAny_of_eq->j10,subscripted->j11,spliced->j1a,dictSet->j1b,wpAny_seqItems->j1f,wpAny_newFunctionEnv_cells->j1g,wpAny_letOwnedTupleGo_enum->j1h,typeLookup->j1i,relayAll->j1j,isInstance->j20,hookBehind->j21,closureFor->j22,call_meets->j23,Thread->j27,GenState->j2e
open PySem.Builtin.Tuple renaming tupleHashOf->y0,tupleExact->n5
open PySem.Heap renaming get?_push_of_some->A0,lt_size->J0,get?_push_size->P0,DictOf->W3,size_push->R4,SameBut->j6,SetOf->o7,get?_update_other->f8,get?_update_self->D8,FlyingW->j1c
open Nat renaming le_refl->D0,le_trans->S0,ne_of_lt->U0,lt_of_lt_of_le->B1,lt_succ_of_lt->P1,zero_le->Z1,ne_of_gt->O2,lt_of_le_of_lt->T2,lt_succ_self->X2,lt_irrefl->D3,le_succ->G5,zero_add->o6,lt_trichotomy->r6,lt_trans->w6,le_add_right->X7,le_of_lt->u8,le_of_eq->x8,not_lt_zero->B8,mul_le_mul_right->R8,le_of_not_lt->P9,min_self->j2a,lt_or_ge->j2b
open List renaming not_mem_nil->F0,mem_of_getElem?->I0,getElem?_eq_getElem->M0,length_append->N0,length_map->O0,length_cons->T0,size_toArray->V0,mem_append_right->X0,getD_eq_getElem?_getD->Y0,range->A1,filter_cons_of_pos->D1,filter_cons_of_neg->J1,map_cons->N1,getElem?_map->U1,mem_cons_of_mem->Y1,forall_mem_cons->C2,mem_cons_self->F2,filter_append->N2,append_nil->U2,getElem?_cons_succ->V2,length_filter_le->m3,replicate->y3,getElem?_append_right->A3,length_nil->C3,getElem?_append_left->E3,map_append->N3,getElem?_cons_zero->P3,length_replicate->Y3,getElem?_eq_none->Z3,lookup_cons->d4,mem_cons->g4,length_take->A4,find?_cons->E4,mem_append_left->F4,map_map->J4,length_range->K4,getElem_map->O4,drop_zero->P4,pairwise_map->j5,take_length->M5,getElem_mem->N5,drop_eq_getElem_cons->Q5,nodup_cons->V5,foldl_cons->W5,pairwise_lt_range->g6,ext_getElem->C6,getElem?_modify->O6,of_mem_zip->Q6,filter_nil->R6,filterMap_cons->U6,zip_nil_right->j7,take_succ->k7,foldl_append->J7,ext_getElem?->K7,any_cons->L7,getElem?_replicate->T7,take_of_length_le->c8,map_nil->d8,getElem?_set_self->e8,getElem?_set_ne->N8,getElem?_range->W8,all_cons->Z8,take_sublist->p9,append_assoc->q9,length_drop->F9,lookup->Q9,range_succ->U9,forIn_cons->V9,dropLast_concat_getLast->W9,forIn_nil->j0d,tail->j18,take_append_drop->j2c,length_singleton->j2d
open Bool renaming false_ne_true->R0,and_eq_true->W2,false_eq_true->C4,false_and->n6,and_false->y7,true_and->M7,not_eq_true->U7,and_eq_true_iff->O8,or_false->b9,not_true->j15
open Array renaming length_toList->F1,getElem?_eq_none->U4,getElem?_eq_getElem->O5,mem_of_getElem?->j1e
open Option.some renaming inj->Q1
open PyProof.Rows renaming boot_isinstance->V1,seqObj->c3,callWith_type1->L3,IntsAre->X3,envOfC->o4,callWith_builtin1->Y5,listUpdate_at->c6,get?_update_seq->C7,AllBare->g8,slot_tuple_getitem->K8,seqEpoch_at->g9,arrOf->k9,boot_tuple->M9,boot_str->j24,boot_all->j25
open PySem.Obj renaming mapSeq->W1,mapDictKeys->A8,putSet->l9
open Or renaming inr->X1,inl->A2
open PySem.NameKind renaming free->E2
open PySem.SetTable renaming below->P2,grown->Y4,insertAt->V8,advance->j2g
open PySem.Str renaming ofString->Q2
open PySem.Value renaming none->Y2,type->U3,builtin->U5,isStrOf->G7,int->P7,str->v9,bool->j03,isInt->j26
open PySem.Heap.SameBut renaming update->B3,refl->j0i
open PySem.PassesOwn renaming never->F3
open Pure renaming pure->S3,pure->j17
open Ne renaming symm->c4
open ForInStep renaming yield->n4
open False renaming elim->y4
open PySem.Calls renaming spliced_cons->B4,spliced_nil->Z4,callWith_builtin->Y7,evalArgs_plain->L8,Name_function_global->j07
open Int renaming toNat_of_nonneg->Q4,emod_lt_of_pos->D7,emod_nonneg->C8,toNat_natCast->A9,le_refl->X9,le_antisymm->j06
open PySem.Builtin.SmallTypes renaming nextOf->T4,ownedTupleFields->W4
open PySem.Builtin.Slice renaming slicePlaces->X4,sliceAdjust->L6,sliceApplied->a9
open PySem.W.Fast renaming tw16697807410369149715->o5,tw13926502685295537346->w5,tw13383273872528276517->z5,te14364793385576792824->A5,tw4214721358667687652->D5,tw14364793385576792824->V7
open PySem.Builtin.Dict renaming updateFrom->J5,selfAndRest->r9,addKeywords->t9,pairItems->G9
open PySem.F renaming slot_tuple_iterator_next->R5,slot_dict_get->W7,args_tuple_add_2->j05,slot_dict_items->j08,plainAttrs_list->j09,plainAttrs_dict->j0a,entry_tuple_add->j0b,args_dict_get_3->j0c,slot_tuple_add->j0g,entry_dict_get->j0h,args_tuple_iterator_next_1->j0j,entry_tuple_iterator_next->j14
open PyProof.Rows.F renaming entry_set_update_loop->m6
open PySem.Shared renaming TypeIs->B6
open PySem.SetTable.below renaming go->F6
open Option renaming map_some->N6,isSome_map->c9
open List.Pairwise renaming nil->P6
open PySem.Code renaming builtin->W6,quiet_builtin->d9
open PySem.Builtin.Str renaming occurrences->d7
open Sum.inl renaming inj->g7
open PySem.Paired renaming length->E7
open PySem.Builtin.Frozenset renaming updateFrom->y8
open PUnit renaming unit->Y8
open PySem.Builtin.List renaming listFitsIndex->f9
open List.Perm renaming refl->y9
open PySem.Data renaming fields->S9,cell->j19
open PyProof.Rows.SortSt renaming mk'->T9
open PySem.SetTable.probe renaming go->j04
open PySem.SeqAt.EqAt renaming str_int->j12,int_str->j13
open Sum.inr renaming inj->j16
open PySem.Heap.DictOf renaming new->j1d
open Array.Perm renaming refl->j2f
open Prod renaming fst->j30
open PySem.Around renaming under_plain->j31
set_option maxRecDepth 100000
set_option maxHeartbeats 0
namespace PySem.W.Fast
noncomputable def tw6317466552669559338:=0
noncomputable def tw11657779541173897222:=0
noncomputable def tw8199436082464155169:=0
noncomputable def tw7513521088175406866:=0
noncomputable def tw10524714839307196796:=0
noncomputable def tw6479335778203431002:=0
noncomputable def tw15065064946875925125:=0
noncomputable def tw11207639483693623231:=0
noncomputable def tw892253972414125236:=0
noncomputable def tw13197200521904818786:=0
noncomputable def tw9630212050457311171:=0
noncomputable def tw2975394724914303971:=0
noncomputable def tw17155968871848163149:=0
noncomputable def tw1278563162821372341:=0
noncomputable def tw2642851360775852439:=0
noncomputable def tw13522044321963425694:=0
noncomputable def tw15185126657847172291:=0
noncomputable def tw15042297735026586452:=0
noncomputable def tw8242266993269765992:=0
noncomputable def tw13729378666164034434:=0
noncomputable def tw2342300332342971567:=0
noncomputable def tw11265238195741785863:=0
noncomputable def tw846799573831609578:=0
noncomputable def tw3129104126891654097:=0
noncomputable def tw12303509459560398825:=0
noncomputable def tw9803931194093333117:=0
noncomputable def tw13613430445352718044:=0
noncomputable def tw5668168628220561223:=0
noncomputable def tw18188352566620251177:=0
noncomputable def tw14005150293601570932:=0
noncomputable def tw6153808178713182352:=0
end PySem.W.Fast
namespace K15
open_shared pre for PySem.Challenge.pw_talejudge_k15_tales_that_are_not_plain leaving 40
end K15
set_option maxHeartbeats 200000
-- CHANGE: your row's module here,as the last of these rows
set_option Elab.async false
set_option linter.all false
namespace L2
open PySem PySem.Spec PyProof.Rows
noncomputable abbrev Key:=Sum Int Str
noncomputable def keyIs:Key->Value->Bool
 | .inl k,v=>j26 k v
 | .inr x,v=>G7 x v
noncomputable def keyH (w:W0):Key->Int
 | .inl k=>hashInt k
 | .inr x=>hashStr w x
theorem z0k :∀{k:Key} {v:Value},keyIs k v=true->(∃i t,k=Sum.inl i/\v=P7 i t)\/(∃x t,k=Sum.inr x/\v=v9 x t)
 | .inl i,v,h=>by obtain ⟨t,e⟩:=Value.isInt_shape (k:=i) (v:=v) h;exact .inl ⟨i,t,rfl,e⟩
 | .inr x,v,h=>by obtain ⟨t,e⟩:=Value.isStrOf_shape (x:=x) (v:=v) h;exact .inr ⟨x,t,rfl,e⟩
theorem zcv (i:Int) (t:Tok):keyIs (.inl i) (.int i t)=true:=by simp [keyIs,j26]
theorem zcw (x:Str) (t:Tok):keyIs (.inr x) (.str x t)=true:=by simp [keyIs,G7]
theorem key_ll (a b:Int):decide ((Sum.inl a:Key)=Sum.inl b)=(a == b):=by
 by_cases e:a=b
 ·subst e;simp
 ·have h:¬ (Sum.inl a:Key)=Sum.inl b:=λ q=>e (g7 q);rw [decide_eq_false h];exact (beq_eq_false_iff_ne.mpr e).symm
theorem key_rr (a b:Str):decide ((Sum.inr a:Key)=Sum.inr b)=decide (a=b):=by
 by_cases e:a=b
 ·subst e;simp
 ·have h:¬ (Sum.inr a:Key)=Sum.inr b:=λ q=>e (j16 q);rw [decide_eq_false h,decide_eq_false e]
theorem key_lr (a:Int) (b:Str):decide ((Sum.inl a:Key)=Sum.inr b)=false:=decide_eq_false (λ q=>nomatch q)
theorem key_rl (a:Str) (b:Int):decide ((Sum.inr a:Key)=Sum.inl b)=false:=decide_eq_false (λ q=>nomatch q)
noncomputable def z0d (prog:Program) (w:W0):PySem.KeyKind prog w Key where
 is:=keyIs
 hash:=keyH w
 inj:=λ v a b ha hb=>by
  rcases z0k ha with ⟨i,t,rfl,rfl⟩|⟨x,t,rfl,rfl⟩
  ·rcases z0k hb with ⟨j,u,rfl,e⟩|⟨y,u,rfl,e⟩
   ·injection e with e1 _;rw [e1]
   ·exact nomatch e
  ·rcases z0k hb with ⟨j,u,rfl,e⟩|⟨y,u,rfl,e⟩
   ·exact nomatch e
   ·injection e with e1 _;rw [e1]
 byValue:=λ k v h=>by rcases z0k h with ⟨i,t,rfl,rfl⟩|⟨x,t,rfl,rfl⟩<;>rfl
 pyHash:=λ hv h=>by
  rcases z0k hv with ⟨i,t,rfl,rfl⟩|⟨x,t,rfl,rfl⟩
  ·exact wpAny_pyHash_int h
  ·exact wpAny_pyHash_str h
 eqBool:=λ hu hv h=>by
  rcases z0k hu with ⟨i,t,rfl,rfl⟩|⟨x,t,rfl,rfl⟩
  ·rcases z0k hv with ⟨j,u,rfl,rfl⟩|⟨y,u,rfl,rfl⟩
   ·rw [key_ll] at h;exact wpAny_eqBool_int h
   ·rw [key_lr] at h;exact j13 i t y u _ _ _ _ h
  ·rcases z0k hv with ⟨j,u,rfl,rfl⟩|⟨y,u,rfl,rfl⟩
   ·rw [key_rl] at h;exact j12 x t j u _ _ _ _ h
   ·rw [key_rr] at h;exact wpAny_eqBool_str h
 «strs»:=λ k x t v h=>by
  rcases z0k h with ⟨i,u,rfl,e⟩|⟨y,u,rfl,e⟩
  ·exact nomatch e
  ·injection e with e1 _;subst e1;cases v<;>rfl
theorem z99 (prog:Program) (w:W0) (i:Int) (t:Tok):(z0d prog w).is (.inl i) (.int i t)=true:=zcv i t
theorem z9f (prog:Program) (w:W0) (x:Str) (t:Tok):(z0d prog w).is (.inr x) (.str x t)=true:=zcw x t
inductive V where
 | non|bl (b:Bool)|int (i:Int)|str (x:Str)|byt (b:Array UInt8)|flt (b:UInt64)|ref (a:Addr)|ty (n:String)
 deriving DecidableEq
noncomputable def RelV:V->Value->Prop
 | .non,u=>u=Y2
 | .bl b,u=>u=j03 b
 | .int i,u=>∃t,u=P7 i t
 | .str x,u=>∃t,u=v9 x t
 | .byt b,u=>∃t,u=Value.bytes b t
 | .flt b,u=>∃t,u=Value.float b t
 | .ref a,u=>u=Value.ref a
 | .ty n,u=>u=U3 n
abbrev Vals:List V->List Value->Prop:=t8 RelV
theorem Vals.length {xs:List V} {us:List Value} (r:Vals xs us):xs.length=us.length:=E7 r
theorem Vals.get :∀{xs:List V} {us:List Value} {i:Nat} {x:V},Vals xs us->xs[i]? = some x->∃u,us[i]? = some u/\RelV x u
 | _,_,_,_,.nil,e=>by simp at e
 | _,_,0,_,.cons r _,e=>by simp at e;subst e;exact ⟨_,rfl,r⟩
 | _,_,i + 1,x,.cons _ t,e=>by obtain ⟨u,a,b⟩:=Vals.get (i:=i) (x:=x) t (by simpa using e);exact ⟨u,by simpa using a,b⟩
theorem Vals.set {x:V} {u:Value} (r:RelV x u) :∀{xs:List V} {us:List Value} (i:Nat),Vals xs us->Vals (xs.set i x) (us.set i u)
 | _,_,_,.nil=>.nil
 | _,_,0,.cons _ t=>.cons r t
 | _,_,i + 1,.cons q t=>.cons q (Vals.set r i t)
theorem Vals.append :∀{xs ys:List V} {us ws:List Value},Vals xs us->Vals ys ws->Vals (xs++ys) (us++ws)
 | _,_,_,_,.nil,s=>s
 | _,_,_,_,.cons r t,s=>.cons r (Vals.append t s)
theorem Vals.take :∀{xs:List V} {us:List Value} (n:Nat),Vals xs us->Vals (xs.take n) (us.take n)
 | _,_,0,_=>.nil
 | _,_,_ + 1,.nil=>.nil
 | _,_,n + 1,.cons r t=>.cons r (Vals.take n t)
theorem Vals.drop :∀{xs:List V} {us:List Value} (n:Nat),Vals xs us->Vals (xs.drop n) (us.drop n)
 | _,_,0,r=>r
 | _,_,_ + 1,.nil=>.nil
 | _,_,n + 1,.cons _ t=>Vals.drop n t
noncomputable def RelO:Option V->Option Value->Prop
 | some v,some u=>RelV v u
 | none,none=>True
 | _,_=>False
def KV {κ:Type}:List (κ×V)->List (κ×Value)->Prop:=t8 λ (p:κ×V) (q:κ×Value)=>p.1=q.1/\RelV p.2 q.2
noncomputable def kV:Key->V
 | .inl i=>.int i
 | .inr x=>.str x
inductive HO where
 | lst (xs:List V)
 | tup (xs:List V)
 | dK (kvs:List (Key×V))|dT (kvs:List (List Key×V))
 | set (S:Int->Bool) (n:Nat)
 | ins (C dx:Addr) (fs:List (Str×V))
 | own (x:Addr)
 | xd (fs:List (Str×V))
 | met (f x:Addr)
 | rng (lo hi:Int)
 | frz (o:Obj) (u:HO)
 | tbl (ps:Array Value)
 | ext (φ:Heap->Prop)
noncomputable abbrev Hp:=Addr->Option HO
noncomputable def upd (H:Hp) (a:Addr) (o:HO):Hp:=λ b=>if b=a then some o else H b
theorem z02 {H:Hp} {a:Addr} {o:HO}:upd H a o a=some o:=by unfold upd;rw [if_pos rfl]
theorem upd_ne {H:Hp} {a b:Addr} {o:HO} (h:b≠a):upd H a o b=H b:=by unfold upd;rw [if_neg h]
theorem ne_of {H:Hp} {a b:Addr} {o u:HO} (h:H a=some o) (h':H b=some u) (d:o≠u):a≠b:=by intro e;subst e;rw [h] at h';exact d (Q1 h')
theorem z0a {H:Hp} {a b:Addr} {o:HO} (h:H a=some o) (h':H b=none):a≠b:=by intro e;subst e;rw [h] at h';cases h'
section
variable (P:Program) (w:W0)
def IsTupN (h:Heap) (a:Addr) (items:Array Value):Prop:=IsTup h a items/\∃o,h.get? a=some o/\o.dict=none
theorem IsTupN.new (h:Heap) (items:Array Value):IsTupN (h.push { cls:=.type "tuple",data:=.seq items }) h.objs.size items:=⟨IsTup.new _ _,_,P0 _ rfl,rfl⟩
noncomputable def ObjOk (H:Hp) (h:Heap) (a:Addr):HO->Prop
 | .lst xs=>xs.length<=sizeLine/\∃(its:List Value) (n:Nat),Vals xs its/\h.get? a=some { cls:=.type "list",data:=.seq its.toArray n }
 | .tup xs=>xs.length<=sizeLine/\∃its:List Value,Vals xs its/\IsTupN h a its.toArray
 | .dK kvs=>kvs.length<=sizeLine/\(a == S4)=false/\∃vs,KV kvs vs/\h.DictOf (z0d P w) a vs
 | .dT kvs=>kvs.length<=sizeLine/\(a == S4)=false/\∃xs:List (List Key×Addr×Value),
   t8 (λ (p:List Key×V) (q:List Key×Addr×Value)=>p.1=q.1/\H q.2.1=some (.tup (p.1.map kV))/\RelV p.2 q.2.2) kvs xs/\
   ∃o es ep,h.get? a=some o/\o.ExactDict/\o.data=.dict es ep/\es.toList=xs.map (entryOfKey (y6 (z0d P w)))/\(xs.map (·.1)).Nodup
 | .set S n=>h.SetOf (L5 P w) a S n
 | .ins C dx fs=>H dx=some (.own a)/\fs.length<=1000/\dx≠a/\h.get? a=some (w9 C dx)/\
   ∃mA,h.Ns1 dx mA/\(∀f,RelO (fs.lookup f) (mA f))/\PySem.Within mA (fs.map (·.1))
 | .own _=>∃o,h.get? a=some o
 | .xd fs=>∃mA,h.Ns1 a mA/\∀f,RelO (fs.lookup f) (mA f)
 | .rng lo hi=>∃t u v,h.get? a=some { cls:=.type "range",data:=.fields #[.int lo t,.int hi u,.int 1 v] }
 | .frz o u=>h.get? a=some o/\ObjOk H h a u
 | .tbl ps=>h.get? a=some { cls:=.none,data:=.fields ps }
 | .met f x=>h.get? a=some (X8 (.ref f) (.ref x))
 | .ext φ=>φ h/\(∃o,h.get? a=some o)/\∀h1 h2:Heap,φ h1->(∀o,h1.get? a=some o->h2.get? a=some o)->φ h2
def HOk (H:Hp) (h:Heap):Prop:=∀a o,H a=some o->ObjOk P w H h a o
end
section
variable {P:Program} {w:W0} {H H':Hp} {h h':Heap} {a:Addr} {o:HO}
theorem ObjOk.lt (x:ObjOk P w H h a o):a < h.objs.size:=by
 cases o with
 | lst xs=>obtain ⟨_,_,_,_,e⟩:=x;exact J0 e
 | tup xs=>obtain ⟨_,_,_,p⟩:=x;exact p.1.lt
 | dK kvs=>obtain ⟨_,_,_,_,o,_,_,e,_⟩:=x;exact J0 e
 | dT kvs=>obtain ⟨_,_,_,_,o,_,_,e,_⟩:=x;exact J0 e
 | set S n=>obtain ⟨o,_,_,_,e,_⟩:=x;exact J0 e
 | ins C dx fs=>obtain ⟨_,_,_,e,_⟩:=x;exact J0 e
 | own y=>obtain ⟨_,e⟩:=x;exact J0 e
 | xd fs=>obtain ⟨_,⟨_,_,_,e,_⟩,_⟩:=x;exact J0 e
 | rng lo hi=>obtain ⟨_,_,_,e⟩:=x;exact J0 e
 | frz ob u=>obtain ⟨e,_⟩:=x;exact J0 e
 | tbl ps=>exact J0 (show h.get? a=some _ from x)
 | met f y=>exact J0 (show h.get? a=some _ from x)
 | ext φ=>obtain ⟨_,⟨_,e⟩,_⟩:=x;exact J0 e
theorem Paired.mapP {α β:Type} {F G:α->β->Prop} :∀{l₁:List α} {l₂:List β},t8 F l₁ l₂->(∀a b,F a b->G a b)->t8 G l₁ l₂
 | _,_,.nil,_=>.nil
 | _,_,.cons r t,f=>.cons (f _ _ r) (Paired.mapP t f)
theorem ObjOk.stay (x:ObjOk P w H h a o) (k :∀b u,(b=a\/H b=some (.own a))->h.get? b=some u->h'.get? b=some u)
  (ho :∀b,H b=some (.own a)->H' b=some (.own a)) (ht :∀b xs,H b=some (.tup xs)->H' b=some (.tup xs)):ObjOk P w H' h' a o:=by
 induction o with
 | lst xs=>obtain ⟨z,m,n,r,e⟩:=x;exact ⟨z,m,n,r,k _ _ (.inl rfl) e⟩
 | tup xs=>obtain ⟨z,m,r,⟨g,e,c⟩,G,s,F⟩:=x;exact ⟨z,m,r,⟨g,k _ _ (.inl rfl) e,c⟩,G,k _ _ (.inl rfl) s,F⟩
 | dK kvs=>obtain ⟨z,y,D,r,g,i,j,e,c⟩:=x;exact ⟨z,y,D,r,g,i,j,k _ _ (.inl rfl) e,c⟩
 | dT kvs=>obtain ⟨z,y,xs,r,g,i,j,e,c⟩:=x;exact ⟨z,y,xs,Paired.mapP r λ p q z=>⟨z.1,ht _ _ z.2.1,z.2.2⟩,g,i,j,k _ _ (.inl rfl) e,c⟩
 | set S n=>obtain ⟨g,i,j,t,e,c⟩:=x;exact ⟨g,i,j,t,k _ _ (.inl rfl) e,c⟩
 | ins C dx fs=>obtain ⟨d,z,E,e,l,⟨A,i,j,s,c⟩,r⟩:=x;exact ⟨ho _ d,z,E,k _ _ (.inl rfl) e,l,⟨A,i,j,k _ _ (.inr d) s,c⟩,r⟩
 | own y=>obtain ⟨g,e⟩:=x;exact ⟨g,k _ _ (.inl rfl) e⟩
 | xd fs=>obtain ⟨l,⟨A,i,j,e,c⟩,r⟩:=x;exact ⟨l,⟨A,i,j,k _ _ (.inl rfl) e,c⟩,r⟩
 | rng lo hi=>obtain ⟨t,u,v,e⟩:=x;exact ⟨t,u,v,k _ _ (.inl rfl) e⟩
 | frz g u ih=>obtain ⟨e,q⟩:=x;exact ⟨k _ _ (.inl rfl) e,ih q⟩
 | tbl ps=>have e:h.get? a=some { cls:=.none,data:=.fields ps }:=x;show h'.get? a=some { cls:=.none,data:=.fields ps };exact k a _ (.inl rfl) e
 | met f y=>have e:h.get? a=some (X8 (.ref f) (.ref y)):=x;show h'.get? a=some (X8 (.ref f) (.ref y));exact k a _ (.inl rfl) e
 | ext φ=>obtain ⟨p,⟨o,e⟩,B⟩:=x;exact ⟨B _ _ p λ o q=>k _ _ (.inl rfl) q,⟨o,k _ _ (.inl rfl) e⟩,B⟩
theorem HOk.lt (x:HOk P w H h) (e:H a=some o):a < h.objs.size:=(x a o e).lt
theorem HOk.fresh (x:HOk P w H h) (e:h.objs.size<=a):H a=none:=by
 cases q:H a with
 | none=>rfl
 | some u=>exact absurd (B1 (x.lt q) e) (D3 _)
theorem HOk.kept (x:HOk P w H h) (k :∀b u,h.get? b=some u->h'.get? b=some u):HOk P w H h':=λ a o e=>(x a o e).stay (λ b u _ q=>k b u q) (λ _ q=>q) λ _ _ q=>q
theorem HOk.laid (x:HOk P w H h) (k :∀b u,h.get? b=some u->h'.get? b=some u) (hp:h.objs.size<=a) (new:ObjOk P w (upd H a o) h' a o):HOk P w (upd H a o) h':=λ b u e=>by
 have d:=x.fresh hp;by_cases hb:b=a
 ·subst hb;rw [z02] at e;cases e;exact new
 ·rw [upd_ne hb] at e;exact (x b u e).stay (λ c v _ q=>k c v q) (λ c q=>by rw [upd_ne (z0a q d)];exact q) λ c f q=>by rw [upd_ne (z0a q d)];exact q
end
def Rd (H:Hp) (a:Addr) (u:HO):Prop:=H a=some u\/∃o,H a=some (.frz o u)
theorem Rd.ok {P:Program} {w:W0} {H:Hp} {h:Heap} {a:Addr} {u:HO} (r:Rd H a u) (x:HOk P w H h):ObjOk P w H h a u:=by
 rcases r with r|⟨o,r⟩
 ·exact x a u r
 ·obtain ⟨_,q⟩:=x a _ r;exact q
noncomputable def Mut:Option HO->Prop
 | some (.lst _)=>True
 | some (.dK _)=>True
 | some (.dT _)=>True
 | some (.set _ _)=>True
 | some (.ins _ _ _)=>True
 | some (.ext _)=>True
 | _=>False
section
variable {P:Program} {w:W0} {H:Hp} {h h':Heap} {x e:Addr} {o':HO}
theorem HOk.write (ok:HOk P w H h) (mu:Mut (H x)) (he:e=x\/H e=some (.own x)) (k :∀b u,b≠e->h.get? b=some u->h'.get? b=some u) (heo :∃u,h'.get? e=some u)
  (new:ObjOk P w (upd H x o') h' x o'):HOk P w (upd H x o') h':=λ b u q=>by
 have g :∀c y,H c=some (.own y)->c≠x:=λ c y r z=>by subst z;rw [r] at mu;exact mu
 have i :∀c d,H c=some (.tup d)->c≠x:=λ c d r z=>by subst z;rw [r] at mu;exact mu
 by_cases hb:b=x
 ·subst hb;rw [z02] at q;cases q;exact new
 ·rw [upd_ne hb] at q;by_cases hbe:b=e
  ·have f:H b=some (.own x):=by
    rcases he with z|z
    ·exact absurd (hbe.trans z) hb
    ·rw [hbe];exact z
   rw [q] at f;cases f;obtain ⟨v,j⟩:=heo;exact ⟨v,by rw [hbe];exact j⟩
  ·refine (ok b u q).stay (λ c v a r=>k c v ?_ r) (λ c r=>by rw [upd_ne (g c b r)];exact r) λ c d r=>by rw [upd_ne (i c d r)];exact r
   rcases a with rfl|a
   ·exact hbe
   ·rintro rfl;rcases he with z|z
    ·exact g c b a z
    ·rw [a] at z;cases z;exact hb rfl
end
structure Un (fs ex:List Addr) (H H':Hp) (h h':Heap):Prop where
 keep :∀b o,h.get? b=some o->H b=none->b∉fs->b∉ex->h'.get? b=some o
 slot :∀b o,h.get? b=some o->H b=none->b∈fs->b∉ex->∃sl,h'.get? b=some { o with slots:=sl }
 free :∀b o,h.get? b=some o->H b=none->b∉ex->H' b=none
 there :∀b o,h.get? b=some o->b∉ex->∃o',h'.get? b=some o'
 tups :∀b xs,H b=some (.tup xs)->H' b=some (.tup xs)
 frzs :∀b o u,H b=some (.frz o u)->H' b=some (.frz o u)
 tbls :∀b ps,H b=some (.tbl ps)->∃more,H' b=some (.tbl (ps++more))
section
variable {fs fs' ex ex':List Addr} {H H1 H2:Hp} {h h1 h2 h':Heap} {a x e:Addr} {o:HO}
theorem Un.any (u:Un fs ex H H1 h h1) {b:Addr} {ob:Obj} (q:h.get? b=some ob) (n:H b=none) (hx:b∉ex) :∃sl,h1.get? b=some { ob with slots:=sl }:=by
 by_cases hb:b∈fs
 ·exact u.slot b ob q n hb hx
 ·exact ⟨ob.slots,u.keep b ob q n hb hx⟩
theorem Un.kept (k :∀b u,h.get? b=some u->h'.get? b=some u):Un fs ex H H h h':=
 ⟨λ b a q _ _ _=>k b a q,λ b a q _ _ _=>⟨a.slots,k b a q⟩,λ _ _ _ n _=>n,λ b a q _=>⟨a,k b a q⟩,λ _ _ q=>q,λ _ _ _ q=>q,λ _ c q=>⟨#[],by rw [q];simp⟩⟩
theorem Un.refl:Un fs ex H H h h:=Un.kept λ _ _ q=>q
theorem Un.laid (k :∀b u,h.get? b=some u->h'.get? b=some u) (hp:h.objs.size<=a) (hn:H a=none):Un fs ex H (upd H a o) h h' where
 keep:=λ b u q _ _ _=>k b u q
 slot:=λ b u q _ _ _=>⟨u.slots,k b u q⟩
 free:=λ b u q n _=>by rw [upd_ne (U0 (B1 (J0 q) hp))];exact n
 there:=λ b u q _=>⟨u,k b u q⟩
 tups:=λ b c q=>by rw [upd_ne (z0a q hn)];exact q
 frzs:=λ b u c q=>by rw [upd_ne (z0a q hn)];exact q
 tbls:=λ b d q=>⟨#[],by rw [upd_ne (z0a q hn),q];simp⟩
theorem Un.write (mu:Mut (H x)) (he:e=x\/H e=some (.own x)) (k :∀b u,b≠e->h.get? b=some u->h'.get? b=some u) (heo :∃u,h'.get? e=some u):Un fs ex H (upd H x o) h h':=by
 have d :∀b,H b=none->b≠x:=λ b n z=>by subst z;rw [n] at mu;exact mu
 have c :∀b,H b=none->b≠e:=λ b n z=>by
  subst z;rcases he with r|r
  ·exact d b n r
  ·rw [n] at r;cases r
 have a :∀b u,H b=some u->¬ Mut (some u)->b≠x:=λ b u q f z=>by subst z;rw [q] at mu;exact f mu
 refine ⟨λ b u q n _ _=>k b u (c b n) q,λ b u q n _ _=>⟨u.slots,k b u (c b n) q⟩,λ b u q n _=>by rw [upd_ne (d b n)];exact n,λ b u q _=>?_,
  λ b g q=>by rw [upd_ne (a b _ q λ z=>z)];exact q,λ b u g q=>by rw [upd_ne (a b _ q λ z=>z)];exact q,λ b i q=>⟨#[],by rw [upd_ne (a b _ q λ z=>z),q];simp⟩⟩
 by_cases hbe:b=e
 ·subst hbe;exact heo
 ·exact ⟨u,k b u hbe q⟩
end
noncomputable def trk (h:Heap) (H:Hp):List Addr:=(A1 h.objs.size).filter λ a=>(H a).isSome
noncomputable def hidT (h:Heap) (H:Hp):Heap:=x9 h (trk h H)
theorem zd3 (h:Heap) (H:Hp):(hidT h H).objs.size=h.objs.size:=PySem.W.hideAll_size _ _
theorem zfq {h:Heap} {H:Hp} {b:Addr} {o:Obj} (e:h.get? b=some o) (n:H b=none):(hidT h H).get? b=some o:=
 M6 _ e λ a=>by have q:(H b).isSome=true:=(List.mem_filter.mp a).2;rw [n] at q;simp at q
theorem zgd {h:Heap} {H:Hp} {b:Addr} {o:Obj} (e:(hidT h H).get? b=some o):h.get? b=some o/\H b=none:=by
 have a:h.get? b=some o:=j28 (trk h H) e;refine ⟨a,?_⟩;cases q:H b with
 | none=>rfl
 | some x=>have c:b∈trk h H:=List.mem_filter.mpr ⟨List.mem_range.mpr (J0 a),by simp [q]⟩;have z:(hidT h H).get? b=none:=PySem.W.hideAll_none (trk h H) c;rw [z] at e;cases e
noncomputable def zgg (g h:Heap) (L:Addr):List (Addr×Obj):=(A1 h.objs.size).filterMap λ a=>if a=L\/(g.get? a).isSome=true then none else (h.get? a).map λ o=>(a,o)
noncomputable def rest (g h:Heap) (L d:Addr):List (Addr×Obj):=(zgg g h L).filter λ p=>decide (p.1≠d)
structure Mod (K:d0) (mg:Str->Option Value) (base:Heap):Prop where
 kin:K.In base
 glob:base.Ns B2 mg
 blt :∃mb,base.Ns L9 mb/\∀x:Str,x≠"__name__"->mb x=D4 x
 nolimit:base.NoLimit
structure Cx where
 prog:Program
 w:W0
 K:d0
 mg:Str->Option Value
 base:Heap
 A:D2
 N:List Str
 s₀:B0
 H₀:Hp
 env:Env
 outer:List Env
 stack:List Env
 ex:List Addr
 fn:Str->Bool
 calm:Bool
 pn:List (Addr×Obj)
 xe:Value->B0->Prop
noncomputable def frs (l:List Env):List Addr:=l.filterMap (·.frame)
noncomputable abbrev Cx.fs (X:Cx):List Addr:=frs X.outer
def Vis (sc:Scope) (x:Str):Prop:=sc.names.lookup x=some .local\/sc.names.lookup x=some .cell\/sc.names.lookup x=some .free
def Loc (sc:Scope) (x:Str):Prop:=sc.names.lookup x=some .local\/sc.names.lookup x=some .cell
def Look (env:Env) (h:Heap) (m:Str->Option Value) (x:Str) (u:Value):Prop:=
 (env.kindOf x=some .local/\m x=some u)\/((env.kindOf x=some .cell\/env.kindOf x=some .free)/\∃c,env.cells.lookup x=some c/\h.IsCell c (some u))
structure Cx.Ok (X:Cx):Prop where
 mod:Mod X.K X.mg X.base
 kind:X.env.scope.kind=.function
 glob:X.env.globals=B2
 blt:X.env.builtins=L9
 above:X.s₀.heap.objs.size<=X.env.locals
 inj :∀x y c,X.env.cells.lookup x=some c->X.env.cells.lookup y=some c->x=y
 has :∀x,(X.env.kindOf x=some .cell\/X.env.kindOf x=some .free)->∃c,X.env.cells.lookup x=some c
 cab :∀x c,X.fn x=true->X.env.cells.lookup x=some c->X.s₀.heap.objs.size<=c
 hd:X.calm=true->X.A.handled=none
 frames:X.A.frames=some X.stack
 stk:X.stack=X.outer\/(X.stack=X.env :: X.outer/\X.env.frame=some X.env.locals)
 exf :∀b∈X.ex,b≠X.env.locals/\∀x c,X.env.cells.lookup x=some c->c≠b
 bs :∀b o,X.base.get? b=some o->X.s₀.heap.get? b=some o/\X.H₀ b=none
 bsz:X.base.objs.size<=X.s₀.heap.objs.size
 noex :∀b o,X.base.get? b=some o->b∉X.ex
 exfs :∀b∈X.ex,b∉X.fs
 funs:X.s₀.heap.FunFrames X.base X.outer
 frf :∀b∈X.fs,X.H₀ b=none
structure Inv (X:Cx) (pins:List (Addr×Obj)) (σ:List (Option V)) (H:Hp) (s:B0):Prop where
 ok:X.Ok
 os:s.os=X.s₀.os
 bare:g8 s.gens
 base:Un X.fs X.ex X.H₀ H X.s₀.heap s.heap
 loc :∃m,s.heap.Ns X.env.locals m/\∀(i:Nat) (x:Str) (v:V),X.N[i]? = some x->σ[i]? = some (some v)->Vis X.env.scope x->∃u,RelV v u/\Look X.env s.heap m x u
 cell :∀x c,X.env.cells.lookup x=some c->∃v,s.heap.IsCell c v
 free:H X.env.locals=none
 freeC :∀x c,X.env.cells.lookup x=some c->H c=none
 pin :∀p∈X.pn++pins,s.heap.get? p.1=some p.2/\H p.1=none/\p.1≠X.env.locals/\p.1∉X.fs/\∀v,p.2.data≠.cell v
 hok:HOk X.prog X.w H s.heap
 len:σ.length=X.N.length
section
variable {X:Cx} {pins:List (Addr×Obj)} {σ:List (Option V)} {H H':Hp} {s:B0} {h':Heap}
theorem Cx.Ok.nofr (ok:X.Ok) {b:Addr} {o:Obj} (e:X.base.get? b=some o):b∉X.fs:=λ a=>by have:=(ok.funs.mem a).1;rw [e] at this;cases this
theorem Inv.bs (I:Inv X pins σ H s) :∀b o,X.base.get? b=some o->s.heap.get? b=some o/\H b=none:=λ b o e=>⟨I.base.keep b o (I.ok.bs b o e).1 (I.ok.bs b o e).2 (I.ok.nofr e) (I.ok.noex b o e),I.base.free b o (I.ok.bs b o e).1 (I.ok.bs b o e).2 (I.ok.noex b o e)⟩
theorem Inv.bk (I:Inv X pins σ H s) :∀b o,X.base.get? b=some o->s.heap.get? b=some o:=λ b o e=>(I.bs b o e).1
theorem Inv.mod (I:Inv X pins σ H s):Mod X.K X.mg X.base:=I.ok.mod
theorem Inv.kIn (I:Inv X pins σ H s):X.K.In s.heap:=I.ok.mod.kin.keeps I.bk
theorem Inv.lt (I:Inv X pins σ H s):X.env.locals < s.heap.objs.size:=let ⟨_,hn,_⟩:=I.loc;hn.lt
theorem Inv.sz (I:Inv X pins σ H s):X.s₀.heap.objs.size<=s.heap.objs.size:=S0 I.ok.above (u8 I.lt)
theorem Inv.nofs (I:Inv X pins σ H s) {a:Addr} (h:s.heap.objs.size<=a):a∉X.fs:=λ b=>by obtain ⟨_,o,c,_⟩:=I.ok.funs.mem b;exact absurd (B1 (J0 c) (S0 I.sz h)) (D3 _)
theorem Inv.cne (I:Inv X pins σ H s) :∀x c,X.env.cells.lookup x=some c->c≠X.env.locals:=λ x c e z=>by obtain ⟨v,o,a,hd⟩:=I.cell x c e;obtain ⟨m,⟨h,f,g,b,d,_⟩,_⟩:=I.loc;rw [z,b] at a;cases a;rw [d] at hd;cases hd
theorem Inv.funs (I:Inv X pins σ H s):s.heap.FunFrames X.base X.outer:=by
 have all :∀(l:List Env),(∀b∈frs l,b∈X.fs)->X.s₀.heap.FunFrames X.base l->s.heap.FunFrames X.base l:=by
  intro l;induction l with
  | nil=>intro _ _;trivial
  | cons env r ih=>intro f j;obtain ⟨g,⟨L,o,d,k,i,hd⟩,h⟩:=j;have a:L∈X.fs:=f L (by unfold frs;rw [U6,d];exact F2);obtain ⟨m,e⟩:=I.base.slot L o i (I.ok.frf L a) a λ z=>I.ok.exfs L z a;exact ⟨g,⟨L,_,d,k,e,hd⟩,ih (λ b c=>f b (by unfold frs;rw [U6,d];exact Y1 _ c)) h⟩
 exact all X.outer (λ _ c=>c) I.ok.funs
theorem Inv.stack (I:Inv X pins σ H s):s.heap.FunFrames X.base X.stack:=by
 rcases I.ok.stk with e|⟨e,hf⟩
 ·rw [e];exact I.funs
 ·rw [e];obtain ⟨m,a,_⟩:=I.loc;refine .cons (by rw [I.ok.kind];decide) hf a ?_ I.funs;exact Heap.get?_none_of_le (S0 I.ok.bsz I.ok.above)
theorem Inv.stkSub (I:Inv X pins σ H s) :∀b∈frs X.stack,b∈X.env.locals :: X.fs:=λ b a=>by
 rcases I.ok.stk with e|⟨e,hf⟩
 ·rw [e] at a;exact Y1 _ a
 ·rw [e] at a;unfold frs at a;rw [U6,hf] at a;exact a
theorem Inv.stkFree (I:Inv X pins σ H s) :∀b∈frs X.stack,H b=none:=λ b a=>by
 rcases List.mem_cons.mp (I.stkSub b a) with e|a
 ·rw [e];exact I.free
 ·obtain ⟨_,o,c,_⟩:=I.ok.funs.mem a;exact I.base.free b o c (I.ok.frf b a) λ z=>I.ok.exfs b z a
theorem Inv.step {g':Array j2e} {t':Nat} {d':Drawn} {ch:List Addr} (I:Inv X pins σ H s)
  (hch :∀b∈ch,(b∈X.ex\/X.s₀.heap.objs.size<=b)/\b≠X.env.locals/\(∀x c,X.env.cells.lookup x=some c->c≠b)/\∀p∈X.pn++pins,p.1≠b)
  (keep :∀b o,b≠X.env.locals->b∉X.fs->b∉ch->s.heap.get? b=some o->H b=none->h'.get? b=some o)
  (slot :∀b o,b≠X.env.locals->b∈X.fs->b∉ch->s.heap.get? b=some o->H b=none->∃sl,h'.get? b=some { o with slots:=sl }) (free :∀b o,b∉ch->s.heap.get? b=some o->H b=none->H' b=none)
  (there :∀b o,b∉ch->s.heap.get? b=some o->∃o',h'.get? b=some o')
  (tups :∀b xs,H b=some (.tup xs)->H' b=some (.tup xs)) (frzs :∀b o u,H b=some (.frz o u)->H' b=some (.frz o u)) (tbls :∀b ps,H b=some (.tbl ps)->∃more,H' b=some (.tbl (ps++more)))
  (ns :∀m,s.heap.Ns X.env.locals m->h'.Ns X.env.locals m) (hok:HOk X.prog X.w H' h') (hg:g8 g') :
  Inv X pins σ H' { s with heap:=h',gens:=g',drawn:=d',toks:=t' }:=by
 have A :∀b o,X.s₀.heap.get? b=some o->b≠X.env.locals:=λ b o e=>U0 (B1 (J0 e) I.ok.above);have y :∀b o,X.s₀.heap.get? b=some o->b∉X.ex->b∉ch:=λ b o e a g=>by
  rcases (hch b g).1 with z|z
  ·exact a z
  ·exact absurd (B1 (J0 e) z) (D3 _)
 have E :∀x c,X.env.cells.lookup x=some c->∀v,s.heap.IsCell c v->h'.IsCell c v:=λ x c e v ⟨o,h,hd⟩=>by
  have t:c∉ch:=λ z=>(hch c z).2.2.1 x c e rfl;by_cases hc:c∈X.fs
  ·obtain ⟨sl,q⟩:=slot c o (I.cne x c e) hc t h (I.freeC x c e);exact ⟨_,q,hd⟩
  ·exact ⟨o,keep c o (I.cne x c e) hc t h (I.freeC x c e),hd⟩
 refine ⟨I.ok,I.os,hg,⟨λ b o e n g a=>?_,λ b o e n g a=>?_,λ b o e n a=>?_,λ b o e a=>?_,λ b xs e=>tups b xs (I.base.tups b xs e),λ b o xs e=>frzs b o xs (I.base.frzs b o xs e),λ b ps e=>?_⟩,?_,λ x c e=>?_,?_,λ x c e=>?_,λ p C=>?_,hok,I.len⟩
 ·exact keep b o (A b o e) g (y b o e a) (I.base.keep b o e n g a) (I.base.free b o e n a)
 ·obtain ⟨sl,f⟩:=I.base.slot b o e n g a;obtain ⟨J,j⟩:=slot b _ (A b o e) g (y b o e a) f (I.base.free b o e n a);exact ⟨J,j⟩
 ·obtain ⟨o',f⟩:=I.base.there b o e a;exact free b o' (y b o e a) f (I.base.free b o e n a)
 ·obtain ⟨o',f⟩:=I.base.there b o e a;exact there b o' (y b o e a) f
 ·obtain ⟨F,f⟩:=I.base.tbls b ps e;obtain ⟨M,j⟩:=tbls b _ f;exact ⟨F++M,by rw [j,Array.append_assoc]⟩
 ·obtain ⟨m,K,G⟩:=I.loc;refine ⟨m,ns m K,λ i x v f j L=>?_⟩;obtain ⟨u,r,l⟩:=G i x v f j L;refine ⟨u,r,?_⟩;rcases l with l|⟨k,c,e,z⟩
  ·exact .inl l
  ·exact .inr ⟨k,c,e,E x c e _ z⟩
 ·obtain ⟨v,z⟩:=I.cell x c e;exact ⟨v,E x c e v z⟩
 ·obtain ⟨m,⟨o,_,_,h,_⟩,_⟩:=I.loc;exact free _ o (λ z=>(hch _ z).2.1 rfl) h I.free
 ·obtain ⟨v,o,h,hd⟩:=I.cell x c e;exact free c o (λ z=>(hch c z).2.2.1 x c e rfl) h (I.freeC x c e)
 ·obtain ⟨e,n,B,D,d⟩:=I.pin p C;have t:p.1∉ch:=λ z=>(hch p.1 z).2.2.2 p C rfl;exact ⟨keep p.1 p.2 B D t e n,free p.1 p.2 t e n,B,D,d⟩
theorem Inv.un {t':Nat} (I:Inv X pins σ H s) (u:Un X.fs [] H H' s.heap h') (hok:HOk X.prog X.w H' h'):Inv X pins σ H' { s with heap:=h',toks:=t' }:=by obtain ⟨m,⟨o,l,t,d,r⟩,_⟩:=id I.loc;obtain ⟨p,g⟩:=u.any d I.free (by simp);exact I.step (g':=s.gens) (d':=s.drawn) (ch:=[]) (λ _ z=>nomatch z) (λ b o _ a _ e n=>u.keep b o e n a (by simp)) (λ b o _ a _ e n=>u.slot b o e n a (by simp)) (λ b o _ e n=>u.free b o e n (by simp)) (λ b o _ e=>u.there b o e (by simp)) u.tups u.frzs u.tbls (λ k f=>by obtain ⟨q,h,i,c,j⟩:=f;rw [d] at c;cases c;exact ⟨_,h,i,g,j⟩) hok I.bare
theorem Inv.call {g':Array j2e} {t':Nat} {d':Drawn} {ch:List Addr} (I:Inv X pins σ H s) (u:Un (frs X.stack) ch H H' s.heap h') (hok:HOk X.prog X.w H' h') (hg:g8 g')
  (hch :∀b∈ch,(b∈X.ex\/X.s₀.heap.objs.size<=b)/\b≠X.env.locals/\(∀x c,X.env.cells.lookup x=some c->c≠b)/\∀p∈X.pn++pins,p.1≠b) :
  Inv X pins σ H' { s with heap:=h',gens:=g',drawn:=d',toks:=t' }:=by
 obtain ⟨m,⟨o,t,A,g,r⟩,_⟩:=id I.loc;obtain ⟨v,d⟩:=u.any g I.free λ z=>(hch _ z).2.1 rfl;exact I.step (ch:=ch) hch (λ b o d h a e n=>u.keep b o e n (λ z=>(List.mem_cons.mp (I.stkSub b z)).elim d h) a) (λ b o _ _ a e n=>u.any e n a) (λ b o a e n=>u.free b o e n a) (λ b o a e=>u.there b o e a) u.tups u.frzs u.tbls (λ q i=>by obtain ⟨y,j,k,f,l⟩:=i;rw [g] at f;cases f;exact ⟨_,j,k,d,l⟩) hok hg
theorem Inv.turned {t':Nat} {it:Addr} (I:Inv X pins σ H s) (k :∀b o,b≠it->s.heap.get? b=some o->h'.get? b=some o) (hn:H it=none) (hL:it≠X.env.locals)
  (h1:it∈X.ex\/X.s₀.heap.objs.size<=it) (h2 :∀x c,X.env.cells.lookup x=some c->c≠it) (h3 :∀p∈X.pn++pins,p.1≠it):Inv X pins σ H { s with heap:=h',toks:=t' }:=by
 have d :∀b u,H b=some u->b≠it:=λ b u e z=>by rw [z,hn] at e;cases e
 refine I.step (g':=s.gens) (d':=s.drawn) (ch:=[it]) (λ b f=>?_) (λ b o _ _ a e _=>k b o (λ z=>a (by simp [z])) e) (λ b o _ _ a e _=>⟨o.slots,k b o (λ z=>a (by simp [z])) e⟩) (λ _ _ _ _ n=>n)
  (λ b o a e=>⟨o,k b o (λ z=>a (by simp [z])) e⟩) (λ _ _ e=>e) (λ _ _ _ e=>e) (λ b l e=>⟨#[],by rw [e];simp⟩) (λ m g=>?_) (λ b u e=>?_) I.bare
 ·have e:b=it:=by simpa using f
  subst e;exact ⟨h1,hL,h2,h3⟩
 ·obtain ⟨o,h,j,i,r⟩:=g;exact ⟨o,h,j,k _ o (c4 hL) i,r⟩
 ·refine (I.hok b u e).stay (λ c v a q=>k c v ?_ q) (λ _ q=>q) λ _ _ q=>q;rcases a with z|z
  ·rw [z];exact d b u e
  ·exact d c _ z
theorem Inv.tok (I:Inv X pins σ H s) (t:Nat):Inv X pins σ H { s with toks:=t }:=I.un (h':=s.heap) (t':=t) Un.refl I.hok
theorem Inv.kept {t':Nat} (I:Inv X pins σ H s) (k :∀b u,s.heap.get? b=some u->h'.get? b=some u):Inv X pins σ H { s with heap:=h',toks:=t' }:=I.un (Un.kept k) (I.hok.kept k)
theorem Inv.laid {a:Addr} {o:HO} {t':Nat} (I:Inv X pins σ H s) (k :∀b u,s.heap.get? b=some u->h'.get? b=some u) (hp:s.heap.objs.size<=a) (new:ObjOk X.prog X.w (upd H a o) h' a o) :
  Inv X pins σ (upd H a o) { s with heap:=h',toks:=t' }:=I.un (Un.laid k hp (I.hok.fresh hp)) (I.hok.laid k hp new)
theorem Inv.write {x e:Addr} {o:HO} {t':Nat} (I:Inv X pins σ H s) (mu:Mut (H x)) (he:e=x\/H e=some (.own x)) (k :∀b u,b≠e->s.heap.get? b=some u->h'.get? b=some u) (heo :∃u,h'.get? e=some u)
  (new:ObjOk X.prog X.w (upd H x o) h' x o):Inv X pins σ (upd H x o) { s with heap:=h',toks:=t' }:=I.un (Un.write mu he k heo) (I.hok.write mu he k heo new)
theorem Inv.weak {σ':List (Option V)} (I:Inv X pins σ H s) (hl:σ'.length=σ.length) (w :∀(i:Nat) v,σ'[i]? = some (some v)->σ[i]? = some (some v)):Inv X pins σ' H s:=
 ⟨I.ok,I.os,I.bare,I.base,let ⟨m,hn,hl'⟩:=I.loc;⟨m,hn,λ i x v c a b=>hl' i x v c (w i v a) b⟩,I.cell,I.free,I.freeC,I.pin,I.hok,hl.trans I.len⟩
theorem Inv.pins_of {pins':List (Addr×Obj)} (I:Inv X pins σ H s) (h :∀p∈pins',s.heap.get? p.1=some p.2/\H p.1=none/\p.1≠X.env.locals/\p.1∉X.fs/\∀v,p.2.data≠.cell v):Inv X pins' σ H s:=
 ⟨I.ok,I.os,I.bare,I.base,I.loc,I.cell,I.free,I.freeC,λ p a=>(List.mem_append.mp a).elim (λ z=>I.pin p (F4 _ z)) (h p),I.hok,I.len⟩
theorem z7t {N:List Str} (hN:N.Nodup) {i j:Nat} {x:Str} (a:N[i]? = some x) (b:N[j]? = some x):i=j:=by obtain ⟨e,d⟩:=List.getElem?_eq_some_iff.mp a;obtain ⟨f,c⟩:=List.getElem?_eq_some_iff.mp b;exact (List.getElem_inj hN).mp (d.trans c.symm)
theorem zdm {M:Model} {A:D2} {E:Value->B0->Prop} {i:Nat} {x:Str} {v:V} {u:Value} {Q:Unit->B0->Prop} (I:Inv X pins σ H s) (hN:X.N.Nodup) (hi:X.N[i]? = some x) (hx:Loc X.env.scope x) (r:RelV v u)
  (h :∀s',Inv X pins (σ.set i (some v)) H s'->(∃a,j6 a s.heap s'.heap/\(a=X.env.locals\/X.env.cells.lookup x=some a))->Q () s') (hf:X.fn x=true\/X.env.scope.names.lookup x=some .local:=by first|exact .inl rfl|exact .inr rfl|assumption):Q0 M A (storeName X.env x u) Q E s:=by
 obtain ⟨m,R,hl⟩:=id I.loc;have a3:(X.env.scope.kind == .class || (X.env.scope.kind == .module && X.env.locals != X.env.globals))=false:=by rw [I.ok.kind];rfl
 have a1:i < σ.length:=by rw [I.len];exact (List.getElem?_eq_some_iff.mp hi).1
 have cne:=I.cne;have Y :∀{a:Addr} {C:Heap},(∃o,s.heap.get? a=some o/\H a=none)->j6 a s.heap C->HOk X.prog X.w H C:=λ {a C} ha f b ob e=>by
  obtain ⟨_,_,a2⟩:=ha;refine (I.hok b ob e).stay (λ c G l q=>(f.2 c ?_).trans q) (λ _ q=>q) λ _ _ q=>q;rintro rfl;rcases l with rfl|l
  ·rw [a2] at e;cases e
  ·rw [a2] at l;cases l
 rcases hx with hk|hk
 ·refine wpAny_storeName_local hk R (λ C a4 f=>?_) a3;obtain ⟨oL,_,_,a6,_⟩:=id R;refine h _ ⟨I.ok,I.os,I.bare,⟨λ b o e n B hx=>?_,λ b o e n B hx=>?_,I.base.free,λ b o e hx=>?_,I.base.tups,I.base.frzs,I.base.tbls⟩,⟨_,a4,λ j y K g t W=>?_⟩,λ y c e=>?_,I.free,I.freeC,λ p J=>?_,Y ⟨oL,a6,I.free⟩ f,by simpa using I.len⟩ ⟨_,f,.inl rfl⟩
  ·exact (f.2 b (U0 (B1 (J0 e) I.ok.above))).trans (I.base.keep b o e n B hx)
  ·obtain ⟨S,g⟩:=I.base.slot b o e n B hx;exact ⟨S,(f.2 b (U0 (B1 (J0 e) I.ok.above))).trans g⟩
  ·obtain ⟨T,g⟩:=I.base.there b o e hx;exact ⟨T,(f.2 b (U0 (B1 (J0 e) I.ok.above))).trans g⟩
  ·by_cases hj:j=i
   ·subst hj;rw [hi] at g;cases g;rw [e8 a1] at t;cases t;exact ⟨u,r,.inl ⟨hk,by simp⟩⟩
   ·rw [N8 (c4 hj)] at t;obtain ⟨U,P,q⟩:=hl j y K g t W;refine ⟨U,P,?_⟩;rcases q with ⟨k,e⟩|⟨k,c,e,z⟩
    ·refine .inl ⟨k,?_⟩;have:y≠x:=λ e=>hj (z7t hN g (e ▸ hi));simp [this,e]
    ·exact .inr ⟨k,c,e,z.sameBut f (cne y c e)⟩
  ·obtain ⟨G,z⟩:=I.cell y c e;exact ⟨G,z.sameBut f (cne y c e)⟩
  ·obtain ⟨e,n,D,L,d⟩:=I.pin p J;exact ⟨(f.2 p.1 D).trans e,n,D,L,d⟩
 ·have O:X.fn x=true:=by
   rcases hf with z|z
   ·exact z
   ·rw [z] at hk;cases hk
  obtain ⟨c,l⟩:=I.ok.has x (.inl hk);obtain ⟨G,z⟩:=I.cell x c l;refine wpAny_storeName_cell I.ok.kind hk l z (λ C Z f=>?_);obtain ⟨oc,a0,a5⟩:=id z;refine h { s with heap:=C } ⟨I.ok,I.os,I.bare,⟨λ b o e n B hx=>?_,λ b o e n B hx=>?_,I.base.free,λ b o e hx=>?_,I.base.tups,I.base.frzs,I.base.tbls⟩,⟨m,R.sameBut f (c4 (cne x c l)),λ j y K g t W=>?_⟩,λ y F e=>?_,I.free,I.freeC,λ p J=>?_,Y ⟨oc,a0,I.freeC x c l⟩ f,by simpa using I.len⟩ ⟨c,f,.inr l⟩
  ·exact (f.2 b (U0 (B1 (J0 e) (I.ok.cab x c O l)))).trans (I.base.keep b o e n B hx)
  ·obtain ⟨S,g⟩:=I.base.slot b o e n B hx;exact ⟨S,(f.2 b (U0 (B1 (J0 e) (I.ok.cab x c O l)))).trans g⟩
  ·obtain ⟨T,g⟩:=I.base.there b o e hx;exact ⟨T,(f.2 b (U0 (B1 (J0 e) (I.ok.cab x c O l)))).trans g⟩
  ·by_cases hj:j=i
   ·subst hj;rw [hi] at g;cases g;rw [e8 a1] at t;cases t;exact ⟨u,r,.inr ⟨.inl hk,c,l,Z⟩⟩
   ·rw [N8 (c4 hj)] at t;obtain ⟨U,P,q⟩:=hl j y K g t W;refine ⟨U,P,?_⟩;rcases q with q|⟨k,F,e,z'⟩
    ·exact .inl q
    ·refine .inr ⟨k,F,e,z'.sameBut f ?_⟩;rintro rfl;exact hj (z7t hN g (I.ok.inj _ _ _ e l ▸ hi))
  ·by_cases hcc:F=c
   ·subst hcc;exact ⟨_,Z⟩
   ·obtain ⟨w2,z2⟩:=I.cell y F e;exact ⟨w2,z2.sameBut f hcc⟩
  ·obtain ⟨e,n,D,L,d⟩:=I.pin p J;refine ⟨(f.2 p.1 ?_).trans e,n,D,L,d⟩;intro q;rw [q,a0] at e;have q':oc=p.2:=Q1 e;exact d G (by rw [<-q'];exact a5)
theorem z55 {M:Model} {A:D2} {E:Value->B0->Prop} {i:Nat} {x:Str} {v:V} {u:Value} {Q:Unit->B0->Prop} (I:Inv X pins σ H s) (hN:X.N.Nodup) (hi:X.N[i]? = some x) (hx:Loc X.env.scope x) (r:RelV v u)
  (h :∀s',Inv X pins (σ.set i (some v)) H s'->Q () s') (hf:X.fn x=true\/X.env.scope.names.lookup x=some .local:=by first|exact .inl rfl|exact .inr rfl|assumption):Q0 M A (storeName X.env x u) Q E s:=
 zdm I hN hi hx r (λ s' a _=>h s' a) hf
theorem Inv.call' {s':B0} {ch:List Addr} (I:Inv X pins σ H s) (ho:s'.os=s.os) (u:Un (frs X.stack) ch H H' s.heap s'.heap) (hok:HOk X.prog X.w H' s'.heap) (hg:g8 s'.gens)
  (hch :∀b∈ch,(b∈X.ex\/X.s₀.heap.objs.size<=b)/\b≠X.env.locals/\(∀x c,X.env.cells.lookup x=some c->c≠b)/\∀p∈X.pn++pins,p.1≠b):Inv X pins σ H' s':=by
 obtain ⟨d,g',d',t',a⟩:=s';have e:a=s.os:=ho;subst e;exact I.call (g':=g') (t':=t') (d':=d') u hok hg hch
end
noncomputable abbrev XK:=Value->Option Addr->Hp->Prop
noncomputable abbrev St:=List (Option V)
noncomputable abbrev VK:=V->Hp->Prop
noncomputable abbrev TE:=St->Hp->VK->Prop
noncomputable abbrev TT:=St->Hp->(Bool->Hp->Prop)->Prop
noncomputable abbrev TA:=St->Hp->(List V->Hp->Prop)->Prop
structure Ends where
 nx:St->Hp->Prop
 rt:VK
 bk:St->Hp->Prop:=λ _ _=>False
 ct:St->Hp->Prop:=λ _ _=>False
noncomputable abbrev TS:=Ends->St->Hp->Prop
def EP (X:Cx) (pins:List (Addr×Obj)) (σ:St) (Q:VK) (u:Value) (s':B0):Prop:=∃v H',Inv X pins σ H' s'/\RelV v u/\Q v H'
def TP (X:Cx) (pins:List (Addr×Obj)) (σ:St) (Q:Bool->Hp->Prop) (b:Bool) (s':B0):Prop:=∃H',Inv X pins σ H' s'/\Q b H'
def AP (X:Cx) (pins:List (Addr×Obj)) (σ:St) (Q:List V->Hp->Prop) (us:List Value) (s':B0):Prop:=∃vs H',Inv X pins σ H' s'/\Vals vs us/\Q vs H'
def SP (X:Cx) (pins:List (Addr×Obj)) (D:Ends) (f:Flow) (s':B0):Prop:=
 match f with
 | .next=>∃σ' H',Inv X pins σ' H' s'/\D.nx σ' H'
 | .brk=>∃σ' H',Inv X pins σ' H' s'/\D.bk σ' H'
 | .cont=>∃σ' H',Inv X pins σ' H' s'/\D.ct σ' H'
 | .ret u=>∃v σ' H',Inv X pins σ' H' s'/\RelV v u/\D.rt v H'
def PE (X:Cx) (e:Expr) (t:TE):Prop:=
 ∀(pins:List (Addr×Obj)) (s:B0) (σ:St) (H:Hp) (Q:VK),Inv X pins σ H s->t σ H Q->Q0 (Z0 X.prog X.w) X.A (V3 e X.env) (EP X pins σ Q) X.xe s
def PT (X:Cx) (e:Expr) (t:TT):Prop:=
 ∀(pins:List (Addr×Obj)) (s:B0) (σ:St) (H:Hp) (Q:Bool->Hp->Prop),Inv X pins σ H s->t σ H Q->Q0 (Z0 X.prog X.w) X.A (isTrue e X.env (V3 e X.env)) (TP X pins σ Q) X.xe s
def PW (X:Cx) (e:Expr) (t:TT):Prop:=
 ∀(whole:Sem Value) (pins:List (Addr×Obj)) (s:B0) (σ:St) (H:Hp) (Q:Bool->Hp->Prop),Inv X pins σ H s->t σ H Q->Q0 (Z0 X.prog X.w) X.A (isTrue e X.env whole) (TP X pins σ Q) X.xe s
theorem PW.pt {X:Cx} {e:Expr} {t:TT} (h:PW X e t):PT X e t:=h _
def PA (X:Cx) (es:List Expr) (t:TA):Prop:=
 ∀(pos:Pos) (pins:List (Addr×Obj)) (s:B0) (σ:St) (H:Hp) (Q:List V->Hp->Prop),Inv X pins σ H s->t σ H Q->Q0 (Z0 X.prog X.w) X.A (j1a (z4 pos (E1 es X.env))) (AP X pins σ Q) X.xe s
def PS (X:Cx) (st:Stmt) (t:TS):Prop:=
 ∀(pins:List (Addr×Obj)) (s:B0) (σ:St) (H:Hp) (D:Ends),Inv X pins σ H s->t D σ H->Q0 (Z0 X.prog X.w) X.A (exec st X.env) (SP X pins D) X.xe s
def PSs (X:Cx) (st:List Stmt) (t:TS):Prop:=
 ∀(pins:List (Addr×Obj)) (s:B0) (σ:St) (H:Hp) (D:Ends),Inv X pins σ H s->t D σ H->Q0 (Z0 X.prog X.w) X.A (execs st X.env) (SP X pins D) X.xe s
theorem thn {α:Type} {t:Sem α} {Q Q':α->B0->Prop} {M:Model} {A:D2} {E:Value->B0->Prop} {s:B0} (h:Q0 M A t Q E s) (hQ :∀a s,Q a s->Q' a s):Q0 M A t Q' E s:=t3 h hQ λ _ _ x=>x
section
variable {X:Cx}
noncomputable def tVar (i:Nat):TE:=λ σ H Q=>∃v,σ[i]? = some (some v)/\Q v H
noncomputable def tC (v:V):TE:=λ _ H Q=>Q v H
theorem pe_var {i:Nat} {x:Str} {pos:Pos} (hN:X.N[i]? = some x) (hv:Vis X.env.scope x) (hd:(x == ("__debug__" : Str))=false:=by decide) (hcd:(x == ("__classdict__" : Str))=false:=by decide):PE X (.Name x pos) (tVar i):=by
 intro g s σ H Q I h;obtain ⟨v,e,h⟩:=h;obtain ⟨m,f,d⟩:=I.loc;obtain ⟨u,r,l⟩:=d i x v hN e hv;have fin:EP X g σ Q u s:=⟨v,H,I,r,h⟩
 rcases l with ⟨a,b⟩|⟨a,c,hc,hcell⟩
 ·exact wpAny_Name (wpAny_loadName_local I.ok.kind a f b fin) hd
 ·rcases a with a|a
  ·exact wpAny_Name (wpAny_loadName_cell I.ok.kind a hc hcell fin) hd
  ·exact wpAny_Name (wpAny_loadName_free I.ok.kind a hc hcell fin hcd) hd
theorem pe_int {i j pos}:PE X (.Constant (.int i) j pos) (tC (.int i)):=λ _ _ _ H _ I h=>wpAny_Constant_int ⟨.int i,H,I.tok _,⟨_,rfl⟩,h⟩
theorem pe_bl {b j pos}:PE X (.Constant (.bool b) j pos) (tC (.bl b)):=λ _ _ _ H _ I h=>Constant_bool ⟨.bl b,H,I,rfl,h⟩
theorem pe_non {j pos}:PE X (.Constant .none j pos) (tC .non):=λ _ _ _ H _ I h=>Constant_none ⟨.non,H,I,rfl,h⟩
theorem pe_str {x j pos}:PE X (.Constant (.str x) j pos) (tC (.str x)):=λ _ _ _ H _ I h=>Calls.Constant_str ⟨.str x,H,I.tok _,⟨_,rfl⟩,h⟩
def Gl (X:Cx) (x:Str):Prop:=X.env.kindOf x=some .globalImplicit
theorem z6z {E:Value->B0->Prop} {pins:List (Addr×Obj)} {s:B0} {σ:St} {H:Hp} {x:Str} {u:Value} {pos:Pos} {Q:Value->B0->Prop} (I:Inv X pins σ H s) (hg:Gl X x) (hm:X.mg x=some u) (h:Q u s)
  (hd:(x == ("__debug__" : Str))=false:=by decide):Q0 (Z0 X.prog X.w) X.A (V3 (.Name x pos) X.env) Q E s:=
 j07 I.ok.kind hg (Calls.loadGlobal_global (by rw [I.ok.glob];exact I.mod.glob.keeps I.bk) hm h) hd
theorem ld_blt {E:Value->B0->Prop} {pins:List (Addr×Obj)} {s:B0} {σ:St} {H:Hp} {x:Str} {u:Value} {pos:Pos} {Q:Value->B0->Prop} (I:Inv X pins σ H s) (hg:Gl X x) (hm:X.mg x=none) (hv:D4 x=some u) (h:Q u s)
  (hn:x≠"__name__":=by decide) (hd:(x == ("__debug__" : Str))=false:=by decide):Q0 (Z0 X.prog X.w) X.A (V3 (.Name x pos) X.env) Q E s:=by
 obtain ⟨c,a,b⟩:=I.mod.blt;exact j07 I.ok.kind hg (Calls.loadGlobal_builtin (by rw [I.ok.glob];exact I.mod.glob.keeps I.bk) hm (by rw [I.ok.blt];exact a.keeps I.bk) ((b x hn).trans hv) h) hd
theorem z0h {x:Str} {v:V} {u:Value} {pos:Pos} (hg:Gl X x) (hm:X.mg x=some u) (r:RelV v u) (hd:(x == ("__debug__" : Str))=false:=by decide):PE X (.Name x pos) (tC v):=
 λ _ _ _ H _ I h=>z6z I hg hm ⟨v,H,I,r,h⟩ hd
theorem z0w {x:Str} {v:V} {u:Value} {pos:Pos} (hg:Gl X x) (hm:X.mg x=none) (hv:D4 x=some u) (r:RelV v u) (hn:x≠"__name__":=by decide) (hd:(x == ("__debug__" : Str))=false:=by decide):PE X (.Name x pos) (tC v):=
 λ _ _ _ H _ I h=>ld_blt I hg hm hv ⟨v,H,I,r,h⟩ hn hd
variable {a b:Expr} {ta tb:TE} {pos:Pos}
def PC (X:Cx) (op:CmpOp) (a b:Expr) (t:TE):Prop:=
 ∀(pins:List (Addr×Obj)) (s:B0) (σ:St) (H:Hp) (Q:VK),Inv X pins σ H s->t σ H Q->
  Q0 (Z0 X.prog X.w) X.A (V3 a X.env) (λ v s₁=>Q0 (Z0 X.prog X.w) X.A (V3 b X.env) (λ u s₂=>Q0 (Z0 X.prog X.w) X.A (n3 op v u) (EP X pins σ Q) X.xe s₂) X.xe s₁) X.xe s
noncomputable def tB (t:TE):TT:=λ σ H Q=>t σ H λ x H1=>∃c,x=.bl c/\Q c H1
theorem pt_cmp {op:CmpOp} {t:TE} (h:PC X op a b t) (h1:k8 op b=false:=by first|exact nobehind _ (by decide) (by decide)|rfl):PT X (.Compare a [op] [b] pos) (tB t):=by intro g s σ H Q I e;refine wpAny_isTrue_Compare1 (thn (h g s σ H _ I e) λ v i h1=>thn h1 λ u j f=>thn f λ c k ⟨x,H1,I1,r1,q1⟩=>?_) h1;obtain ⟨d,rfl,q⟩:=q1;cases r1;exact M3 ⟨H1,I1,q⟩
theorem pt_val {e:Expr} {t:TE} (h:PE X e t) (he :∀whole,isTrue e X.env whole=(do let v <-whole;standAt e.pos;j00 [v] (truthy v)):=by intro _;rfl):PT X e (tB t):=by intro b s σ H Q I a;refine isTrue_plain (thn (h b s σ H _ I a) λ v c ⟨x,H1,I1,r1,q1⟩=>?_) (he _);obtain ⟨d,rfl,q⟩:=q1;cases r1;exact M3 ⟨H1,I1,q⟩
variable {tA tB':TT} {rest:List Expr}
noncomputable def tAnd (t u:TT):TT:=λ σ H Q=>t σ H λ c H1=>if c=true then u σ H1 Q else Q false H1
noncomputable def tOr (t u:TT):TT:=λ σ H Q=>t σ H λ c H1=>if c=true then Q true H1 else u σ H1 Q
noncomputable def tNot (t:TT):TT:=λ σ H Q=>t σ H λ c H1=>Q (!c) H1
theorem zeu (ha:PT X a tA):PW X (.BoolOp .And [a] pos) tA:=by
 intro d b s σ H Q I h;refine isTrue_and (thn (ha b s σ H Q I h) λ c f e=>?_);cases c with
 | true=>exact isTrue_and_nil e
 | false=>exact e
theorem pw_or1 (ha:PT X a tA):PW X (.BoolOp .Or [a] pos) tA:=by
 intro d b s σ H Q I h;refine isTrue_or (thn (ha b s σ H Q I h) λ c f e=>?_);cases c with
 | false=>exact isTrue_or_nil e
 | true=>exact e
theorem pw_and (ha:PT X a tA) (hb:PW X (.BoolOp .And (b :: rest) pos) tB'):PW X (.BoolOp .And (a :: b :: rest) pos) (tAnd tA tB'):=by
 intro e d s σ H Q I h;refine isTrue_and (thn (ha d s σ H _ I h) λ c f ⟨H1,I1,q1⟩=>?_);cases c with
 | true=>exact hb e d f σ H1 Q I1 q1
 | false=>exact ⟨H1,I1,q1⟩
theorem pw_or (ha:PT X a tA) (hb:PW X (.BoolOp .Or (b :: rest) pos) tB'):PW X (.BoolOp .Or (a :: b :: rest) pos) (tOr tA tB'):=by
 intro e d s σ H Q I h;refine isTrue_or (thn (ha d s σ H _ I h) λ c f ⟨H1,I1,q1⟩=>?_);cases c with
 | true=>exact ⟨H1,I1,q1⟩
 | false=>exact hb e d f σ H1 Q I1 q1
theorem pt_not (ha:PT X a tA):PT X (.UnaryOp .Not a pos) (tNot tA):=by intro d s σ H Q I h;exact isTrue_not (ha d s σ H (λ c b=>Q (!c) b) I h)
noncomputable def tAndV (ta tb:TE):TE:=λ σ H Q=>ta σ H λ x H1=>∃c,x=.bl c/\if c=true then tb σ H1 Q else Q (.bl false) H1
noncomputable def tOrV (ta tb:TE):TE:=λ σ H Q=>ta σ H λ x H1=>∃c,x=.bl c/\if c=true then Q (.bl true) H1 else tb σ H1 Q
noncomputable def tNotV (ta:TE):TE:=λ σ H Q=>ta σ H λ x H1=>∃c,x=.bl c/\Q (.bl (!c)) H1
theorem pe_one {op} {t:TE} (h:PE X a t):PE X (.BoolOp op [a] pos) t:=λ c s σ H Q I b=>BoolOp_one (h c s σ H Q I b)
theorem pe_and (ha:PE X a ta) (hb:PE X (.BoolOp .And (b :: rest) pos) tb):PE X (.BoolOp .And (a :: b :: rest) pos) (tAndV ta tb):=by
 intro e s σ H Q I h;refine BoolOp_and (thn (ha e s σ H _ I h) λ v f ⟨x,H1,I1,r1,d⟩=>?_);obtain ⟨c,rfl,d⟩:=d;cases r1;refine M3 ?_;cases c with
 | true=>exact hb e f σ H1 Q I1 d
 | false=>exact ⟨.bl false,H1,I1,rfl,d⟩
theorem pe_or (ha:PE X a ta) (hb:PE X (.BoolOp .Or (b :: rest) pos) tb):PE X (.BoolOp .Or (a :: b :: rest) pos) (tOrV ta tb):=by
 intro e s σ H Q I h;refine BoolOp_or (thn (ha e s σ H _ I h) λ v f ⟨x,H1,I1,r1,d⟩=>?_);obtain ⟨c,rfl,d⟩:=d;cases r1;refine M3 ?_;cases c with
 | false=>exact hb e f σ H1 Q I1 d
 | true=>exact ⟨.bl true,H1,I1,rfl,d⟩
theorem pe_not (ha:PE X a ta):PE X (.UnaryOp .Not a pos) (tNotV ta):=by intro d s σ H Q I h;refine UnaryOp_ (thn (ha d s σ H _ I h) λ v e ⟨x,H1,I1,r1,b⟩=>?_);obtain ⟨c,rfl,b⟩:=b;cases r1;exact not_of (M3 ⟨.bl (!c),H1,I1,rfl,b⟩)
end
def SqL (K:d0) (H:Hp) (a:Addr) (xs:List V):Prop:=
 Rd H a (.lst xs)\/
  ∃(o:Obj) (its:Array Value) (n:Nat),K.lookup a=some o/\o.cls=.type "list"/\o.dict=none/\o.data=.seq its n/\its.size<=sizeLine/\Vals xs its.toList
def SqT (K:d0) (H:Hp) (a:Addr) (xs:List V):Prop:=
 Rd H a (.tup xs)\/
  ∃(o:Obj) (its:Array Value) (n:Nat),K.lookup a=some o/\o.cls=.type "tuple"/\o.data=.seq its n/\its.size<=sizeLine/\Vals xs its.toList
noncomputable def absV:Value->Option V
 | .none=>some .non
 | .bool b=>some (.bl b)
 | .int i _=>some (.int i)
 | .str x _=>some (.str x)
 | .bytes b _=>some (.byt b)
 | .float b _=>some (.flt b)
 | .ref a=>some (.ref a)
 | .type n=>some (.ty n)
 | _=>none
theorem RelV.abs {x:V} {u:Value} (r:RelV x u):absV u=some x:=by
 cases x with
 | non=>cases r;rfl
 | bl _=>cases r;rfl
 | int _=>obtain ⟨t,rfl⟩:=r;rfl
 | str _=>obtain ⟨t,rfl⟩:=r;rfl
 | byt _=>obtain ⟨t,rfl⟩:=r;rfl
 | flt _=>obtain ⟨t,rfl⟩:=r;rfl
 | ref _=>cases r;rfl
 | ty _=>cases r;rfl
theorem RelV.inj {x y:V} {u:Value} (r:RelV x u) (q:RelV y u):x=y:=Q1 (r.abs.symm.trans q.abs)
theorem Vals.inj :∀{xs ys:List V} {us:List Value},Vals xs us->Vals ys us->xs=ys
 | _,_,_,.nil,.nil=>rfl
 | _,_,_,.cons r t,.cons r' t'=>by rw [r.inj r',Vals.inj t t']
section
variable {X:Cx} {pins:List (Addr×Obj)} {σ:St} {H:Hp} {s:B0} {a:Addr} {xs ys:List V}
theorem SqL.of {K:d0} (h:H a=some (.lst xs)):SqL K H a xs:=.inl (.inl h)
theorem SqT.of {K:d0} (h:H a=some (.tup xs)):SqT K H a xs:=.inl (.inl h)
theorem Inv.list (I:Inv X pins σ H s) (h:SqL X.K H a xs) :∃its:List Value,Vals xs its/\PlainL s.heap a its.toArray/\xs.length<=sizeLine:=by
 rcases h with h|⟨o,its,n,hk,hc,hd,hs,hz,r⟩
 ·obtain ⟨z,its,n,r,e⟩:=h.ok I.hok;exact ⟨its,r,⟨_,n,e,rfl,rfl,rfl⟩,z⟩
 ·refine ⟨its.toList,r,⟨o,n,I.kIn a o hk,hc,hd,by simpa using hs⟩,?_⟩;have e:=r.length;simp only [F1] at e;omega
theorem Inv.tuple (I:Inv X pins σ H s) (h:SqT X.K H a xs) :∃its:List Value,Vals xs its/\IsTup s.heap a its.toArray/\xs.length<=sizeLine:=by
 rcases h with h|⟨o,its,n,hk,hc,hs,hz,r⟩
 ·obtain ⟨z,its,r,p⟩:=h.ok I.hok;exact ⟨its,r,p.1,z⟩
 ·refine ⟨its.toList,r,⟨o,I.kIn a o hk,hc,n,by simpa using hs⟩,?_⟩;have e:=r.length;simp only [F1] at e;omega
theorem Inv.list_inj (I:Inv X pins σ H s) (h:SqL X.K H a xs) (h':SqL X.K H a ys):xs=ys:=by
 obtain ⟨f,r,⟨o,n,e,_,_,d⟩,_⟩:=I.list h;obtain ⟨g,i,⟨k,j,b,_,_,c⟩,_⟩:=I.list h';rw [e] at b;cases b;rw [d] at c;injection c with d1 _;have:f=g:=by simpa using congrArg Array.toList d1
 subst this;exact r.inj i
theorem Inv.tuple_inj (I:Inv X pins σ H s) (h:SqT X.K H a xs) (h':SqT X.K H a ys):xs=ys:=by
 obtain ⟨f,r,⟨o,e,_,n,d⟩,_⟩:=I.tuple h;obtain ⟨g,i,⟨k,b,_,j,c⟩,_⟩:=I.tuple h';rw [e] at b;cases b;rw [d] at c;injection c with d1 _;have:f=g:=by simpa using congrArg Array.toList d1
 subst this;exact r.inj i
end
noncomputable abbrev Cx.wish (X:Cx) (E:Value->B0->Prop):Cx:={ X with xe:=E }
noncomputable abbrev Cx.nox (X:Cx):Cx:=X.wish λ _ _=>False
theorem Cx.Ok.wish {X:Cx} (ok:X.Ok) (E:Value->B0->Prop):(X.wish E).Ok:=
 ⟨ok.mod,ok.kind,ok.glob,ok.blt,ok.above,ok.inj,ok.has,ok.cab,ok.hd,ok.frames,ok.stk,ok.exf,ok.bs,ok.bsz,ok.noex,ok.exfs,ok.funs,ok.frf⟩
theorem Cx.Ok.unwish {X:Cx} {E:Value->B0->Prop} (ok:(X.wish E).Ok):X.Ok:=
 ⟨ok.mod,ok.kind,ok.glob,ok.blt,ok.above,ok.inj,ok.has,ok.cab,ok.hd,ok.frames,ok.stk,ok.exf,ok.bs,ok.bsz,ok.noex,ok.exfs,ok.funs,ok.frf⟩
section
variable {X:Cx} {pins:List (Addr×Obj)} {σ:St} {H:Hp} {s:B0} {E:Value->B0->Prop}
theorem Inv.wish (I:Inv X pins σ H s) (E:Value->B0->Prop):Inv (X.wish E) pins σ H s:=⟨I.ok.wish E,I.os,I.bare,I.base,I.loc,I.cell,I.free,I.freeC,I.pin,I.hok,I.len⟩
theorem Inv.unwish (I:Inv (X.wish E) pins σ H s):Inv X pins σ H s:=⟨I.ok.unwish,I.os,I.bare,I.base,I.loc,I.cell,I.free,I.freeC,I.pin,I.hok,I.len⟩
theorem SP.unwish {D:Ends} {f:Flow} {s':B0} (h:SP (X.wish E) pins D f s'):SP X pins D f s':=by
 cases f with
 | next=>obtain ⟨a,b,I,q⟩:=h;exact ⟨a,b,I.unwish,q⟩
 | brk=>obtain ⟨a,b,I,q⟩:=h;exact ⟨a,b,I.unwish,q⟩
 | cont=>obtain ⟨a,b,I,q⟩:=h;exact ⟨a,b,I.unwish,q⟩
 | ret u=>obtain ⟨v,a,b,I,r,q⟩:=h;exact ⟨v,a,b,I.unwish,r,q⟩
theorem PSs.nox {st:List Stmt} {t:TS} (h:PSs X.nox st t):PSs X st t:=λ b s σ H D I a=>t3 (h b s σ H D (I.wish _) a) (λ _ _ q=>q.unwish) λ _ _ z=>y4 z
end
section
variable {X:Cx} {st:Stmt} {rest:List Stmt} {t u:TS} {e:Expr} {te:TE} {pos:Pos}
noncomputable def tNext:TS:=λ D σ H=>D.nx σ H
noncomputable def tSeq (t u:TS):TS:=λ D σ H=>t { D with nx:=u D } σ H
theorem z0g:PSs X [] tNext:=λ _ _ σ H _ I h=>S8 ⟨σ,H,I,h⟩
theorem z03 (h1:PS X st t) (h2:PSs X rest u):PSs X (st :: rest) (tSeq t u):=by
 intro a s σ H D I h;refine wpAny_execs_cons (thn (h1 a s σ H { D with nx:=u D } I h) λ f e q=>?_);cases f with
 | next=>obtain ⟨b,d,c,q⟩:=q;exact h2 a e b d D c q
 | ret v=>exact q
 | brk=>exact q
 | cont=>exact q
theorem z05 (h1:PS X st t):PSs X [st] t:=by
 intro a s σ H D I h;refine wpAny_execs_cons (thn (h1 a s σ H D I h) λ f b q=>?_);cases f with
 | next=>exact S8 q
 | ret v=>exact q
 | brk=>exact q
 | cont=>exact q
theorem Inv.quiet {pins:List (Addr×Obj)} {σ:St} {H:Hp} {s:B0} (I:Inv X pins σ H s):interactive X.env=false:=by simp [interactive,I.ok.kind]
noncomputable def tDrop (te:TE):TS:=λ D σ H=>te σ H λ _ H1=>D.nx σ H1
theorem z15 (he:PE X e te) (hs:m9 e none pos.line X.env=S3 false:=by rfl):PS X (.Expr e pos) (tDrop te):=by intro a s σ H D I h;exact wpAny_Expr_any (thn (he a s σ H _ I h) λ v b ⟨x,H1,I1,r1,q1⟩=>⟨σ,H1,I1,q1⟩) I.quiet hs
noncomputable def tRet (te:TE):TS:=λ D σ H=>te σ H D.rt
theorem ps_ret (he:PE X e te):PS X (.Return (some e) pos) (tRet te):=by intro a s σ H D I h;exact wpAny_Return_some (thn (he a s σ H _ I h) λ v b ⟨x,H1,I1,r1,q1⟩=>⟨x,σ,H1,I1,r1,q1⟩)
noncomputable def tIfS (c:TT) (t u:TS):TS:=λ D σ H=>c σ H λ b H1=>if b=true then t D σ H1 else u D σ H1
theorem ps_if {c:Expr} {a b:List Stmt} {tc:TT} (hc:PT X c tc) (ha:PSs X a t) (hb:PSs X b u):PS X (.If c a b pos) (tIfS tc t u):=by
 intro e s σ H D I h;refine wpAny_If (thn (hc e s σ H _ I h) λ d f ⟨H1,I1,q1⟩=>?_);cases d with
 | true=>exact ha e f σ H1 D I1 q1
 | false=>exact hb e f σ H1 D I1 q1
noncomputable def tNever:TS:=λ _ _ _=>False
theorem z0q:PS X st tNever:=λ _ _ _ _ _ _ h=>h.elim
end
noncomputable abbrev TG:=V->St->Hp->(St->Hp->Prop)->Prop
noncomputable abbrev TGs:=List V->St->Hp->(St->Hp->Prop)->Prop
def PG (X:Cx) (target:Expr) (t:TG):Prop:=
 ∀(pins:List (Addr×Obj)) (s:B0) (σ:St) (H:Hp) (v:V) (u:Value) (Q:St->Hp->Prop),Inv X pins σ H s->RelV v u->t v σ H Q->
  Q0 (Z0 X.prog X.w) X.A (assign target X.env u) (λ _ s'=>∃σ' H',Inv X pins σ' H' s'/\Q σ' H') X.xe s
def PGs (X:Cx) (ts:List Expr) (t:TGs):Prop:=
 ∀(pins:List (Addr×Obj)) (s:B0) (σ:St) (H:Hp) (vs:List V) (us:List Value) (Q:St->Hp->Prop),Inv X pins σ H s->Vals vs us->t vs σ H Q->
  Q0 (Z0 X.prog X.w) X.A (assignInOrder ((S6 ts X.env).map (·.2)) us) (λ _ s'=>∃σ' H',Inv X pins σ' H' s'/\Q σ' H') X.xe s
noncomputable abbrev TSet:=V->V->V->Hp->(Hp->Prop)->Prop
def PSet (X:Cx) (t:TSet):Prop:=
 ∀(pins:List (Addr×Obj)) (s:B0) (σ:St) (H:Hp) (o i v:V) (ov iv u:Value) (Q:Hp->Prop),Inv X pins σ H s->RelV o ov->RelV i iv->RelV v u->t o i v H Q->
  Q0 (Z0 X.prog X.w) X.A (setItem ov iv u) (λ _ s'=>∃H',Inv X pins σ H' s'/\Q H') X.xe s
noncomputable abbrev TIp:=V->V->Hp->VK->Prop
def PIp (X:Cx) (op:Operator) (t:TIp):Prop:=
 ∀(pins:List (Addr×Obj)) (s:B0) (σ:St) (H:Hp) (x y:V) (v u:Value) (Q:VK),Inv X pins σ H s->RelV x v->RelV y u->t x y H Q->
  Q0 (Z0 X.prog X.w) X.A (inplaceOp op v u) (EP X pins σ Q) X.xe s
section
variable {X:Cx} {pos:Pos}
noncomputable def gName (i:Nat):TG:=λ v σ H Q=>Q (σ.set i (some v)) H
theorem z0p {i:Nat} {x:Str} (hN:X.N.Nodup) (hi:X.N[i]? = some x) (hx:Loc X.env.scope x) (hf:X.fn x=true\/X.env.scope.names.lookup x=some .local:=by first|exact .inl rfl|exact .inr rfl|assumption):PG X (.Name x pos) (gName i):=by intro c s σ H v u Q I r h;exact wpAny_assign_Name (z55 I hN hi hx r (λ b a=>⟨_,H,a,h⟩) hf)
noncomputable def gNil:TGs:=λ vs σ H Q=>vs=[]/\Q σ H
noncomputable def gCons (t:TG) (u:TGs):TGs:=λ vs σ H Q=>∃v r,vs=v :: r/\t v σ H λ σ' H'=>u r σ' H' Q
theorem z1w:PGs X [] gNil:=by intro c s σ H a b Q I r h;obtain ⟨e,h⟩:=h;subst e;cases r;exact assignInOrder_nil ⟨σ,H,I,h⟩
theorem z0i {e:Expr} {es:List Expr} {t:TG} {u:TGs} (h1:PG X e t) (h2:PGs X es u)
  (hs:(S6 (e :: es) X.env).map (·.2)=assign e X.env :: (S6 es X.env).map (·.2):=by rfl):PGs X (e :: es) (gCons t u):=by
 intro a s σ H f g Q I r h;obtain ⟨v,d,b,h⟩:=h;subst b;cases r with
 | cons r rr=>rw [hs];refine assignInOrder_cons (thn (h1 a s σ H _ _ _ I r h) λ _ c ⟨σ1,H1,I1,q1⟩=>?_);exact h2 a c σ1 H1 _ _ Q I1 rr q1
noncomputable def gTup (K:d0) (n:Nat) (t:TGs):TG:=λ v σ H Q=>∃a xs,v=.ref a/\SqT K H a xs/\xs.length=n/\t xs σ H Q
theorem pg_tup {es:List Expr} {k:Nat} {t:TGs} {n:Nat} (hc:X.calm=true) (h:PGs X es t)
  (hn:(S6 es X.env).length=n:=by rfl) (hst:(S6 es X.env).findIdx? (·.1)=none:=by rfl):PG X (.Tuple es k pos) (gTup X.K n t):=by
 intro f s σ H v u Q I r c;obtain ⟨a,w,j,l,m,c⟩:=c;subst j;cases r;obtain ⟨x,d,i,y⟩:=I.tuple l;refine assign_Tuple_tuple (I.ok.hd hc) i (by simp [hn,<-m,d.length]) hst λ p q=>?_;have g:Inv X f σ H { s with heap:=p }:=I.kept (t':=s.toks) λ b o e=>q b o (U0 (J0 e)) e;exact h f _ σ H w _ Q g (by simpa using d) c
noncomputable def gSub (to ti:TE) (t:TSet):TG:=λ v σ H Q=>to σ H λ o H1=>ti σ H1 λ i H2=>t o i v H2 λ H3=>Q σ H3
theorem pg_sub {o i:Expr} {to ti:TE} {t:TSet} (ho:PE X o to) (hi:PE X i ti) (hs:PSet X t)
  (ha :∀v,assign (.Subscript o i pos) X.env v=(do
   let ov <-j00 [v] (V3 o X.env)
   let iv <-j00 [v,ov] (V3 i X.env)
   standAt pos
   j00 [v,ov,iv] (setItem ov iv v)
   release [v,ov,iv] []):=by intro _;rfl):PG X (.Subscript o i pos) (gSub to ti t):=by
 intro a s σ H v u Q I r h;rw [ha];refine o0 (R1 (thn (ho a s σ H _ I h) λ ov b ⟨x,H1,I1,r1,q1⟩=>?_));refine o0 (R1 (thn (hi a b σ H1 _ I1 q1) λ iv c ⟨y,H2,I2,r2,q2⟩=>?_));refine o0 (B9 (o0 (R1 (thn (hs a c σ H2 x y v ov iv u _ I2 r1 r2 r q2) λ _ d ⟨H3,I3,q3⟩=>?_))));exact wpAny_release ⟨σ,H3,I3,q3⟩
noncomputable def tAsg (te:TE) (g:TG):TS:=λ D σ H=>te σ H λ x H1=>g x σ H1 D.nx
theorem ps_asg {tg e:Expr} {te:TE} {g:TG} (he:PE X e te) (hg:PG X tg g) (hs:swapsWithSole [tg] e pos.line X.env=S3 false:=by rfl) (hw:swappedStores [tg] e X.env=S3 none:=by rfl)
  (h1:(S6 [tg] X.env).map (·.2)=[assign tg X.env]:=by rfl):PS X (.Assign [tg] e pos) (tAsg te g):=by
 intro a s σ H D I h;refine wpAny_Assign_stores (thn (he a s σ H _ I h) λ v b ⟨x,H1,I1,r1,q1⟩=>?_) hs hw;rw [h1];exact thn (hg a b σ H1 x v _ I1 r1 q1) λ _ c q=>q
theorem ps_set {i:Nat} {x:Str} {e:Expr} {te:TE} {pos':Pos} (hN:X.N.Nodup) (hi:X.N[i]? = some x) (hx:Loc X.env.scope x) (he:PE X e te) (hs:m9 e (some (.Name x pos')) pos.line X.env=S3 false:=by rfl) (hf:X.fn x=true\/X.env.scope.names.lookup x=some .local:=by first|exact .inl rfl|exact .inr rfl|assumption) :
  PS X (.Assign [.Name x pos'] e pos) (tAsg te (gName i)):=by
 intro b s σ H D I h;refine wpAny_Assign_Name (thn (he b s σ H _ I h) λ v c ⟨y,H1,I1,r1,q1⟩=>?_) hs;exact z55 I1 hN hi hx r1 (λ d a=>⟨_,H1,a,q1⟩) hf
noncomputable def tAug (i:Nat) (te:TE) (ti:TIp):TS:=λ D σ H=>∃x,σ[i]? = some (some x)/\te σ H λ y H1=>ti x y H1 λ z H2=>D.nx (σ.set i (some z)) H2
theorem ps_aug {i:Nat} {x:Str} {e:Expr} {te:TE} {op:Operator} {ti:TIp} {pos':Pos} (hN:X.N.Nodup) (hi:X.N[i]? = some x) (hx:Loc X.env.scope x) (he:PE X e te) (ho:PIp X op ti) (hf:X.fn x=true\/X.env.scope.names.lookup x=some .local:=by first|exact .inl rfl|exact .inr rfl|assumption) :
  PS X (.AugAssign (.Name x pos') op e pos) (tAug i te ti):=by
 intro b s σ H D I h;obtain ⟨v,g,h⟩:=h;obtain ⟨m,B,t⟩:=I.loc;have p:Vis X.env.scope x:=by rcases hx with k|k;exact .inl k;exact .inr (.inl k)
 obtain ⟨u,r,l⟩:=t i x v hi g p;refine wpAny_AugAssign_Name ?_;have d:Q0 (Z0 X.prog X.w) X.A (V3 e X.env) (λ w n=>Q0 (Z0 X.prog X.w) X.A (inplaceOp op u w) (λ r o=>Q0 (Z0 X.prog X.w) X.A (storeName X.env x r) (λ _=>SP X b D .next) X.xe o) X.xe n) X.xe s:=by refine thn (he b s σ H _ I h) λ w q ⟨y,H1,I1,r1,q1⟩=>?_;refine thn (ho b q σ H1 v y u w _ I1 r r1 q1) λ z C ⟨zv,H2,I2,r2,q2⟩=>?_;exact z55 I2 hN hi hx r2 (λ E f=>⟨_,H2,f,q2⟩) hf
 rcases l with ⟨a,j⟩|⟨a,c,hc,hcell⟩
 ·exact wpAny_loadName_local I.ok.kind a B j d
 ·rcases a with a|a
  ·exact wpAny_loadName_cell I.ok.kind a hc hcell d
  ·rcases hx with k|k
   ·have:X.env.scope.names.lookup x=some .free:=a;rw [k] at this;cases this
   ·have:X.env.scope.names.lookup x=some .free:=a;rw [k] at this;cases this
noncomputable def ipI (f:Int->Int->Int):TIp:=λ x y H Q=>∃i j,x=.int i/\y=.int j/\Q (.int (f i j)) H
theorem ip_add:PIp X .Add (ipI λ i j=>i + j):=by intro f s σ H x y v u Q I a d h;obtain ⟨i,j,b,c,q⟩:=h;subst b;subst c;obtain ⟨t,rfl⟩:=a;obtain ⟨e,rfl⟩:=d;exact iadd_int ⟨.int _,H,I.tok _,⟨_,rfl⟩,q⟩
end
structure It where
 go:Nat->Hp->Prop
 yld:Nat->Hp->V->Hp->Prop
 stop:Nat->Hp->Prop
def FpOk (X:Cx) (pins:List (Addr×Obj)) (H:Hp) (b:Addr):Prop:=
 H b=none/\b≠X.env.locals/\b∉X.fs/\(b∈X.ex\/X.s₀.heap.objs.size<=b)/\(∀x c,X.env.cells.lookup x=some c->c≠b)/\∀p∈X.pn++pins,p.1≠b
theorem Inv.fpOk {X:Cx} {pins:List (Addr×Obj)} {σ:St} {H H':Hp} {s:B0} {b:Addr} (I:Inv X pins σ H s) (hb:s.heap.objs.size<=b) (hn:H' b=none):FpOk X pins H' b:=by
 refine ⟨hn,O2 (B1 I.lt hb),I.nofs hb,.inr (S0 I.sz hb),λ x c e z=>?_,λ p a z=>?_⟩
 ·obtain ⟨v,q⟩:=I.cell x c e;exact absurd (B1 q.lt (by rw [z];exact hb)) (D3 _)
 ·exact absurd (B1 (J0 (I.pin p a).1) (by rw [z];exact hb)) (D3 _)
structure Turn (P:Program) (w:W0) (K:d0) (tg:Expr) (J:It) (fp:List Addr) (it:Addr) (tn:Nat->Heap->Prop):Prop where
 mem:it∈fp
 obj :∀i h,tn i h->∀b∈fp,∃o,h.get? b=some o/\∀v,o.data≠.cell v
 keep :∀i h h',tn i h->(∀b∈fp,∀o,h.get? b=some o->h'.get? b=some o)->tn i h'
 item :∀(X:Cx),X.prog=P->X.w=w->X.K=K->X.calm=true->∀(i:Nat) (pins:List (Addr×Obj)) (s:B0) (σ:St) (H:Hp) (E:Value->B0->Prop),Inv X pins σ H s->(∀b∈fp,FpOk X pins H b)->tn i s.heap->J.go i H->
  Q0 (Z0 P w) X.A (j8 (.ref it)) (λ r s1=>∃u,r=some u/\
   Q0 (Z0 P w) X.A (T8 tg (.ref it) u) (λ _ s2=>∃x H',Inv X pins σ H' s2/\RelV x u/\J.yld i H x H'/\tn (i + 1) s2.heap/\∀b∈fp,H' b=none) E s1) E s
 done :∀(X:Cx),X.prog=P->X.w=w->X.K=K->X.calm=true->∀(i:Nat) (pins:List (Addr×Obj)) (s:B0) (σ:St) (H:Hp) (E:Value->B0->Prop),Inv X pins σ H s->(∀b∈fp,FpOk X pins H b)->tn i s.heap->J.stop i H->
  Q0 (Z0 P w) X.A (j8 (.ref it)) (λ r s1=>r=none/\Inv X pins σ H s1) E s
 self :∀(A:D2) (i:Nat) (s:B0) (Q:Value->B0->Prop) (E:Value->B0->Prop),tn i s.heap->Q (.ref it) s->Q0 (Z0 P w) A (pyIter (.ref it)) Q E s
noncomputable abbrev TI:=St->Hp->(It->Hp->Prop)->Prop
def PIE (X:Cx) (pins:List (Addr×Obj)) (σ:St) (tg:Expr) (R:It->Hp->Prop) (itv:Value) (s2:B0):Prop:=
 ∃(it:Addr) (fp:List Addr) (tn:Nat->Heap->Prop) (J:It) (H':Hp),itv=.ref it/\Inv X pins σ H' s2/\Turn X.prog X.w X.K tg J fp it tn/\tn 0 s2.heap/\(∀b∈fp,FpOk X pins H' b)/\R J H'
def PI (X:Cx) (tg iter:Expr) (wi:TI):Prop:=
 ∀(pins:List (Addr×Obj)) (s:B0) (σ:St) (H:Hp) (R:It->Hp->Prop),Inv X pins σ H s->wi σ H R->
  Q0 (Z0 X.prog X.w) X.A (V3 iter X.env) (λ v s1=>Q0 (Z0 X.prog X.w) X.A (pyIter v) (PIE X pins σ tg R) X.xe s1) X.xe s
theorem go_of {M:Model} {A:D2} {E:Value->B0->Prop} {s:B0} {tg:Expr} {it:Addr} {u:Value} {o:Obj} {n:String} {vs:Array Value} {Q:Unit->B0->Prop} (ho:s.heap.get? it=some o) (hc:o.cls=.type n) (hd:o.data=.fields vs)
    (hn:["enumerate","zip","dict_itemiterator","dict_reverseitemiterator","odict_iterator","itertools.zip_longest","itertools.pairwise"].contains n=false) (hQ:Q () s):Q0 M A (T8 tg (.ref it) u) Q E s:=by
  unfold T8;cases tg<;>first
    | exact C0 hQ
    | (cases u<;>first
        | exact C0 hQ
        | (refine o0 (wpAny_load ho ?_)
           rw [hc,hd];show Q0 M A (if (["enumerate","zip","dict_itemiterator","dict_reverseitemiterator","odict_iterator","itertools.zip_longest","itertools.pairwise"].contains n && vs[0]? == some (F5 _))=true then _ else _) Q E s;rw [if_neg (by intro h;rw [hn,n6] at h;cases h)];exact C0 hQ))
noncomputable def Itl (K:d0) (a:Addr):It:=
 ⟨λ i H=>∃xs x,SqL K H a xs/\xs[i]? = some x,λ i H x H'=>H'=H/\∀xs,SqL K H a xs->xs[i]? = some x,λ i H=>∃xs,SqL K H a xs/\xs.length<=i⟩
noncomputable def Itt (K:d0) (a:Addr):It:=
 ⟨λ i H=>∃xs x,SqT K H a xs/\xs[i]? = some x,λ i H x H'=>H'=H/\∀xs,SqT K H a xs->xs[i]? = some x,λ i H=>∃xs,SqT K H a xs/\xs.length<=i⟩
noncomputable def Itr (lo:Int) (n:Nat):It:=⟨λ i _=>i < n,λ i H x H'=>H'=H/\x=.int (lo + i),λ i _=>n<=i⟩
theorem zct {P:Program} {w:W0} {K:d0} {tg:Expr} (a it:Addr):Turn P w K tg (Itl K a) [it] it (λ i h=>h.IsListIter it a i) where
 mem:=by simp
 obj:=λ i h f b g=>by
  have e:b=it:=by simpa using g
  subst e;obtain ⟨o,e,c,d⟩:=f;exact ⟨o,e,λ v z=>by rw [d] at z;cases z⟩
 keep:=λ i h m f k=>f.at λ o e=>k it (by simp) o e
 item:=by intro X q r t L i M s σ H E I j f F;subst q r t;obtain ⟨V,x,l,G⟩:=F;obtain ⟨Q,A,p,T⟩:=I.list l;obtain ⟨u,S,O⟩:=A.get G;obtain ⟨B,C,U,n,D,y⟩:=j it (by simp);refine a5 f p.isList (x:=u) (by simpa using S) λ m J sb=>?_;have N:Inv X M σ H { s with heap:=m }:=I.turned (t':=s.toks) (λ b o g e=>(sb.2 b g).trans e) B C n D y;obtain ⟨o,e,c,d⟩:=id J;exact ⟨u,rfl,go_of (s:={ s with heap:=m }) e c d (by decide) ⟨x,H,N,O,⟨rfl,λ Y W=>by rw [I.list_inj W l];exact G⟩,J,λ b g=>(j b g).1⟩⟩
 done:=by intro X q r t L i M s σ H E I j f F;subst q r t;obtain ⟨V,l,G⟩:=F;obtain ⟨Q,A,p,T⟩:=I.list l;obtain ⟨B,C,U,n,D,y⟩:=j it (by simp);have Z:=A.length;exact E5 (I.ok.hd L) f p.isList (by simp;omega) λ m R=>⟨rfl,I.turned (t':=s.toks) (λ b o g e=>R b o g e) B C n D y⟩
 self:=λ _ _ _ _ _ f h=>wpAny_pyIter_listiter f h
theorem zai {P:Program} {w:W0} {K:d0} {tg:Expr} (a it:Addr):Turn P w K tg (Itt K a) [it] it (λ i h=>h.IsTupleIter it a i) where
 mem:=by simp
 obj:=λ i h f b g=>by
  have e:b=it:=by simpa using g
  subst e;obtain ⟨o,e,c,d⟩:=f;exact ⟨o,e,λ v z=>by rw [d] at z;cases z⟩
 keep:=λ i h m f k=>f.at λ o e=>k it (by simp) o e
 item:=by intro X q t y M i N s σ H E I j f G;subst q t y;obtain ⟨V,x,l,J⟩:=G;obtain ⟨r,B,p,T⟩:=I.tuple l;obtain ⟨u,S,Q⟩:=B.get J;obtain ⟨C,D,U,n,F,A⟩:=j it (by simp);refine wpAny_pyNext_tuple_item f (show s.heap.IsTuple a r.toArray from p) (x:=u) (by simpa using S) λ m L sb=>?_;have O:Inv X N σ H { s with heap:=m }:=I.turned (t':=s.toks) (λ b o g e=>(sb.2 b g).trans e) C D n F A;obtain ⟨o,e,c,d⟩:=id L;exact ⟨u,rfl,go_of (s:={ s with heap:=m }) e c d (by decide) ⟨x,H,O,Q,⟨rfl,λ Y W=>by rw [I.tuple_inj W l];exact J⟩,L,λ b g=>(j b g).1⟩⟩
 done:=by intro X q t y M i N s σ H E I j f G;subst q t y;obtain ⟨V,l,J⟩:=G;obtain ⟨r,B,p,T⟩:=I.tuple l;obtain ⟨C,D,U,n,F,A⟩:=j it (by simp);have Z:=B.length;exact wpAny_pyNext_tuple_end (I.ok.hd M) f (show s.heap.IsTuple a r.toArray from p) (by simp;omega) λ m R=>⟨rfl,I.turned (t':=s.toks) (λ b o g e=>R b o g e) C D n F A⟩
 self:=λ _ _ _ _ _ f h=>wpAny_pyIter_tupleiter f h
theorem zbc {P:Program} {w:W0} {K:d0} {tg:Expr} (it:Addr) (lo:Int) (n:Nat):Turn P w K tg (Itr lo n) [it] it (λ i h=>IsRangeIter h it (lo + (i:Nat) * 1) ((n:Int) - (i:Nat)) 1) where
 mem:=by simp
 obj:=λ i h a b c=>by
  have e:b=it:=by simpa using c
  subst e;exact ⟨_,a,λ v z=>by have F:S9 _=j19 v:=z;cases F⟩
 keep:=λ i h f a k=>k it (by simp) _ a
 item:=by intro X j m p l i C s σ H E I d a y;subst j m p;obtain ⟨r,u,L,g,x,q⟩:=d it (by simp);have W:=Walks.range (prog:=X.prog) (w:=X.w) (I.ok.hd l) it lo 1 n;refine W.item i s _ _ y a λ v f A M B G=>?_;obtain ⟨t,rfl⟩:=M;have D:Inv X C σ H { s with heap:=f,toks:=A }:=I.turned (λ b o c e=>G b o (by simpa using c) e) r u g x q;refine ⟨_,rfl,go_of (s:={ s with heap:=f,toks:=A }) (n:="range_iterator") B rfl rfl (by decide) ⟨.int (lo + i),H,D,⟨t,?_⟩,⟨rfl,rfl⟩,B,λ b c=>(d b c).1⟩⟩;rw [Int.mul_one]
 done:=by intro X j m p l i C s σ H E I d a y;subst j m p;obtain ⟨r,u,L,g,x,q⟩:=d it (by simp);exact wpAny_pyNext_range_end (I.ok.hd l) a (by have:n<=i:=y;omega) λ f J=>⟨rfl,I.turned (t':=s.toks) (λ b o c e=>J b o c e) r u g x q⟩
 self:=λ _ _ _ _ _ a h=>wpAny_pyIter_rangeiter a h
section
variable {X:Cx} {tg:Expr}
noncomputable def iList (K:d0) (tl:TE):TI:=λ σ H R=>tl σ H λ x H1=>∃a,x=.ref a/\(∃xs,SqL K H1 a xs)/\R (Itl K a) H1
noncomputable def iTup (K:d0) (tl:TE):TI:=λ σ H R=>tl σ H λ x H1=>∃a,x=.ref a/\(∃xs,SqT K H1 a xs)/\R (Itt K a) H1
theorem z0t {l:Expr} {tl:TE} (hl:PE X l tl):PI X tg l (iList X.K tl):=by
 intro g s σ H R I h;refine thn (hl g s σ H _ I h) λ v c ⟨x,H1,I1,r1,q1⟩=>?_;obtain ⟨a,e,⟨m,f⟩,q⟩:=q1;subst e;cases r1;obtain ⟨i,j,p,k⟩:=I1.list f;refine K5 p.isList ?_;refine ⟨c.heap.objs.size,[c.heap.objs.size],_,_,H1,rfl,I1.kept (t':=c.toks) λ b o e=>A0 _ e,zct a _,⟨_,P0 _ rfl,rfl,rfl⟩,λ b d=>?_,q⟩;have e:b=c.heap.objs.size:=by simpa using d
 subst e;exact I1.fpOk (D0 _) (I1.hok.fresh (D0 _))
theorem pi_tup {l:Expr} {tl:TE} (hl:PE X l tl):PI X tg l (iTup X.K tl):=by
 intro i s σ H R I h;refine thn (hl i s σ H _ I h) λ v c ⟨x,H1,I1,r1,q1⟩=>?_;obtain ⟨a,e,⟨m,g⟩,q⟩:=q1;subst e;cases r1;obtain ⟨d,j,p,k⟩:=I1.tuple g;refine c5 (show c.heap.IsTuple a d.toArray from p) ?_;refine ⟨c.heap.objs.size,[c.heap.objs.size],_,_,H1,rfl,I1.kept (t':=c.toks) λ b o e=>A0 _ e,zai a _,⟨_,P0 _ rfl,rfl,rfl⟩,λ b f=>?_,q⟩;have e:b=c.heap.objs.size:=by simpa using f
 subst e;exact I1.fpOk (D0 _) (I1.hok.fresh (D0 _))
theorem zfh {pins:List (Addr×Obj)} {σ:St} {H:Hp} {s:B0} {R:It->Hp->Prop} {E:Value->B0->Prop} {lo hi:Int} {t u v:Tok} {tk:Nat} (I:Inv X pins σ H s) (h1:-(2 ^ 62)<=lo) (h2:lo < 2 ^ 62) (h3:-(2 ^ 62)<=hi) (h4:hi < 2 ^ 62)
  (q:R (Itr lo (hi - lo).toNat) H):Q0 (Z0 X.prog X.w) X.A (pyIter (.ref s.heap.objs.size)) (PIE X pins σ tg R) E { s with heap:=s.heap.push { cls:=.type "range",data:=.fields #[.int lo t,.int hi u,.int 1 v] },toks:=tk }:=by
 refine wpAny_pyIter_range (IsRange.new ..) (small_one h1 h2 h3 h4) ?_;have a:Inv X pins σ H { s with heap:=s.heap.push { cls:=.type "range",data:=.fields #[.int lo t,.int hi u,.int 1 v] },toks:=tk }:=I.kept λ b o e=>A0 _ e;refine ⟨(s.heap.push { cls:=.type "range",data:=.fields #[.int lo t,.int hi u,.int 1 v] }).objs.size,[(s.heap.push { cls:=.type "range",data:=.fields #[.int lo t,.int hi u,.int 1 v] }).objs.size],_,_,H,rfl,
  a.kept (t':=tk) λ b o e=>A0 _ e,zbc _ lo (hi - lo).toNat,?_,λ b c=>?_,q⟩
 ·have d:lo + ((0:Nat):Int) * 1=lo:=by simp
  have f:(((hi - lo).toNat:Nat):Int) - ((0:Nat):Int)=Builtin.Range.rangeSize lo hi 1:=by rw [rangeSize_one];split<;>omega
  show IsRangeIter _ _ (lo + ((0:Nat):Int) * 1) ((((hi - lo).toNat:Nat):Int) - ((0:Nat):Int)) 1;rw [d,f];exact P0 _ rfl
 ·have e:b=(s.heap.push { cls:=.type "range",data:=.fields #[.int lo t,.int hi u,.int 1 v] }).objs.size:=by simpa using c
  subst e;exact a.fpOk (D0 _) (a.hok.fresh (D0 _))
noncomputable def iRng1 (ta:TA):TI:=λ σ H R=>ta σ H λ vs H1=>∃j:Int,vs=[.int j]/\-(2 ^ 62)<=j/\j < 2 ^ 62/\R (Itr 0 j.toNat) H1
theorem zck {a:Expr} {ta:TA} {p pos:Pos} (hg:Gl X "range") (hm:X.mg "range" = none) (ha:PA X [a] ta) (hs:E1 [a] X.env=[(false,V3 a X.env)]:=by rfl):PI X tg (.Call (.Name "range" p) [a] [] pos) (iRng1 ta):=by
 intro d s σ H R I h;refine Call_ (ld_blt I hg hm boot_range (L3 (thn (ha pos d s σ H _ I h) λ f g ⟨vs,H1,I1,r1,b⟩=>?_) hs rfl));obtain ⟨j,e,b,c,q⟩:=b;subst e;cases r1 with
 | cons r rr=>cases rr;obtain ⟨t,rfl⟩:=r;exact call_range_1 (zfh I1 (by omega) (by omega) b c (by simpa using q))
noncomputable def tFor (wi:TI) (g:TG) (tb:TS):TS:=λ D σ H=>wi σ H λ J H1=>∃W:Nat->Nat->St->Hp->Prop,(∃m,W 0 m σ H1)/\∀i m σ H,W i m σ H->
 (J.stop i H/\D.nx σ H)\/(J.go i H/\∃N:St->Hp->Prop,(∀σ' H',N σ' H'->∃m',m' < m/\W (i + 1) m' σ' H')/\∀x H',J.yld i H x H'->g x σ H' λ σ2 H2=>tb { D with nx:=N,ct:=N,bk:=D.nx } σ2 H2)
noncomputable def pinsAt (fp:List Addr) (h:Heap):List (Addr×Obj):=fp.filterMap λ b=>(h.get? b).map λ o=>(b,o)
theorem z10 {fp:List Addr} {h:Heap} {b:Addr} {o:Obj} (hb:b∈fp) (e:h.get? b=some o):(b,o)∈pinsAt fp h:=List.mem_filterMap.mpr ⟨b,hb,by rw [e];rfl⟩
theorem z8q {fp:List Addr} {h:Heap} {p:Addr×Obj} (hp:p∈pinsAt fp h):p.1∈fp/\h.get? p.1=some p.2:=by
 obtain ⟨b,a,e⟩:=List.mem_filterMap.mp hp;cases q:h.get? b with
 | none=>rw [q] at e;cases e
 | some o=>rw [q] at e;have c:(b,o)=p:=Q1 e;subst c;exact ⟨a,q⟩
theorem Inv.pinned {pins:List (Addr×Obj)} {σ:St} {H:Hp} {s:B0} {fp:List Addr} (I:Inv X pins σ H s) (hf :∀b∈fp,FpOk X pins H b) (ho :∀b∈fp,∃o,s.heap.get? b=some o/\∀v,o.data≠.cell v):Inv X (pins++pinsAt fp s.heap) σ H s:=
 I.pins_of λ p g=>(List.mem_append.mp g).elim (λ z=>I.pin p (X0 _ z)) λ z=>by obtain ⟨a,e⟩:=z8q z;obtain ⟨i,f,h,_⟩:=hf p.1 a;obtain ⟨o,c,d⟩:=ho p.1 a;rw [e] at c;cases c;exact ⟨e,i,f,h,d⟩
theorem Inv.unpinned {pins pl:List (Addr×Obj)} {σ:St} {H:Hp} {s:B0} (I:Inv X (pins++pl) σ H s):Inv X pins σ H s:=I.pins_of λ p a=>I.pin p (X0 _ (F4 _ a))
theorem ps_for {iter:Expr} {body:List Stmt} {wi:TI} {g:TG} {tb:TS} {pos:Pos} (hp:PassesOwn (Z0 X.prog X.w) X.A X.env X.xe) (hc:X.calm=true) (hi:PI X tg iter wi) (hg:PG X tg g) (hb:PSs X body tb)
  (hs :∀x,E6 iter X.env x=S3 x:=by intro _;rfl):PS X (.For tg iter body [] pos) (tFor wi g tb):=by
 intro l s σ H D I h;refine wpAny_For (thn (hi l s σ H _ I h) λ v s1 Y=>thn Y λ a1 s2 h2=>?_) hs;obtain ⟨it,p,E,J,H2,e,M,T,a0,G,W,⟨m0,U⟩,Q⟩:=h2;subst e
 -- what stays true of the iterator's objects through the loop
 have t :∀{H':Hp},(∀b∈p,H' b=none)->∀b∈p,FpOk X l H' b:=λ Z b hb=>⟨Z b hb,(G b hb).2⟩
 refine codeAny_forLoop_any (λ n z=>∃i σ' H',Inv X l σ' H' z/\E i z.heap/\(∀b∈p,H' b=none)/\W i n σ' H') ?_ m0 ⟨0,σ,H2,M,a0,λ b hb=>(G b hb).1,U⟩;rintro n F ⟨i,σ3,H3,I3,st3,fr3,w3⟩;rcases Q i n σ3 H3 w3 with ⟨P,qn⟩|⟨go,N,hN,step⟩
 ·refine A7 hp (thn (T.done X rfl rfl rfl hc i l F σ3 H3 X.xe I3 (t fr3) st3 P) λ r V ⟨hr,I4⟩=>?_);subst hr;exact S8 ⟨σ3,H3,I4,qn⟩
 ·refine A7 hp (thn (T.item X rfl rfl rfl hc i l F σ3 H3 X.xe I3 (t fr3) st3 go) λ r V ⟨u,hr,h4⟩=>?_);subst hr;refine A7 hp (thn h4 λ _ B ⟨x,H5,I5,r5,y5,st5,fr5⟩=>?_);have S:=I5.pinned (t fr5) (T.obj _ _ st5);refine A7 hp (thn (hg _ B σ3 H5 x u _ S r5 (step x H5 y5)) λ _ K ⟨σ6,H6,I6,q6⟩=>?_);refine A7 hp (thn (hb _ K σ6 H6 _ I6 q6) λ f y k=>?_);have C :∀{a:St} {c:Hp},Inv X (l++pinsAt p B.heap) a c y->N a c->∃m,m < n/\∃i σ' H',Inv X l σ' H' y/\E i y.heap/\(∀b∈p,H' b=none)/\W i m σ' H':=λ {a c} j q=>by obtain ⟨L,O,w7⟩:=hN a c q;refine ⟨L,O,i + 1,a,c,j.unpinned,T.keep _ _ _ st5 λ b hb o e=>(j.pin (b,o) (X0 _ (X0 _ (z10 hb e)))).1,λ b hb=>?_,w7⟩;obtain ⟨o,e,d⟩:=T.obj _ _ st5 b hb;exact (j.pin (b,o) (X0 _ (X0 _ (z10 hb e)))).2.1
  cases f with
  | next=>obtain ⟨a,c,j,q⟩:=k;exact C j q
  | cont=>obtain ⟨a,c,j,q⟩:=k;exact C j q
  | brk=>obtain ⟨a,c,j,k⟩:=k;exact ⟨a,c,j.unpinned,k⟩
  | ret v=>obtain ⟨R,a,c,j,r7,k⟩:=k;exact ⟨R,a,c,j.unpinned,r7,k⟩
end
theorem z1x {K:d0} {a:Addr} {xs:List V} {g:TG} {tb:TS} {D:Ends} {σ:St} {H:Hp} (Pv:Nat->St->Hp->Prop) (h0:Pv 0 σ H) (hl :∀i σ H,i<=xs.length->Pv i σ H->SqL K H a xs)
  (hs :∀i x σ H,xs[i]? = some x->Pv i σ H->g x σ H λ σ2 H2=>tb { D with nx:=Pv (i + 1),ct:=Pv (i + 1),bk:=D.nx } σ2 H2) (hd :∀σ H,Pv xs.length σ H->D.nx σ H) :
  ∃W:Nat->Nat->St->Hp->Prop,(∃m,W 0 m σ H)/\∀i m σ H,W i m σ H->
   ((Itl K a).stop i H/\D.nx σ H)\/((Itl K a).go i H/\∃N:St->Hp->Prop,(∀σ' H',N σ' H'->∃m',m' < m/\W (i + 1) m' σ' H')/\∀x H',(Itl K a).yld i H x H'->g x σ H' λ σ2 H2=>tb { D with nx:=N,ct:=N,bk:=D.nx } σ2 H2):=by
 refine ⟨λ i m σ H=>m=xs.length - i/\i<=xs.length/\Pv i σ H,⟨xs.length,by simp,Z1 _,h0⟩,?_⟩;rintro i m σ H ⟨rfl,hi,p⟩;have q:=hl i σ H hi p;by_cases hlt:i < xs.length
 ·refine .inr ⟨⟨xs,xs[i],q,by simp [hlt]⟩,Pv (i + 1),λ σ' H' b=>⟨xs.length - (i + 1),by omega,rfl,hlt,b⟩,λ x H' y=>?_⟩;obtain ⟨e,y⟩:=y;subst e;exact hs i x σ _ (y xs q) p
 ·have e:i=xs.length:=by omega
  subst e;exact .inl ⟨⟨xs,q,D0 _⟩,hd σ H p⟩
theorem zgw {K:d0} {a:Addr} {xs:List V} {g:TG} {tb:TS} {D:Ends} {σ:St} {H:Hp} (Pv:Nat->St->Hp->Prop) (h0:Pv 0 σ H) (hl :∀i σ H,i<=xs.length->Pv i σ H->SqT K H a xs)
  (hs :∀i x σ H,xs[i]? = some x->Pv i σ H->g x σ H λ σ2 H2=>tb { D with nx:=Pv (i + 1),ct:=Pv (i + 1),bk:=D.nx } σ2 H2) (hd :∀σ H,Pv xs.length σ H->D.nx σ H) :
  ∃W:Nat->Nat->St->Hp->Prop,(∃m,W 0 m σ H)/\∀i m σ H,W i m σ H->
   ((Itt K a).stop i H/\D.nx σ H)\/((Itt K a).go i H/\∃N:St->Hp->Prop,(∀σ' H',N σ' H'->∃m',m' < m/\W (i + 1) m' σ' H')/\∀x H',(Itt K a).yld i H x H'->g x σ H' λ σ2 H2=>tb { D with nx:=N,ct:=N,bk:=D.nx } σ2 H2):=by
 refine ⟨λ i m σ H=>m=xs.length - i/\i<=xs.length/\Pv i σ H,⟨xs.length,by simp,Z1 _,h0⟩,?_⟩;rintro i m σ H ⟨rfl,hi,p⟩;have q:=hl i σ H hi p;by_cases hlt:i < xs.length
 ·refine .inr ⟨⟨xs,xs[i],q,by simp [hlt]⟩,Pv (i + 1),λ σ' H' b=>⟨xs.length - (i + 1),by omega,rfl,hlt,b⟩,λ x H' y=>?_⟩;obtain ⟨e,y⟩:=y;subst e;exact hs i x σ _ (y xs q) p
 ·have e:i=xs.length:=by omega
  subst e;exact .inl ⟨⟨xs,q,D0 _⟩,hd σ H p⟩
theorem zdd {lo:Int} {n:Nat} {g:TG} {tb:TS} {D:Ends} {σ:St} {H:Hp} (Pv:Nat->St->Hp->Prop) (h0:Pv 0 σ H)
  (hs :∀i σ H,i < n->Pv i σ H->g (.int (lo + i)) σ H λ σ2 H2=>tb { D with nx:=Pv (i + 1),ct:=Pv (i + 1),bk:=D.nx } σ2 H2) (hd :∀σ H,Pv n σ H->D.nx σ H) :
  ∃W:Nat->Nat->St->Hp->Prop,(∃m,W 0 m σ H)/\∀i m σ H,W i m σ H->
   ((Itr lo n).stop i H/\D.nx σ H)\/((Itr lo n).go i H/\∃N:St->Hp->Prop,(∀σ' H',N σ' H'->∃m',m' < m/\W (i + 1) m' σ' H')/\∀x H',(Itr lo n).yld i H x H'->g x σ H' λ σ2 H2=>tb { D with nx:=N,ct:=N,bk:=D.nx } σ2 H2):=by
 refine ⟨λ i m σ H=>m=n - i/\i<=n/\Pv i σ H,⟨n,by simp,Z1 _,h0⟩,?_⟩;rintro i m σ H ⟨rfl,hi,p⟩;by_cases hlt:i < n
 ·refine .inr ⟨hlt,Pv (i + 1),λ σ' H' a=>⟨n - (i + 1),by omega,rfl,hlt,a⟩,λ x H' y=>?_⟩;obtain ⟨e,y⟩:=y;subst e y;exact hs i σ _ hlt p
 ·have e:i=n:=by omega
  subst e;exact .inl ⟨D0 _,hd σ H p⟩
noncomputable abbrev R2:=V->V->Hp->VK->Prop
def OpR (X:Cx) (f:Value->Value->Sem Value) (r:R2):Prop:=
 ∀(pins:List (Addr×Obj)) (s:B0) (σ:St) (H:Hp) (x y:V) (v u:Value) (Q:VK),Inv X pins σ H s->RelV x v->RelV y u->r x y H Q->
  Q0 (Z0 X.prog X.w) X.A (f v u) (EP X pins σ Q) X.xe s
def UnR (X:Cx) (f:Value->Sem Value) (r:V->Hp->VK->Prop):Prop:=
 ∀(pins:List (Addr×Obj)) (s:B0) (σ:St) (H:Hp) (x:V) (v:Value) (Q:VK),Inv X pins σ H s->RelV x v->r x H Q->
  Q0 (Z0 X.prog X.w) X.A (f v) (EP X pins σ Q) X.xe s
def CallR (X:Cx) (f:Value) (r:List V->Hp->VK->Prop):Prop:=
 ∀(pins:List (Addr×Obj)) (s:B0) (σ:St) (H:Hp) (xs:List V) (us:List Value) (Q:VK),Inv X pins σ H s->Vals xs us->r xs H Q->
  Q0 (Z0 X.prog X.w) X.A (call f us) (EP X pins σ Q) X.xe s
noncomputable def tOp (r:R2) (ta tb:TE):TE:=λ σ H Q=>ta σ H λ x H1=>tb σ H1 λ y H2=>r x y H2 Q
noncomputable def tUn (r:V->Hp->VK->Prop) (ta:TE):TE:=λ σ H Q=>ta σ H λ x H1=>r x H1 Q
noncomputable def rI (C:Int->Int->Prop) (g:Int->Int->V):R2:=λ x y H Q=>∃i j,x=.int i/\y=.int j/\C i j/\Q (g i j) H
noncomputable def rI0 (g:Int->Int->V):R2:=λ x y H Q=>∃i j,x=.int i/\y=.int j/\Q (g i j) H
def rU (g:Int->V):V->Hp->VK->Prop:=λ x H Q=>∃i,x=.int i/\Q (g i) H
section
variable {X:Cx} {a b c:Expr} {ta tb tc:TE} {pos:Pos}
theorem binT (ha:PE X a ta) (hb:PE X b tb) {pins:List (Addr×Obj)} {s:B0} {σ:St} {H:Hp} {R:V->V->Hp->Prop} (I:Inv X pins σ H s)
  (h:ta σ H λ x H1=>tb σ H1 λ y H2=>R x y H2) {Q:Value->B0->Prop} {f:Value->Value->Sem Value}
  (hf :∀v u s2 x y H2,Inv X pins σ H2 s2->RelV x v->RelV y u->R x y H2->Q0 (Z0 X.prog X.w) X.A (f v u) Q X.xe s2) :
  Q0 (Z0 X.prog X.w) X.A (V3 a X.env) (λ v s₁=>Q0 (Z0 X.prog X.w) X.A (V3 b X.env) (λ u s₂=>Q0 (Z0 X.prog X.w) X.A (f v u) Q X.xe s₂) X.xe s₁) X.xe s:=by
 refine thn (ha pins s σ H _ I h) λ v c ⟨x,H1,I1,r1,q1⟩=>?_;refine thn (hb pins c σ H1 _ I1 q1) λ u s2 ⟨y,H2,I2,r2,q2⟩=>?_;exact hf v u s2 x y H2 I2 r1 r2 q2
theorem pe_op {op:Operator} {r:R2} (ho:OpR X (c7 op) r) (ha:PE X a ta) (hb:PE X b tb):PE X (.BinOp a op b pos) (tOp r ta tb):=by intro i s σ H Q I h;exact wpAny_BinOp (binT ha hb I h λ v u g x y d e f c q=>ho i g σ d x y v u Q e f c q)
theorem pe_un {op:UnaryOp} {r:V->Hp->VK->Prop} (ho:UnR X (unaryOp op) r) (ha:PE X a ta):PE X (.UnaryOp op a pos) (tUn r ta):=by intro b s σ H Q I h;exact UnaryOp_ (thn (ha b s σ H _ I h) λ v c ⟨x,H1,I1,r1,q1⟩=>ho b c σ H1 x v Q I1 r1 q1)
theorem opI {f:Value->Value->Sem Value} {C:Int->Int->Prop} {g:Int->Int->Int}
  (rule :∀(i j:Int) (t u:Tok) (s:B0) (Q:Value->B0->Prop) (E:Value->B0->Prop),C i j->Q (.int (g i j) s.toks) { s with toks:=s.toks + 1 }->Q0 (Z0 X.prog X.w) X.A (f (.int i t) (.int j u)) Q E s) :
  OpR X f (rI C λ i j=>.int (g i j)):=by
 intro e s σ H x y v u Q I c b h;obtain ⟨i,j,rfl,rfl,a,q⟩:=h;obtain ⟨t,rfl⟩:=c;obtain ⟨d,rfl⟩:=b;exact rule i j t d s _ _ a ⟨.int (g i j),H,I.tok _,⟨_,rfl⟩,q⟩
theorem opI0 {f:Value->Value->Sem Value} {g:Int->Int->Int}
  (rule :∀(i j:Int) (t u:Tok) (s:B0) (Q:Value->B0->Prop) (E:Value->B0->Prop),Q (.int (g i j) s.toks) { s with toks:=s.toks + 1 }->Q0 (Z0 X.prog X.w) X.A (f (.int i t) (.int j u)) Q E s) :
  OpR X f (rI0 λ i j=>.int (g i j)):=by
 intro d s σ H x y v u Q I b a h;obtain ⟨i,j,rfl,rfl,q⟩:=h;obtain ⟨t,rfl⟩:=b;obtain ⟨c,rfl⟩:=a;exact rule i j t c s _ _ ⟨.int (g i j),H,I.tok _,⟨_,rfl⟩,q⟩
theorem opB0 {f:Value->Value->Sem Value} {g:Int->Int->Bool}
  (rule :∀(i j:Int) (t u:Tok) (s:B0) (Q:Value->B0->Prop) (E:Value->B0->Prop),Q (.bool (g i j)) s->Q0 (Z0 X.prog X.w) X.A (f (.int i t) (.int j u)) Q E s) :
  OpR X f (rI0 λ i j=>.bl (g i j)):=by
 intro d s σ H x y v u Q I b a h;obtain ⟨i,j,rfl,rfl,q⟩:=h;obtain ⟨t,rfl⟩:=b;obtain ⟨c,rfl⟩:=a;exact rule i j t c s _ _ ⟨.bl (g i j),H,I,rfl,q⟩
def CMul (i j:Int):Prop:=(-(2 ^ 64) < i/\i < 2 ^ 64)\/(-(2 ^ 64) < j/\j < 2 ^ 64)
theorem CMul.ok {i j:Int} (h:CMul i j):IntMulOk i j:=by
 rcases h with ⟨a,b⟩|⟨a,b⟩
 ·exact .of_left (intBits_le_64 a b)
 ·exact .of_right (intBits_le_64 a b)
theorem op_add:OpR X (c7 .Add) (rI0 λ i j=>.int (i + j)):=opI0 λ _ _ _ _ _ _ _ q=>add_int q
theorem op_mul:OpR X (c7 .Mult) (rI CMul λ i j=>.int (i * j)):=opI λ _ _ _ _ _ _ _ a q=>mul_int q a.ok
theorem op_mod:OpR X (c7 .Mod) (rI (λ _ j=>0 < j) λ i j=>.int (i % j)):=opI λ i j _ _ _ _ _ a q=>by have b:(0:Int) < j:=a;exact mod_int' (by omega) (by rw [Int.fmod_eq_emod_of_nonneg i (by omega)];exact q)
theorem unI {f:Value->Sem Value} {g:Int->Int}
  (rule :∀(i:Int) (t:Tok) (s:B0) (Q:Value->B0->Prop) (E:Value->B0->Prop),Q (.int (g i) s.toks) { s with toks:=s.toks + 1 }->Q0 (Z0 X.prog X.w) X.A (f (.int i t)) Q E s) :
  UnR X f (rU λ i=>.int (g i)):=by
 intro b s σ H x v Q I a h;obtain ⟨i,rfl,q⟩:=h;obtain ⟨t,rfl⟩:=a;exact rule i t s _ _ ⟨.int (g i),H,I.tok _,⟨_,rfl⟩,q⟩
theorem un_neg:UnR X (unaryOp .USub) (rU λ i=>.int (-i)):=unI λ _ _ _ _ _ q=>neg_int q
end
noncomputable def scal:V->V->Bool
 | .non,.non=>true | .non,.int _=>true | .int _,.non=>true | .non,.bl _=>true | .bl _,.non=>true | .non,.str _=>true | .str _,.non=>true
 | .int _,.int _=>true | .bl _,.bl _=>true | .str _,.str _=>true | .byt _,.byt _=>true
 | .int _,.str _=>true | .str _,.int _=>true | .bl _,.str _=>true | .str _,.bl _=>true
 | _,_=>false
noncomputable def rEq:R2:=λ x y H Q=>scal x y=true/\Q (.bl (decide (x=y))) H
noncomputable def rNe:R2:=λ x y H Q=>scal x y=true/\Q (.bl (!decide (x=y))) H
theorem zep {i j:Int}:decide (V.int i=V.int j)=(i == j):=by rw [Bool.eq_iff_iff];simp
theorem dec_bl {i j:Bool}:decide (V.bl i=V.bl j)=(i == j):=by rw [Bool.eq_iff_iff];simp
theorem z8i {i j:Str}:decide (V.str i=V.str j)=(i == j):=by rw [Bool.eq_iff_iff];simp
theorem zej {i j:Array UInt8}:decide (V.byt i=V.byt j)=(i.toList == j.toList):=by rw [Bool.eq_iff_iff];cases i;cases j;simp
section
variable {X:Cx} {a b c:Expr} {ta tb tc:TE} {pos:Pos}
theorem fin_bl {pins:List (Addr×Obj)} {σ:St} {H:Hp} {s:B0} {Q:VK} {k k':Bool} (I:Inv X pins σ H s) (q:Q (.bl k) H) (e:k=k'):EP X pins σ Q (.bool k') s:=by subst e;exact ⟨.bl k,H,I,rfl,q⟩
theorem op_eq:OpR X (n3 .Eq) rEq:=by
 intro e s σ H x y v u Q I d a h;obtain ⟨c,q⟩:=h;cases x with
 | non=>
  cases d;cases y with
  | non=>cases a;exact PySem.EqNone.eq_none_none (fin_bl I q (by simp))
  | bl j=>cases a;exact PySem.EqNone.eq_none_bool (fin_bl I q (by simp))
  | int j=>obtain ⟨b,rfl⟩:=a;exact PySem.EqNone.eq_none_int (fin_bl I q (by simp))
  | str j=>obtain ⟨b,rfl⟩:=a;exact PySem.EqNone.eq_none_str (fin_bl I q (by simp))
  | _=>exact absurd (show false=true from c) R0
 | bl i=>
  cases d;cases y with
  | non=>cases a;exact PySem.EqNone.eq_bool_none (fin_bl I q (by simp))
  | bl j=>cases a;exact eq_bool (fin_bl I q dec_bl)
  | str j=>obtain ⟨b,rfl⟩:=a;exact PySem.EqMixed.eq_bool_str (fin_bl I q (by simp))
  | _=>exact absurd (show false=true from c) R0
 | int i=>
  obtain ⟨t,rfl⟩:=d;cases y with
  | non=>cases a;exact PySem.EqNone.eq_int_none (fin_bl I q (by simp))
  | int j=>obtain ⟨b,rfl⟩:=a;exact eq_int (fin_bl I q zep)
  | str j=>obtain ⟨b,rfl⟩:=a;exact PySem.EqMixed.eq_int_str (fin_bl I q (by simp))
  | _=>exact absurd (show false=true from c) R0
 | str i=>
  obtain ⟨t,rfl⟩:=d;cases y with
  | non=>cases a;exact PySem.EqNone.eq_str_none (fin_bl I q (by simp))
  | bl j=>cases a;exact PySem.EqMixed.eq_str_bool (fin_bl I q (by simp))
  | int j=>obtain ⟨b,rfl⟩:=a;exact PySem.EqMixed.eq_str_int (fin_bl I q (by simp))
  | str j=>obtain ⟨b,rfl⟩:=a;exact eq_str (fin_bl I q z8i)
  | _=>exact absurd (show false=true from c) R0
 | byt i=>
  obtain ⟨t,rfl⟩:=d;cases y with
  | byt j=>obtain ⟨b,rfl⟩:=a;exact PySem.W.eq_bytes (fin_bl I q zej)
  | _=>exact absurd (show false=true from c) R0
 | _=>cases y<;>exact absurd (show false=true from c) R0
theorem op_ne:OpR X (n3 .NotEq) rNe:=by
 intro e s σ H x y v u Q I d a h;obtain ⟨c,q⟩:=h;cases x with
 | non=>
  cases d;cases y with
  | non=>cases a;exact PySem.EqNone.ne_none_none (fin_bl I q (by simp))
  | bl j=>cases a;exact PySem.EqNone.ne_none_bool (fin_bl I q (by simp))
  | int j=>obtain ⟨b,rfl⟩:=a;exact PySem.EqNone.ne_none_int (fin_bl I q (by simp))
  | str j=>obtain ⟨b,rfl⟩:=a;exact PySem.EqNone.ne_none_str (fin_bl I q (by simp))
  | _=>exact absurd (show false=true from c) R0
 | bl i=>
  cases d;cases y with
  | non=>cases a;exact PySem.EqNone.ne_bool_none (fin_bl I q (by simp))
  | bl j=>cases a;exact ne_bool (fin_bl I q (congrArg not dec_bl))
  | str j=>obtain ⟨b,rfl⟩:=a;exact PySem.EqMixed.ne_bool_str (fin_bl I q (by simp))
  | _=>exact absurd (show false=true from c) R0
 | int i=>
  obtain ⟨t,rfl⟩:=d;cases y with
  | non=>cases a;exact PySem.EqNone.ne_int_none (fin_bl I q (by simp))
  | int j=>obtain ⟨b,rfl⟩:=a;exact ne_int (fin_bl I q (congrArg not zep))
  | str j=>obtain ⟨b,rfl⟩:=a;exact PySem.EqMixed.ne_int_str (fin_bl I q (by simp))
  | _=>exact absurd (show false=true from c) R0
 | str i=>
  obtain ⟨t,rfl⟩:=d;cases y with
  | non=>cases a;exact PySem.EqNone.ne_str_none (fin_bl I q (by simp))
  | bl j=>cases a;exact PySem.EqMixed.ne_str_bool (fin_bl I q (by simp))
  | int j=>obtain ⟨b,rfl⟩:=a;exact PySem.EqMixed.ne_str_int (fin_bl I q (by simp))
  | str j=>obtain ⟨b,rfl⟩:=a;exact ne_str (fin_bl I q (congrArg not z8i))
  | _=>exact absurd (show false=true from c) R0
 | byt i=>
  obtain ⟨t,rfl⟩:=d;cases y with
  | byt j=>obtain ⟨b,rfl⟩:=a;exact PySem.W.ne_bytes (fin_bl I q (congrArg not zej))
  | _=>exact absurd (show false=true from c) R0
 | _=>cases y<;>exact absurd (show false=true from c) R0
theorem op_lt:OpR X (n3 .Lt) (rI0 λ i j=>.bl (decide (i < j))):=opB0 λ _ _ _ _ _ _ _ q=>lt_int q
theorem op_le:OpR X (n3 .LtE) (rI0 λ i j=>.bl (decide (i<=j))):=opB0 λ _ _ _ _ _ _ _ q=>le_int q
theorem op_gt:OpR X (n3 .Gt) (rI0 λ i j=>.bl (decide (j < i))):=opB0 λ _ _ _ _ _ _ _ q=>gt_int q
theorem zcl:OpR X (n3 .In) (λ x y H Q=>∃i j,x=.str i/\y=.str j/\Q (.bl (!(d7 j i 0 j.length 1).isEmpty)) H):=by intro d s σ H x y v u Q I b a h;obtain ⟨i,j,rfl,rfl,q⟩:=h;obtain ⟨t,rfl⟩:=b;obtain ⟨c,rfl⟩:=a;exact in_str (fin_bl I q rfl)
theorem op_isN:OpR X (n3 .Is) (λ x y H Q=>y=.non/\Q (.bl (decide (x=.non))) H):=by
 intro c s σ H x y v u Q I a b h;obtain ⟨rfl,q⟩:=h;cases b;refine is_none_gen (fin_bl I q ?_);cases x<;>first
  | (cases a;rfl)
  | (obtain ⟨t,rfl⟩:=a;rfl)
theorem za8:OpR X (n3 .IsNot) (λ x y H Q=>y=.non/\Q (.bl (!decide (x=.non))) H):=by
 intro c s σ H x y v u Q I a b h;obtain ⟨rfl,q⟩:=h;cases b;refine isnot_none_gen (fin_bl I q ?_);cases x<;>first
  | (cases a;rfl)
  | (obtain ⟨t,rfl⟩:=a;rfl)
theorem OpR.or {f:Value->Value->Sem Value} {r r':R2} (h:OpR X f r) (h':OpR X f r'):OpR X f (λ x y H Q=>r x y H Q\/r' x y H Q):=by
 intro c s σ H x y v u Q I b a q;rcases q with q|q
 ·exact h c s σ H x y v u Q I b a q
 ·exact h' c s σ H x y v u Q I b a q
theorem nomark (b:Expr) {op:CmpOp} (h:op≠.In:=by decide) (h2:op≠.NotIn:=by decide):k8 op b=false:=by
 have c:(op == CmpOp.In)=false:=by cases op<;>first|rfl|exact absurd rfl h
 have a:(op == CmpOp.NotIn)=false:=by cases op<;>first|rfl|exact absurd rfl h2
 cases b<;>simp [k8,c,a]
theorem z0x {op:CmpOp} {r:R2} (ho:OpR X (n3 op) r) (ha:PE X a ta) (hb:PE X b tb) (hm:k8 op b=false):PE X (.Compare a [op] [b] pos) (tOp r ta tb):=by intro i s σ H Q I h;exact wpAny_Compare1 (binT ha hb I h λ v u g x y d e f c q=>ho i g σ d x y v u Q e f c q) hm
noncomputable def tTest (t:TE):TT:=λ σ H Q=>t σ H λ x H'=>∃k,x=.bl k/\Q k H'
theorem z0c {op:CmpOp} {r:R2} (ho:OpR X (n3 op) r) (ha:PE X a ta) (hb:PE X b tb) (hm:k8 op b=false):PT X (.Compare a [op] [b] pos) (tTest (tOp r ta tb)):=by
 intro d s σ H Q I h;refine wpAny_isTrue_Compare1 (thn (ha d s σ H _ I h) λ v f ⟨x,H1,I1,r1,q1⟩=>thn (hb d f σ H1 _ I1 q1) λ u g ⟨y,H2,I2,r2,q2⟩=>thn (ho d g σ H2 x y v u _ I2 r1 r2 q2) λ c i ⟨z,H3,I3,r3,k,e,q3⟩=>?_) hm;subst e;cases r3;exact M3 ⟨H3,I3,q3⟩
noncomputable def tChain (r r':R2) (ta tb tc:TE):TE:=λ σ H Q=>ta σ H λ x H1=>tb σ H1 λ y H2=>r x y H2 λ z H3=>∃k,z=.bl k/\
 (if k=true then tc σ H3 λ w' H4=>r' y w' H4 Q else Q (.bl false) H3)
theorem z7k {op op':CmpOp} {r r':R2} (ho:OpR X (n3 op) r) (ho':OpR X (n3 op') r') (ha:PE X a ta) (hb:PE X b tb) (hc:PE X c tc)
  (hm:lastMarks [op,op'] [b,c]=false:=by with_unfolding_all rfl):PE X (.Compare a [op,op'] [b,c] pos) (tChain r r' ta tb tc):=by
 intro f s σ H Q I h;refine Compare_chain (thn (ha f s σ H _ I h) λ v i ⟨x,H1,I1,r1,q1⟩=>chain_link (thn (hb f i σ H1 _ I1 q1) λ u l ⟨y,H2,I2,r2,q2⟩=>thn (ho f l σ H2 x y v u _ I2 r1 r2 q2) λ d m ⟨z,H3,I3,r3,k,e,q3⟩=>?_)) hm;subst e;cases r3;refine M3 ?_;cases k with
 | false=>exact ite_ff ⟨.bl false,H3,I3,rfl,q3⟩
 | true=>exact ite_tt (chain_last (thn (hc f m σ H3 _ I3 q3) λ g j ⟨z',H4,I4,r4,q4⟩=>ho' f j σ H4 y z' u g Q I4 r2 r4 q4))
theorem zfi {op op':CmpOp} {r r':R2} (ho:OpR X (n3 op) r) (ho':OpR X (n3 op') r') (ha:PE X a ta) (hb:PE X b tb) (hc:PE X c tc)
  (hm:lastMarks [op,op'] [b,c]=false:=by with_unfolding_all rfl):PT X (.Compare a [op,op'] [b,c] pos) (tTest (tChain r r' ta tb tc)):=by
 intro f s σ H Q I h;refine isTrue_chain (thn (ha f s σ H _ I h) λ v i ⟨x,H1,I1,r1,q1⟩=>test_link (thn (hb f i σ H1 _ I1 q1) λ u g ⟨y,H2,I2,r2,q2⟩=>thn (ho f g σ H2 x y v u _ I2 r1 r2 q2) λ d l ⟨z,H3,I3,r3,k,e,q3⟩=>?_)) hm;subst e;cases r3;refine M3 ?_;cases k with
 | false=>obtain ⟨t,o,m⟩:=q3;cases o;exact ite_ff ⟨H3,I3,m⟩
 | true=>refine ite_tt (test_last (thn (hc f l σ H3 _ I3 q3) λ n j ⟨z',H4,I4,r4,q4⟩=>thn (ho' f j σ H4 y z' u n _ I4 r2 r4 q4) λ q p ⟨z2,H5,I5,r5,k2,e2,q5⟩=>?_));subst e2;cases r5;exact M3 ⟨H5,I5,q5⟩
theorem line63:(sizeLine:Nat) < 2 ^ 63:=by rw [z6];decide
theorem op_add_str:OpR X (c7 .Add) (λ x y H Q=>∃i j,x=.str i/\y=.str j/\i.length + j.length<=sizeLine/\Q (.str (i++j)) H):=by intro f s σ H x y v u Q I c b h;obtain ⟨i,j,rfl,rfl,a,q⟩:=h;obtain ⟨t,rfl⟩:=c;obtain ⟨d,rfl⟩:=b;exact add_str (λ d e=>⟨.str (i++j),H,I.tok _,⟨_,rfl⟩,q⟩) a
theorem vals1 {x:V} {us:List Value} (r:Vals [x] us) :∃u,us=[u]/\RelV x u:=by
 cases r with
 | cons r1 r2=>cases r2;exact ⟨_,rfl,r1⟩
theorem vals2 {x y:V} {us:List Value} (r:Vals [x,y] us) :∃u w',us=[u,w']/\RelV x u/\RelV y w':=by
 cases r with
 | cons r1 r2=>
  cases r2 with
  | cons r3 r4=>cases r4;exact ⟨_,_,rfl,r1,r3⟩
theorem call_int1:CallR X (.type "int") (λ xs H Q=>(∃i,xs=[.int i]/\Q (.int i) H)\/∃k,xs=[.bl k]/\Q (.int (if k then 1 else 0)) H):=by
 intro c s σ H xs b Q I r h;rcases h with ⟨i,rfl,q⟩|⟨k,rfl,q⟩
 ·obtain ⟨u,rfl,t,rfl⟩:=vals1 r;exact call_int_int ⟨.int i,H,I,⟨_,rfl⟩,q⟩
 ·obtain ⟨u,rfl,a⟩:=vals1 r;cases a;exact call_int_bool ⟨.int (if k then 1 else 0),H,I.tok _,⟨_,rfl⟩,q⟩
end
structure ObjM (h:Heap) (x dx C:Addr) (mA:Str->Option Value):Prop where
 obj:h.get? x=some (w9 C dx)
 ns:h.Ns1 dx mA
 ne:dx≠x
theorem zef {h:Heap} {dx:Addr} {mA:Str->Option Value} (n:h.Ns1 dx mA) :∃od,h.get? dx=some od/\∀name,N9 name od=some (mA name):=by
 obtain ⟨o,b,k,g,hd,f,_,d⟩:=n;refine ⟨o,g,λ name=>?_⟩;have e:=d name;unfold nsFind findBy at e;rw [<-Array.find?_toList] at e;unfold N9;rw [hd];dsimp only;split
 ·rename_i y q;rw [q] at e;exact congrArg some e
 ·rename_i q;rw [q] at e;have a:b.toList.any (·.refKey)=false:=by rw [List.any_eq_false];intro y j;obtain ⟨z,t,i⟩:=f y (Array.mem_toList_iff.mp j);simp [DictEntry.refKey,i]
  have c:¬ b.toList.any (·.refKey)=true:=by rw [a];exact R0
  rw [if_neg c];exact congrArg some e
theorem ObjM.look {h:Heap} {x dx C:Addr} {mA:Str->Option Value} (I:ObjM h x dx C mA) :∃od,PySem.W.InstAt h x (w9 C dx) C (some od)/\∀name,N9 name od=some (mA name):=
 let ⟨od,ho,hl⟩:=zef I.ns
 ⟨od,⟨I.obj,rfl,rfl,ho⟩,hl⟩
theorem RelO.some_of {v:V} {o:Option Value} (r:RelO (some v) o) :∃u,o=some u/\RelV v u:=by
 cases o with
 | none=>exact (show False from r).elim
 | some u=>exact ⟨u,rfl,r⟩
section
variable {P:Program} {w:W0} {H H':Hp} {h h':Heap} {a C dx:Addr} {fs fs':List (Str×V)}
theorem zg6 (hok:HOk P w H h) (e:H a=some (.ins C dx fs)) :∃mA,ObjM h a dx C mA/\(∀f,RelO (fs.lookup f) (mA f))/\PySem.Within mA (fs.map (·.1))/\fs.length<=1000/\H dx=some (.own a):=by
 obtain ⟨d,z,c,b,mA,n,r,q⟩:=(show ObjOk P w H h a (.ins C dx fs) from hok a _ e)
 exact ⟨mA,⟨b,n,c⟩,r,q,z,d⟩
end
structure Cls (K:d0) (C:Addr):Prop where
 pg:PySem.W.plainGet K C Str.empty=true
 hd:PySem.W.hasDictIn K C=true
 po:PySem.W.plainOver K C=true
 sa:T6 K (.ref C) "__setattr__" = some (some (.builtin "object.__setattr__"))
theorem Cls.get {K:d0} {C:Addr} (c:Cls K C) (f:Str):PySem.W.plainGet K C f=true:=c.pg
structure Con (K:d0) (C:Addr) (f:Str) (v:V) (u:Value):Prop where
 at_:T6 K (.ref C) f=some (some u)
 rel:RelV v u
 get:j2h K u "__get__" = some none
 cp:PySem.W.copiedNames.contains f=false
structure Meth (K:d0) (C:Addr) (m:Str) (f:Addr):Prop where
 at_:T6 K (.ref C) m=some (some (.ref f))
 fn:PySem.W.isFn K (.ref f)=true
 kp:M4 K (.ref f)=true
section
variable {X:Cx} {pins:List (Addr×Obj)} {σ:St} {H:Hp} {s:B0} {A:D2} {E:Value->B0->Prop} {Q:Value->B0->Prop} {c:Value} {b:Bool}
inductive TyOf (K:d0) (H:Hp):V->Value->Prop where
 | non:TyOf K H .non (.type "NoneType")
 | bl (x:Bool):TyOf K H (.bl x) (.type "bool")
 | int (i:Int):TyOf K H (.int i) (.type "int")
 | str (x:Str):TyOf K H (.str x) (.type "str")
 | flt (x:UInt64):TyOf K H (.flt x) (.type "float")
 | lst {a:Addr} {xs:List V} (e:H a=some (.lst xs)):TyOf K H (.ref a) (.type "list")
 | frz {a:Addr} {o:Obj} {xs:List V} (e:H a=some (.frz o (.lst xs))):TyOf K H (.ref a) (.type "list")
 | tup {a:Addr} {xs:List V} (e:H a=some (.tup xs)):TyOf K H (.ref a) (.type "tuple")
 | dK {a:Addr} {kvs:List (Key×V)} (e:H a=some (.dK kvs)):TyOf K H (.ref a) (.type "dict")
 | dT {a:Addr} {kvs:List (List Key×V)} (e:H a=some (.dT kvs)):TyOf K H (.ref a) (.type "dict")
 | ins {a C dx:Addr} {fs:List (Str×V)} (e:H a=some (.ins C dx fs)) (cl:Cls K C) (ha:T6 K (.ref C) "__class__" = some (some (.builtin "object.__class__")))
   (hn:j2h K (.builtin "object.__class__") "__get__" = some (some (.builtin "getset_descriptor.__get__"))) (htk:PySem.W.takesIn K (.builtin "object.__class__")=some true)
   (hm:PySem.W.mroIn K C (.type "object")=some true):TyOf K H (.ref a) (.ref C)
theorem zcr {x:V} {u t:Value} (I:Inv X pins σ H s) (rx:RelV x u) (ty:TyOf X.K H x t) (e:PySem.W.kitOne X.K t c=some b) (h :∀tk,Q (.bool b) { s with toks:=tk }) :
  Q0 (Z0 X.prog X.w) A (call (.builtin "isinstance") [u,c]) Q E s:=by
 cases ty with
 | non=>cases (show u=Y2 from rx);exact K3 PySem.W.kitx_none I.kIn True.intro e (λ z=>nomatch z) h
 | bl y=>cases (show u=j03 y from rx);exact K3 PySem.W.kitx_bool I.kIn True.intro e (λ z=>nomatch z) h
 | int i=>obtain ⟨t,q⟩:=(show∃t,u=P7 i t from rx);cases q;exact K3 PySem.W.kitx_int I.kIn True.intro e (λ z=>nomatch z) h
 | str y=>obtain ⟨t,q⟩:=(show∃t,u=v9 y t from rx);cases q;exact K3 PySem.W.kitx_str I.kIn True.intro e (λ z=>nomatch z) h
 | flt y=>obtain ⟨t,q⟩:=(show∃t,u=Value.float y t from rx);cases q;exact K3 PySem.W.kitx_float I.kIn True.intro e (λ z=>nomatch z) h
 | @lst a f ea=>
  cases (show u=Value.ref a from rx);obtain ⟨_,_,n,_,d⟩:=(show ObjOk X.prog X.w H s.heap a (.lst f) from I.hok a _ ea)
  exact K3 j2i I.kIn ⟨_,d,rfl⟩ e (λ z=>nomatch z) h
 | @frz a ob f ea=>
  cases (show u=Value.ref a from rx);obtain ⟨_,_,_,n,_,d⟩:=(show ObjOk X.prog X.w H s.heap a (.frz ob (.lst f)) from I.hok a _ ea)
  exact K3 j2i I.kIn ⟨_,d,rfl⟩ e (λ z=>nomatch z) h
 | @tup a f ea=>
  cases (show u=Value.ref a from rx);obtain ⟨_,_,_,p,_⟩:=(show ObjOk X.prog X.w H s.heap a (.tup f) from I.hok a _ ea)
  obtain ⟨o,d,g,_⟩:=p;exact K3 PySem.W.kitx_tuple I.kIn ⟨o,d,g⟩ e (λ z=>nomatch z) h
 | @dK a kvs ea=>
  cases (show u=Value.ref a from rx);obtain ⟨_,_,m,_,p⟩:=(show ObjOk X.prog X.w H s.heap a (.dK kvs) from I.hok a _ ea)
  obtain ⟨o,j,k,d,g,_⟩:=p;exact K3 j2j I.kIn ⟨o,d,g.1⟩ e (λ z=>nomatch z) h
 | @dT a kvs ea=>
  cases (show u=Value.ref a from rx);obtain ⟨_,_,f,_,o,j,k,d,g,_⟩:=(show ObjOk X.prog X.w H s.heap a (.dT kvs) from I.hok a _ ea)
  exact K3 j2j I.kIn ⟨o,d,g.1⟩ e (λ z=>nomatch z) h
 | @ins a C dx fs ea cl ha hn htk hm=>cases (show u=Value.ref a from rx);obtain ⟨l,O,_⟩:=zg6 I.hok ea;obtain ⟨r,J,_⟩:=O.look;exact K3 (PySem.W.kitx_own (cl.get _) cl.hd ha hn htk hm) I.kIn J e (λ z=>nomatch z) h
end
structure Room (k:Nat) (A:D2):Prop where
 hd:A.handled=none
 dp:A.depth + 3 * k + 5 < recursionLimit
 un:A.units + 16 * k + 200 < cLine
 gd:A.guards=some []
theorem Room.mono {j k:Nat} {A:D2} (r:Room k A) (h:j<=k):Room j A:=⟨r.hd,by have:=r.dp;omega,by have:=r.un;omega,r.gd⟩
theorem Room.deeper {k:Nat} {A:D2} (r:Room (k + 1) A) (env:Env):Room k (A.deeper env):=
 ⟨r.hd,by have:=r.dp;show A.depth + 1 + 3 * k + 5 < _;omega,by have:=r.un;show A.units + 3 + 16 * k + 200 < _;omega,r.gd⟩
theorem Room.in1 {k:Nat} {A:D2} (r:Room (k + 1) A):Room k A.in1:=
 ⟨r.hd,by have:=r.dp;show A.depth + 3 * k + 5 < _;omega,by have:=r.un;show A.units + 1 + 16 * k + 200 < _;omega,r.gd⟩
theorem Room.depth {k:Nat} {A:D2} (r:Room k A):A.depth < recursionLimit:=by have:=r.dp;omega
theorem Room.units {k:Nat} {A:D2} (r:Room k A):A.units + 64 < cLine:=by have:=r.un;omega
noncomputable def tNil:TA:=λ _ H Q=>Q [] H
noncomputable def tCons (ta:TE) (tr:TA):TA:=λ σ H Q=>ta σ H λ x H1=>tr σ H1 λ xs H2=>Q (x :: xs) H2
section
variable {X:Cx} {e:Expr} {es:List Expr} {te:TE} {t:TA} {pos:Pos}
theorem pa_nil:PA X [] tNil:=λ _ _ _ _ H Q I h=>Z4 ⟨[],H,I,.nil,h⟩
theorem z00 (ha:PE X e te) (hr:PA X es t) (hs:E1 (e :: es) X.env=(false,V3 e X.env) :: E1 es X.env:=by rfl):PA X (e :: es) (tCons te t):=by intro a b s σ H Q I h;rw [hs];show Q0 _ _ (j1a ((false,V3 e X.env) :: z4 a (E1 es X.env))) _ _ s;refine B4 (thn (ha b s σ H _ I h) λ u c ⟨x,H1,I1,r1,q1⟩=>?_);exact thn (hr a b c σ H1 _ I1 q1) λ d f ⟨xs,H2,I2,r2,q2⟩=>⟨x :: xs,H2,I2,.cons r1 r2,q2⟩
noncomputable def tTup (t:TA):TE:=λ σ H Q=>t σ H λ xs H1=>xs.length<=sizeLine/\∀p,H1 p=none->Q (.ref p) (upd H1 p (.tup xs))
noncomputable def tLst (t:TA):TE:=λ σ H Q=>t σ H λ xs H1=>xs.length<=sizeLine/\∀p,H1 p=none->Q (.ref p) (upd H1 p (.lst xs))
theorem pe_tup {x1} (h:PA X es t):PE X (.Tuple es x1 pos) (tTup t):=by intro f s σ H Q I c;refine wpAny_Tuple_spliced (thn (h pos f s σ H _ I c) λ d a ⟨xs,H1,I1,r,z,q⟩=>⟨by rw [<-r.length];exact z,?_⟩);have g:H1 a.heap.objs.size=none:=I1.hok.fresh (D0 _);refine ⟨.ref a.heap.objs.size,upd H1 a.heap.objs.size (.tup xs),I1.laid (t':=a.toks) (λ b u e=>A0 _ e) (D0 _) ?_,rfl,q _ g⟩;exact ⟨z,d,r,IsTupN.new _ _⟩
theorem pe_lst (h:PA X es t):PE X (.List es pos) (tLst t):=by intro f s σ H Q I c;refine wpAny_List_spliced (thn (h pos f s σ H _ I c) λ d a ⟨xs,H1,I1,r,z,q⟩=>⟨by rw [<-r.length];exact z,?_⟩);have g:H1 a.heap.objs.size=none:=I1.hok.fresh (D0 _);refine ⟨.ref a.heap.objs.size,upd H1 a.heap.objs.size (.lst xs),I1.laid (t':=a.toks) (λ b u e=>A0 _ e) (D0 _) ?_,rfl,q _ g⟩;exact ⟨z,d,0,r,P0 _ rfl⟩
end
noncomputable abbrev Sp:=List V->Hp->VK->XK->Prop
noncomputable abbrev CXT:=List Env->Hp->B0->XK->Value->B0->Prop
structure Env0 (P:Program) (w:W0) (K:d0) (mg:Str->Option Value) (base:Heap) (A:D2) (outer:List Env) (s:B0) (H:Hp):Prop where
 frames:A.frames=some outer
 mod:Mod K mg base
 bs :∀b o,base.get? b=some o->s.heap.get? b=some o/\H b=none
 bsz:base.objs.size<=s.heap.objs.size
 funs:s.heap.FunFrames base outer
 frf :∀b∈frs outer,H b=none
 hok:HOk P w H s.heap
 bare:g8 s.gens
def CE (outer:List Env) (P:Program) (w:W0) (H:Hp) (s:B0) (Q:VK) (u:Value) (s':B0):Prop:=
 ∃v H',s'.os=s.os/\g8 s'.gens/\Un (frs outer) [] H H' s.heap s'.heap/\HOk P w H' s'.heap/\RelV v u/\Q v H'
def CR (CX:CXT) (outer:List Env) (P:Program) (w:W0) (H:Hp) (s:B0) (Q:VK) (E:XK) (r:j0e) (s':B0):Prop:=
 match r with
 | .ok (.ret u)=>CE outer P w H s Q u s'
 | .ok _=>False
 | .error e=>CX outer H s E e s'
structure FnOk (P:Program) (w:W0) (K:d0) (mg:Str->Option Value) (base:Heap) (CX:CXT) (k:Nat) (f:Addr) (fd:FuncData) (ps:List Str) (sp:Sp):Prop where
 len :∀vs H Q E,sp vs H Q E->vs.length=ps.length
 run :∀(A:D2) (outer:List Env) (s:B0) (H:Hp) (args:Args) (us:List Value) (vs:List V) (Q:VK) (E:XK),Room k A->Env0 P w K mg base A outer s H->BindsTo s fd args (ps.zip us)->Vals vs us->sp vs H Q E->
  V4 (Z0 P w) A (.call (.ref f) args) (CR CX outer P w H s Q E) s
theorem Env0.in1 {P:Program} {w:W0} {K:d0} {mg:Str->Option Value} {base:Heap} {A:D2} {outer:List Env} {s:B0} {H:Hp} (e:Env0 P w K mg base A outer s H) :
  Env0 P w K mg base A.in1 outer s H:=⟨e.frames,e.mod,e.bs,e.bsz,e.funs,e.frf,e.hok,e.bare⟩
section
variable {X:Cx} {pins:List (Addr×Obj)} {σ:St} {H:Hp} {s s':B0}
theorem Inv.env0 (I:Inv X pins σ H s):Env0 X.prog X.w X.K X.mg X.base X.A X.stack s H:=
 ⟨I.ok.frames,I.ok.mod,I.bs,S0 I.ok.bsz I.sz,I.stack,I.stkFree,I.hok,I.bare⟩
theorem Inv.after {Q:VK} {u:Value} (I:Inv X pins σ H s) (h:CE X.stack X.prog X.w H s Q u s'):EP X pins σ Q u s':=by obtain ⟨v,e,j,a,un,i,r,q⟩:=h;obtain ⟨f,g,d,t,c⟩:=s';obtain rfl:c=s.os:=j;exact ⟨v,e,I.call (h':=f) (g':=g) (d':=d) (t':=t) (ch:=[]) un i a (λ b z=>absurd z (by simp)),r,q⟩
end
noncomputable def tCall (sp:Sp) (dvs:List V) (E:XK) (t:TA):TE:=λ σ H Q=>t σ H λ vs H1=>sp (vs++dvs) H1 Q E
def Binds (K:d0) (fd:FuncData) (ps:List Str) (ds:List Value):Prop:=
 ∀(s:B0) (us:List Value),K.In s.heap->(us++ds).length=ps.length->BindsTo s fd ⟨us,[]⟩ (ps.zip (us++ds))
theorem Binds.all {K:d0} {fd:FuncData} {ps:List Str} (h :∀us:List Value,us.length=ps.length->bindArgs fd ⟨us,[]⟩=S3 (ps.zip us)):Binds K fd ps []:=λ s us _ a=>by rw [U2] at a⊢;exact .of_eq (h us a)
def Passes (CX:CXT) (X:Cx) (E:XK):Prop:=∀(pins:List (Addr×Obj)) (σ:St) (H:Hp) (s:B0) (e:Value) (s':B0),Inv X pins σ H s->CX X.stack H s E e s'->X.xe e s'
section
variable {X:Cx} {CX:CXT} {k:Nat} {f C:Addr} {fd:FuncData} {ps:List Str} {sp:Sp} {dvs:List V} {ds:List Value} {E:XK} {x m:Str} {p pos apos:Pos} {e o:Expr} {es:List Expr} {ta:TE} {t:TA}
theorem run_fn {pins:List (Addr×Obj)} {σ:St} {H:Hp} {s:B0} {Q:VK} {us:List Value} {vs:List V} (F:FnOk X.prog X.w X.K X.mg X.base CX k f fd ps sp) (hr:Room k X.A) (hb:Binds X.K fd ps ds) (hd:Vals dvs ds) (hx:Passes CX X E)
  (I:Inv X pins σ H s) (r:Vals vs us) (h:sp (vs++dvs) H Q E):Q0 (Z0 X.prog X.w) X.A (call (.ref f) us) (EP X pins σ Q) X.xe s:=by
 have b:Vals (vs++dvs) (us++ds):=r.append hd;have c:(us++ds).length=ps.length:=by rw [<-b.length];exact F.len _ _ _ _ h
 refine K9 (d5 (F.run X.A X.stack s H ⟨us,[]⟩ (us++ds) (vs++dvs) Q E hr I.env0 (hb s us I.kIn c) b h) λ r d a=>?_);cases r with
 | error e=>exact hx pins σ H s e d I a
 | ok fl=>
  cases fl with
  | ret u=>exact I.after a
  | next=>exact y4 a
  | brk=>exact y4 a
  | cont=>exact y4 a
theorem zes (F:FnOk X.prog X.w X.K X.mg X.base CX k f fd ps sp) (hr:Room k X.A) (hg:Gl X x) (hm:X.mg x=some (.ref f)) (hk:M4 X.K (.ref f)=true) (hb:Binds X.K fd ps ds) (hd:Vals dvs ds) (hx:Passes CX X E)
  (ha:PA X (e :: es) t) (hdb:(x == ("__debug__" : Str))=false:=by decide) (he:E1 (e :: es) X.env=(false,V3 e X.env) :: E1 es X.env:=by rfl) (hpl:(z4 pos (E1 es X.env)).any (·.1)=false:=by rfl) :
  PE X (.Call (.Name x p) (e :: es) [] pos) (tCall sp dvs E t):=by
 intro a s σ H Q I h;refine R3 (z6z I hg hm ?_ hdb);refine j29 (h₀:=X.base) I.ok.mod.kin hk (thn (ha pos a s σ H _ I h) λ b c ⟨vs,H1,I1,r,q⟩=>⟨I1.kIn,?_⟩) he hpl;exact run_fn F hr hb hd hx I1 r q
structure Mk (K:d0) (C f:Addr):Prop where
 makes:PySem.W.makesIn K C=true
 init:T6 K (.ref C) "__init__" = some (some (.ref f))
 fn:PySem.W.isFn K (.ref f)=true
 kp:M4 K (.ref C)=true
end
section
variable {X:Cx} {CX:CXT} {k:Nat} {f C:Addr} {fd:FuncData} {ps ks:List Str} {sp:Sp} {E:XK} {x m:Str} {p pos apos kpos:Pos} {e o:Expr} {es:List Expr} {kws:List K6} {te ta:TE} {t tk:TA} {nm:Option Str}
structure KBinds (K:d0) (fd:FuncData) (ps ks:List Str) (g:List Value->List Value->List Value) (gV:List V->List V->List V):Prop where
 to :∀(s:B0) (us ws:List Value),K.In s.heap->(g us ws).length=ps.length->BindsTo s fd ⟨us,ks.zip ws⟩ (ps.zip (g us ws))
 rel :∀{vs:List V} {us:List Value} {zs:List V} {ws:List Value},Vals vs us->Vals zs ws->Vals (gV vs zs) (g us ws)
variable {g:List Value->List Value->List Value} {gV:List V->List V->List V}
end
structure FnScope (N P:List Str) (sc:Scope):Prop where
 kind:sc.kind=.function
 co:sc.isCoroutine=false
 gen:sc.isGenerator=false
 nd:N.Nodup
 pre:N.take P.length=P
 par :∀x∈P,sc.names.lookup x=some .local\/sc.names.lookup x=some .cell
 nofree :∀y∈sc.names,y.2≠.free
theorem z8r {kindOf:Str->Option J6} {x:Str} :∀{binds:List (Str×Value)} {m:Str->Option Value},(∀v,(x,v)∉binds)->bindL kindOf binds m x=m x
 | [],_,_=>rfl
 | (n,v) :: r,m,h=>by
  unfold bindL;rw [z8r λ w a=>h w (Y1 _ a)];split
  ·have:x≠n:=by rintro rfl;exact h v F2
   simp [this]
  ·rfl
theorem z8m {kindOf:Str->Option J6} {x:Str} :∀{binds:List (Str×Value)} {m:Str->Option Value},(∀v,(x,v)∉binds)->bindC kindOf binds m x=m x
 | [],_,_=>rfl
 | (n,v) :: r,m,h=>by
  unfold bindC;rw [z8m λ w a=>h w (Y1 _ a)];split
  ·rfl
  ·have:x≠n:=by rintro rfl;exact h v F2
   simp [this]
theorem z94 {kindOf:Str->Option J6} {x:Str} {v:Value} :∀{P:List Str} {vs:List Value} {i:Nat} {m:Str->Option Value},P.Nodup->P[i]? = some x->vs[i]? = some v->kindOf x=some .local->
  bindL kindOf (P.zip vs) m x=some v
 | [],_,_,_,_,h,_,_=>by simp at h
 | _ :: _,[],_,_,_,_,h,_=>by simp at h
 | p :: P,w :: vs,0,m,nd,h1,h2,hk=>by simp at h1 h2;subst h1;subst h2;show bindL kindOf ((p,w) :: P.zip vs) m p=_;unfold bindL;rw [z8r λ v a=>(List.nodup_cons.mp nd).1 (Q6 a).1,if_pos hk];simp
 | p :: P,w :: vs,i + 1,m,nd,h1,h2,hk=>by show bindL kindOf ((p,w) :: P.zip vs) m x=_;unfold bindL;exact z94 (i:=i) (List.nodup_cons.mp nd).2 (by simpa using h1) (by simpa using h2) hk
theorem z91 {kindOf:Str->Option J6} {x:Str} {v:Value} :∀{P:List Str} {vs:List Value} {i:Nat} {m:Str->Option Value},P.Nodup->P[i]? = some x->vs[i]? = some v->kindOf x≠some .local->
  bindC kindOf (P.zip vs) m x=some v
 | [],_,_,_,_,h,_,_=>by simp at h
 | _ :: _,[],_,_,_,_,h,_=>by simp at h
 | p :: P,w :: vs,0,m,nd,h1,h2,hk=>by simp at h1 h2;subst h1;subst h2;show bindC kindOf ((p,w) :: P.zip vs) m p=_;unfold bindC;rw [z8m λ v a=>(List.nodup_cons.mp nd).1 (Q6 a).1,if_neg hk];simp
 | p :: P,w :: vs,i + 1,m,nd,h1,h2,hk=>by show bindC kindOf ((p,w) :: P.zip vs) m x=_;unfold bindC;exact z91 (i:=i) (List.nodup_cons.mp nd).2 (by simpa using h1) (by simpa using h2) hk
noncomputable def start (N:List Str) (vs:List V):St:=vs.map some++y3 (N.length - vs.length) none
noncomputable def cxOf (CX:CXT) (P:Program) (w:W0) (K:d0) (mg:Str->Option Value) (base:Heap) (N:List Str) (qual:Str) (scope:Scope) (f:Addr) (cd:Value) (A:D2) (outer:List Env) (s:B0) (H:Hp) (E:XK):Cx where
 prog:=P
 w:=w
 K:=K
 mg:=mg
 base:=base
 A:=A.deeper (o4 qual scope s.heap.objs.size f cd)
 N:=N
 s₀:=s
 H₀:=H
 env:=o4 qual scope s.heap.objs.size f cd
 outer:=outer
 stack:=o4 qual scope s.heap.objs.size f cd :: outer
 ex:=[]
 calm:=true
 fn:=λ _=>true
 pn:=[]
 xe:=λ e s'=>Q0 (Z0 P w) (A.deeper (o4 qual scope s.heap.objs.size f cd)) («leaving» (o4 qual scope s.heap.objs.size f cd) e) (λ _ s''=>CX outer H s E e s'') (λ e' s''=>CX outer H s E e' s'') s'
theorem zbu {sc:Scope} {n:Nat} {x:Str} (h:sc.names.lookup x=some .cell) :∃c,(cellsFrom n sc.names []).lookup x=some c:=by have q:=R7 sc.names n [] (.inl h);exact Option.isSome_iff_exists.mp q
theorem z88 {CX:CXT} {P:Program} {w:W0} {K:d0} {mg:Str->Option Value} {base:Heap} {N ps:List Str} {qual:Str} {scope:Scope} {f:Addr} {cd:Value} {A:D2} {outer:List Env} {s s1:B0} {H:Hp} {E:XK} {us:List Value} {vs:List V}
  (S:FnScope N ps scope) (hd:A.handled=none) (e0:Env0 P w K mg base A outer s H) (hl:vs.length=ps.length) (r:Vals vs us)
  (x:InCallC s s.heap.objs.size (bindL (o4 qual scope s.heap.objs.size f cd).kindOf (ps.zip us) λ _=>none) (cellsFrom (s.heap.objs.size + 1) scope.names []) (bindC (o4 qual scope s.heap.objs.size f cd).kindOf (ps.zip us) λ _=>none) s1) :
  Inv (cxOf CX P w K mg base N qual scope f cd A outer s H E) [] (start N vs) H s1:=by
 have I:ps.length<=N.length:=by have:=congrArg List.length S.pre;rw [A4] at this;omega
 obtain ⟨m,G,rfl,C⟩:=x.done;have o :∀b:Addr,b∉(cxOf CX P w K mg base N qual scope f cd A outer s H E).ex:=λ b z=>absurd (show b∈([]:List Addr) from z) (by simp);refine ⟨⟨e0.mod,S.kind,rfl,rfl,D0 _,λ y z c m d=>?_,λ y g=>?_,λ y c _ h=>?_,λ _=>hd,Around.frames_deeper e0.frames,.inr ⟨rfl,rfl⟩,λ b z=>absurd z (o b),e0.bs,e0.bsz,λ b _ _=>o b,λ b z=>absurd z (o b),e0.funs,e0.frf⟩,
  rfl,e0.bare,Un.kept C,⟨_,x.toInCall.ns,λ i y v m d J=>?_⟩,λ y c h=>⟨_,x.cell y c h⟩,e0.hok.fresh (D0 _),λ y c h=>?_,λ p j=>absurd (show p∈([]:List (Addr×Obj)) from j) (by simp),e0.hok.kept C,?_⟩
 ·exact name_of_addr x.apart (P5 m) (P5 d)
 ·have g:scope.names.lookup y=some .cell\/scope.names.lookup y=some .free:=g;rcases g with g|g
  ·exact zbu g
  ·exact absurd rfl (S.nofree _ (P5 g))
 ·exact u8 (x.above y c (P5 h))
 ·have l:i < vs.length:=by
   unfold start at d;by_cases l:i < vs.length
   ·exact l
   ·rw [A3 (by simpa using l)] at d;rw [T7] at d;split at d<;>cases d
  have D:vs[i]? = some v:=by
   unfold start at d;rw [E3 (by simpa using l),U1] at d;cases e:vs[i]? with
   | none=>rw [e] at d;cases d
   | some a=>rw [e] at d;cases d;rfl
  obtain ⟨u,t,F⟩:=r.get D;have j:ps[i]? = some y:=by rw [<-S.pre,List.getElem?_take_of_lt (by omega)];exact m
  have B:ps.Nodup:=by rw [<-S.pre];exact S.nd.sublist (p9 _ _)
  refine ⟨u,F,?_⟩;rcases S.par y (I0 j) with k|k
  ·exact .inl ⟨k,z94 B j t k⟩
  ·obtain ⟨c,e⟩:=zbu (n:=s.heap.objs.size + 1) k;refine .inr ⟨.inl k,c,e,?_⟩;have q:=x.cell y c e;rw [z91 B j t (by show scope.names.lookup y≠_;rw [k];decide)] at q;exact q
 ·exact e0.hok.fresh (u8 (x.above y c (P5 h)))
 ·unfold start;show _=N.length;rw [N0,O0,Y3];omega
theorem fn_of {CX:CXT} {P:Program} {w:W0} {K:d0} {mg:Str->Option Value} {base:Heap} {k:Nat} {f:Addr} {name qual:Str} {params:Arguments} {body:List Stmt} {scope:Scope} {dV kV doc pm cdv ct oc:Value} {an od:Option Addr}
  {osl:Array (Option Value)} {N ps:List Str} {sp:Sp} (lk:K.lookup f=some ⟨oc,od,.func (Z5 name qual params body scope dV kV doc pm an cdv ct),osl⟩) (hcd:o8 K cdv qual=true) (S:FnScope N ps scope)
  (len :∀vs H Q E,sp vs H Q E->vs.length=ps.length)
  (hbody :∀(A:D2) (outer:List Env) (s:B0) (H:Hp) (vs:List V) (Q:VK) (E:XK),Room k (A.deeper (o4 qual scope s.heap.objs.size f cdv))->sp vs H Q E->
   ∃t,PSs (cxOf CX P w K mg base N qual scope f cdv A outer s H E) body t/\t { nx:=λ _ H'=>Q .non H',rt:=Q } (start N vs) H) :
  FnOk P w K mg base CX (k + 1) f (Z5 name qual params body scope dV kV doc pm an cdv ct) ps sp:=by
 refine ⟨len,λ A outer s H O F vs Q E h c B r j=>?_⟩;have L:=len _ _ _ _ j;have KX:K.In s.heap:=c.mod.kin.keeps λ b o e=>(c.bs b o e).1;have m:s.heap.NoLimit:=c.mod.nolimit.keeps λ b o e=>(c.bs b o e).1;have D :∀y∈ps.zip F,scope.names.lookup y.1=some .local\/(scope.names.lookup y.1=some .cell/\((cellsFrom (s.heap.objs.size + 1) scope.names []).lookup y.1).isSome=true):=λ ⟨n,v⟩ hy=>by
  rcases S.par n (Q6 hy).1 with q|q
  ·exact .inl q
  ·exact .inr ⟨q,R7 _ _ _ (.inl q)⟩
 refine codeAny_call_function h.depth (KX _ _ lk) rfl S.co S.gen rfl (PySem.W.codeRec_of KX hcd) (B _ _ _ _ ?_);refine j1g S.kind D λ M z l x=>?_;subst z;refine ⟨m.keeps x.toInCall.keep,codeAny_func ?_⟩;obtain ⟨t,p,C⟩:=hbody A outer s H vs Q E (h.deeper _) j;have I:Inv (cxOf CX P w K mg base N qual scope f cdv A outer s H E) [] (start N vs) H l:=z88 S h.hd c L r x;refine t3 (p [] l (start N vs) H _ I C) (λ G g a=>?_) λ e g a=>a;have fin :∀{d:St} {H':Hp} {v:V} {u:Value},Inv (cxOf CX P w K mg base N qual scope f cdv A outer s H E) [] d H' g->RelV v u->Q v H'->CE outer P w H s Q u g:=
  λ {d H' v u} J i q=>⟨v,H',J.os,J.bare,J.base,J.hok,i,q⟩
 cases G with
 | ret u=>obtain ⟨v,d,H',J,i,q⟩:=a;exact fin J i q
 | next=>obtain ⟨d,H',J,q⟩:=a;exact fin (v:=V.non) (u:=Y2) J rfl q
 | brk=>obtain ⟨_,_,_,q⟩:=a;exact y4 q
 | cont=>obtain ⟨_,_,_,q⟩:=a;exact y4 q
section
variable {X:Cx} {x:Str} {p pos:Pos} {e:Expr} {es:List Expr} {t:TA} {id T:String} {r:List V->Hp->VK->Prop}
noncomputable def tCB (r:List V->Hp->VK->Prop) (t:TA):TE:=λ σ H Q=>t σ H λ vs H1=>r vs H1 Q
theorem z09 (hc:CallR X (.builtin id) r) (hg:Gl X x) (hm:X.mg x=none) (hv:D4 x=some (.builtin id)) (ha:PA X (e :: es) t) (hn:x≠"__name__":=by decide) (hdb:(x == ("__debug__" : Str))=false:=by decide)
  (he:E1 (e :: es) X.env=(false,V3 e X.env) :: E1 es X.env:=by rfl) (hpl:(z4 pos (E1 es X.env)).any (·.1)=false:=by rfl):PE X (.Call (.Name x p) (e :: es) [] pos) (tCB r t):=by
 intro a s σ H Q I h;refine R3 (ld_blt I hg hm hv ?_ hn hdb);exact Y5 (thn (ha pos a s σ H _ I h) λ b c ⟨vs,H1,I1,r1,q1⟩=>hc a c σ H1 vs b Q I1 r1 q1) he hpl
theorem z1q (hc:CallR X (.type T) r) (hg:Gl X x) (hm:X.mg x=none) (hv:D4 x=some (.type T)) (ha:PA X (e :: es) t) (hn:x≠"__name__":=by decide) (hdb:(x == ("__debug__" : Str))=false:=by decide)
  (he:E1 (e :: es) X.env=(false,V3 e X.env) :: E1 es X.env:=by rfl) (hpl:(z4 pos (E1 es X.env)).any (·.1)=false:=by rfl):PE X (.Call (.Name x p) (e :: es) [] pos) (tCB r t):=by
 intro a s σ H Q I h;refine R3 (ld_blt I hg hm hv ?_ hn hdb);exact L3 (thn (ha pos a s σ H _ I h) λ b c ⟨vs,H1,I1,r1,q1⟩=>hc a c σ H1 vs b Q I1 r1 q1) he hpl
end
end L2
namespace HT
open PySem PyProof.Rows
section
variable {prog:Program} {w:W0} {A:D2} {E:Value->B0->Prop} {s:B0}
theorem cat_tup {t b:Addr} {vs ws:List Value} {Q:Value->B0->Prop} (ht:IsTup s.heap t vs.toArray) (hb:IsTup s.heap b ws.toArray) (hv:vs≠[])
  (h1:ws=[]->Q (.ref t) s) (h2:ws≠[]->Q (.ref s.heap.objs.size) { s with heap:=s.heap.push { cls:=.type "tuple",data:=.seq (vs++ws).toArray } })
  (hsz:vs.length + ws.length<=sizeLine):Q0 (Z0 prog w) A (c7 .Add (.ref t) (.ref b)) Q E s:=by
 obtain ⟨⟨cls,l,data,g⟩,a,f,n,hd⟩:=id ht;obtain ⟨⟨m,i,o,k⟩,c,d,h,j⟩:=id hb;simp only at f hd d j;subst f hd d j;have e:vs.toArray++ws.toArray=(vs++ws).toArray:=by simp
 by_cases hw:ws=[]
 ·exact concat_meets ⟨_,a,rfl⟩ ⟨_,c,rfl⟩ noFill_tuple_add seq_tuple_add j0g j0b (j05 _ _)
   (tuple_addW1 t b vs.toArray ws.toArray n h l i g k (by simpa using hv) (by simp [hw])) ⟨a,c,h1 hw⟩
 ·refine concat_meets ⟨_,a,rfl⟩ ⟨_,c,rfl⟩ noFill_tuple_add seq_tuple_add j0g j0b (j05 _ _)
   (tuple_addW2 t b vs.toArray ws.toArray n h l i g k (by simpa using hv) (by simpa using hw) (by rw [V0,V0];exact hsz)) ⟨a,c,?_⟩
  rw [e];exact h2 hw
noncomputable def sIx (n d:Nat):Option Int->Nat
 | none=>d
 | some v=>if v < 0 then (v + (n:Int)).toNat else min v.toNat n
theorem sIx_le (n d:Nat) (hd:d<=n) (o:Option Int):sIx n d o<=n:=by
 cases o with
 | none=>exact hd
 | some v=>
  show (if v < 0 then (v + (n:Int)).toNat else min v.toNat n)<=n;by_cases hv:v < 0
  ·rw [if_pos hv];omega
  ·rw [if_neg hv];exact Nat.min_le_right _ _
theorem zex (v:Int) (n d:Nat):(if v < 0 then max (v + (n:Int)) 0 else min v (n:Int))=((sIx n d (some v):Nat):Int):=by
 show (if v < 0 then max (v + (n:Int)) 0 else min v (n:Int))=(((if v < 0 then (v + (n:Int)).toNat else min v.toNat n):Nat):Int);by_cases hv:v < 0
 ·simp only [if_pos hv];omega
 ·simp only [if_neg hv];omega
theorem zal (lo hi:Option Int) (n:Nat):L6 lo hi 1 (n:Int)=(((sIx n 0 lo:Nat):Int),((sIx n n hi:Nat):Int)):=by
 have a:¬ ((1:Int) < 0):=by omega
 unfold L6;simp only [a,if_false];refine Prod.ext ?_ ?_
 ·cases lo with
  | none=>rfl
  | some v=>exact zex v n 0
 ·cases hi with
  | none=>rfl
  | some v=>exact zex v n n
theorem zc1 (i j:Nat):X4 (i:Int) (j:Int) 1=j - i:=by
 unfold X4;have a:(1:Int) > 0:=by omega
 simp only [a,if_true,Int.ediv_one];split<;>omega
theorem z66 {v:Value} {o:Option Int} {Q:Option Int->B0->Prop} (p:R9 v o) (h:Q o s):Q0 (Z0 prog w) A (Builtin.Slice.slicePartIndex v) Q E s:=by
 cases p with
 | none=>exact slicePart_none h
 | int i t=>exact slicePart_int h
theorem z3g {sl:Addr} {vl vu:Value} {lo hi:Option Int} {n:Nat} {Q:Int×Int×Nat->B0->Prop} (hs:s.heap.IsSliceOf sl vl vu .none) (pl:R9 vl lo) (pu:R9 vu hi)
  (h:Q (((sIx n 0 lo:Nat):Int),1,sIx n n hi - sIx n 0 lo) s):Q0 (Z0 prog w) A (a9 (.ref sl) (S3 (n:Int))) Q E s:=by
 obtain ⟨d,a,c,b⟩:=id hs;unfold a9 Builtin.Slice.sliceFields;refine o0 (o0 (X6 a b (x:=vl) rfl (o0 (X6 a b (x:=vu) rfl (o0 (X6 a b (x:=.none) rfl (C0 ?_)))))));refine o0 (slicePart_none ?_);show Q0 _ _ (if ((1:Int) == 0)=true then _ else _) _ _ s;rw [if_neg (by decide)];refine o0 (z66 pl (o0 (z66 pu (o0 (C0 ?_)))));show Q0 _ _ (match L6 lo hi 1 (n:Int) with|(lo,hi)=>S3 (lo,(1:Int),X4 lo hi 1)) _ _ s;rw [zal lo hi n];show Q0 _ _ (S3 (((sIx n 0 lo:Nat):Int),(1:Int),X4 ((sIx n 0 lo:Nat):Int) ((sIx n n hi:Nat):Int) 1)) _ _ s;rw [zc1];exact C0 h
theorem zf8 (xs:Array Value) (i k:Nat):((A1 k).filterMap λ (m:Nat)=>xs[((i:Int) + (m:Int) * 1).toNat]?).toArray=((xs.toList.drop i).take k).toArray:=by
 have e:(λ (m:Nat)=>xs[((i:Int) + (m:Int) * 1).toNat]?)=λ m=>xs[i + m]?:=by
  funext m;have:((i:Int) + (m:Int) * 1).toNat=i + m:=by omega
  rw [this]
 rw [e];have:=pick_run xs i k;rw [List.filterMap_map] at this;have a:((λ x=>xs[x]?) ∘ λ x=>i + x)=λ m=>xs[i + m]?:=rfl;rw [a] at this;rw [this]
theorem getItem_tuple_cut {t sl:Addr} {items:Array Value} {vl vu:Value} {lo hi:Option Int} {Q:Value->B0->Prop} (ht:IsTup s.heap t items) (hs:s.heap.IsSliceOf sl vl vu .none) (pl:R9 vl lo) (pu:R9 vu hi)
  (hw:¬ (sIx items.size 0 lo=0/\sIx items.size items.size hi=items.size))
  (h:Q (.ref s.heap.objs.size) { s with heap:=s.heap.push { cls:=.type "tuple",data:=.seq ((items.toList.drop (sIx items.size 0 lo)).take (sIx items.size items.size hi - sIx items.size 0 lo)).toArray } })
  (hsz:items.size<=sizeLine):Q0 (Z0 prog w) A (o9 (.ref t) (.ref sl)) Q E s:=by
 have a:sizeOk (.seq ((items.toList.drop (sIx items.size 0 lo)).take (sIx items.size items.size hi - sIx items.size 0 lo)).toArray):=by show ((items.toList.drop (sIx items.size 0 lo)).take (sIx items.size items.size hi - sIx items.size 0 lo)).toArray.size<=sizeLine;rw [V0,A4,F9,F1];omega
 have k:sIx items.size items.size hi<=items.size:=sIx_le _ _ (D0 _) hi;obtain ⟨d,f,c,j⟩:=id hs;have e:s.TypeIs (.ref sl) "slice":=⟨d,f,c⟩
 unfold o9
 try with_reducible refine R1 ?_
 first|refine o0 (C0 ?_)|skip
 refine o0 (wpAny_sequenceKey ht.typeIs (by decide) ?_);refine o0 (G8 (name:=Q2 "__getitem__") ht.typeIs K8
  (F8 K8 ht.typeIs entry_tuple_getitem ?_ (args_tuple_getitem _ _)))
 show Q0 _ _ (Builtin.Tuple.tupleItemsOf (.ref t) >>= _) _ _ s;refine o0 (tupleItemsOf_ ht ?_);refine o0 (F7 e ?_);rw [if_pos (by decide)];refine o0 (z3g hs pl pu ?_);have b:¬ ((((sIx items.size 0 lo:Nat):Int) == 0 && (1:Int) == 1 && (sIx items.size items.size hi - sIx items.size 0 lo) == items.size)=true):=by intro q;rw [W2,W2] at q;have i:((sIx items.size 0 lo:Nat):Int)=0:=eq_of_beq q.1.1;have g:sIx items.size items.size hi - sIx items.size 0 lo=items.size:=eq_of_beq q.2;exact hw ⟨by omega,by omega⟩
 show Q0 _ _ (if (((sIx items.size 0 lo:Nat):Int) == 0 && (1:Int) == 1 && (sIx items.size items.size hi - sIx items.size 0 lo) == items.size)=true then _ else _) _ _ s;rw [if_neg b,zf8];first
  | exact o0 (m:=n5 _) (N4 (C0 ⟨_,rfl,C0 h⟩) a)
  | exact o0 (m:=n5 _) (N4 (o0 (C0 (C0 ⟨_,rfl,C0 h⟩))) a)
  | exact o0 (o0 (m:=n5 _) (N4 (C0 (C0 ⟨_,rfl,C0 h⟩)) a))
  | exact o0 (o0 (m:=n5 _) (N4 (C0 ⟨_,rfl,C0 h⟩) a))
end
end HT
namespace L2
open PySem PySem.Spec PyProof.Rows
noncomputable abbrev TO:=St->Hp->(Option Int->Hp->Prop)->Prop
def PO (X:Cx) (e:Option Expr) (t:TO):Prop:=
 ∀(pins:List (Addr×Obj)) (s:B0) (σ:St) (H:Hp) (Q:Option Int->Hp->Prop),Inv X pins σ H s->t σ H Q->
  Q0 (Z0 X.prog X.w) X.A (evalPart e X.env) (λ u s'=>∃o H',Inv X pins σ H' s'/\R9 u o/\Q o H') X.xe s
noncomputable def zh2:TO:=λ _ H Q=>Q none H
noncomputable def tPart (t:TE):TO:=λ σ H Q=>t σ H λ x H1=>∃i,x=.int i/\Q (some i) H1
theorem z3t {ns:List Int} :∀{us:List Value},Vals (ns.map V.int) us->X3 us ns:=by
 induction ns with
 | nil=>intro us r;rw [d8] at r;cases r;exact .nil
 | cons n ns ih=>
  intro us r;rw [N1] at r;cases r with
  | cons r1 r2=>obtain ⟨t,e⟩:=r1;subst e;exact .cons n t (ih r2)
section
variable {X:Cx} {e:Expr} {te:TE} {lo hi:Option Expr} {tl th:TO} {pos p2:Pos}
theorem z8t:PO X none zh2:=by intro a s σ H Q I h;rw [evalPart_none];exact C0 ⟨none,H,I,.none,h⟩
theorem z8b (h:PE X e te):PO X (some e) (tPart te):=by intro b s σ H Q I a;rw [evalPart_some];refine thn (h b s σ H _ I a) λ u c ⟨x,H1,I1,r1,q1⟩=>?_;obtain ⟨i,rfl,q⟩:=q1;obtain ⟨t,rfl⟩:=r1;exact ⟨some i,H1,I1,.int i t,q⟩
def SlR (X:Cx) (r:V->Option Int->Option Int->Hp->VK->Prop):Prop:=
 ∀(pins:List (Addr×Obj)) (s:B0) (σ:St) (H:Hp) (x:V) (v vl vu:Value) (lo hi:Option Int) (sl:Addr) (Q:VK),Inv X pins σ H s->RelV x v->s.heap.IsSliceOf sl vl vu .none->R9 vl lo->R9 vu hi->r x lo hi H Q->
  ∃T id,j1i (.type T) "__getitem__" = S3 (some (.builtin id))/\s.TypeIs v T/\Q0 (Z0 X.prog X.w) X.A (o9 v (.ref sl)) (EP X pins σ Q) X.xe s
theorem SlR.or {r r':V->Option Int->Option Int->Hp->VK->Prop} (h:SlR X r) (h':SlR X r'):SlR X (λ x lo hi H Q=>r x lo hi H Q\/r' x lo hi H Q):=by
 intro g s σ H x v c e lo hi f Q I d b a i q;rcases q with q|q
 ·exact h g s σ H x v c e lo hi f Q I d b a i q
 ·exact h' g s σ H x v c e lo hi f Q I d b a i q
noncomputable def tSl (r:V->Option Int->Option Int->Hp->VK->Prop) (te:TE) (tl th:TO):TE:=λ σ H Q=>te σ H λ x H1=>tl σ H1 λ l H2=>th σ H2 λ u H3=>r x l u H3 Q
theorem z50 {r:V->Option Int->Option Int->Hp->VK->Prop} (hr:SlR X r) (he:PE X e te) (hl:PO X lo tl) (hu:PO X hi th):PE X (.Subscript e (.Slice lo hi none p2) pos) (tSl r te tl th):=by intro c s σ H Q I h;refine Subscript_ (thn (he c s σ H _ I h) λ v m ⟨x,H1,I1,r1,q1⟩=>?_);refine wpAny_Slice (thn (hl c m σ H1 _ I1 q1) λ f j ⟨l,H2,I2,pl,q2⟩=>thn (hu c j σ H2 _ I2 q2) λ d a ⟨u,H3,I3,pu,q3⟩=>?_);rw [evalPart_none];refine C0 ?_;have i:Inv X c σ H3 { a with heap:=a.heap.push { cls:=.type "slice",data:=.fields #[f,d,.none] } }:=I3.kept (t':=a.toks) λ b o q=>A0 _ q;obtain ⟨T,id,k,g,n⟩:=hr c { a with heap:=a.heap.push { cls:=.type "slice",data:=.fields #[f,d,.none] } } σ H3 x v f d l u a.heap.objs.size Q i r1 (Heap.IsSliceOf.new ..) pl pu q3;show Q0 (Z0 X.prog X.w) X.A (subscriptTail e (.Slice lo hi none p2) v (.ref a.heap.objs.size)) (EP X c σ Q) X.xe { a with heap:=a.heap.push { cls:=.type "slice",data:=.fields #[f,d,.none] } };exact tail_any (ops:=[.ref a.heap.objs.size,v]) g k n (by with_unfolding_all rfl)
noncomputable def cutV (xs:List V) (lo hi:Option Int):List V:=(xs.drop (HT.sIx xs.length 0 lo)).take (HT.sIx xs.length xs.length hi - HT.sIx xs.length 0 lo)
theorem z4g (xs:List V) (lo hi:Option Int):(cutV xs lo hi).length<=xs.length:=by unfold cutV;rw [A4,F9];omega
def rSlT (K:d0):V->Option Int->Option Int->Hp->VK->Prop:=λ x lo hi H Q=>∃a xs,x=.ref a/\SqT K H a xs/\
 ¬ (HT.sIx xs.length 0 lo=0/\HT.sIx xs.length xs.length hi=xs.length)/\∀p,H p=none->Q (.ref p) (upd H p (.tup (cutV xs lo hi)))
theorem sl_tup:SlR X (rSlT X.K):=by
 intro z s σ H x v w u d e y Q I n p j l h;obtain ⟨a,c,rfl,t,m,q⟩:=h;cases n;obtain ⟨k,r,g,i⟩:=I.tuple t;have f:k.toArray.size=c.length:=by rw [V0];exact r.length.symm
 refine ⟨"tuple",_,PyProof.Rows.slot_tuple_getitem.lookup,g.typeIs,?_⟩;refine HT.getItem_tuple_cut g p j l (by rw [f];exact m) ?_ (by rw [f];exact i);rw [f];refine ⟨.ref s.heap.objs.size,_,I.laid (t':=s.toks) (o:=.tup (cutV c d e)) (λ b A q=>A0 _ q) (D0 _) ?_,rfl,q _ (I.hok.fresh (D0 _))⟩;exact ⟨S0 (z4g c d e) i,_,(r.drop (HT.sIx c.length 0 d)).take (HT.sIx c.length c.length e - HT.sIx c.length 0 d),IsTupN.new _ _⟩
noncomputable def rCatT (K:d0):R2:=λ x y H Q=>∃a b xs ys,x=.ref a/\y=.ref b/\SqT K H a xs/\SqT K H b ys/\xs≠[]/\xs.length + ys.length<=sizeLine/\
 (ys=[]->Q (.ref a) H)/\(ys≠[]->∀p,H p=none->Q (.ref p) (upd H p (.tup (xs++ys))))
theorem Vals.nil_iff {xs:List V} {us:List Value} (r:Vals xs us):us=[]↔xs=[]:=by
 cases r with
 | nil=>simp
 | cons _ _=>simp
theorem zg9:OpR X (c7 .Add) (rCatT X.K):=by intro B s σ H x y v u Q I j n h;obtain ⟨a,b,t,f,rfl,rfl,m,g,p,e,r,i⟩:=h;cases j;cases n;obtain ⟨A,d,k,_⟩:=I.tuple m;obtain ⟨C,c,l,_⟩:=I.tuple g;refine HT.cat_tup k l (λ z=>p (d.nil_iff.mp z)) (λ z=>⟨.ref a,H,I,rfl,r (c.nil_iff.mp z)⟩) (λ z=>?_) (by rw [<-d.length,<-c.length];exact e);refine ⟨.ref s.heap.objs.size,_,I.laid (t':=s.toks) (o:=.tup (t++f)) (λ b D q=>A0 _ q) (D0 _) ?_,rfl,i (λ w=>z (c.nil_iff.mpr w)) _ (I.hok.fresh (D0 _))⟩;exact ⟨by rw [N0];exact e,_,d.append c,IsTupN.new _ _⟩
end
noncomputable def ixN (n:Nat) (i:Int):Option Nat:=if 0<=i then (if i < n then some i.toNat else none) else if -(n:Int)<=i then some (i + n).toNat else none
noncomputable def atI {α:Type} (xs:List α) (i:Int):Option α:=(ixN xs.length i).bind λ j=>xs[j]?
theorem zer {n:Nat} {i:Int} {j:Nat} (h:ixN n i=some j):seqIndex? i n=some j/\j < n/\-(n:Int)<=i/\i < n:=by
 unfold ixN at h;by_cases h0:0<=i
 ·rw [if_pos h0] at h;by_cases h1:i < n
  ·rw [if_pos h1] at h;have e:i.toNat=j:=Q1 h;exact ⟨by rw [seqIndex_of h0 h1,e],by omega,by omega,h1⟩
  ·rw [if_neg h1] at h;cases h
 ·rw [if_neg h0] at h;by_cases h1:-(n:Int)<=i
  ·rw [if_pos h1] at h;have e:(i + n).toNat=j:=Q1 h;exact ⟨by rw [seqIndex_neg (by omega) h1,e],by omega,h1,by omega⟩
  ·rw [if_neg h1] at h;cases h
theorem zb0 {α:Type} {xs:List α} {i:Int} {v:α} (h:atI xs i=some v) :∃j,seqIndex? i xs.length=some j/\xs[j]? = some v/\j < xs.length/\-(xs.length:Int)<=i/\i < xs.length:=by
 unfold atI at h;cases e:ixN xs.length i with
 | none=>rw [e] at h;cases h
 | some j=>rw [e] at h;obtain ⟨a,c,b,d⟩:=zer e;exact ⟨j,a,h,c,b,d⟩
theorem z06 {α:Type} {xs:List α} {j:Nat} {v:α} (h:xs[j]? = some v):atI xs (j:Int)=some v:=by
 have a:j < xs.length:=(List.getElem?_eq_some_iff.mp h).1;have e:ixN xs.length (j:Int)=some j:=by unfold ixN;rw [if_pos (by omega),if_pos (by omega)];simp
 unfold atI;rw [e];exact h
def zh3 (b:Expr):Prop:=∀o i,j11 b false o i=operate [o,i] (o9 o i)
def IxR (X:Cx) (r:R2):Prop:=
 ∀(value slice:Expr) (pins:List (Addr×Obj)) (s:B0) (σ:St) (H:Hp) (x y:V) (v u:Value) (Q:VK),Inv X pins σ H s->RelV x v->RelV y u->r x y H Q->
  j11 slice false v u=operate [v,u] (o9 v u)->Q0 (Z0 X.prog X.w) X.A (subscriptTail value slice v u) (EP X pins σ Q) X.xe s
def MtR (X:Cx) (id:String) (r:V->List V->Hp->VK->Prop):Prop:=
 ∀(pins:List (Addr×Obj)) (s:B0) (σ:St) (H:Hp) (x:V) (xs:List V) (v:Value) (us:List Value) (Q:VK),Inv X pins σ H s->RelV x v->Vals xs us->r x xs H Q->
  Q0 (Z0 X.prog X.w) X.A (call (.builtin id) (v :: us)) (EP X pins σ Q) X.xe s
section
variable {X:Cx} {a b:Expr} {ta tb:TE} {pos:Pos}
theorem IxR.or {r r':R2} (h:IxR X r) (h':IxR X r'):IxR X (λ x y H Q=>r x y H Q\/r' x y H Q):=by
 intro a d f s σ H x y v u Q I e b q c;rcases q with q|q
 ·exact h a d f s σ H x y v u Q I e b q c
 ·exact h' a d f s σ H x y v u Q I e b q c
theorem pe_ix {r:R2} (hr:IxR X r) (ha:PE X a ta) (hb:PE X b tb) (hs:zh3 b):PE X (.Subscript a b pos) (tOp r ta tb):=by intro i s σ H Q I h;exact Subscript_ (binT ha hb I h λ v u g x y d e f c q=>hr a b i g σ d x y v u Q e f c q (hs _ _))
noncomputable def rIxL (K:d0):R2:=λ x y H Q=>∃p xs i v,x=.ref p/\y=.int i/\SqL K H p xs/\atI xs i=some v/\Q v H
noncomputable def rIxT (K:d0):R2:=λ x y H Q=>∃p xs i v,x=.ref p/\y=.int i/\SqT K H p xs/\atI xs i=some v/\Q v H
noncomputable def rIxS:R2:=λ x y H Q=>∃z i c,x=.str z/\y=.int i/\z.length<=sizeLine/\atI z.cps.toList i=some c/\Q (.str ⟨#[c]⟩) H
theorem ix_list:IxR X (rIxL X.K):=by
 intro F G f s σ H x y v u Q I o D h e;obtain ⟨p,N,i,z,rfl,rfl,m,k,q⟩:=h;cases o;obtain ⟨t,rfl⟩:=D;obtain ⟨l,r,b,M⟩:=I.list m;obtain ⟨j,a,E,L,n,B⟩:=zb0 k;obtain ⟨w,d,A⟩:=r.get E;have C:=r.length;have J:=line63;have fin:EP X f σ Q w s:=⟨z,H,I,A,q⟩
 by_cases h0:0<=i
 ·have c:i.toNat=j:=by rw [seqIndex_of h0 B] at a;exact Q1 a
  exact item_listR b.isList h0 (by omega) (by rw [c];simpa using d) fin e
 ·have c:(i + (l.toArray.size:Int)).toNat=j:=by rw [seqIndex_neg (by omega) n] at a;rw [V0,<-C];exact Q1 a
  exact subscriptTail_builtinR (x:=w) b.isList.typeIs slot_list_getitem.lookup
   (wpAny_getItem_list_neg (Q:=λ r g=>r=w/\EP X f σ Q r g) b.isList (by omega) (by rw [V0]<;>omega) (by omega) (by rw [c];simpa using d) ⟨rfl,fin⟩) e
theorem ix_tup:IxR X (rIxT X.K):=by
 intro B E b s σ H x y v u Q I g o h l;obtain ⟨p,M,i,z,rfl,rfl,f,d,q⟩:=h;cases g;obtain ⟨t,rfl⟩:=o;obtain ⟨C,r,a,L⟩:=I.tuple f;obtain ⟨j,n,A,J,D,F⟩:=zb0 d;obtain ⟨w,e,k⟩:=r.get A;have m:=r.length;have G:=line63;have fin:EP X b σ Q w s:=⟨z,H,I,k,q⟩
 exact subscriptTail_builtinR (x:=w) a.typeIs slot_tuple_getitem.lookup
  (getItem_tuple (j:=j) (Q:=λ r c=>r=w/\EP X b σ Q r c) a (by omega) (by omega) (by rw [V0,<-m];exact n) (by simpa using e) ⟨rfl,fin⟩) l
theorem ix_str:IxR X rIxS:=by
 intro p w B s σ H x y v u Q I f n h l;obtain ⟨z,i,c,rfl,rfl,D,b,q⟩:=h;obtain ⟨t,rfl⟩:=f;obtain ⟨r,rfl⟩:=n;obtain ⟨j,a,o,C,e,g⟩:=zb0 b;have m:z.cps.toList.length=z.length:=by simp [Str.length]
 rw [m] at a e g;have A:=line63;exact tail_any (typeIs_str s z t) slot_str_getitem.lookup (getItem_str (c:=c) (by have d:decide (i < -(2 ^ 63:Int))=false:=decide_eq_false (by omega);have k:decide (i ≥ 2 ^ 63)=false:=decide_eq_false (by omega);rw [d,k,b9]) (by rw [a];simpa using o) ⟨.str ⟨#[c]⟩,H,I.tok _,⟨_,rfl⟩,q⟩) l
noncomputable def rIx (K:d0):R2:=λ x y H Q=>rIxL K x y H Q\/rIxT K x y H Q\/rIxS x y H Q
theorem ix_seq:IxR X (rIx X.K):=ix_list.or (ix_tup.or ix_str)
theorem zaz (its:List Value) (n j:Nat) (u:Value):W1 (·.setIfInBounds j u) { cls:=.type "list",data:=.seq its.toArray n }={ cls:=.type "list",data:=.seq (its.set j u).toArray n }:=by simp [W1]
theorem Inv.lst {pins:List (Addr×Obj)} {σ:St} {H:Hp} {s:B0} {p:Addr} {xs:List V} (I:Inv X pins σ H s) (h:H p=some (.lst xs)) :
  ∃(its:List Value) (n:Nat),Vals xs its/\s.heap.get? p=some { cls:=.type "list",data:=.seq its.toArray n }/\xs.length<=sizeLine:=by
 obtain ⟨z,its,n,r,e⟩:=I.hok p _ h;exact ⟨its,n,r,e,z⟩
theorem Inv.lstUpd {pins:List (Addr×Obj)} {σ:St} {H:Hp} {s:B0} {p:Addr} {xs ys:List V} {its its':List Value} {n n':Nat} {f:Obj->Obj} (I:Inv X pins σ H s) (h:H p=some (.lst xs))
  (ho:s.heap.get? p=some { cls:=.type "list",data:=.seq its.toArray n }) (hf:f { cls:=.type "list",data:=.seq its.toArray n }={ cls:=.type "list",data:=.seq its'.toArray n' }) (r:Vals ys its') (hz:ys.length<=sizeLine) (t:Nat) :
  Inv X pins σ (upd H p (.lst ys)) { s with heap:=s.heap.update p f,toks:=t }:=by
 have e:(s.heap.update p f).get? p=some { cls:=.type "list",data:=.seq its'.toArray n' }:=by rw [D8 f ho (by rw [hf]<;>rfl),hf]
 refine I.write (x:=p) (e:=p) (by rw [h];trivial) (.inl rfl) (λ b u a q=>(f8 _ _ (c4 a)).trans q) ⟨_,e⟩ ?_;exact ⟨hz,its',n',r,e⟩
def rSetL:V->V->V->Hp->(Hp->Prop)->Prop:=λ o i v H Q=>∃p xs k j,o=.ref p/\i=.int k/\H p=some (.lst xs)/\ixN xs.length k=some j/\Q (upd H p (.lst (xs.set j v)))
theorem z79:PSet X rSetL:=by
 intro A s σ H o i v D E u Q I x w z h;obtain ⟨p,C,k,j,rfl,rfl,l,y,q⟩:=h;cases x;obtain ⟨t,rfl⟩:=w;obtain ⟨e,n,r,b,B⟩:=I.lst l;obtain ⟨a,G,m,g⟩:=zer y;have c:=r.length;have F:=line63;have f:Inv X A σ (upd H p (.lst (C.set j v))) { s with heap:=s.heap.update p (W1 (·.setIfInBounds j u)) }:=
  I.lstUpd l b (zaz e n j u) (r.set z j) (by rw [List.length_set];exact B) s.toks
 by_cases h0:0<=k
 ·have d:k.toNat=j:=by rw [seqIndex_of h0 g] at a;exact Q1 a
  exact PySem.W.ki_setAt b h0 (by omega) (by rw [V0,<-c];exact g) (by rw [d];exact ⟨_,f,q⟩)
 ·have d:(k + (e.toArray.size:Int)).toNat=j:=by rw [seqIndex_neg (by omega) m] at a;rw [V0,<-c];exact Q1 a
  exact PySem.W.ki_setBack b (by omega) (by rw [V0,<-c];exact m) (by omega) (by rw [d];exact ⟨_,f,q⟩)
theorem z7y (lo hi:Option Int) (n:Nat):(Y6 lo hi none n).1=((HT.sIx n 0 lo:Nat):Int)/\(Y6 lo hi none n).2.1=((HT.sIx n n hi:Nat):Int)/\(Y6 lo hi none n).2.2=1:=by
 refine ⟨?_,?_,rfl⟩
 ·cases lo with
  | none=>simp [Y6,HT.sIx]
  | some i=>
   simp only [Y6,HT.sIx,Option.getD_none,show (1:Int) > 0 by decide,if_true];by_cases h:i < 0
   ·simp only [h,if_true]<;>omega
   ·simp only [h,if_false]<;>omega
 ·cases hi with
  | none=>simp [Y6,HT.sIx]
  | some i=>
   simp only [Y6,HT.sIx,Option.getD_none,show (1:Int) > 0 by decide,if_true];by_cases h:i < 0
   ·simp only [h,if_true]<;>omega
   ·simp only [h,if_false]<;>omega
theorem z6i (its:List Value) (lo hi:Option Int):slicePick its.toArray lo hi none=((its.drop (HT.sIx its.length 0 lo)).take (HT.sIx its.length its.length hi - HT.sIx its.length 0 lo)).toArray:=by obtain ⟨a,b,c⟩:=z7y lo hi its.toArray.size;unfold slicePick;rw [a,b,c];simp only [sliceRange_one,pick_run,V0]<;>rfl
def rSlL (K:d0):V->Option Int->Option Int->Hp->VK->Prop:=λ x lo hi H Q=>∃a xs,x=.ref a/\SqL K H a xs/\∀p,H p=none->Q (.ref p) (upd H p (.lst (cutV xs lo hi)))
theorem sl_list:SlR X (rSlL X.K):=by intro y s σ H x v u p d e w Q I k l g j h;obtain ⟨a,c,rfl,n,q⟩:=h;cases k;obtain ⟨t,r,f,m⟩:=I.list n;have i:=r.length;refine ⟨"list",_,slot_list_getitem.lookup,f.isList.typeIs,?_⟩;refine wpAny_getItem_list_slice f.isList l g j .none (by simp) ?_ (by rw [V0]<;>omega);rw [z6i,<-i];refine ⟨.ref s.heap.objs.size,_,I.laid (t':=s.toks) (o:=.lst (cutV c d e)) (λ b z q=>A0 _ q) (D0 _) ?_,rfl,q _ (I.hok.fresh (D0 _))⟩;exact ⟨S0 (z4g c d e) m,_,0,(r.drop (HT.sIx c.length 0 d)).take (HT.sIx c.length c.length e - HT.sIx c.length 0 d),P0 _ rfl⟩
noncomputable def flatV:V->Bool
 | .non=>true
 | .bl _=>true
 | .int _=>true
 | .str _=>true
 | _=>false
noncomputable def eqV:V->V->Bool
 | .non,.non=>true
 | .bl a,.bl b=>a == b
 | .bl a,.int b=>(if a then 1 else 0) == b
 | .int a,.bl b=>a == (if b then 1 else 0)
 | .int a,.int b=>a == b
 | .str a,.str b=>a == b
 | _,_=>false
theorem eqAt_V {A:D2} {s:B0} {y x:V} {u v:Value} (ry:RelV y u) (rx:RelV x v) (fy:flatV y=true) (fx:flatV x=true):SeqAt.EqAt A s u v (eqV y x):=by
 cases y with
 | non=>
  cases ry;cases x with
  | non=>cases rx;exact SeqAt.EqAt.same _
  | bl b=>cases rx;exact SeqAt.EqAt.none_bool b
  | int b=>obtain ⟨t,rfl⟩:=rx;exact SeqAt.EqAt.none_int b t
  | str b=>obtain ⟨t,rfl⟩:=rx;exact SeqAt.EqAt.none_str b t
  | _=>exact absurd (show false=true from fx) R0
 | bl a=>
  cases ry;cases x with
  | non=>cases rx;exact SeqAt.EqAt.bool_none a
  | bl b=>cases rx;exact SeqAt.EqAt.bool_bool a b
  | int b=>obtain ⟨t,rfl⟩:=rx;exact SeqAt.EqAt.bool_int a b t
  | str b=>obtain ⟨t,rfl⟩:=rx;exact SeqAt.EqAt.bool_str a b t
  | _=>exact absurd (show false=true from fx) R0
 | int a=>
  obtain ⟨c,rfl⟩:=ry;cases x with
  | non=>cases rx;exact SeqAt.EqAt.int_none a c
  | bl b=>cases rx;exact SeqAt.EqAt.int_bool a c b
  | int b=>obtain ⟨t,rfl⟩:=rx;exact SeqAt.EqAt.int_int a c b t
  | str b=>obtain ⟨t,rfl⟩:=rx;exact j13 a c b t
  | _=>exact absurd (show false=true from fx) R0
 | str a=>
  obtain ⟨c,rfl⟩:=ry;cases x with
  | non=>cases rx;exact SeqAt.EqAt.str_none a c
  | bl b=>cases rx;exact SeqAt.EqAt.str_bool a c b
  | int b=>obtain ⟨t,rfl⟩:=rx;exact j12 a c b t
  | str b=>obtain ⟨t,rfl⟩:=rx;exact SeqAt.EqAt.str_str a c b t
  | _=>exact absurd (show false=true from fx) R0
 | _=>exact absurd (show false=true from fy) R0
noncomputable def eqU (x:V) (u:Value):Bool:=match u with
 | .none=>eqV .non x
 | .bool b=>eqV (.bl b) x
 | .int i _=>eqV (.int i) x
 | .str z _=>eqV (.str z) x
 | _=>false
theorem eqU_of {x y:V} {u:Value} (r:RelV y u) (f:flatV y=true):eqU x u=eqV y x:=by
 cases y with
 | non=>cases r;rfl
 | bl b=>cases r;rfl
 | int i=>obtain ⟨t,rfl⟩:=r;rfl
 | str z=>obtain ⟨t,rfl⟩:=r;rfl
 | _=>exact absurd (show false=true from f) R0
theorem zcd {x:V} :∀{xs:List V} {us:List Value},Vals xs us->xs.all flatV=true->us.any (eqU x)=xs.any λ y=>eqV y x
 | _,_,.nil,_=>rfl
 | y :: xs,u :: us,.cons r t,f=>by rw [Z8,W2] at f;rw [L7,L7,eqU_of r f.1,zcd t f.2]
theorem z7z {A:D2} {s:B0} {x:V} {v:Value} (rx:RelV x v) (fx:flatV x=true) :∀{xs:List V} {us:List Value},Vals xs us->xs.all flatV=true->∀u∈us,SeqAt.EqAt A s u v (eqU x u)
 | _,_,.nil,_=>λ u a=>by cases a
 | y :: xs,u :: us,.cons r t,f=>λ b a=>by
  rw [Z8,W2] at f;rcases List.mem_cons.mp a with rfl|a
  ·rw [eqU_of r f.1];exact eqAt_V r rx f.1 fx
  ·exact z7z rx fx t f.2 b a
noncomputable def inV (x:V) (xs:List V):Bool:=xs.any λ y=>eqV y x
noncomputable def rIn (K:d0) (neg:Bool):R2:=λ x y H Q=>∃p xs,y=.ref p/\(SqL K H p xs\/SqT K H p xs)/\flatV x=true/\xs.all flatV=true/\Q (.bl (if neg then !inV x xs else inV x xs)) H
theorem z8g:OpR X (n3 .In) (rIn X.K false):=by
 intro j s σ H x y v u Q I e i h;obtain ⟨p,k,rfl,b,f,fs,q⟩:=h;cases i;rcases b with b|b
 ·obtain ⟨a,r,c,g⟩:=I.list b;refine SeqAt.in_listAt (eqU x) c.isList (λ w d=>z7z e f r fs w (by simpa using d)) ⟨.bl _,H,I,rfl,?_⟩;rw [show a.toArray.any (eqU x)=a.any (eqU x) by simp,zcd r fs];exact q
 ·obtain ⟨a,r,c,g⟩:=I.tuple b;refine SeqAt.in_tupleAt (eqU x) c (λ w d=>z7z e f r fs w (by simpa using d)) ⟨.bl _,H,I,rfl,?_⟩;rw [show a.toArray.any (eqU x)=a.any (eqU x) by simp,zcd r fs];exact q
theorem call_len_seq:CallR X (.builtin "len") (λ xs H Q=>∃p ys,xs=[.ref p]/\(SqL X.K H p ys\/SqT X.K H p ys)/\Q (.int ys.length) H):=by
 intro k s σ H xs i Q I r h;obtain ⟨p,ys,rfl,a,q⟩:=h;obtain ⟨u,rfl,g⟩:=vals1 r;cases g;have j:=line63;rcases a with a|a
 ·obtain ⟨f,d,b,e⟩:=I.list a;have c:=d.length;exact Calls.call_len_list b.isList (by simp only [V0]<;>omega) ⟨.int ys.length,H,I.tok _,⟨s.toks + 1,by rw [V0,c]⟩,q⟩
 ·obtain ⟨f,d,b,e⟩:=I.tuple a;have c:=d.length;exact len_tuple b (by simp only [V0]<;>omega) ⟨.int ys.length,H,I.tok _,⟨s.toks + 1,by rw [V0,c]⟩,q⟩
theorem z7r:CallR X (.builtin "len") (λ xs H Q=>∃z,xs=[.str z]/\z.length<=sizeLine/\Q (.int z.length) H):=by intro d s σ H xs b Q I r h;obtain ⟨z,rfl,a,q⟩:=h;obtain ⟨u,rfl,t,rfl⟩:=vals1 r;have c:=line63;exact len_str (by omega) ⟨.int z.length,H,I.tok _,⟨_,rfl⟩,q⟩
theorem CallR.or {f:Value} {r r':List V->Hp->VK->Prop} (h:CallR X f r) (h':CallR X f r'):CallR X f (λ xs H Q=>r xs H Q\/r' xs H Q):=by
 intro c s σ H xs b Q I a q;rcases q with q|q
 ·exact h c s σ H xs b Q I a q
 ·exact h' c s σ H xs b Q I a q
theorem z2u:CallR X (.type "tuple") (λ xs H Q=>∃p ys,xs=[.ref p]/\((SqL X.K H p ys/\∀l,H l=none->Q (.ref l) (upd H l (.tup ys)))\/(SqT X.K H p ys/\Q (.ref p) H))):=by
 intro j s σ H xs v Q I r h;obtain ⟨p,ys,rfl,h⟩:=h;obtain ⟨u,rfl,n⟩:=vals1 r;cases n;rcases h with ⟨f,q⟩|⟨f,q⟩
 ·obtain ⟨d,g,c,k⟩:=I.list f;have t:=g.length;refine call_tuple_list c.isList (λ a kp=>?_) (by simp only [V0]<;>omega);have i:Inv X j σ H { s with heap:=a }:=I.kept (t':=s.toks) kp;have m:Inv X j σ (upd H a.objs.size (.tup ys)) { s with heap:=a.push { cls:=.type "tuple",data:=.seq d.toArray } }:=
   i.laid (t':=s.toks) (λ b o e=>A0 _ e) (D0 _) (show ObjOk X.prog X.w _ _ _ (.tup ys) from ⟨k,d,g,IsTupN.new _ _⟩)
  exact ⟨.ref a.objs.size,_,m,rfl,q _ (i.hok.fresh (D0 _))⟩
 ·obtain ⟨d,g,c,k⟩:=I.tuple f;exact call_tuple_same c ⟨.ref p,H,I,rfl,q⟩
def tyV (K:d0) (T:String) (x:V) (H:Hp):Prop:=match x with
 | .str _=>T = "str"
 | .int _=>T = "int"
 | .ref p=>(T = "list"/\∃xs,SqL K H p xs)\/(T = "tuple"/\∃o,K.lookup p=some o/\o.cls=.type "tuple"/\o.dict=none)\/
   (T = "dict"/\((∃kvs,H p=some (.dK kvs))\/∃kvs,H p=some (.dT kvs)))\/(T = "set"/\∃S n,H p=some (.set S n))
 | _=>False
theorem tyV_is {pins:List (Addr×Obj)} {σ:St} {H:Hp} {s:B0} {T:String} {x:V} {v:Value} (I:Inv X pins σ H s) (r:RelV x v) (ty:tyV X.K T x H) :
  s.TypeIs v T/\∀a,v=.ref a->∃ob,s.heap.get? a=some ob/\ob.dict=none:=by
 cases x with
 | str z=>obtain ⟨t,rfl⟩:=r;cases (show T = "str" from ty);exact ⟨typeIs_str s z t,λ _ e=>nomatch e⟩
 | int i=>obtain ⟨t,rfl⟩:=r;cases (show T = "int" from ty);exact ⟨typeIs_int s i t,λ _ e=>nomatch e⟩
 | ref p=>
  cases r;rcases ty with ⟨rfl,k,h⟩|⟨rfl,o,b,hc,hd⟩|⟨rfl,b⟩|⟨rfl,S,n,b⟩
  ·obtain ⟨l,_,g,_⟩:=I.list h;refine ⟨g.isList.typeIs,λ a e=>?_⟩;cases e;obtain ⟨o,n,e,c,hd,_⟩:=g;exact ⟨o,e,hd⟩
  ·refine ⟨⟨o,I.kIn p o b,hc⟩,λ a e=>?_⟩;cases e;exact ⟨o,I.kIn _ o b,hd⟩
  ·have z :∃o,s.heap.get? p=some o/\o.ExactDict:=by
    rcases b with ⟨j,b⟩|⟨j,b⟩
    ·obtain ⟨_,_,_,_,o,_,_,e,d,_⟩:=I.hok p _ b;exact ⟨o,e,d⟩
    ·obtain ⟨_,_,_,_,o,_,_,e,d,_⟩:=I.hok p _ b;exact ⟨o,e,d⟩
   obtain ⟨o,e,d⟩:=z;refine ⟨⟨o,e,d.1⟩,λ a f=>?_⟩;cases f;exact ⟨o,e,d.2.1⟩
  ·obtain ⟨o,_,_,_,e,d,_⟩:=I.hok p _ b;refine ⟨⟨o,e,d.1⟩,λ a f=>?_⟩;cases f;exact ⟨o,e,d.2.1⟩
 | _=>exact y4 ty
noncomputable def tBM (K:d0) (T:String) (r:V->List V->Hp->VK->Prop) (to:TE) (t:TA):TE:=λ σ H Q=>to σ H λ x H1=>tyV K T x H1/\t σ H1 λ xs H2=>r x xs H2 Q
variable {o e:Expr} {es:List Expr} {to:TE} {t:TA} {name:Str} {apos cpos:Pos} {T id:String} {r:V->List V->Hp->VK->Prop}
theorem pe_bm (pa:PlainAttrs T) (slot:Slot T name id) (hty:typeOf (.builtin id)=S3 (.type "method_descriptor")) (hm:MtR X id r) (ho:PE X o to) (ha:PA X (e :: es) t)
  (hbase:d6 o name X.env (V3 o X.env)=V3 o X.env:=by rfl)
  (hfew:((z4 cpos (E1 (e :: es) X.env)).all (λ x=>!x.1) && (j02 cpos (b8 [] X.env)).all (λ x=>x.1.isSome)
   && decide ((e :: es).length + ([]:List K6).length + (if ([]:List K6).isEmpty then 0 else 1) < 30))=true:=by rfl)
  (hline:(apos.endLine == cpos.line)=true:=by rfl) (hs:E1 (e :: es) X.env=(false,V3 e X.env) :: E1 es X.env:=by rfl) (hplain:(z4 cpos (E1 es X.env)).any (·.1)=false:=by rfl) :
  PE X (.Call (.Attribute o name apos) (e :: es) [] cpos) (tBM X.K T r to t):=by
 intro a s σ H Q I h;refine wpAny_Call_method_late hbase hfew hline rfl (thn (ho a s σ H _ I h) λ v d ⟨x,H1,I1,r1,ty,q1⟩=>?_);obtain ⟨g,i⟩:=tyV_is I1 r1 ty;refine ⟨T,id,pa,slot,hty,g,i,?_⟩;have b:=ha cpos a d σ H1 _ I1 q1;rw [hs] at b⊢;refine Y7 (by show (false || (z4 cpos (E1 es X.env)).any (·.1))=false;rw [hplain]<;>rfl) (L8 ?_);exact thn b λ c f ⟨vs,H2,I2,r2,q2⟩=>hm a f σ H2 x vs v c Q I2 r1 r2 q2
end
def MtM (X:Cx) (id:String) (r:V->List V->Hp->VK->Prop):Prop:=
 ∀(pins:List (Addr×Obj)) (s:B0) (σ:St) (H:Hp) (x:V) (xs:List V) (v:Value) (us:List Value) (Q:VK),Inv X pins σ H s->RelV x v->Vals xs us->r x xs H Q->
  Q0 (Z0 X.prog X.w) X.A (call (.builtin id) (v :: us)) (EP X pins σ Q) X.xe s
theorem Vals.one :∀{x:V} {us:List Value},Vals [x] us->∃u,us=[u]/\RelV x u
 | _,_,.cons r .nil=>⟨_,rfl,r⟩
theorem Vals.two :∀{x y:V} {us:List Value},Vals [x,y] us->∃u v,us=[u,v]/\RelV x u/\RelV y v
 | _,_,_,.cons r (.cons q .nil)=>⟨_,_,rfl,r,q⟩
section
variable {X:Cx} {pins:List (Addr×Obj)} {σ:St} {H:Hp} {s:B0} {l b:Addr} {xs ys zs:List V}
theorem Inv.lset {its its':List Value} {n:Nat} {f:Array Value->Array Value} {t':Nat} (I:Inv X pins σ H s) (hH:H l=some (.lst xs))
  (e:s.heap.get? l=some { cls:=.type "list",data:=.seq its.toArray n }) (hf:f its.toArray=its'.toArray) (hv:Vals ys its') (hz:ys.length<=sizeLine) :
  Inv X pins σ (upd H l (.lst ys)) { s with heap:=s.heap.update l (W1 f),toks:=t' }:=by
 have q:=PySem.IsL.update e f;rw [hf] at q;refine I.write (x:=l) (e:=l) (by rw [hH];exact trivial) (.inl rfl) (λ c u a b=>(f8 s.heap (W1 f) (c4 a)).trans b) ⟨_,q⟩ ?_;exact ⟨hz,its',_,hv,q⟩
theorem Inv.lnew {its:List Value} {t':Nat} (I:Inv X pins σ H s) (hv:Vals ys its) (hz:ys.length<=sizeLine) :
  Inv X pins σ (upd H s.heap.objs.size (.lst ys)) { s with heap:=s.heap.push { cls:=.type "list",data:=.seq its.toArray },toks:=t' }:=
 I.laid (λ _ _ q=>A0 _ q) (D0 _) ⟨hz,its,0,hv,P0 _ rfl⟩
theorem Inv.fresh (I:Inv X pins σ H s):H s.heap.objs.size=none:=I.hok.fresh (D0 _)
theorem Inv.lstM (I:Inv X pins σ H s) (hH:H l=some (.lst xs)):xs.length<=sizeLine/\∃(its:List Value) (n:Nat),Vals xs its/\xs.length=its.length/\s.heap.get? l=some { cls:=.type "list",data:=.seq its.toArray n }:=by obtain ⟨z,its,n,r,e⟩:=I.hok l _ hH;exact ⟨z,its,n,r,r.length,e⟩
end
section
variable {X:Cx}
def z6p:V->List V->Hp->VK->Prop:=λ x vs H Q=>∃l xs y,x=.ref l/\vs=[y]/\H l=some (.lst xs)/\xs.length < sizeLine/\Q .non (upd H l (.lst (xs++[y])))
theorem zed:MtM X "list.append" z6p:=by intro k s σ H x g v i Q I d f h;obtain ⟨l,o,y,rfl,rfl,a,m,q⟩:=h;cases d;obtain ⟨u,rfl,c⟩:=f.one;obtain ⟨z,b,n,r,j,e⟩:=I.lstM a;refine j23 F.slot_list_append ⟨_,e,rfl⟩ F.entry_list_append (F.args_list_append_2 _ _) (PySem.list_append l b.toArray n u (by rw [V0];omega)) ⟨e,?_⟩;refine ⟨.non,_,I.lset (its':=b++[u]) a e (by simp) (r.append (.cons c .nil)) ?_,rfl,q⟩;rw [N0,j2d];omega
noncomputable def rCat:R2:=λ x y H Q=>∃l b xs zs,x=.ref l/\y=.ref b/\H l=some (.lst xs)/\H b=some (.lst zs)/\xs.length + zs.length<=sizeLine/\∀p,H p=none->Q (.ref p) (upd H p (.lst (xs++zs)))
theorem op_cat:OpR X (c7 .Add) rCat:=by
 intro B s σ H x y v u Q I g k h;obtain ⟨l,b,D,p,rfl,rfl,f,m,C,q⟩:=h;cases g;cases k;obtain ⟨z,a,n,r,w,e⟩:=I.lstM f;obtain ⟨t,c,o,d,A,i⟩:=I.lstM m;refine PySem.P.add_list e i ?_ (by rw [V0,V0];omega);have j:a.toArray++c.toArray=(a++c).toArray:=by simp
 rw [j];exact ⟨.ref _,_,I.lnew (t':=s.toks) (r.append d) (by rw [N0];omega),rfl,q _ I.fresh⟩
end
section
variable {prog:Program} {w:W0} {A:D2} {E:Value->B0->Prop} {s:B0}
set_option maxRecDepth 100000 in
end
section
variable {κ:Type} [DecidableEq κ]
noncomputable def valV (kvs:List (κ×V)) (k:κ):Option V:=(kvs.find? λ kv=>decide (kv.1=k)).map (·.2)
noncomputable def putK (kvs:List (κ×V)) (k:κ) (v:V):List (κ×V):=
 if (kvs.any λ kv=>decide (kv.1=k))=true then kvs.map (λ kv=>if kv.1=k then (kv.1,v) else kv) else kvs++[(k,v)]
theorem z0r {p:κ×V} {r:List (κ×V)} {k:κ} (e:p.1=k):valV (p :: r) k=some p.2:=by simp [valV,E4,e]
theorem z0s {p:κ×V} {r:List (κ×V)} {k:κ} (e:¬ p.1=k):valV (p :: r) k=valV r k:=by simp [valV,E4,e]
theorem z59 (k:κ) :∀kvs:List (κ×V),(kvs.any λ kv=>decide (kv.1=k))=(valV kvs k).isSome
 | []=>rfl
 | p :: r=>by
  rw [L7];by_cases e:p.1=k
  ·simp only [z0r e,decide_eq_true e,Bool.true_or,Option.isSome_some]
  ·rw [z0s e,decide_eq_false e,Bool.false_or];exact z59 k r
theorem zay (k j:κ) (y:V) :∀kvs:List (κ×V),valV (kvs.map λ kv=>if kv.1=k then (kv.1,y) else kv) j=(valV kvs j).map λ x=>if j=k then y else x
 | []=>rfl
 | p :: r=>by
  have a:=zay k j y r;rw [N1];by_cases h:p.1=k
  ·rw [if_pos h];by_cases e:p.1=j
   ·rw [z0r (p:=(p.1,y)) e,z0r e,N6,if_pos (e.symm.trans h)]
   ·rw [z0s (p:=(p.1,y)) e,z0s e,a]
  ·rw [if_neg h];by_cases e:p.1=j
   ·rw [z0r (p:=p) e,z0r e,N6,if_neg (λ z=>h (e.trans z))]
   ·rw [z0s (p:=p) e,z0s e,a]
theorem z8j (k j:κ) (y:V) :∀kvs:List (κ×V),valV kvs k=none->valV (kvs++[(k,y)]) j=if j=k then some y else valV kvs j
 | [],_=>by
  by_cases e:k=j
  ·rw [if_pos e.symm];exact z0r (p:=(k,y)) e
  ·rw [if_neg (λ z=>e z.symm)];exact z0s (p:=(k,y)) e
 | p :: r,hn=>by
  rw [List.cons_append];have a:¬ p.1=k:=λ z=>by rw [z0r z] at hn;cases hn
  rw [z0s a] at hn;have b:=z8j k j y r hn;by_cases e:p.1=j
  ·rw [z0r e,z0r e,if_neg (λ z=>a (e.trans z))]
  ·rw [z0s e,z0s e,b]
theorem zb8 (kvs:List (κ×V)) (k j:κ) (y:V):valV (putK kvs k y) j=if j=k then some y else valV kvs j:=by
 unfold putK;by_cases a:(kvs.any λ c=>decide (c.1=k))=true
 ·rw [if_pos a,zay];rw [z59] at a;by_cases e:j=k
  ·obtain ⟨x,b⟩:=Option.isSome_iff_exists.mp a;rw [if_pos e,e,b,N6,if_pos rfl]
  ·rw [if_neg e];cases valV kvs j with
   | none=>rfl
   | some x=>rw [N6,if_neg e]
 ·rw [if_neg a];refine z8j k j y kvs ?_;rw [z59] at a;cases q:valV kvs k with
  | none=>rfl
  | some x=>rw [q] at a;exact (a rfl).elim
theorem z1o (kvs:List (κ×V)) (k:κ) (v:V):(putK kvs k v).length<=kvs.length + 1:=by
 unfold putK;split
 ·rw [O0];omega
 ·rw [N0,T0,C3];omega
theorem RelO.isSome_eq {o:Option V} {u:Option Value} (r:RelO o u):o.isSome=u.isSome:=by
 cases o with
 | none=>cases u with
  | none=>rfl
  | some _=>exact (show False from r).elim
 | some _=>cases u with
  | none=>exact (show False from r).elim
  | some _=>rfl
theorem RelO.getD {o:Option V} {u:Option Value} {d:V} {d':Value} (r:RelO o u) (rd:RelV d d'):RelV (o.getD d) (u.getD d'):=by
 cases o with
 | none=>cases u with
  | none=>exact rd
  | some _=>exact (show False from r).elim
 | some _=>cases u with
  | none=>exact (show False from r).elim
  | some _=>exact r
theorem KV.val {kvs:List (κ×V)} {vs:List (κ×Value)} (r:KV kvs vs) (k:κ):RelO (valV kvs k) (Z9 vs k):=by
 unfold KV at r;induction r with
 | nil=>exact True.intro
 | @cons p q ps qs h t ih=>
  obtain ⟨c,d⟩:=h;by_cases e:p.1=k
  ·have a:q.1=k:=c.symm.trans e;have b:Z9 (q :: qs) k=some q.2:=by simp [Z9,E4,a]
   rw [z0r e,b];exact d
  ·have a:¬ q.1=k:=λ z=>e (c.trans z);have b:Z9 (q :: qs) k=Z9 qs k:=by simp [Z9,E4,a]
   rw [z0s e,b];exact ih
theorem KV.any {kvs:List (κ×V)} {vs:List (κ×Value)} (r:KV kvs vs) (k:κ):(kvs.any λ kv=>decide (kv.1=k))=vs.any λ kv=>decide (kv.1=k):=by
 unfold KV at r;induction r with
 | nil=>rfl
 | cons h t ih=>rw [L7,L7,ih,h.1]
theorem KV.repl {kvs:List (κ×V)} {vs:List (κ×Value)} (r:KV kvs vs) (k:κ) {y:V} {u:Value} (ry:RelV y u) :
  KV (kvs.map λ kv=>if kv.1=k then (kv.1,y) else kv) (vs.map λ kv=>if kv.1=k then (kv.1,u) else kv):=by
 unfold KV at r⊢;induction r with
 | nil=>exact .nil
 | @cons p q ps qs h t ih=>
  rw [N1,N1];refine .cons ?_ ih;obtain ⟨a,b⟩:=h;by_cases e:p.1=k
  ·rw [if_pos e,if_pos (a.symm.trans e)];exact ⟨a,ry⟩
  ·rw [if_neg e,if_neg (λ z=>e (a.trans z))];exact ⟨a,b⟩
theorem KV.put {kvs:List (κ×V)} {vs:List (κ×Value)} (r:KV kvs vs) (k:κ) {y:V} {u:Value} (ry:RelV y u):KV (putK kvs k y) (stored vs k u):=by
 unfold putK stored;rw [r.any k];by_cases e:(vs.any λ a=>decide (a.1=k))=true
 ·rw [if_pos e,if_pos e];exact r.repl k ry
 ·rw [if_neg e,if_neg e];exact Paired.snoc r ⟨rfl,ry⟩
theorem KV.length {kvs:List (κ×V)} {vs:List (κ×Value)} (r:KV kvs vs):kvs.length=vs.length:=E7 r
end
theorem kV_is {P:Program} {w:W0} {k:Key} {u:Value} (r:RelV (kV k) u):(z0d P w).is k u=true:=by
 cases k with
 | inl i=>obtain ⟨t,e⟩:=(show∃t,u=P7 i t from r);subst e;exact z99 P w i t
 | inr x=>obtain ⟨t,e⟩:=(show∃t,u=v9 x t from r);subst e;exact z9f P w x t
theorem z93 {P:Program} {w:W0} :∀{ks:List Key} {us:List Value},Vals (ks.map kV) us->ItemsAre (z0d P w) ks us
 | [],_,r=>by rw [d8] at r;cases r;exact .nil
 | k :: ks,_,r=>by
  rw [N1] at r;cases r with
  | cons h t=>exact .cons (kV_is h) (z93 t)
abbrev KT (H:Hp):List (List Key×V)->List (List Key×Addr×Value)->Prop:=t8 λ p q=>p.1=q.1/\H q.2.1=some (.tup (p.1.map kV))/\RelV p.2 q.2.2
theorem KT.val {H:Hp} {kvs:List (List Key×V)} {xs:List (List Key×Addr×Value)} (r:KT H kvs xs) (k:List Key):RelO (valV kvs k) ((D9 xs k).map (·.2)):=by
 induction r with
 | nil=>exact True.intro
 | @cons p q ps qs h t ih=>
  obtain ⟨c,_,d⟩:=h;by_cases e:p.1=k
  ·have a:q.1=k:=c.symm.trans e;have b:D9 (q :: qs) k=some q.2:=by simp [D9,E4,a]
   rw [z0r e,b];exact d
  ·have a:¬ q.1=k:=λ z=>e (c.trans z);have b:D9 (q :: qs) k=D9 qs k:=by simp [D9,E4,a]
   rw [z0s e,b];exact ih
theorem KT.repl {H:Hp} {kvs:List (List Key×V)} {xs:List (List Key×Addr×Value)} (r:KT H kvs xs) (k:List Key) {y:V} {u:Value} (ry:RelV y u) :
  KT H (kvs.map λ kv=>if kv.1=k then (kv.1,y) else kv) (xs.map (putAt k u)):=by
 induction r with
 | nil=>exact .nil
 | @cons p q ps qs h t ih=>
  rw [N1,N1];refine .cons ?_ ih;obtain ⟨a,b,c⟩:=h;unfold putAt;by_cases e:p.1=k
  ·rw [if_pos e,if_pos (a.symm.trans e)];exact ⟨a,b,ry⟩
  ·rw [if_neg e,if_neg (λ z=>e (a.trans z))];exact ⟨a,b,c⟩
theorem KT.put {H:Hp} {kvs:List (List Key×V)} {xs:List (List Key×Addr×Value)} (r:KT H kvs xs) (k:List Key) {b:Addr} {y:V} {u:Value} (hb:H b=some (.tup (k.map kV))) (ry:RelV y u) :
  KT H (putK kvs k y) (storedH xs k b u):=by
 have e:(kvs.any λ a=>decide (a.1=k))=(D9 xs k).isSome:=by rw [z59,(r.val k).isSome_eq,c9]
 unfold putK storedH;rw [e];by_cases q:(D9 xs k).isSome=true
 ·rw [if_pos q,if_pos q];exact r.repl k ry
 ·rw [if_neg q,if_neg q];exact Paired.snoc r ⟨rfl,hb,ry⟩
theorem KT.keeps {H H':Hp} {kvs:List (List Key×V)} {xs:List (List Key×Addr×Value)} (r:KT H kvs xs) (ht :∀b ys,H b=some (.tup ys)->H' b=some (.tup ys)):KT H' kvs xs:=
 Paired.mapP r λ _ _ z=>⟨z.1,ht _ _ z.2.1,z.2.2⟩
section
variable {P:Program} {w:W0} {H:Hp} {h:Heap} {a:Addr}
theorem rd_of {u:HO} (ok:HOk P w H h) (e:Rd H a u):ObjOk P w H h a u:=e.ok ok
theorem dk_rd {kvs:List (Key×V)} (ok:HOk P w H h) (e:Rd H a (.dK kvs)):kvs.length<=sizeLine/\(a == S4)=false/\∃vs,KV kvs vs/\h.DictOf (z0d P w) a vs:=
 show ObjOk P w H h a (.dK kvs) from rd_of ok e
theorem dk_of {kvs:List (Key×V)} (ok:HOk P w H h) (e:H a=some (.dK kvs)):kvs.length<=sizeLine/\(a == S4)=false/\∃vs,KV kvs vs/\h.DictOf (z0d P w) a vs:=dk_rd ok (.inl e)
theorem key_of {ks:List Key} (ok:HOk P w H h) (e:H a=some (.tup (ks.map kV))):(y6 (z0d P w)).is h ks a:=by
 obtain ⟨_,d,r,⟨o,c,f,n,b⟩,_⟩:=(show ObjOk P w H h a (.tup (ks.map kV)) from ok a _ e)
 exact ⟨o,d.toArray,n,c,f,b,by simpa using z93 r⟩
theorem dt_rd {kvs:List (List Key×V)} (ok:HOk P w H h) (e:Rd H a (.dT kvs)):kvs.length<=sizeLine/\(a == S4)=false/\
  ∃xs,KT H kvs xs/\h.DictOfH (y6 (z0d P w)) a xs:=by
 obtain ⟨z,y,xs,r,o,f,j,i,k,d,g,c⟩:=(show ObjOk P w H h a (.dT kvs) from rd_of ok e)
 refine ⟨z,y,xs,r,o,f,j,i,k,d,g,λ x b=>?_,c⟩;have all :∀{l:List (List Key×V)} {m:List (List Key×Addr×Value)},KT H l m->∀x∈m,(y6 (z0d P w)).is h x.1 x.2.1:=by
  intro l m q;induction q with
  | nil=>intro x b;exact nomatch b
  | @cons p q ps qs hq t ih=>
   intro x b;rcases List.mem_cons.mp b with e|b
   ·subst e;exact key_of ok (by rw [<-hq.1];exact hq.2.1)
   ·exact ih x b
 exact all r x b
theorem dt_of {kvs:List (List Key×V)} (ok:HOk P w H h) (e:H a=some (.dT kvs)):kvs.length<=sizeLine/\(a == S4)=false/\
  ∃xs,KT H kvs xs/\h.DictOfH (y6 (z0d P w)) a xs:=dt_rd ok (.inl e)
end
def DGet (H:Hp) (a:Addr) (y:V) (r:Option V):Prop:=
 (∃kvs k,Rd H a (.dK kvs)/\y=kV k/\r=valV kvs k)\/∃kvs k b,Rd H a (.dT kvs)/\y=.ref b/\H b=some (.tup (k.map kV))/\r=valV kvs k
def DPut (H:Hp) (a:Addr) (y v:V) (H':Hp):Prop:=
 (∃kvs k,H a=some (.dK kvs)/\y=kV k/\kvs.length < sizeLine/\H'=upd H a (.dK (putK kvs k v)))\/
 ∃kvs k b,H a=some (.dT kvs)/\y=.ref b/\H b=some (.tup (k.map kV))/\kvs.length < sizeLine/\H'=upd H a (.dT (putK kvs k v))
theorem DGet.k {H:Hp} {a:Addr} {kvs:List (Key×V)} {k:Key} (e:H a=some (.dK kvs)):DGet H a (kV k) (valV kvs k):=.inl ⟨kvs,k,.inl e,rfl,rfl⟩
theorem DPut.k {H:Hp} {a:Addr} {kvs:List (Key×V)} {k:Key} {v:V} (e:H a=some (.dK kvs)) (hl:kvs.length < sizeLine):DPut H a (kV k) v (upd H a (.dK (putK kvs k v))):=.inl ⟨kvs,k,e,rfl,hl,rfl⟩
section
variable {X:Cx} {pins:List (Addr×Obj)} {σ:St} {H:Hp} {s:B0} {a:Addr} {y v:V} {u r:Value} {o:Option V} {A:D2} {E:Value->B0->Prop}
theorem Inv.big (I:Inv X pins σ H s):S4 < s.heap.objs.size:=by have h:B2 < s.heap.objs.size:=(I.mod.glob.keeps I.bk).lt;exact w6 (by decide) h
theorem ze1 {Q:Value->B0->Prop} (hu:A.units + 1 < cLine) (I:Inv X pins σ H s) (g:DGet H a y (some v)) (ry:RelV y u) (h :∀w' s',Inv X pins σ H s'->RelV v w'->Q w' s') :
  Q0 (Z0 X.prog X.w) A (o9 (.ref a) u) Q E s:=by
 rcases g with ⟨r,k,e,c,l⟩|⟨r,k,b,e,c,eb,l⟩
 ·subst c;obtain ⟨z,hd,n,f,j⟩:=dk_rd I.hok e;obtain ⟨w',d,i⟩:=RelO.some_of (v:=v) (o:=Z9 n k) (by rw [l];exact f.val k);exact wpAny_getItem_of (kV_is ry) j.mapOf d (h w' _ (I.tok _) i)
 ·subst c;cases (show u=Value.ref b from ry);obtain ⟨z,hd,t,f,j⟩:=dt_rd I.hok e;obtain ⟨w',d,i⟩:=RelO.some_of (v:=v) (o:=(D9 t k).map (·.2)) (by rw [l];exact f.val k);obtain ⟨p,m,q⟩:=Option.map_eq_some_iff.mp d;refine wpAny_getItem_heap (N7 hu) (key_of I.hok eb) j m ?_;rw [q];exact h w' _ (I.tok _) i
theorem zgn {Q:Value->B0->Prop} (hu:A.units + 1 < cLine) (I:Inv X pins σ H s) (g:DGet H a y o) (ry:RelV y u) (h :∀s',Inv X pins σ H s'->Q (.bool (!o.isSome)) s') :
  Q0 (Z0 X.prog X.w) A (n3 .NotIn u (.ref a)) Q E s:=by
 rcases g with ⟨i,k,e,c,l⟩|⟨i,k,b,e,c,eb,l⟩
 ·subst c;obtain ⟨z,hd,j,d,f⟩:=dk_rd I.hok e;refine wpAny_notIn_of (kV_is ry) hd f.mapOf ?_;rw [<-(d.val k).isSome_eq,<-l];exact h _ (I.tok _)
 ·subst c;cases (show u=Value.ref b from ry);obtain ⟨z,hd,m,d,f⟩:=dt_rd I.hok e;refine wpAny_notIn_heap (N7 hu) (key_of I.hok eb) hd f ?_;have q:=(d.val k).isSome_eq;rw [c9] at q;rw [<-q,<-l];exact h _ (I.tok _)
theorem zax {h':Heap} {t':Nat} {ob:HO} (I:Inv X pins σ H s) (mu:Mut (H a)) (hs:j6 a s.heap h') (he :∃q,h'.get? a=some q) (new:ObjOk X.prog X.w (upd H a ob) h' a ob) :
  Inv X pins σ (upd H a ob) { s with heap:=h',toks:=t' }:=
 I.write (x:=a) (e:=a) mu (.inl rfl) (λ b q c z=>(hs.2 b c).trans z) he new
theorem dk_new {P:Program} {w:W0} {H':Hp} {h':Heap} {kvs:List (Key×V)} {vs:List (Key×Value)} (z:kvs.length<=sizeLine) (hd:(a == S4)=false) (rel:KV kvs vs) (dd:h'.DictOf (z0d P w) a vs) :
  ObjOk P w H' h' a (.dK kvs):=⟨z,hd,vs,rel,dd⟩
theorem zdt {H':Hp} {Q:Unit->B0->Prop} (hu:A.units + 1 < cLine) (I:Inv X pins σ H s) (g:DPut H a y v H') (ry:RelV y u) (rv:RelV v r) (h :∀s',Inv X pins σ H' s'->Q () s') :
  Q0 (Z0 X.prog X.w) A (setItem (.ref a) u r) Q E s:=by
 rcases g with ⟨f,k,e,n,l,m⟩|⟨f,k,b,e,n,eb,l,m⟩
 ·subst n m;obtain ⟨z,hd,F,d,t⟩:=dk_of I.hok e;have x:F.length<=sizeLine:=by rw [<-d.length];exact z
  have p:(putK f k v).length<=sizeLine:=by have:=z1o f k v;omega
  refine wpAny_setItem_pairs (hsz:=x) (kV_is ry) t λ C j o=>h _ ?_;have G :∃q,C.get? a=some q:=let ⟨q,_,_,i,_⟩:=j;⟨q,i⟩;exact zax I (by rw [e];exact True.intro) o G (dk_new p hd (d.put k rv) j)
 ·subst n m;cases (show u=Value.ref b from ry);obtain ⟨z,hd,N,d,t⟩:=dt_of I.hok e;have x:N.length<=sizeLine:=by rw [<-E7 d];exact z
  have p:(putK f k v).length<=sizeLine:=by have:=z1o f k v;omega
  refine wpAny_setItem_heap (hsz:=x) (N7 hu) (key_of I.hok eb) t λ C j o=>h _ ?_;obtain ⟨q,D,M,i,O,L,J,_,K⟩:=j;refine zax I (by rw [e];exact True.intro) o ⟨q,i⟩ ⟨p,hd,_,(d.put k eb rv).keeps λ c P B=>?_,q,D,M,i,O,L,J,K⟩;rw [upd_ne (ne_of B e (λ z=>nomatch z))];exact B
end
def NoSl (i:Expr):Prop:=∀ov iv,j11 i false ov iv=operate [ov,iv] (o9 ov iv)
theorem zh6 {prog:Program} {w:W0} {A:D2} {E:Value->B0->Prop} {s:B0} {env:Env} {value slice:Expr} {pos:Pos} {T id:String} {Q:Value->B0->Prop}
  (hl:j1i (.type T) "__getitem__" = S3 (some (.builtin id))) (hs:NoSl slice)
  (h:Q0 (Z0 prog w) A (V3 value env) (λ o s₁=>Q0 (Z0 prog w) A (V3 slice env) (λ i s₂=>s₂.TypeIs o T/\Q0 (Z0 prog w) A (o9 o i) Q E s₂) E s₁) E s) :
  Q0 (Z0 prog w) A (V3 (.Subscript value slice pos) env) Q E s:=by
 refine Subscript_ (t3 h (λ o s₁ d=>t3 d (λ i s₂ a=>?_) λ _ _ x=>x) λ _ _ x=>x);obtain ⟨b,a⟩:=a;unfold subscriptTail;refine o0 ?_;rw [getitemInPython_of_ne b.not_modules];refine o0 (wpAny_specialOf b hl ?_);have fin:Q0 (Z0 prog w) A (j11 slice false o i) (λ r c=>Q0 (Z0 prog w) A (letTemporaryGo value o r >>= λ _=>S3 r) Q E c) E s₂:=by rw [hs o i];exact wpAny_operating (t3 a (λ r c e=>o0 (wpAny_letTemporaryGo (C0 e))) λ _ _ x=>x)
 first
  | exact C0 (o0 fin)
  | exact o0 (C0 (o0 fin))
  | exact o0 fin
theorem z9z {X:Cx} {pins:List (Addr×Obj)} {σ:St} {H:Hp} {s:B0} {a:Addr} {y:V} {o:Option V} (I:Inv X pins σ H s) (g:DGet H a y o):s.TypeIs (.ref a) "dict":=by
 rcases g with ⟨d,k,e,_,_⟩|⟨d,k,b,e,_,_,_⟩
 ·obtain ⟨_,_,f,_,c⟩:=dk_rd I.hok e;exact c.typeIs
 ·obtain ⟨_,_,h,_,c⟩:=dt_rd I.hok e;exact c.typeIs
noncomputable def tDGet (td ty:TE):TE:=λ σ H Q=>td σ H λ x H1=>ty σ H1 λ y H2=>∃a v,x=.ref a/\DGet H2 a y (some v)/\Q v H2
noncomputable def zgv (ty td:TE):TE:=λ σ H Q=>ty σ H λ y H1=>td σ H1 λ x H2=>∃a o,x=.ref a/\DGet H2 a y o/\Q (.bl (!o.isSome)) H2
noncomputable def sDPut (td ty tv:TE):TS:=λ D σ H=>tv σ H λ v H1=>td σ H1 λ x H2=>ty σ H2 λ y H3=>∃a H4,x=.ref a/\DPut H3 a y v H4/\D.nx σ H4
section
variable {X:Cx} {o i e value:Expr} {pos pos' tpos:Pos} {td ty tv:TE}
theorem zaj (hu:X.A.units + 1 < cLine) (ho:PE X o td) (hi:PE X i ty) (hs:NoSl i):PE X (.Subscript o i pos) (tDGet td ty):=by intro b s σ H Q I h;refine zh6 PySem.F.slot_dict_getitem.lookup hs (thn (ho b s σ H _ I h) λ u d ⟨x,H1,I1,rx,q1⟩=>thn (hi b d σ H1 _ I1 q1) λ f k ⟨y,H2,I2,ry,a,v,ex,g,q2⟩=>?_);subst ex;obtain rfl:u=Value.ref a:=rx;exact ⟨z9z I2 g,ze1 hu I2 g ry λ j l e c=>⟨v,H2,e,c,q2⟩⟩
theorem z89 (hu:X.A.units + 1 < cLine) (hi:PE X i ty) (ho:PE X o td):PC X .NotIn i o (zgv ty td):=by intro b s σ H Q I h;refine thn (hi b s σ H _ I h) λ e c ⟨y,H1,I1,ry,q1⟩=>thn (ho b c σ H1 _ I1 q1) λ u f ⟨x,H2,I2,rx,a,ov,ex,g,q2⟩=>?_;subst ex;obtain rfl:u=Value.ref a:=rx;exact zgn hu I2 g ry λ j d=>⟨.bl (!ov.isSome),H2,d,rfl,q2⟩
theorem zao (hu:X.A.units + 1 < cLine) (ho:PE X o td) (hi:PE X i ty) (hv:PE X value tv) (hs:m9 value (some (.Subscript o i pos')) pos.line X.env=S3 false) :
  PS X (.Assign [.Subscript o i pos'] value pos) (sDPut td ty tv):=by
 intro b s σ H D I h;refine wpAny_Assign_Subscript (thn (hv b s σ H _ I h) λ r c ⟨v,H1,I1,rv,q1⟩=>thn (ho b c σ H1 _ I1 q1) λ u d ⟨x,H2,I2,rx,q2⟩=>thn (hi b d σ H2 _ I2 q2) λ f k ⟨y,H3,I3,ry,a,H4,ex,g,q3⟩=>?_) hs;subst ex;obtain rfl:u=Value.ref a:=rx;exact zdt hu I3 g ry rv λ j e=>⟨σ,H4,e,q3⟩
end
theorem zav {P:Program} {w:W0} {H:Hp} (h:Heap) (hb:S4 < h.objs.size):ObjOk P w H (h.push { cls:=.type "dict",data:=.dict #[] }) h.objs.size (.dK []):=
 ⟨Z1 _,beq_eq_false_iff_ne.mpr (c4 (U0 hb)),[],.nil,j1d h⟩
noncomputable def tDNewK:TE:=λ _ H Q=>∀p,H p=none->Q (.ref p) (upd H p (.dK []))
section
variable {X:Cx} {pos:Pos}
theorem zae:PE X (.Dict [] [] pos) tDNewK:=λ b s σ H Q I h=>wpAny_Dict_empty ⟨.ref s.heap.objs.size,_,I.laid (a:=s.heap.objs.size) (o:=.dK []) (t':=s.toks) (λ _ _ q=>A0 _ q) (D0 _) (zav s.heap I.big),rfl,h _ (I.hok.fresh (D0 _))⟩
end
noncomputable def tPairs:List (TE×TE)->St->Hp->(List (V×V)->Hp->Prop)->Prop
 | [],_,H,Q=>Q [] H
 | (tk,tv) :: r,σ,H,Q=>tk σ H λ x H1=>tv σ H1 λ y H2=>tPairs r σ H2 λ ps H3=>Q ((x,y) :: ps) H3
abbrev VV:List (V×V)->List (Value×Value)->Prop:=t8 λ p q=>RelV p.1 q.1/\RelV p.2 q.2
def PPs (X:Cx) (pos:Pos) (keys:List (Option Expr)) (values:List Expr) (trs:List (TE×TE)):Prop:=
 ∀(pins:List (Addr×Obj)) (s:B0) (σ:St) (H:Hp) (Q:List (V×V)->Hp->Prop),Inv X pins σ H s->tPairs trs σ H Q->
  Q0 (Z0 X.prog X.w) X.A (evalPairs (pairTrees keys values X.env pos)) (λ vs s'=>∃ps H',Inv X pins σ H' s'/\VV ps vs/\Q ps H') X.xe s
theorem zgp {X:Cx} {pos:Pos}:PPs X pos [] [] []:=λ a s σ H Q I h=>pairTrees_nil_walk ⟨[],H,I,.nil,h⟩
theorem zfl {X:Cx} {pos:Pos} {k v:Expr} {ks:List (Option Expr)} {vs:List Expr} {tk tv:TE} {trs:List (TE×TE)} (hk:PE X k tk) (hv:PE X v tv) (hr:PPs X pos ks vs trs) :
  PPs X pos (some k :: ks) (v :: vs) ((tk,tv) :: trs):=λ a s σ H Q I h=>
 pairTrees_cons_walk (thn (hk a s σ H _ I h) λ u b ⟨x,H1,I1,rx,q1⟩=>thn (hv a b σ H1 _ I1 q1) λ d c ⟨y,H2,I2,ry,q2⟩=>thn (hr a c σ H2 _ I2 q2) λ ws e ⟨ps,H3,I3,rel,q3⟩=>⟨(x,y) :: ps,H3,I3,.cons ⟨rx,ry⟩ rel,q3⟩)
noncomputable def mergeK (kvs more:List (Key×V)):List (Key×V):=more.foldl (λ acc kv=>putK acc kv.1 kv.2) kvs
theorem KV.merge :∀{more:List (Key×V)} {rs:List (Key×Value)} {kvs:List (Key×V)} {vs:List (Key×Value)},KV more rs->KV kvs vs->KV (mergeK kvs more) (merged vs rs):=by
 intro more rs kvs vs r;unfold KV at r;induction r generalizing kvs vs with
 | nil=>intro q;exact q
 | @cons p q ps qs h t ih=>
  intro a;have e:KV (putK kvs p.1 p.2) (stored vs q.1 q.2):=by have:=a.put p.1 h.2;rw [<-h.1];exact this
  exact ih e
theorem z2r :∀(more kvs:List (Key×V)),(mergeK kvs more).length<=kvs.length + more.length
 | [],kvs=>by show kvs.length<=kvs.length + 0;omega
 | p :: r,kvs=>by have a:=z2r r (putK kvs p.1 p.2);have b:=z1o kvs p.1 p.2;show (mergeK (putK kvs p.1 p.2) r).length<=_;rw [T0];omega
theorem z6a {P:Program} {w:W0} :∀{kvs:List (Key×V)} {ws:List (Value×Value)},VV (kvs.map λ kv=>(kV kv.1,kv.2)) ws->∃rs,Carries (z0d P w) ws rs/\KV kvs rs
 | [],_,r=>by rw [d8] at r;cases r;exact ⟨[],True.intro,.nil⟩
 | p :: kvs,_,r=>by
  rw [N1] at r;cases r with
  | @cons a b as bs h t=>obtain ⟨rs,c,q⟩:=z6a (P:=P) (w:=w) t;obtain ⟨e,d⟩:=b;exact ⟨(p.1,d) :: rs,⟨kV_is h.1,rfl,c⟩,.cons ⟨rfl,h.2⟩ q⟩
noncomputable def tDisp (trs:List (TE×TE)):TE:=λ σ H Q=>∀p,H p=none->tPairs trs σ (upd H p (.dK [])) λ ps H2=>H2 p=some (.dK [])/\∃kvs:List (Key×V),ps=kvs.map (λ kv=>(kV kv.1,kv.2))/\kvs.length<=15/\Q (.ref p) (upd H2 p (.dK (mergeK [] kvs)))
theorem zhc {X:Cx} {pos:Pos} {keys:List (Option Expr)} {values:List Expr} {trs:List (TE×TE)} (h:PPs X pos keys values trs) (hall:keys.all (·.isSome)=true) (hl:keys.length=values.length) (h0:keys≠[])
  (h15:keys.length<=15):PE X (.Dict keys values pos) (tDisp trs):=by
 intro m s σ H Q I q;have k:=I.hok.fresh (D0 s.heap.objs.size);have d:=I.laid (a:=s.heap.objs.size) (o:=.dK []) (h':=s.heap.push { cls:=.type "dict",data:=.dict #[] }) (t':=s.toks) (λ _ _ q=>A0 _ q) (D0 _) (zav s.heap I.big);refine wpAny_Dict_walk (knd:=z0d X.prog X.w) hall hl h0 h15 (thn (h m _ σ _ _ d (q _ k)) λ ws t ⟨ps,H2,I2,rel,e,kvs,ep,lk,q2⟩=>?_);subst ep;obtain ⟨r,c,n⟩:=z6a (P:=X.prog) (w:=X.w) rel;obtain ⟨z,hd,u,g,l⟩:=dk_of I2.hok e;cases g;refine ⟨r,c,l,λ h' b i=>⟨.ref s.heap.objs.size,_,?_,rfl,q2⟩⟩;have p:(mergeK [] kvs).length<=sizeLine:=by have j:=z2r kvs [];rw [C3] at j;rw [z6];omega
 have f :∃q,h'.get? s.heap.objs.size=some q:=let ⟨q,_,_,hq,_⟩:=b;⟨q,hq⟩;exact zax I2 (by rw [e];exact True.intro) i f (dk_new p hd (n.merge .nil) b)
structure M1 (X:Cx) (o:Expr) (m:Str) (apos:Pos) (e:Expr) (cpos:Pos):Prop where
 base:d6 o m X.env (V3 o X.env)=V3 o X.env
 few:((z4 cpos (E1 [e] X.env)).all (λ x=>!x.1) && (j02 cpos (b8 [] X.env)).all (λ x=>x.1.isSome)
  && decide (([e]:List Expr).length + ([]:List K6).length + (if ([]:List K6).isEmpty then 0 else 1) < 30))=true
 line:(apos.endLine == cpos.line)=true
 trees:z4 cpos (E1 [e] X.env)=[(false,V3 e X.env)]
structure M2 (X:Cx) (o:Expr) (m:Str) (apos:Pos) (e f:Expr) (cpos:Pos):Prop where
 base:d6 o m X.env (V3 o X.env)=V3 o X.env
 few:((z4 cpos (E1 [e,f] X.env)).all (λ x=>!x.1) && (j02 cpos (b8 [] X.env)).all (λ x=>x.1.isSome)
  && decide (([e,f]:List Expr).length + ([]:List K6).length + (if ([]:List K6).isEmpty then 0 else 1) < 30))=true
 line:(apos.endLine == cpos.line)=true
 trees:z4 cpos (E1 [e,f] X.env)=[(false,V3 e X.env),(false,V3 f X.env)]
def IsD (H:Hp) (a:Addr):Prop:=(∃kvs,Rd H a (.dK kvs))\/∃kvs,Rd H a (.dT kvs)
theorem isD_at {X:Cx} {pins:List (Addr×Obj)} {σ:St} {H:Hp} {s:B0} {a:Addr} (I:Inv X pins σ H s) (d:IsD H a) :
  s.TypeIs (.ref a) "dict"/\(∀b,Value.ref a=.ref b->∃ob,s.heap.get? b=some ob/\ob.dict=none)/\(a == S4)=false:=by
 rcases d with ⟨h,e⟩|⟨h,e⟩
 ·obtain ⟨_,hd,i,_,c⟩:=dk_rd I.hok e;refine ⟨c.typeIs,λ b q=>?_,hd⟩;cases q;obtain ⟨ob,_,_,f,g,_⟩:=c;exact ⟨ob,f,g.2.1⟩
 ·obtain ⟨_,hd,j,_,c⟩:=dt_rd I.hok e;refine ⟨c.typeIs,λ b q=>?_,hd⟩;cases q;obtain ⟨ob,_,_,f,g,_⟩:=c;exact ⟨ob,f,g.2.1⟩
section
variable {X:Cx} {pins:List (Addr×Obj)} {σ:St} {H:Hp} {s:B0} {a:Addr} {y d:V} {u r:Value} {o:Option V} {A:D2} {E:Value->B0->Prop}
theorem d_get2 {Q:Value->B0->Prop} (hu:A.units + 1 < cLine) (I:Inv X pins σ H s) (g:DGet H a y o) (ry:RelV y u) (rd:RelV d r) (h :∀w' s',Inv X pins σ H s'->RelV (o.getD d) w'->Q w' s') :
  Q0 (Z0 X.prog X.w) A (call (.builtin "dict.get") [.ref a,u,r]) Q E s:=by
 rcases g with ⟨j,k,e,f,l⟩|⟨j,k,b,e,f,eb,l⟩
 ·subst f;obtain ⟨z,hd,n,i,c⟩:=dk_rd I.hok e;refine call_meetsIn W7 c.typeIs j0h (j0c _ _ _) (meets_dict_get_default (z0d X.prog X.w) a (kV_is ry) hd r) ⟨_,c.mapOf,h _ _ (I.tok _) ?_⟩;rw [l];exact (i.val k).getD rd
 ·subst f;cases (show u=Value.ref b from ry);obtain ⟨z,hd,m,i,c⟩:=dt_rd I.hok e;refine call_meetsIn W7 c.typeIs j0h (j0c _ _ _) (meetsH_dict_get_default (y6 (z0d X.prog X.w)) a b hd r) ⟨N7 hu,k,m,key_of I.hok eb,c,h _ _ (I.tok _) ?_⟩;rw [l];exact (i.val k).getD rd
end
noncomputable def tDGet2 (td ty tx:TE):TE:=λ σ H Q=>td σ H λ x H1=>∃a,x=.ref a/\IsD H1 a/\ty σ H1 λ y H2=>tx σ H2 λ z H3=>∃o,DGet H3 a y o/\Q (o.getD z) H3
section
variable {X:Cx} {o e f:Expr} {apos cpos:Pos} {td ty tx:TE}
theorem zf4 (hu:X.A.units + 1 < cLine) (ho:PE X o td) (he:PE X e ty) (hf:PE X f tx) (m:M2 X o "get" apos e f cpos):PE X (.Call (.Attribute o "get" apos) [e,f] [] cpos) (tDGet2 td ty tx):=by
 intro b s σ H Q I h;refine wpAny_Call_method m.base m.few m.line j0a W7 PySem.F.type_dict_get (thn (ho b s σ H _ I h) λ u l ⟨x,H1,I1,rx,a,ex,d,q1⟩=>?_);subst ex;obtain rfl:u=Value.ref a:=rx;obtain ⟨c,n,_⟩:=isD_at I1 d;refine ⟨c,n,?_⟩;rw [m.trees];refine Y7 rfl (L8 (B4 (thn (he b l σ H1 _ I1 q1) λ q j ⟨y,H2,I2,ry,q2⟩=>B4 (thn (hf b j σ H2 _ I2 q2) λ p t ⟨z,H3,I3,rz,ov,g,q3⟩=>Z4 ?_))));exact d_get2 hu I3 g ry rz λ v r i k=>⟨_,H3,i,k,q3⟩
end
end L2
namespace Att
open PySem PySem.W PySem.Calls PyProof.Rows
theorem z49 {P:C1} {h:Heap} :∀(ns:List Int) (vs:List Value),WellAll P h vs (ns.map WData.int)->X3 vs ns:=by
 intro ns;induction ns with
 | nil=>intro vs w;rw [d8] at w;cases w;exact .nil
 | cons n ns ih=>
  intro vs w;rw [N1] at w;cases w with
  | cons a b=>cases a;exact .cons _ _ (ih _ b)
theorem zdc {l:OpenLaw} {n:Nat} (hn:l.most=some n) {P:C1} {h:Heap} {args:List WData} {vals:List Value}
  (hpre:l.row.toRowW.claim.pre args=true) (hwl:WellAll P h vals args) :
  ∃a vs ns,vals=[Value.ref a]/\args=[WData.list (ns.map WData.int)]/\h.get? a=some { cls:=.type "list",data:=.seq vs.toArray }/\X3 vs ns/\ns.length<=n:=by
 have i:WShape.hasAll [] args [.list .int]=true:=(pre_splitW hpre).1;have e:l.pre.holds [] { args:=args }=true:=(pre_splitW hpre).2;obtain ⟨d,r,rfl,k,m⟩:=hasAllW_cons i;obtain rfl:=hasAllW_nil m;obtain ⟨o,rfl,g⟩:=hasW_list k;obtain ⟨ns,rfl⟩:=items_int g;have j:ns.length<=n:=by
  unfold OpenLaw.pre at e;have c:(WTm.not (.lt (.lit (.int (n:Int))) (.len (.arg 0)))).holds [] { args:=[.list (ns.map .int)] }=true:=by have c:=(holds_andW e).1;rw [hn] at c;exact c
  have b:=condW_of c (w_not (w_lt w_lit (w_len_list (w_arg rfl))));rw [O0] at b;refine P9 λ q=>?_;have f:(n:Int) < ((ns.length:Nat):Int):=by omega
  first
   | (rw [decide_eq_true f] at b;exact absurd b (by decide))
   | (simp at b;omega)
 cases hwl with
 | cons w1 w2=>
  cases w2;cases w1 with
  | list ho hall=>exact ⟨_,_,ns,rfl,rfl,ho,z49 ns _ hall,j⟩
theorem zcz (l:OpenLaw) (args:List WData):l.row.toRowW.claim.post args (.bool true) args=true:=
 postW_of (r:=l.row.toRowW) (X:=(true == true))
  (show WShape.has [] (.bool true) .bool=true by first|rfl|decide|simp [WShape.has,WShape.arms,WShape.armsAll])
  (show (WTm.eq .res (.lit (.bool true))).value [] { args:=args,res:=some (.bool true),after:=args }=some (.bool (true == true)) from w_eq_bool (w_res rfl) w_lit) rfl
theorem attach_call {l:OpenLaw} {n:Nat} {q:Program} {loose:List Str} {XP:(Str->Option Value)->Heap->Prop} {YP:W0->Heap->Prop} {d:DefRec}
  (hn:l.most=some n) (hdf:d.params.defaults=[])
  (call :∀(w:W0) (s₀ s₁:B0) (mg mb:Str->Option Value) (fa:Addr) (o:Obj) (pm cd doc:Value) (a:Addr) (vs:List Value) (ns:List Int),
   Ground q loose [] XP w s₀ mg mb s₁.heap->YP w s₁.heap->
   s₁.heap.get? fa=some o->o.data=.func (docDef d.name d.params d.body d.scope pm cd doc)->s₁.heap.CodeRec cd d.name->mg d.name=some (.ref fa)->
   s₁.heap.get? a=some { cls:=.type "list",data:=.seq vs.toArray }->X3 vs ns->ns.length<=n->s₁.gens = #[]->
   V4 (Z0 l.prog w) j01 (.call (.ref fa) ⟨[.ref a],[]⟩) (λ r s'=>r=.ok (.ret (.bool true))/\OldK s₁.heap s'.heap/\s'.os=s₁.os/\g8 s'.gens) s₁) :
  WalkO q loose XP YP l.row.toRowW d [] (λ f vs=>PySem.call f vs):=by
 intro w s₀ s₁ mg mb G Y fa o pm cd doc h kV i hd p b t v E C D j z B x A;obtain rfl:h=.none:=Dflts.none b hdf;obtain rfl:kV=.none:=Dflts.noKw b;obtain ⟨a,vs,ns,rfl,rfl,s,m,c⟩:=zdc hn j x;refine enter_call (d5 (call w s₀ s₁ mg mb fa o pm cd doc a vs ns G Y i (fd_plain hd) p t s m c v) λ r s' g=>?_);obtain ⟨rfl,y,u,k⟩:=g;exact ⟨.inl ⟨.bool true,.bool true,[],rfl,λ _=>rfl,.bool true,zcz l _,λ _=>⟨P6,λ _ e=>(nomatch e)⟩⟩,y,u,k⟩
end Att
namespace L2
open PySem PySem.Spec PyProof.Rows
theorem z87 :∀{vs:List Value} {ns:List Int},X3 vs ns->Vals (ns.map V.int) vs
 | _,_,.nil=>.nil
 | _,_,.cons n t h=>.cons ⟨t,rfl⟩ (z87 h)
noncomputable def z60 (s:Stmt):Arguments:=match s with
 | .FunctionDef _ a _ _ _ _ _ _ _ _=>a
 | _=>{ posonlyargs:=[],args:=[],vararg:=none,kwonlyargs:=[],kw_defaults:=[],kwarg:=none,defaults:=[] }
noncomputable def z2x (s:Stmt):List Stmt:=match s with
 | .FunctionDef _ _ b _ _ _ _ _ _ _=>b
 | _=>[]
noncomputable def z07 (s:Stmt):Scope:=match s with
 | .FunctionDef _ _ _ _ _ _ sc _ _ _=>sc
 | _=>{ kind:=.function,names:=[],isGenerator:=false,isCoroutine:=false }
noncomputable abbrev CX0:CXT:=λ _ _ _ _ _ _=>False
noncomputable abbrev E0:XK:=λ _ _ _=>False
theorem pass0 {X:Cx}:Passes CX0 X E0:=λ _ _ _ _ _ _ _ h=>h.elim
structure Fun (K:d0) (x qual:Str) (st:Stmt) (f:Addr) (fd:FuncData):Prop where
 ex :∃(oc:Value) (od:Option Addr) (kV doc pm:Value) (an:Option Addr) (cdv ct:Value) (osl:Array (Option Value)),
  fd=Z5 x qual (z60 st) (z2x st) (z07 st) .none kV doc pm an cdv ct/\K.lookup f=some ⟨oc,od,.func fd,osl⟩/\o8 K cdv qual=true
 kp:M4 K (.ref f)=true
section
variable {P:Program} {w:W0} {K:d0} {mg:Str->Option Value} {base:Heap}
theorem Fun.ok {x qual:Str} {st:Stmt} {f:Addr} {fd:FuncData} {N ps:List Str} {k:Nat} {sp:Sp} (F:Fun K x qual st f fd) (S:FnScope N ps (z07 st)) (len :∀vs H Q E,sp vs H Q E->vs.length=ps.length)
  (hbody :∀(cdv:Value) (A:D2) (outer:List Env) (s:B0) (H:Hp) (vs:List V) (Q:VK) (E:XK),Room k (A.deeper (o4 qual (z07 st) s.heap.objs.size f cdv))->sp vs H Q E->
   ∃t,PSs (cxOf CX0 P w K mg base N qual (z07 st) f cdv A outer s H E).nox (z2x st) t/\t { nx:=λ _ H'=>Q .non H',rt:=Q } (start N vs) H):FnOk P w K mg base CX0 (k + 1) f fd ps sp:=by
 obtain ⟨g,m,kV,e,j,an,cdv,l,i,rfl,a,b⟩:=F.ex;refine fn_of a b S len λ A outer s H vs Q E c d=>?_;obtain ⟨t,h,q⟩:=hbody cdv A outer s H vs Q E c d;exact ⟨t,h.nox,q⟩
theorem Fun.binds {x qual:Str} {st:Stmt} {f:Addr} {fd:FuncData} {ps:List Str} (F:Fun K x qual st f fd)
  (h :∀(kV doc pm:Value) (an:Option Addr) (cdv ct:Value) (us:List Value),us.length=ps.length->bindArgs (Z5 x qual (z60 st) (z2x st) (z07 st) .none kV doc pm an cdv ct) ⟨us,[]⟩=S3 (ps.zip us)):Binds K fd ps []:=by
 obtain ⟨c,e,kV,doc,pm,an,cdv,ct,d,rfl,a,b⟩:=F.ex;exact .all (h kV doc pm an cdv ct)
theorem fun_mk {x qual:Str} {st:Stmt} {f:Addr} {oc:Value} {od an:Option Addr} {osl:Array (Option Value)} {kV doc pm cdv ct:Value} (l:K.lookup f=some ⟨oc,od,.func (Z5 x qual (z60 st) (z2x st) (z07 st) .none kV doc pm an cdv ct),osl⟩)
  (c:o8 K cdv qual=true) (k:M4 K (.ref f)=true):Fun K x qual st f (Z5 x qual (z60 st) (z2x st) (z07 st) .none kV doc pm an cdv ct):=⟨⟨oc,od,kV,doc,pm,an,cdv,ct,osl,rfl,l,c⟩,k⟩
end
theorem hu_of {A:D2} {k:Nat} (hr:Room k A):A.units + 1 < cLine:=T2 (Nat.add_le_add_left (by decide:1<=64) _) hr.units
section
variable {X:Cx}
theorem pv (i:Nat) {x:Str} {pos:Pos} (hN:X.N[i]? = some x:=by rfl) (hv:Vis X.env.scope x:=by first|exact A2 rfl|exact X1 (A2 rfl)|exact X1 (X1 rfl)) (hd:(x == ("__debug__" : Str))=false:=by decide)
  (hcd:(x == ("__classdict__" : Str))=false:=by decide):PE X (.Name x pos) (tVar i):=pe_var hN hv hd hcd
end
theorem iteF {A B:Prop} (h:B):if false=true then A else B:=by rw [if_neg R0];exact h
theorem iteT {A B:Prop} (h:A):if true=true then A else B:=by rw [if_pos rfl];exact h
theorem ite2 {c A B:Prop} [Decidable c] (h1:c->A) (h2:¬ c->B):if c then A else B:=by
 by_cases h:c
 ·rw [if_pos h];exact h1 h
 ·rw [if_neg h];exact h2 h
def Same (H H':Hp):Prop:=∀b o,H b=some o->H' b=some o
theorem Same.refl (H:Hp):Same H H:=λ _ _ h=>h
theorem Same.trans {H H1 H2:Hp} (a:Same H H1) (b:Same H1 H2):Same H H2:=λ c o h=>b c o (a c o h)
theorem Same.free {H H':Hp} (e:Same H H') {l:Addr} (h:H' l=Option.none):H l=Option.none:=by
 cases q:H l with
 | none=>rfl
 | some o=>rw [e l o q] at h;cases h
theorem Same.seq {K:d0} {H H':Hp} {a:Addr} {xs:List V} (e:Same H H') (h:SqL K H a xs):SqL K H' a xs:=by
 rcases h with (h|⟨o,h⟩)|h
 ·exact .inl (.inl (e _ _ h))
 ·exact .inl (.inr ⟨o,e _ _ h⟩)
 ·exact .inr h
end L2
set_option maxHeartbeats 4000000
namespace L2
open PySem PySem.Spec PyProof.Rows
section
variable {prog:Program} {w:W0} {A:D2} {R:j0e->B0->Prop} {s:B0}
theorem zdo {elt target iter:Expr} {ifs:List Expr} {scope:Scope} {pos:Pos} {it acc:Value} {env:Env} (J:Nat->B0->Prop)
  (turn :∀n s,J n s->Q0 (Z0 prog w) A (j8 it) (λ r s₁=>match r with
   | none=>R (.ok .next) s₁
   | some v=>Q0 (Z0 prog w) A (T8 target it v) (λ _ s₂=>Q0 (Z0 prog w) A (assign target env v) (λ _ s₃=>
     Q0 (Z0 prog w) A (forIn ifs true λ c r=>if r=true then do let ok <-isTrue c env (V3 c env);S3 (n4 ok) else S3 (n4 r)) (λ ok s₄=>
      if ok=true then Q0 (Z0 prog w) A (V3 elt env) (λ x s₅=>Q0 (Z0 prog w) A (call (.builtin "list.append") [acc,x]) (λ _ s₆=>∃m,m < n/\J m s₆) (λ _ _=>False) s₅) (λ _ _=>False) s₄
      else∃m,m < n/\J m s₄) (λ _ _=>False) s₃) (λ _ _=>False) s₂) (λ _ _=>False) s₁) (λ _ _=>False) s)
  (n:Nat) (h:J n s):V4 (Z0 prog w) A (.compLoop (.ListComp elt [⟨target,iter,ifs,0⟩] scope pos) 0 it acc env) R s:=by
 refine codeAny_loop rfl J (λ n s i=>?_) n h;show Q0 _ A ((compTurn (.ListComp elt [⟨target,iter,ifs,0⟩] scope pos) 0 it acc env).onRaise (λ x=>do noteFrame x env;theTreesLotGoes x)) _ _ s;refine wpAny_noted ?_;rw [compTurn_list];refine o0 (B9 (o0 (t3 (turn n s i) (λ r s₁ a=>?_) λ _ _ f=>f.elim)));cases r with
 | none=>exact C0 a
 | some v=>
  refine o0 (t3 a (λ _ s₂ e=>o0 (t3 e (λ _ s₃ j=>o0 (t3 j (λ ok s₄ b=>?_) λ _ _ f=>f.elim)) λ _ _ f=>f.elim)) λ _ _ f=>f.elim);cases ok with
  | false=>exact C0 ⟨rfl,b⟩
  | true=>exact o0 (o0 (t3 b (λ x s₅ d=>o0 (t3 d (λ _ s₆ g=>C0 (C0 ⟨rfl,g⟩)) λ _ _ f=>f.elim)) λ _ _ f=>f.elim))
end
theorem z1z {env:Env} :∀(names:List (Str×J6)) (acc:List (Str×Addr)),(∀y∈names,y.2=E2->∃c,env.cells.lookup y.1=some c)->(∀y c,acc.lookup y=some c->env.cells.lookup y=some c)->
  ∃cl,(forIn names acc λ (x:Str×J6) (r:List (Str×Addr))=>(match x with
    | (name,kind)=>if (kind == E2)=true then do let c <-cellOf env name;S3 (n4 ((name,c) :: r)) else S3 (n4 r):Sem (ForInStep (List (Str×Addr)))))=S3 cl/\
   (∀y c,cl.lookup y=some c->env.cells.lookup y=some c)/\(∀y,((y,E2)∈names\/∃c,acc.lookup y=some c)->∃c,cl.lookup y=some c)
 | [],acc,_,ha=>⟨acc,by rw [j0d],ha,λ y h=>h.elim (λ z=>nomatch z) id⟩
 | (n,k) :: r,acc,hf,ha=>by
  rw [V9];dsimp only;by_cases hk:k=E2
  ·subst hk;obtain ⟨c,i⟩:=hf (n,.free) F2 rfl;have e:cellOf env n=S3 c:=by unfold cellOf;rw [i]
   rw [if_pos (by rfl),e];obtain ⟨cl,f,g,b⟩:=z1z r ((n,c) :: acc) (λ y a=>hf y (Y1 _ a)) (λ y d hd=>by
    rw [d4] at hd;by_cases a:(y == n)=true
    ·rw [a] at hd;have:=eq_of_beq a;subst this;cases hd;exact i
    ·rw [U7] at a;rw [a] at hd;exact ha y d hd)
   refine ⟨cl,f,g,λ y a=>b y ?_⟩;rcases a with a|⟨d,hd⟩
   ·rcases List.mem_cons.mp a with z|z
    ·cases z;exact .inr ⟨c,by rw [d4];simp⟩
    ·exact .inl z
   ·refine .inr ?_;rw [d4];by_cases a:(y == n)=true
    ·rw [a];exact ⟨c,rfl⟩
    ·rw [U7] at a;rw [a];exact ⟨d,hd⟩
  ·rw [if_neg (by simpa using hk)];obtain ⟨cl,f,g,b⟩:=z1z r acc (λ y a=>hf y (Y1 _ a)) ha;refine ⟨cl,f,g,λ y a=>b y ?_⟩;rcases a with a|a
   ·rcases List.mem_cons.mp a with z|z
    ·cases z;exact absurd rfl hk
    ·exact .inl z
   ·exact .inr a
theorem zaf {scope:Scope} {env:Env} (hf :∀y∈scope.names,y.2=E2->∃c,env.cells.lookup y.1=some c) :
  ∃cl,j22 scope env=S3 cl/\(∀y c,cl.lookup y=some c->env.cells.lookup y=some c)/\(∀y,(y,E2)∈scope.names->∃c,cl.lookup y=some c):=by
 obtain ⟨cl,d,e,a⟩:=z1z (env:=env) scope.names [] hf (λ _ _ z=>nomatch z);refine ⟨cl,?_,e,λ y b=>a y (.inl b)⟩;simp only [j22];rw [d];rfl
theorem mem_of_lookup {κ:Type} {y:Str} {k:κ} :∀{l:List (Str×κ)},l.lookup y=some k->(y,k)∈l
 | (n,c) :: r,h=>by
  rw [d4] at h;by_cases hy:(y == n)=true
  ·rw [hy] at h;cases h;rw [eq_of_beq hy];exact F2
  ·rw [U7] at hy;rw [hy] at h;exact Y1 _ (mem_of_lookup h)
theorem z3x {scope:Scope} {env:Env} (hcell :∀y∈scope.names,y.2≠NameKind.cell) {y:Str} {k:J6} (h:(a8 scope env).names.lookup y=some k) (hk:k=.cell\/k=.free):(y,E2)∈scope.names:=by
 have m:=mem_of_lookup h;unfold a8 at m;obtain ⟨⟨n,c⟩,a,e⟩:=List.mem_map.mp m;dsimp only at e;by_cases hc:(c == E2)=true
 ·have:=eq_of_beq hc;subst this;split at e<;>(injection e with e1 e2;subst e1;exact a)
 ·rw [if_neg (by simp [hc])] at e;injection e with e1 e2;subst e1 e2;rcases hk with rfl|rfl
  ·exact absurd rfl (hcell _ a)
  ·exact absurd rfl hc
noncomputable abbrev cxComp (X:Cx) (scope:Scope) (cl:List (Str×Addr)) (N:List Str) (C:Addr) (s₂:B0) (H₂:Hp) (fp:List Addr):Cx:=
 { X with N:=N,s₀:=s₂,H₀:=H₂,env:=compEnvC scope cl C X.env,outer:=X.stack,stack:=X.stack,ex:=fp,fn:=λ _=>false,pn:=[],xe:=λ _ _=>False }
def PF (X:Cx) (ifs:List Expr) (t:TT):Prop:=
 ∀(pins:List (Addr×Obj)) (s:B0) (σ:St) (H:Hp) (Q:Bool->Hp->Prop),Inv X pins σ H s->t σ H Q->
  Q0 (Z0 X.prog X.w) X.A (forIn ifs true λ c r=>if r=true then do let ok <-isTrue c X.env (V3 c X.env);S3 (n4 ok) else S3 (n4 r)) (TP X pins σ Q) X.xe s
theorem pf_nil {X:Cx}:PF X [] (λ _ H Q=>Q true H):=λ _ _ _ H _ I h=>wpAny_tests_nil ⟨H,I,h⟩
theorem pf_one {X:Cx} {c:Expr} {t:TT} (h:PT X c t):PF X [c] t:=λ a s σ H Q I q=>wpAny_tests_one (h a s σ H Q I q)
theorem Vals.snoc {xs:List V} {us:List Value} {x:V} {u:Value} (r:Vals xs us) (q:RelV x u):Vals (xs++[x]) (us++[u]):=Vals.append r (.cons q .nil)
def TagOf (H:Hp) (x:V) (T:String):Prop:=match x with
 | .non=>T = "NoneType"
 | .bl _=>T = "bool"
 | .int _=>T = "int"
 | .str _=>T = "str"
 | .ref a=>((∃xs,H a=some (.lst xs))/\T = "list")\/((∃xs,H a=some (.tup xs))/\T = "tuple")\/((∃kvs,H a=some (.dK kvs))/\T = "dict")
 | _=>False
noncomputable def instB (T C:String):Bool:=T == C || (T == "bool" && C == "int")
theorem TagOf.ty {K:d0} {H:Hp} {x:V} {T:String} (h:TagOf H x T):TyOf K H x (.type T):=by
 cases x with
 | non=>cases (show T = "NoneType" from h);exact .non
 | bl b=>cases (show T = "bool" from h);exact .bl b
 | int i=>cases (show T = "int" from h);exact .int i
 | str z=>cases (show T = "str" from h);exact .str z
 | ref a=>
  rcases h with ⟨⟨c,e⟩,rfl⟩|⟨⟨c,e⟩,rfl⟩|⟨⟨c,e⟩,rfl⟩
  ·exact .lst e
  ·exact .tup e
  ·exact .dK e
 | _=>exact h.elim
theorem TagOf.one {H:Hp} {x:V} {T:String} (h:TagOf H x T):T = "NoneType"\/T = "bool"\/T = "int"\/T = "str"\/T = "list"\/T = "tuple"\/T = "dict":=by
 cases x with
 | non=>exact .inl h
 | bl b=>exact .inr (.inl h)
 | int i=>exact .inr (.inr (.inl h))
 | str z=>exact .inr (.inr (.inr (.inl h)))
 | ref a=>rcases h with ⟨_,rfl⟩|⟨_,rfl⟩|⟨_,rfl⟩<;>simp
 | _=>exact h.elim
noncomputable def isiC:List String:=["int","str","bool","tuple","list"]
theorem kit_of (K:d0) {T C:String} (h:T = "NoneType"\/T = "bool"\/T = "int"\/T = "str"\/T = "list"\/T = "tuple"\/T = "dict") (hC:C∈isiC):PySem.W.kitOne K (.type T) (.type C)=some (instB T C):=by
 have hC:C = "int"\/C = "str"\/C = "bool"\/C = "tuple"\/C = "list":=by simpa [isiC] using hC
 rcases h with rfl|rfl|rfl|rfl|rfl|rfl|rfl<;>rcases hC with rfl|rfl|rfl|rfl|rfl<;>kernel_rfl
section
variable {X:Cx}
theorem z0f:CallR X (.builtin "isinstance") (λ xs H Q=>∃x C T,xs=[x,.ty C]/\TagOf H x T/\C∈isiC/\Q (.bl (instB T C)) H):=by intro i s σ H xs g Q I r h;obtain ⟨x,C,T,rfl,a,f,q⟩:=h;obtain ⟨u,c,rfl,e,d⟩:=vals2 r;cases (show c=U3 C from d);exact zcr I e a.ty (kit_of X.K a.one f) λ b=>⟨.bl _,H,I.tok b,rfl,q⟩
theorem zdl {ys:List V} {its:List Value} (rv:Vals ys its) (hb :∀y∈ys,∃b,y=V.bl b):((A1 its.length).all λ i=>decide (ys[i]? = some (V.bl true)))=ys.all λ y=>decide (y=V.bl true):=by
 have e:=rv.length;rw [Bool.eq_iff_iff,List.all_eq_true,List.all_eq_true];constructor
 ·intro h y d;obtain ⟨i,a,rfl⟩:=List.getElem_of_mem d;have:=h i (List.mem_range.mpr (by omega));simpa [a] using this
 ·intro h i a;have c:i < ys.length:=by have:=List.mem_range.mp a;omega
  have:=h ys[i] (N5 c);simpa [c] using this
theorem z29 (hc:X.calm=true):CallR X (.builtin "all") (λ xs H Q=>∃p ys,xs=[.ref p]/\SqL X.K H p ys/\(∀y∈ys,∃b,y=V.bl b)/\Q (.bl (ys.all λ y=>decide (y=V.bl true))) H):=by
 intro N s σ H xs L Q I r h;obtain ⟨p,ys,rfl,B,j,q⟩:=h;obtain ⟨u,rfl,C⟩:=vals1 r;cases C;obtain ⟨g,f,c,P⟩:=I.list B;have E:p≠s.heap.objs.size:=by obtain ⟨o,e,_⟩:=c.isList;exact U0 (J0 e)
 refine call_all_walk (K5 c.isList ?_);refine ⟨s.heap.objs.size,_,_,_,_,_,λ i=>decide (ys[i]? = some (V.bl true)),rfl,Walks.list (show X.A.in1.handled=none from I.ok.hd hc) s.heap.objs.size p E g.toArray,⟨⟨_,P0 _ rfl,rfl,rfl⟩,c.isList.at λ o e=>A0 _ e⟩,?_,?_⟩
 ·intro i v G M J a D;have a:g[i]? = some v:=by simpa using a
  obtain ⟨t,e⟩:=List.getElem?_eq_some_iff.mp a;have d:i < ys.length:=by rw [f.length];exact t
  obtain ⟨b,l⟩:=j ys[i] (N5 d);obtain ⟨u,k,m⟩:=f.get (i:=i) (x:=ys[i]) (by simp [d]);rw [a] at k;cases k;rw [l] at m;cases (show v=j03 b from m);have:decide (ys[i]? = some (V.bl true))=b:=by rw [M0 d,l];cases b<;>simp
  exact M3 (this ▸ D)
 ·intro O n F;have e:=zdl f j;rw [<-V0] at e;refine ⟨.bl _,H,I.kept (t':=n) λ b o z=>F b o ?_ (A0 _ z),rfl,e.symm ▸ q⟩;intro w;rw [List.mem_singleton.mp w] at z;exact absurd (J0 z) (D3 _)
def CDivB (i j:Int):Prop:=0 < j/\j < 2 ^ 64
theorem z80:OpR X (c7 .FloorDiv) (rI CDivB λ i j=>.int (i / j)):=opI λ i j _ _ _ _ _ a q=>by
 obtain ⟨c,b⟩:=a;refine floordiv_int (by omega) ?_ (.inl (PyProof.noPylong_of_log2 ?_))
 ·rw [Int.fdiv_eq_ediv_of_nonneg _ (by omega)];exact q
 ·have:j.natAbs.log2 < 64:=(Nat.log2_lt (by omega)).mpr (by omega);omega
structure KDict (K:d0) (P:C1) (a:Addr) (kvs:List (Str×V)):Prop where
 ex :∃es n,K.lookup a=some ⟨.type "dict",none,.dict es n,#[]⟩/\t8 (λ (p:Str×V) (e:DictEntry)=>(∃t,e.key=.str p.1 t)/\e.hash=c0 P p.1/\RelV p.2 e.val) kvs es.toList
 lo:(a == S4)=false
theorem zee {kvs:List (Str×V)} {P:C1} :∀{es:List DictEntry},t8 (λ (p:Str×V) (e:DictEntry)=>(∃t,e.key=.str p.1 t)/\e.hash=c0 P p.1/\RelV p.2 e.val) kvs es->∀z,
  RelO (kvs.lookup z) (findBy G7 es.toArray z):=by
 intro es r;induction r with
 | nil=>intro z;exact True.intro
 | @cons p e kvs es h t a=>
  intro z;obtain ⟨⟨f,c⟩,g,d⟩:=h;have a:=a z;unfold findBy at a⊢;rw [List.find?_toArray] at a⊢;rw [E4,d4];have b:G7 z e.key=(z == p.1):=by rw [c];show (p.1 == z)=_;rw [Bool.eq_iff_iff,beq_iff_eq,beq_iff_eq];exact ⟨λ q=>q.symm,λ q=>q.symm⟩
  cases hz:(z == p.1) with
  | true=>rw [b,hz];exact d
  | false=>rw [b,hz];exact a
theorem KDict.mapOf {a:Addr} {kvs:List (Str×V)} (D:KDict X.K X.w.params a kvs) {h:Heap} (k:X.K.In h) :∃f,h.MapOf (strKind X.prog X.w) a f/\∀z,RelO (kvs.lookup z) (f z):=by
 obtain ⟨c,n,d,r⟩:=D.ex;have b:PySem.W.KeysLit X.w.params c.toList:=by
  clear d D;generalize c.toList=l at r;induction r with
  | nil=>exact True.intro
  | cons h t ih=>obtain ⟨⟨e,b⟩,g,j⟩:=h;exact ⟨⟨_,e,b,g⟩,ih⟩
 have i :∀z,RelO (kvs.lookup z) (findBy G7 c.toList.toArray z):=zee r;exact ⟨_,PySem.W.mapOf_K (prog:=X.prog) k d b,λ z=>by simpa using i z⟩
theorem zft {a:Addr} {kvs:List (Str×V)} (D:KDict X.K X.w.params a kvs):OpR X (n3 .In) (λ x y H Q=>∃z,x=.str z/\y=.ref a/\Q (.bl (kvs.lookup z).isSome) H):=by intro g s σ H x y v u Q I d c h;obtain ⟨z,rfl,rfl,q⟩:=h;obtain ⟨t,rfl⟩:=d;cases c;obtain ⟨f,b,e⟩:=D.mapOf I.kIn;refine wpAny_in_of (Q8 X.prog X.w z t) D.lo b ⟨.bl _,H,I.tok _,rfl,?_⟩;have:=e z;rw [RelO.isSome_eq this] at q;exact q
theorem ix_kd {a:Addr} {kvs:List (Str×V)} (D:KDict X.K X.w.params a kvs):IxR X (λ x y H Q=>∃z v,x=.ref a/\y=.str z/\kvs.lookup z=some v/\Q v H):=by
 intro k l m s σ H x y v u Q I i d h g;obtain ⟨z,r,rfl,rfl,e,q⟩:=h;cases i;obtain ⟨t,rfl⟩:=d;obtain ⟨f,c,j⟩:=D.mapOf I.kIn;have b:=j z;rw [e] at b;cases ef:f z with
 | none=>rw [ef] at b;exact b.elim
 | some u=>rw [ef] at b;exact tail_any c.typeIs slot_dict_getitem.lookup (wpAny_getItem_of (Q8 X.prog X.w z t) c ef ⟨r,H,I.tok _,b,q⟩) g
structure KDictT (K:d0) (P:C1) (a:Addr) (kvs:List ((Str×Str)×V)):Prop where
 ex :∃es n,K.lookup a=some ⟨.type "dict",none,.dict es n,#[]⟩/\t8 (λ (p:(Str×Str)×V) (e:DictEntry)=>(∃(b:Addr) (t t':Tok) (m:Nat),e.key=.ref b/\K.lookup b=some ⟨.type "tuple",none,.seq #[.str p.1.1 t,.str p.1.2 t'] m,#[]⟩)/\
  e.hash=O1 (y0 [c0 P p.1.1,c0 P p.1.2])/\RelV p.2 e.val) kvs es.toList
 nd:(kvs.map (·.1)).Nodup
 lo:(a == S4)=false
theorem zcu {prog:Program} {w:W0} {K:d0} {h:Heap} (k:K.In h) :∀{kvs:List ((Str×Str)×V)} {es:List DictEntry},
  t8 (λ (p:(Str×Str)×V) (e:DictEntry)=>(∃(b:Addr) (t t':Tok) (m:Nat),e.key=.ref b/\K.lookup b=some ⟨.type "tuple",none,.seq #[.str p.1.1 t,.str p.1.2 t'] m,#[]⟩)/\
   e.hash=O1 (y0 [c0 w.params p.1.1,c0 w.params p.1.2])/\RelV p.2 e.val) kvs es->
  ∃xs:List (List Str×Addr×Value),es=xs.map (entryOfKey (y6 (strKind prog w)))/\(∀x∈xs,(y6 (strKind prog w)).is h x.1 x.2.1)/\xs.map (·.1)=kvs.map (λ p=>[p.1.1,p.1.2])/\
   ∀a b,RelO (kvs.lookup (a,b)) ((D9 xs [a,b]).map (·.2)):=by
 intro kvs es r;induction r with
 | nil=>exact ⟨[],rfl,λ x f=>absurd f F0,rfl,λ a b=>True.intro⟩
 | @cons p e kvs es hpe t ih=>
  obtain ⟨xs,u,A,v,q⟩:=ih;obtain ⟨⟨b,B,D,m,l,s⟩,i,y⟩:=hpe;refine ⟨([p.1.1,p.1.2],b,e.val) :: xs,?_,?_,?_,?_⟩
  ·rw [N1,<-u];congr 1;obtain ⟨o,n,C⟩:=e;have l:n=.ref b:=l;have i:o=_:=i;subst l i;rfl
  ·intro x f;rcases List.mem_cons.mp f with rfl|f
   ·exact ⟨_,_,m,k _ _ s,rfl,rfl,.cons (Q8 prog w _ _) (.cons (Q8 prog w _ _) .nil)⟩
   ·exact A x f
  ·rw [N1,N1,v]
  ·intro c d;have:=q c d;rw [d4];unfold D9 at this⊢;rw [E4];by_cases hcd:(c,d)=p.1
   ·have g:((c,d) == p.1)=true:=by rw [beq_iff_eq];exact hcd
    rw [g];have j:decide ([p.1.1,p.1.2]=[c,d])=true:=by rw [<-hcd];simp
    rw [j];exact y
   ·have g:((c,d) == p.1)=false:=by rw [beq_eq_false_iff_ne];exact hcd
    rw [g];have j:decide ([p.1.1,p.1.2]=[c,d])=false:=by rw [decide_eq_false_iff_not];intro z;injection z with z1 z;injection z with z2 _;exact hcd (Prod.ext z1.symm z2.symm)
    rw [j];exact this
theorem z4b :∀{l:List (Str×Str)},l.Nodup->(l.map λ p=>[p.1,p.2]).Nodup
 | [],_=>List.nodup_nil
 | p :: r,h=>by obtain ⟨b,c⟩:=List.nodup_cons.mp h;rw [N1];refine List.nodup_cons.mpr ⟨λ m=>b ?_,z4b c⟩;obtain ⟨q,a,e⟩:=List.mem_map.mp m;injection e with e1 e;injection e with e2 _;have:q=p:=Prod.ext e1 e2;exact this ▸ a
theorem KDictT.dict {a:Addr} {kvs:List ((Str×Str)×V)} (D:KDictT X.K X.w.params a kvs) {h:Heap} (k:X.K.In h) :∃xs,h.DictOfH (y6 (strKind X.prog X.w)) a xs/\∀c d,RelO (kvs.lookup (c,d)) ((D9 xs [c,d]).map (·.2)):=by obtain ⟨e,n,g,r⟩:=D.ex;obtain ⟨xs,i,j,b,f⟩:=zcu (prog:=X.prog) (w:=X.w) k r;refine ⟨xs,⟨_,e,n,k _ _ g,⟨rfl,rfl,rfl⟩,rfl,i,j,?_⟩,f⟩;rw [b];have:=z4b D.nd;rw [J4] at this;exact this
theorem zgb {pins:List (Addr×Obj)} {σ:St} {H:Hp} {s:B0} {p:Addr} {c d:Str} (I:Inv X pins σ H s) (hp:H p=some (.tup [.str c,.str d])):(y6 (strKind X.prog X.w)).is s.heap [c,d] p:=by
 obtain ⟨_,h,a,⟨o,e,b,n,hd⟩,_⟩:=(show ObjOk X.prog X.w H s.heap p (.tup [.str c,.str d]) from I.hok p _ hp)
 cases a with
 | cons r1 a=>
  cases a with
  | cons r2 a=>cases a;obtain ⟨f,rfl⟩:=r1;obtain ⟨g,rfl⟩:=r2;exact ⟨o,_,n,e,b,hd,.cons (Q8 X.prog X.w _ _) (.cons (Q8 X.prog X.w _ _) .nil)⟩
theorem z7c {a:Addr} {kvs:List ((Str×Str)×V)} (hu:X.A.units + 1 < cLine) (D:KDictT X.K X.w.params a kvs) :
  OpR X (n3 .NotIn) (λ x y H Q=>∃p c d,x=.ref p/\H p=some (.tup [.str c,.str d])/\y=.ref a/\Q (.bl (!(kvs.lookup (c,d)).isSome)) H):=by
 intro l s σ H x y v u Q I g f h;obtain ⟨p,c,d,rfl,b,rfl,q⟩:=h;cases g;cases f;obtain ⟨j,e,i⟩:=D.dict I.kIn;refine wpAny_notIn_heap (k:=[c,d]) hu (zgb I b) D.lo e ⟨.bl _,H,I.tok _,rfl,?_⟩;have:=RelO.isSome_eq (i c d);rw [c9] at this;rw [this] at q;exact q
end
structure Cal (P:Program) (w:W0) (K:d0) (mg:Str->Option Value) (base:Heap) (x:Str) (ps:List Str) (k:Nat) (sp:Sp):Prop where
 ex :∃f fd,FnOk P w K mg base CX0 k f fd ps sp/\mg x=some (.ref f)/\M4 K (.ref f)=true/\Binds K fd ps []
section
variable {X:Cx} {x:Str} {ps:List Str} {k:Nat} {sp:Sp} {e:Expr} {es:List Expr} {t:TA} {p pos:Pos}
theorem pe_cal (c:Cal X.prog X.w X.K X.mg X.base x ps k sp) (hr:Room k X.A) (hg:Gl X x) (ha:PA X (e :: es) t) (hn:x≠"__name__":=by decide) (hdb:(x == ("__debug__" : Str))=false:=by decide)
  (he:E1 (e :: es) X.env=(false,V3 e X.env) :: E1 es X.env:=by rfl) (hpl:(z4 pos (E1 es X.env)).any (·.1)=false:=by rfl):PE X (.Call (.Name x p) (e :: es) [] pos) (tCall sp [] E0 t):=by
 obtain ⟨f,g,F,b,d,a⟩:=c.ex;exact zes F hr hg b d a .nil pass0 ha hdb he hpl
end
structure TX (K:d0) (mg:Str->Option Value):Prop where
 of :∀{n:Str} {v:Value},T3 K B2 n=some (some v)->mg n=some v
 no :∀{n:Str},T3 K B2 n=some none->mg n=none
theorem TX.mk' {K:d0} {mg:Str->Option Value} {h:Heap} (X:K.In h) (G:h.Ns B2 mg):TX K mg:=⟨λ e=>PySem.W.mg_of X G e,λ e=>PySem.W.mg_none_of X G e⟩
section
variable {X:Cx}
noncomputable def rAdd4 (K:d0):R2:=λ x y H Q=>(∃i j,x=.int i/\y=.int j/\Q (.int (i + j)) H)\/(∃i j,x=.str i/\y=.str j/\i.length + j.length<=sizeLine/\Q (.str (i++j)) H)\/rCat x y H Q\/rCatT K x y H Q
theorem opAdd:OpR X (c7 .Add) (rAdd4 X.K):=op_add.or (op_add_str.or (op_cat.or zg9))
theorem opEq:OpR X (n3 .Eq) rEq:=op_eq
theorem opNe:OpR X (n3 .NotEq) rNe:=op_ne
theorem z1e:CallR X (.builtin "len") (λ xs H Q=>(∃p ys,xs=[.ref p]/\(SqL X.K H p ys\/SqT X.K H p ys)/\Q (.int ys.length) H)\/∃z,xs=[.str z]/\z.length<=sizeLine/\Q (.int z.length) H):=call_len_seq.or z7r
end
noncomputable def z0n (x:V) (g:Int):Bool:=match x with
 | .int i=>decide (-g<=i) && decide (i<=g)
 | _=>false
noncomputable def tupOf (H:Hp) (x:V):Option (List V):=match x with
 | .ref a=>(match H a with|some (.tup xs)=>some xs|_=>none)
 | _=>none
theorem zaq {H H':Hp} {x:V} {T:String} (t:TagOf H x T) (e:Same H H'):tupOf H' x=tupOf H x:=by
 cases x with
 | ref a=>rcases t with ⟨⟨b,h⟩,_⟩|⟨⟨b,h⟩,_⟩|⟨⟨b,h⟩,_⟩<;>(unfold tupOf;dsimp only;rw [h,e a _ h])
 | _=>rfl
theorem TagOf.same {H H':Hp} {x:V} {T:String} (t:TagOf H x T) (e:Same H H'):TagOf H' x T:=by
 cases x with
 | ref a=>
  rcases t with ⟨⟨b,h⟩,z⟩|⟨⟨b,h⟩,z⟩|⟨⟨b,h⟩,z⟩
  ·exact .inl ⟨⟨b,e a _ h⟩,z⟩
  ·exact .inr (.inl ⟨⟨b,e a _ h⟩,z⟩)
  ·exact .inr (.inr ⟨⟨b,e a _ h⟩,z⟩)
 | _=>exact t
theorem TagOf.tuple {H:Hp} {x:V} (t:TagOf H x "tuple") :∃a xs,x=.ref a/\H a=some (.tup xs):=by
 cases x with
 | ref a=>
  rcases t with ⟨_,z⟩|⟨⟨xs,h⟩,_⟩|⟨_,z⟩
  ·exact absurd z (by decide)
  ·exact ⟨a,xs,rfl,h⟩
  ·exact absurd z (by decide)
 | non=>exact absurd (show "tuple" = "NoneType" from t) (by decide)
 | bl b=>exact absurd (show "tuple" = "bool" from t) (by decide)
 | int i=>exact absurd (show "tuple" = "int" from t) (by decide)
 | str z=>exact absurd (show "tuple" = "str" from t) (by decide)
 | _=>exact t.elim
theorem TagOf.int {H:Hp} {x:V} (t:TagOf H x "int") :∃i,x=.int i:=by
 cases x with
 | ref a=>rcases t with ⟨_,z⟩|⟨_,z⟩|⟨_,z⟩<;>exact absurd z (by decide)
 | non=>exact absurd (show "int" = "NoneType" from t) (by decide)
 | bl b=>exact absurd (show "int" = "bool" from t) (by decide)
 | int i=>exact ⟨i,rfl⟩
 | str z=>exact absurd (show "int" = "str" from t) (by decide)
 | _=>exact t.elim
theorem TagOf.str {H:Hp} {x:V} (t:TagOf H x "str") :∃z,x=.str z:=by
 cases x with
 | ref a=>rcases t with ⟨_,z⟩|⟨_,z⟩|⟨_,z⟩<;>exact absurd z (by decide)
 | non=>exact absurd (show "str" = "NoneType" from t) (by decide)
 | bl b=>exact absurd (show "str" = "bool" from t) (by decide)
 | int i=>exact absurd (show "str" = "int" from t) (by decide)
 | str z=>exact ⟨z,rfl⟩
 | _=>exact t.elim
theorem noInt {H:Hp} {x:V} {T:String} (t:TagOf H x T) (h:T≠"int") (g:Int):z0n x g=false:=by
 cases x with
 | int i=>exact absurd t h
 | _=>rfl
theorem noTup {H:Hp} {x:V} {T:String} (t:TagOf H x T) (h:T≠"tuple"):tupOf H x=none:=by
 cases x with
 | ref a=>
  rcases t with ⟨⟨b,e⟩,_⟩|⟨_,z⟩|⟨⟨b,e⟩,_⟩
  ·unfold tupOf;dsimp only;rw [e]
  ·exact absurd z h
  ·unfold tupOf;dsimp only;rw [e]
 | _=>rfl
theorem z5s {H:Hp} {x:V} {T:String} (t:TagOf H x T) {C:String} (h:C≠"int"):instB T C=decide (T=C):=by
 unfold instB;have:(C == "int")=false:=by simpa using h
 rw [this,y7,b9,Bool.beq_eq_decide_eq]
def Flat (H:Hp) (x:V):Prop:=∀xs,tupOf H x=some xs->xs.length<=1000/\∀y∈xs,∃T,TagOf H y T
theorem z7m {α β:Type} [BEq α] [LawfulBEq α] {l:List (α×β)} {a:α} {b:β} (h:l.lookup a=some b):(a,b)∈l:=by
 induction l with
 | nil=>cases h
 | cons p r ih=>
  obtain ⟨c,d⟩:=p;rw [d4] at h;cases hc:(a == c) with
  | true=>rw [hc] at h;cases h;rw [eq_of_beq hc];exact F2
  | false=>rw [hc] at h;exact Y1 _ (ih h)
theorem ze2 {names:List (Str×J6)} {Q:Str×J6->Prop} (h:(names.all λ y=>y.2 != E2)=true) :∀y∈names,y.2=E2->Q y:=λ y a e=>by have:=List.all_eq_true.mp h y a;rw [e] at this;exact absurd this (by decide)
theorem Same.upd {H:Hp} {p:Addr} {o:HO} (h:H p=none):Same H (upd H p o):=λ b u e=>by rw [upd_ne (z0a e h)];exact e
theorem Same.seqT {K:d0} {H H':Hp} {a:Addr} {xs:List V} (e:Same H H') (h:SqT K H a xs):SqT K H' a xs:=by
 rcases h with (h|⟨o,h⟩)|h
 ·exact .inl (.inl (e _ _ h))
 ·exact .inl (.inr ⟨o,e _ _ h⟩)
 ·exact .inr h
theorem zas {H:Hp} {x:V} {xs:List V} (h:tupOf H x=some xs) :∃a,x=.ref a/\H a=some (.tup xs):=by
 unfold tupOf at h;cases x with
 | ref a=>
  dsimp only at h;split at h
  ·rename_i ys e;exact ⟨a,rfl,by rw [e,Q1 h]⟩
  ·cases h
 | _=>cases h
end L2
namespace L2
open PySem PySem.Spec PyProof.Rows
open Builtin.Str (occurrences partsBetween strKind)
section
variable {X:Cx}
theorem z8f {vl:Value} {lo:Option Int} (p:R9 vl lo) :∃l:Option (Int×Tok),vl=partValue l/\l.map (·.1)=lo:=by
 cases p with
 | none=>exact ⟨none,rfl,rfl⟩
 | int i t=>exact ⟨some (i,t),rfl,rfl⟩
end
end L2
namespace L2
open PySem PySem.Spec PyProof.Rows
section
variable {X:Cx}
def rSlS:V->Option Int->Option Int->Hp->VK->Prop:=λ x lo hi H Q=>∃z,x=.str z/\z.length<=sizeLine/\Q (.str (Txt.slice z lo hi)) H
theorem sl_str:SlR X rSlS:=by
 intro p s σ H x v n m r j o Q I e f a d h;obtain ⟨z,rfl,g,q⟩:=h;obtain ⟨t,rfl⟩:=e;obtain ⟨l,rfl,b⟩:=z8f a;obtain ⟨u,rfl,i⟩:=z8f d;subst b i;refine ⟨"str",_,F.slot_str_getitem.lookup,typeIs_str _ _ _,wpAny_getItem_str_slice (l:=l) (u:=u) (st:=none) f rfl
  (post_val_or_str ⟨S0 (Txt.slice_le z _ _) g,λ c k=>⟨.str (Txt.slice z _ _),H,I.tok k,⟨c,rfl⟩,q⟩⟩)⟩
theorem slSeq:SlR X (λ x lo hi H Q=>rSlL X.K x lo hi H Q\/rSlT X.K x lo hi H Q\/rSlS x lo hi H Q):=sl_list.or (sl_tup.or sl_str)
theorem zd9:CallR X (.type "int") (λ xs H Q=>∃z n,xs=[.str z]/\PySem.intText? z=some n/\z.length<=640/\Q (.int n) H):=by intro d s σ H xs c Q I r h;obtain ⟨z,n,rfl,b,a,q⟩:=h;obtain ⟨u,rfl,t,rfl⟩:=vals1 r;exact PySem.W.KIN.call_text b a ⟨.int n,H,I.tok _,⟨_,rfl⟩,q⟩
theorem z7u:CallR X (.type "int") (λ xs H Q=>((∃i,xs=[.int i]/\Q (.int i) H)\/∃k,xs=[.bl k]/\Q (.int (if k then 1 else 0)) H)\/∃z n,xs=[.str z]/\PySem.intText? z=some n/\z.length<=640/\Q (.int n) H):=call_int1.or zd9
end
def RowAt (H:Hp) (r:Addr):Prop:=∃a b c:Int,H r=some (.lst [.int a,.int b,.int c])/\0<=c/\c < 536870909
def Kept (r:Addr) (H H':Hp):Prop:=∀b o,b≠r->H b=some o->H' b=some o
theorem Kept.set {r:Addr} {H:Hp} {o:HO}:Kept r H (upd H r o):=λ b u n h=>by rw [upd_ne n];exact h
structure Rw (r:Addr) (H H':Hp):Prop where
 k:Kept r H H'
 r:RowAt H' r
section
variable {r:Addr} {σ:St} {H0:Hp} {K:d0}
theorem g_name {i:Nat} {v:V} {σ:St} {H:Hp} {Q:St->Hp->Prop} (h:Q (σ.set i (some v)) H):gName i v σ H Q:=h
theorem t_nx {nx ct bk:St->Hp->Prop} {rt:VK} {σ:St} {H:Hp} (h:nx σ H):Ends.nx { nx:=nx,rt:=rt,bk:=bk,ct:=ct } σ H:=h
end
end L2
namespace L2
open PySem
section
variable {prog:Program} {w:W0} {A:D2} {E:Value->B0->Prop} {s:B0}
theorem tupOn {it t:Addr} {i:Nat} {its:Array Value} {x:Value} {Q:Value->B0->Prop} (a:s.heap.IsTupleIter it t i) (b:s.heap.IsTuple t its) (c:its[i]? = some x)
  (q :∀h',h'.IsTupleIter it t (i + 1)->j6 it s.heap h'->Q x { s with heap:=h' }):Q0 (Z0 prog w) A (T4 (.ref it)) Q E s:=by
 obtain ⟨o,e,g,d⟩:=id a;obtain ⟨p,h,_,n,f⟩:=b;unfold T4;refine o0 (G8 (name:=Q2 "__next__") a.typeIs R5 (F8 R5 a.typeIs j14 (show Q0 _ _ (field (.ref it) 0 >>= _) _ _ s from o0 (X6 e d (x:=.ref t) rfl ?_)) (j0j _)));show Q0 _ _ (if (Value.ref t == Y2)=true then _ else (field (.ref it) 1 >>= _)) _ _ s;rw [if_neg (by exact R0)];refine o0 (X6 e d (x:=.int i 0) rfl (show Q0 _ _ (seqItems? (.ref t) >>= _) _ _ s from o0 (j1f h f ?_)));simp only [A9,c];refine o0 (wpAny_setField e d (by simp) (C0 ⟨x,rfl,C0 (q _ ⟨_,D8 _ e (Obj.isFreed_of_fields (Obj.data_mapFields d _)),(Obj.cls_mapFields ..).trans g,?_⟩ (B3 ..))⟩));rw [Obj.data_mapFields d];simp [F5]
theorem tupOff {it t:Addr} {i:Nat} {its:Array Value} {Q:Value->B0->Prop} (hh:A.handled=none) (a:s.heap.IsTupleIter it t i) (b:s.heap.IsTuple t its) (c:its[i]? = none)
  (q :∀h' e,Heap.ExtBut it s.heap h'->(∃o,h'.get? e=some o/\o.cls=.type "StopIteration")->E (.ref e) { s with heap:=h' }):Q0 (Z0 prog w) A (T4 (.ref it)) Q E s:=by
 obtain ⟨o,d,j,f⟩:=id a;obtain ⟨p,h,_,n,g⟩:=b;unfold T4;refine o0 (G8 (name:=Q2 "__next__") a.typeIs R5 (F8 R5 a.typeIs j14 (show Q0 _ _ (field (.ref it) 0 >>= _) _ _ s from o0 (X6 d f (x:=.ref t) rfl ?_)) (j0j _)));show Q0 _ _ (if (Value.ref t == Y2)=true then _ else (field (.ref it) 1 >>= _)) _ _ s;rw [if_neg (by exact R0)];refine o0 (X6 d f (x:=.int i 0) rfl (show Q0 _ _ (seqItems? (.ref t) >>= _) _ _ s from o0 (j1f h g ?_)));simp only [A9,c];refine o0 (P8 (o0 (wpAny_setField d f (by simp) (show Q0 _ _ (newExc (.type "StopIteration") [] >>= _) _ _ _ from o0 ?_))));simp only [newExc,newTuple];refine o0 (N4 (o0 (m:=firstArgMember _ _) (j10 (a:=Y2) (by first|rfl|(simp only [firstArgMember];rfl)) (N4 ?_ (by size_fits)))) (by size_fits));simp only [raiseNew];refine o0 (wpAny_handled ?_);first|rw [show A.in1.handled=none from hh]|rw [hh]
 exact o0 (C0 (wpAny_throw (q _ _ (((B3 ..).extBut.push _).push _) ⟨_,P0 _ rfl,rfl⟩)))
structure ZApart (z T U i j a b:Addr):Prop where
 dis:[z,T,U,i,j].Nodup
 fa:a∉[z,T,U,i,j]
 fb:b∉[z,T,U,i,j]
structure ZAt (h:Heap) (z T U i j a b:Addr) (n:Nat) (f:Value):Prop where
 z:IsZip h z T U f
 t:IsPair h T (.ref i) (.ref j)
 u :∃p q,IsPair h U p q
 i:h.IsTupleIter i a n
 j:h.IsTupleIter j b n
end
end L2
namespace L2
open PySem PySem.Spec PyProof.Rows
inductive Dt where
 | non|bl (b:Bool)|int (i:Int)|str (z:Str)|tup (ds:List Dt)
mutual
noncomputable def IsDt (K:d0) (H:Hp):Dt->V->Prop
 | .non,v=>v=.non
 | .bl b,v=>v=.bl b
 | .int i,v=>v=.int i
 | .str z,v=>v=.str z
 | .tup ds,v=>∃a xs,v=.ref a/\SqT K H a xs/\IsDts K H ds xs
noncomputable def IsDts (K:d0) (H:Hp):List Dt->List V->Prop
 | [],xs=>xs=[]
 | d :: ds,xs=>∃x r,xs=x :: r/\IsDt K H d x/\IsDts K H ds r
end
mutual
noncomputable def Dt.deep:Dt->Nat
 | .tup ds=>Dt.deeps ds + 1
 | _=>0
noncomputable def Dt.deeps:List Dt->Nat
 | []=>0
 | d :: ds=>max d.deep (Dt.deeps ds)
noncomputable def Dt.plain:Dt->Bool
 | .int _=>true
 | .str _=>true
 | .tup ds=>Dt.plains ds
 | _=>false
noncomputable def Dt.plains:List Dt->Bool
 | []=>true
 | d :: ds=>d.plain && Dt.plains ds
end
section
variable {X:Cx}
theorem Inv.turnedL {pins:List (Addr×Obj)} {σ:St} {H:Hp} {s:B0} {h':Heap} {t':Nat} {fp:List Addr} (I:Inv X pins σ H s) (k :∀b o,b∉fp->s.heap.get? b=some o->h'.get? b=some o) (hf :∀b∈fp,FpOk X pins H b) :
  Inv X pins σ H { s with heap:=h',toks:=t' }:=by
 have f :∀b u,H b=some u->b∉fp:=λ b u e z=>by have:=(hf b z).1;rw [this] at e;cases e
 refine I.step (g':=s.gens) (d':=s.drawn) (ch:=fp) (λ b d=>⟨(hf b d).2.2.2.1,(hf b d).2.1,(hf b d).2.2.2.2.1,(hf b d).2.2.2.2.2⟩) (λ b o _ _ a e _=>k b o a e) (λ b o _ _ a e _=>⟨o.slots,k b o a e⟩) (λ _ _ _ _ n=>n)
  (λ b o a e=>⟨o,k b o a e⟩) (λ _ _ e=>e) (λ _ _ _ e=>e) (λ b l e=>⟨#[],by rw [e];simp⟩) (λ m g=>?_) (λ b u e=>?_) I.bare
 ·obtain ⟨o,h,j,i,r⟩:=g;exact ⟨o,h,j,k _ o (λ z=>(hf _ z).2.1 rfl) i,r⟩
 ·refine (I.hok b u e).stay (λ c v a q=>k c v ?_ q) (λ _ q=>q) λ _ _ q=>q;rcases a with z|z
  ·rw [z];exact f b u e
  ·exact f c _ z
theorem Inv.turnedLaid {pins:List (Addr×Obj)} {σ:St} {H:Hp} {s:B0} {h':Heap} {t':Nat} {fp:List Addr} {a:Addr} {o:HO} (I:Inv X pins σ H s) (k :∀b o,b∉fp->s.heap.get? b=some o->h'.get? b=some o) (hf :∀b∈fp,FpOk X pins H b)
  (hp:s.heap.objs.size<=a) (new:ObjOk X.prog X.w (upd H a o) h' a o):Inv X pins σ (upd H a o) { s with heap:=h',toks:=t' }:=by
 have p:H a=none:=I.hok.fresh hp;have h :∀b u,H b=some u->b∉fp:=λ b u e z=>by have:=(hf b z).1;rw [this] at e;cases e
 have g :∀b u,H b=some u->upd H a o b=some u:=λ b u e=>by rw [upd_ne (z0a e p)];exact e
 refine I.step (g':=s.gens) (d':=s.drawn) (ch:=fp) (λ b d=>⟨(hf b d).2.2.2.1,(hf b d).2.1,(hf b d).2.2.2.2.1,(hf b d).2.2.2.2.2⟩) (λ b o _ _ f e _=>k b o f e) (λ b o _ _ f e _=>⟨o.slots,k b o f e⟩)
  (λ b u _ e n=>by rw [upd_ne (λ z=>by subst z;exact absurd (J0 e) (Nat.not_lt.mpr hp))];exact n)
  (λ b o f e=>⟨o,k b o f e⟩) (λ _ _ e=>g _ _ e) (λ _ _ _ e=>g _ _ e) (λ b x e=>⟨#[],by rw [g _ _ e];simp⟩) (λ m j=>?_) (λ b u e=>?_) I.bare
 ·obtain ⟨o,i,t,l,r⟩:=j;exact ⟨o,i,t,k _ o (λ z=>(hf _ z).2.1 rfl) l,r⟩
 ·by_cases d:b=a
  ·subst d;rw [z02] at e;cases e;exact new
  ·rw [upd_ne d] at e;refine (I.hok b u e).stay (λ c v f q=>k c v ?_ q) (λ c q=>g _ _ q) λ c y q=>g _ _ q;rcases f with z|z
   ·rw [z];exact h b u e
   ·exact h c _ z
theorem z1r {o e:Expr} {es:List Expr} {to:TE} {t:TA} {apos cpos:Pos} (ho:PE X o to) (ha:PA X (e :: es) t)
  (hbase:d6 o "append" X.env (V3 o X.env)=V3 o X.env:=by rfl)
  (hfew:((z4 cpos (E1 (e :: es) X.env)).all (λ x=>!x.1) && (j02 cpos (b8 [] X.env)).all (λ x=>x.1.isSome)
   && decide ((e :: es).length + ([]:List K6).length + (if ([]:List K6).isEmpty then 0 else 1) < 30))=true:=by rfl)
  (hline:(apos.endLine == cpos.line)=true:=by rfl) (hs:E1 (e :: es) X.env=(false,V3 e X.env) :: E1 es X.env:=by rfl) (hplain:(z4 cpos (E1 es X.env)).any (·.1)=false:=by rfl) :
  PE X (.Call (.Attribute o "append" apos) (e :: es) [] cpos) (tBM X.K "list" z6p to t):=pe_bm j09 PySem.F.slot_list_append PySem.F.type_list_append zed ho ha hbase hfew hline hs hplain
end
theorem SqT.wrote {K:d0} {H:Hp} {l a:Addr} {o:HO} {zs xs:List V} (e:H l=some (.lst zs)) (h:SqT K H a xs):SqT K (upd H l o) a xs:=by
 rcases h with (h|⟨ob,h⟩)|h
 ·exact .inl (.inl (by rw [upd_ne (ne_of h e (by intro z;cases z))];exact h))
 ·exact .inl (.inr ⟨ob,by rw [upd_ne (ne_of h e (by intro z;cases z))];exact h⟩)
 ·exact .inr h
theorem iteP {c A B:Prop} [Decidable c] (hc:c) (h:A):if c then A else B:=by rw [if_pos hc];exact h
theorem iteN {c A B:Prop} [Decidable c] (hc:¬ c) (h:B):if c then A else B:=by rw [if_neg hc];exact h
theorem zhg {names:List (Str×J6)} {n:Str} {Q:Str×J6->Prop} (h:(names.all λ y=>y.2 != E2 || y.1 == n)=true) (q :∀k,Q (n,k)) :∀y∈names,y.2=E2->Q y:=λ y c e=>by
 have:=List.all_eq_true.mp h y c;rw [e] at this;have:(y.1 == n)=true:=by simpa using this
 obtain ⟨a,b⟩:=y;rw [beq_iff_eq] at this;have:a=n:=this;subst this;exact q b
theorem ObjOk.there {P:Program} {w:W0} {H:Hp} {h:Heap} {a:Addr} {o:HO} (x:ObjOk P w H h a o) :∃ob,h.get? a=some ob:=by
 cases o with
 | lst xs=>obtain ⟨_,_,_,_,e⟩:=x;exact ⟨_,e⟩
 | tup xs=>obtain ⟨_,_,_,⟨o,e,_⟩,_⟩:=x;exact ⟨_,e⟩
 | dK kvs=>obtain ⟨_,_,_,_,o,_,_,e,_⟩:=x;exact ⟨_,e⟩
 | dT kvs=>obtain ⟨_,_,_,_,o,_,_,e,_⟩:=x;exact ⟨_,e⟩
 | set S n=>obtain ⟨o,_,_,_,e,_⟩:=x;exact ⟨_,e⟩
 | ins C dx fs=>obtain ⟨_,_,_,e,_⟩:=x;exact ⟨_,e⟩
 | own y=>exact x
 | xd fs=>obtain ⟨_,⟨o,_,_,e,_⟩,_⟩:=x;exact ⟨_,e⟩
 | rng lo hi=>obtain ⟨_,_,_,e⟩:=x;exact ⟨_,e⟩
 | frz ob u=>obtain ⟨e,_⟩:=x;exact ⟨_,e⟩
 | tbl ps=>exact ⟨_,show h.get? a=some _ from x⟩
 | met f y=>exact ⟨_,show h.get? a=some _ from x⟩
 | ext φ=>exact x.2.1
noncomputable def CXE (P:Program) (w:W0) (base:Heap):CXT:=λ outer H s E e s'=>∃(ea:Addr) (cls a0:Value) (B:Heap) (H':Hp),e=.ref ea/\s'.os=s.os/\g8 s'.gens/\Un (frs outer) [] H H' s.heap s'.heap/\HOk P w H' s'.heap/\H' ea=none/\
 base.StaysIn B/\j1c B outer ea cls a0 s'.heap/\(∀b o,s'.heap.get? b=some o->b∉frs outer->((∃u,H' b=some u)\/∃u,s.heap.get? b=some u)->B.get? b=some o)/\E cls none H'
theorem zad {env:Env} {l:List Env} {L:Addr} (h:env.frame=some L):frs (env :: l)=L :: frs l:=by unfold frs;rw [U6,h]
section
variable {P:Program} {w:W0} {K:d0} {mg:Str->Option Value} {base:Heap} {N:List Str} {qual:Str} {scope:Scope} {f:Addr} {cd:Value} {A:D2} {outer:List Env} {s:B0} {H:Hp} {E:XK}
theorem passE:Passes (CXE P w base) (cxOf (CXE P w base) P w K mg base N qual scope f cd A outer s H E) E:=by
 intro a7 σ W C e r I c;obtain ⟨ea,a4,a0,B,y,rfl,os,a3,un,a1,Q,hB,X,keep,hE⟩:=c;have O:frs (o4 qual scope s.heap.objs.size f cd :: outer)=s.heap.objs.size :: frs outer:=zad rfl;have kp :∀b o,r.heap.get? b=some o->b∉s.heap.objs.size :: frs outer->((∃u,y b=some u)\/∃u,C.heap.get? b=some u)->B.get? b=some o:=λ b o e a D=>keep b o e (by rw [show frs (cxOf (CXE P w base) P w K mg base N qual scope f cd A outer s H E).stack=_ from O];exact a) D;have l:Un (s.heap.objs.size :: frs outer) [] W y C.heap r.heap:=O ▸ un;have h:Un (frs outer) [] H W s.heap C.heap:=I.base;have M :∀b o,s.heap.get? b=some o->b≠s.heap.objs.size:=λ b o e=>U0 (J0 e);have V :∀b∈s.heap.objs.size :: frs outer,y b=none:=λ b a=>by
  rcases List.mem_cons.mp a with rfl|a
  ·obtain ⟨m,Q,_⟩:=I.loc;obtain ⟨o,_,_,J,_⟩:=Q;exact l.free _ o J I.free (by simp)
  ·obtain ⟨_,o,J,_⟩:=I.ok.funs.mem a;obtain ⟨p,F⟩:=h.there b o J (by simp);exact l.free b p F (h.free b o J (I.ok.frf b a) (by simp)) (by simp)
 show Q0 (Z0 P w) _ («leaving» _ _) _ _ r;refine wpAny_leaves_onW I.ok.frames rfl X λ L U up=>?_;have stay :∀b o,r.heap.get? b=some o->b∉s.heap.objs.size :: frs outer->((∃u,y b=some u)\/∃u,C.heap.get? b=some u)->L.get? b=some o:=λ b o e a D=>U.1 b o (kp b o e a D);have a2 :∀b o,b∈frs outer->r.heap.get? b=some o->∃R,L.get? b=some { o with slots:=R }:=λ b o a e=>by
  obtain ⟨_,p,F,hd⟩:=X.2.2.1.mem (show b∈(o4 qual scope s.heap.objs.size f cd :: outer).filterMap (·.frame) from by show b∈frs (o4 qual scope s.heap.objs.size f cd :: outer);rw [O];exact Y1 _ a);rw [e] at F;cases F;exact up b o e hd
 have there :∀b o,s.heap.get? b=some o->∃j k,C.heap.get? b=some j/\r.heap.get? b=some k:=λ b o e=>by obtain ⟨j,d⟩:=h.there b o e (by simp);obtain ⟨k,i⟩:=l.there b j d (by simp);exact ⟨j,k,d,i⟩
 refine ⟨ea,a4,a0,B,y,rfl,os.trans I.os,a3,⟨λ b o e n a _=>?_,λ b o e n a _=>?_,λ b o e n _=>?_,λ b o e _=>?_,λ b Z e=>l.tups b Z (h.tups b Z e),λ b o u e=>l.frzs b o u (h.frzs b o u e),λ b ps e=>?_⟩,λ b u e=>?_,Q,hB,U,λ b o e a D=>?_,hE⟩
 ·have d:=h.keep b o e n a (by simp);have G:b∉s.heap.objs.size :: frs outer:=λ z=>(List.mem_cons.mp z).elim (M b o e) a;exact stay b o (l.keep b o d (h.free b o e n (by simp)) G (by simp)) G (.inr ⟨o,d⟩)
 ·obtain ⟨R,d⟩:=h.slot b o e n a (by simp);obtain ⟨a8,i⟩:=l.slot b _ d (h.free b o e n (by simp)) (Y1 _ a) (by simp);obtain ⟨a6,T⟩:=a2 b _ a i;exact ⟨a6,T⟩
 ·obtain ⟨j,k,d,i⟩:=there b o e;exact l.free b j d (h.free b o e n (by simp)) (by simp)
 ·obtain ⟨j,k,d,i⟩:=there b o e;by_cases a:b∈frs outer
  ·obtain ⟨R,T⟩:=a2 b k a i;exact ⟨_,T⟩
  ·exact ⟨k,stay b k i (λ z=>(List.mem_cons.mp z).elim (M b o e) a) (.inr ⟨j,d⟩)⟩
 ·obtain ⟨m1,d⟩:=h.tbls b ps e;obtain ⟨m2,i⟩:=l.tbls b _ d;exact ⟨m1++m2,by rw [i,Array.append_assoc]⟩
 ·refine (a1 b u e).stay (λ c v x q=>stay c v q ?_ (.inl ?_)) (λ _ q=>q) λ _ _ q=>q
  ·intro z;have:=V c z;rcases x with rfl|x
   ·rw [e] at this;cases this
   ·rw [x] at this;cases this
  ·rcases x with rfl|x
   ·exact ⟨u,e⟩
   ·exact ⟨_,x⟩
 ·have Y :∀p,r.heap.get? b=some p->b∉s.heap.objs.size :: frs outer->((∃u,y b=some u)\/∃u,C.heap.get? b=some u)->B.get? b=some o:=λ p S G a5=>by have g:=kp b p S G a5;have:=U.1 b p g;rw [show ({ r with heap:=L }:B0).heap.get? b=L.get? b from rfl,this] at e;cases e;exact g
  rcases D with ⟨u,t⟩|⟨u,t⟩
  ·obtain ⟨p,S⟩:=(a1 b u t).there;refine Y p S (λ z=>?_) (.inl ⟨u,t⟩);rw [V b z] at t;cases t
  ·obtain ⟨j,k,d,i⟩:=there b u t;exact Y k i (λ z=>(List.mem_cons.mp z).elim (M b u t) a) (.inr ⟨j,d⟩)
theorem raiseE {pins:List (Addr×Obj)} {σ:St} {H1:Hp} {s1:B0} {h':Heap} {ea C:Addr} {args:List Value} (I:Inv (cxOf (CXE P w base) P w K mg base N qual scope f cd A outer s H E) pins σ H1 s1) (hx:Heap.MadeExcOf s1.heap h' ea (.ref C) args) (hE:E (.ref C) none H1) :
  (cxOf (CXE P w base) P w K mg base N qual scope f cd A outer s H E).xe (.ref ea) { s1 with heap:=h' }:=by
 have p:frs (o4 qual scope s.heap.objs.size f cd :: outer)=s.heap.objs.size :: frs outer:=zad rfl;have h:Un (frs outer) [] H H1 s.heap s1.heap:=I.base;have y :∀b o,s.heap.get? b=some o->b≠s.heap.objs.size:=λ b o e=>U0 (J0 e);have G:s1.heap.FunFrames base (o4 qual scope s.heap.objs.size f cd :: outer):=I.stack;have X :∀x∈(o4 qual scope s.heap.objs.size f cd :: outer),∀a,x.frame=some a->a∈s.heap.objs.size :: frs outer:=λ x S a Y=>by rw [<-p];exact List.mem_filterMap.mpr ⟨x,S,Y⟩
 have M :∀b∈s.heap.objs.size :: frs outer,H1 b=none:=λ b d=>by have:=I.stkFree b (by rw [show frs (cxOf (CXE P w base) P w K mg base N qual scope f cd A outer s H E).stack=_ from p];exact d);exact this
 have U:base.StaysIn (x9 s1.heap (s.heap.objs.size :: frs outer)):=λ b o e=>M6 _ (I.bk b o e) λ V=>by have:=(G.mem (show b∈(o4 qual scope s.heap.objs.size f cd :: outer).filterMap (·.frame) from (show b∈frs (o4 qual scope s.heap.objs.size f cd :: outer) from by rw [p];exact V))).1;rw [e] at this;cases this
 show Q0 (Z0 P w) _ («leaving» _ _) _ _ _;refine wpAny_leaves_madeW (s:={ s1 with heap:=h' }) I.ok.frames rfl (λ b o q=>j28 _ q) (PySem.W.funFrames_hide G X) hx λ m t J _ _ up=>?_;have stay :∀b o,s1.heap.get? b=some o->b∉s.heap.objs.size :: frs outer->m.get? b=some o:=λ b o e d=>J.1 b o (M6 _ e d);have Q :∀b o,b∈frs outer->s1.heap.get? b=some o->∃D,m.get? b=some { o with slots:=D }:=λ b o d e=>by
  obtain ⟨_,k,L,hd⟩:=G.mem (show b∈(o4 qual scope s.heap.objs.size f cd :: outer).filterMap (·.frame) from by show b∈frs (o4 qual scope s.heap.objs.size f cd :: outer);rw [p];exact Y1 _ d);rw [e] at L;cases L;exact up b o (hx.keeps b o e) hd
 have Z:H1 ea=none:=by
  cases q:H1 ea with
  | none=>rfl
  | some u=>obtain ⟨o,e⟩:=(I.hok ea u q).there;rw [hx.new] at e;cases e
 refine ⟨ea,.ref C,.ref t,_,H1,rfl,I.os,I.bare,⟨λ b o e n d _=>?_,λ b o e n d _=>?_,λ b o e n _=>h.free b o e n (by simp),λ b o e _=>?_,h.tups,h.frzs,h.tbls⟩,λ b u e=>?_,Z,U,J,λ b o e d R=>?_,hE⟩
 ·exact stay b o (h.keep b o e n d (by simp)) λ z=>(List.mem_cons.mp z).elim (y b o e) d
 ·obtain ⟨D,i⟩:=h.slot b o e n d (by simp);obtain ⟨a0,B⟩:=Q b _ d i;exact ⟨a0,B⟩
 ·obtain ⟨l,i⟩:=h.there b o e (by simp);by_cases d:b∈frs outer
  ·obtain ⟨D,B⟩:=Q b l d i;exact ⟨_,B⟩
  ·exact ⟨l,stay b l i λ z=>(List.mem_cons.mp z).elim (y b o e) d⟩
 ·refine (I.hok b u e).stay (λ c v r q=>stay c v q λ z=>?_) (λ _ q=>q) λ _ _ q=>q;have:=M c z;rcases r with rfl|r
  ·rw [e] at this;cases this
  ·rw [r] at this;cases this
 ·have O :∀k,s1.heap.get? b=some k->b∉s.heap.objs.size :: frs outer->(x9 s1.heap (s.heap.objs.size :: frs outer)).get? b=some o:=λ k F T=>by have g:=M6 _ F T;have:=J.1 b k g;rw [show ({ s1 with heap:=m }:B0).heap.get? b=m.get? b from rfl,this] at e;cases e;exact g
  rcases R with ⟨u,j⟩|⟨u,j⟩
  ·obtain ⟨k,F⟩:=(I.hok b u j).there;refine O k F λ z=>?_;rw [M b z] at j;cases j
  ·obtain ⟨l,i⟩:=h.there b u j (by simp);exact O l i λ z=>(List.mem_cons.mp z).elim (y b u j) d
end
theorem own_in {K:d0} {h₀:Heap} {mg:Str->Option Value} {x:Str} {C:Addr} {bmB:List Value} {newId:String} (X:K.In h₀) (hm:mg x=some (.ref C)) (q:M8 K C bmB newId=true):OwnCls x C bmB newId mg h₀:=by
 refine ⟨hm,?_⟩;unfold M8 at q;split at q
 ·rename_i dd cd sl ho;split at q
  ·rename_i C' bm k0 k1 k2 k3 n k5 hm' hs;simp only [W2,beq_iff_eq,Bool.not_eq_true'] at q;obtain ⟨⟨⟨⟨⟨rfl,rfl⟩,b⟩,f⟩,a⟩,c⟩:=q;obtain ⟨g,bs,m,d,i,hd,e,h,j,k,o⟩:=cd;obtain ⟨l⟩:=sl;dsimp only at hm' b a c hs;subst hm' b hs;exact ⟨bm,d,g,i,bs,hd,e,h,j,k,dd,k0,k1,k2,k3,k5,_,X _ _ ho,.of_isNs (PySem.W.isNs_of_in X a),PySem.W.nsMap_none_of_in X a c,PySem.W.tail_of_in X f⟩
  ·cases q
 ·cases q
noncomputable def tRaise (C:Addr) (E:XK) (t:TA):TS:=λ _ σ H=>t σ H λ vs H1=>vs.length<=sizeLine/\E (.ref C) none H1
section
variable {P:Program} {w:W0} {K:d0} {mg:Str->Option Value} {base:Heap} {N:List Str} {qual:Str} {scope:Scope} {f:Addr} {cd:Value} {A:D2} {outer:List Env} {s:B0} {H:Hp} {E:XK}
theorem ze7 {x:Str} {C:Addr} {B newId initId:String} {bm:List Value} {e0:Expr} {es:List Expr} {np cpos pos:Pos} {t:TA} (FB:ExcBaseFacts B newId initId bm) (hm:mg x=some (.ref C)) (hK:M8 K C bm newId=true)
  (hg:Gl (cxOf (CXE P w base) P w K mg base N qual scope f cd A outer s H E) x) (ha:PA (cxOf (CXE P w base) P w K mg base N qual scope f cd A outer s H E) (e0 :: es) t)
  (hdb:(x == ("__debug__" : Str))=false:=by decide)
  (he:E1 (e0 :: es) (o4 qual scope s.heap.objs.size f cd)=(false,V3 e0 (o4 qual scope s.heap.objs.size f cd)) :: E1 es (o4 qual scope s.heap.objs.size f cd):=by rfl)
  (hpl:(z4 cpos (E1 es (o4 qual scope s.heap.objs.size f cd))).any (·.1)=false:=by rfl) :
  PS (cxOf (CXE P w base) P w K mg base N qual scope f cd A outer s H E) (.Raise (some (.Call (.Name x np) (e0 :: es) [] cpos)) none pos) (tRaise C E t):=by
 intro j i σ c D I h;have O:OwnCls x C bm newId mg base:=own_in I.ok.mod.kin hm hK;obtain ⟨b,k,nm,q,bs,hdct,sn,sub,ab,col,dd,k0,k1,k2,k3,k5,mN,l,e,g,T⟩:=O.obj;have a:=ha cpos j i σ c _ I h;refine wpAny_Raise_call_subT (C:=C) (nm:=nm) (q:=q) (N:=k) (bs:=bs) (bm:=b) (hdct:=hdct) (sn:=sn) (sub:=sub) (ab:=ab) (col:=col) (dd:=dd) (k0:=k0) (k1:=k1) (k2:=k2) (k3:=k3) (k5:=k5)
  FB (mN:=mN) (T.hasType FB.hasBase) (I.ok.hd rfl) (by show (z4 cpos (E1 (e0 :: es) (o4 qual scope s.heap.objs.size f cd))).any (·.1)=false;rw [he];show (false || (z4 cpos (E1 es (o4 qual scope s.heap.objs.size f cd))).any (·.1))=false;rw [hpl];rfl) g (z6z I hg O.bound ⟨rfl,?_⟩ hdb)
 have d:E1 (e0 :: es) (cxOf (CXE P w base) P w K mg base N qual scope f cd A outer s H E).env=(false,V3 e0 (o4 qual scope s.heap.objs.size f cd)) :: E1 es (o4 qual scope s.heap.objs.size f cd):=he;rw [d] at a⊢;exact L8 (t3 a (λ m n ⟨vs,H2,I2,r,hl,hE⟩=>⟨rfl,by rw [<-r.length];exact hl,I2.bk _ _ l,e.keeps I2.bk,T.keeps I2.bk,λ p o hm=>raiseE I2 hm hE⟩) λ _ _ y=>y)
theorem Fun.okE {x qual:Str} {st:Stmt} {f:Addr} {fd:FuncData} {N ps:List Str} {k:Nat} {sp:Sp} (F:Fun K x qual st f fd) (S:FnScope N ps (z07 st)) (len :∀vs H Q E,sp vs H Q E->vs.length=ps.length)
  (hbody :∀(cdv:Value) (A:D2) (outer:List Env) (s:B0) (H:Hp) (vs:List V) (Q:VK) (E:XK),Room k (A.deeper (o4 qual (z07 st) s.heap.objs.size f cdv))->sp vs H Q E->
   ∃t,PSs (cxOf (CXE P w base) P w K mg base N qual (z07 st) f cdv A outer s H E) (z2x st) t/\t { nx:=λ _ H'=>Q .non H',rt:=Q } (start N vs) H):FnOk P w K mg base (CXE P w base) (k + 1) f fd ps sp:=by
 obtain ⟨g,l,kV,e,i,an,cdv,j,h,rfl,a,b⟩:=F.ex;exact fn_of a b S len λ A outer s H vs Q E c d=>hbody cdv A outer s H vs Q E c d
end
structure CalE (P:Program) (w:W0) (K:d0) (mg:Str->Option Value) (base:Heap) (x:Str) (ps:List Str) (k:Nat) (sp:Sp):Prop where
 ex :∃f fd,FnOk P w K mg base (CXE P w base) k f fd ps sp/\mg x=some (.ref f)/\M4 K (.ref f)=true/\Binds K fd ps []
section
variable {X:Cx} {x:Str} {ps:List Str} {k:Nat} {sp:Sp} {e:Expr} {es:List Expr} {t:TA} {p pos:Pos}
theorem zek {E:XK} (hx:Passes (CXE X.prog X.w X.base) X E) (c:CalE X.prog X.w X.K X.mg X.base x ps k sp) (hr:Room k X.A) (hg:Gl X x) (ha:PA X (e :: es) t) (hn:x≠"__name__":=by decide) (hdb:(x == ("__debug__" : Str))=false:=by decide)
  (he:E1 (e :: es) X.env=(false,V3 e X.env) :: E1 es X.env:=by rfl) (hpl:(z4 pos (E1 es X.env)).any (·.1)=false:=by rfl):PE X (.Call (.Name x p) (e :: es) [] pos) (tCall sp [] E t):=by
 obtain ⟨f,g,F,b,d,a⟩:=c.ex;exact zes F hr hg b d a .nil hx ha hdb he hpl
end
noncomputable def ExcO (ea:Addr) (cls:Value):HO:=.ext λ h=>∃o,h.get? ea=some o/\o.cls=cls
theorem zgo {P:Program} {w:W0} {H:Hp} {h:Heap} {ea:Addr} {cls:Value} {o:Obj} (e:h.get? ea=some o) (c:o.cls=cls):ObjOk P w H h ea (ExcO ea cls):=
 ⟨⟨o,e,c⟩,⟨o,e⟩,λ _ _ ⟨o,e,c⟩ k=>⟨o,k o e,c⟩⟩
theorem Un.track {fs ex:List Addr} {H H1:Hp} {h h1:Heap} {a:Addr} {o:HO} (u:Un fs ex H H1 h h1) (hn:h.get? a=none) (hf:H1 a=none):Un fs ex H (upd H1 a o) h h1 where
 keep:=u.keep
 slot:=u.slot
 free:=λ b d q n f=>by
  have:b≠a:=λ z=>by subst z;rw [hn] at q;cases q
  rw [upd_ne this];exact u.free b d q n f
 there:=u.there
 tups:=λ b g q=>by have c:=u.tups b g q;rw [upd_ne (z0a c hf)];exact c
 frzs:=λ b d x q=>by have c:=u.frzs b d x q;rw [upd_ne (z0a c hf)];exact c
 tbls:=λ b e q=>by obtain ⟨m,c⟩:=u.tbls b e q;exact ⟨m,by rw [upd_ne (z0a c hf)];exact c⟩
theorem HOk.track {P:Program} {w:W0} {H:Hp} {h:Heap} {a:Addr} {o:HO} (x:HOk P w H h) (hf:H a=none) (new:ObjOk P w (upd H a o) h a o):HOk P w (upd H a o) h:=λ b u e=>by
 by_cases hb:b=a
 ·subst hb;rw [z02] at e;cases e;exact new
 ·rw [upd_ne hb] at e;exact (x b u e).stay (λ _ _ _ q=>q) (λ c q=>by rw [upd_ne (z0a q hf)];exact q) λ c d q=>by rw [upd_ne (z0a q hf)];exact q
section
variable {P:Program} {w:W0} {base B:Heap} {outer:List Env} {H H':Hp} {h h1 h6:Heap} {ea:Addr} {cls a0:Value}
theorem fly_un (fu:h.FunFrames base outer) (frf :∀b∈frs outer,H b=none) (un:Un (frs outer) [] H H' h h1) (hok:HOk P w H' h1) (fl:j1c B outer ea cls a0 h1)
  (keep :∀b o,h1.get? b=some o->b∉frs outer->((∃u,H' b=some u)\/∃u,h.get? b=some u)->B.get? b=some o)
  (fl6:j1c B outer ea cls a0 h6) (up:h1.UpToSlots h6):Un (frs outer) [] H H' h h6/\HOk P w H' h6/\h.get? ea=none:=by
 have stay :∀b o,h1.get? b=some o->b∉frs outer->((∃u,H' b=some u)\/∃u,h.get? b=some u)->h6.get? b=some o:=λ b o e a p=>fl6.1 b o (keep b o e a p);have l :∀b o,b∈frs outer->h1.get? b=some o->∃k,h6.get? b=some { o with slots:=k }:=λ b o a e=>by obtain ⟨_,y,g,hd⟩:=fl.2.2.1.mem a;rw [e] at g;cases g;exact up b o e hd
 have m :∀b∈frs outer,H' b=none:=λ b a=>by obtain ⟨_,o,x,_⟩:=fu.mem a;exact un.free b o x (frf b a) (by simp)
 refine ⟨⟨λ b o e n a _=>?_,λ b o e n a _=>?_,un.free,λ b o e _=>?_,un.tups,un.frzs,un.tbls⟩,λ b u e=>?_,?_⟩
 ·exact stay b o (un.keep b o e n a (by simp)) a (.inr ⟨o,e⟩)
 ·obtain ⟨k,d⟩:=un.slot b o e n a (by simp);obtain ⟨A,j⟩:=l b _ a d;exact ⟨A,j⟩
 ·obtain ⟨i,d⟩:=un.there b o e (by simp);by_cases a:b∈frs outer
  ·obtain ⟨k,j⟩:=l b i a d;exact ⟨_,j⟩
  ·exact ⟨i,stay b i d a (.inr ⟨o,e⟩)⟩
 ·refine (hok b u e).stay (λ c v f q=>stay c v q (λ z=>?_) (.inl ?_)) (λ _ q=>q) λ _ _ q=>q
  ·have:=m c z;rcases f with rfl|f
   ·rw [e] at this;cases this
   ·rw [f] at this;cases this
  ·rcases f with rfl|f
   ·exact ⟨u,e⟩
   ·exact ⟨_,f⟩
 ·cases q:h.get? ea with
  | none=>rfl
  | some o=>
   by_cases a:ea∈frs outer
   ·obtain ⟨_,y,g,hd⟩:=fl6.2.2.1.mem a;obtain ⟨_,_,_,C,r,_,_,_,s,_,t,_⟩:=fl6;rw [s] at g;cases g;exact absurd t (hd r)
   ·obtain ⟨i,d⟩:=un.there ea o q (by simp);have:=keep ea i d a (.inr ⟨o,q⟩);rw [fl6.2.1] at this;cases this
end
noncomputable def Cx.tryX (X:Cx) (pn:List (Addr×Obj)) (E:St->XK):Cx:=
 ({ X with pn:=pn }:Cx).wish λ e s'=>∃pins σ1 H1 s1,Inv { X with pn:=pn } pins σ1 H1 s1/\CXE X.prog X.w X.base X.stack H1 s1 (E σ1) e s'
noncomputable abbrev Cx.exc (X:Cx) (ea:Addr):Cx:={ X with A:=X.A.mark (some (.ref ea)),calm:=false,xe:=λ _ _=>False }
section
variable {X:Cx} {pins pn:List (Addr×Obj)} {σ:St} {H:Hp} {s:B0} {ea:Addr} {E:St->XK}
theorem Inv.toPn (I:Inv X pins σ H s):Inv { X with pn:=X.pn++pins } [] σ H s:=
 ⟨⟨I.ok.mod,I.ok.kind,I.ok.glob,I.ok.blt,I.ok.above,I.ok.inj,I.ok.has,I.ok.cab,I.ok.hd,I.ok.frames,I.ok.stk,I.ok.exf,I.ok.bs,I.ok.bsz,I.ok.noex,I.ok.exfs,I.ok.funs,I.ok.frf⟩,I.os,I.bare,I.base,I.loc,I.cell,I.free,I.freeC,λ p a=>I.pin p (by simpa using a),I.hok,I.len⟩
theorem Inv.ofPn {pins':List (Addr×Obj)} (I:Inv { X with pn:=X.pn++pins } pins' σ H s):Inv X pins σ H s:=
 ⟨⟨I.ok.mod,I.ok.kind,I.ok.glob,I.ok.blt,I.ok.above,I.ok.inj,I.ok.has,I.ok.cab,I.ok.hd,I.ok.frames,I.ok.stk,I.ok.exf,I.ok.bs,I.ok.bsz,I.ok.noex,I.ok.exfs,I.ok.funs,I.ok.frf⟩,I.os,I.bare,I.base,I.loc,I.cell,I.free,I.freeC,λ p a=>I.pin p (F4 _ a),I.hok,I.len⟩
theorem Inv.toExc (I:Inv X pins σ H s) (ea:Addr):Inv (X.exc ea) pins σ H s:=
 ⟨⟨I.ok.mod,I.ok.kind,I.ok.glob,I.ok.blt,I.ok.above,I.ok.inj,I.ok.has,I.ok.cab,λ z=>(nomatch z),I.ok.frames,I.ok.stk,I.ok.exf,I.ok.bs,I.ok.bsz,I.ok.noex,I.ok.exfs,I.ok.funs,I.ok.frf⟩,I.os,I.bare,I.base,I.loc,I.cell,I.free,I.freeC,I.pin,I.hok,I.len⟩
theorem Inv.ofExc (I:Inv (X.exc ea) pins σ H s) (hd:X.calm=true->X.A.handled=none):Inv X pins σ H s:=
 ⟨⟨I.ok.mod,I.ok.kind,I.ok.glob,I.ok.blt,I.ok.above,I.ok.inj,I.ok.has,I.ok.cab,hd,I.ok.frames,I.ok.stk,I.ok.exf,I.ok.bs,I.ok.bsz,I.ok.noex,I.ok.exfs,I.ok.funs,I.ok.frf⟩,I.os,I.bare,I.base,I.loc,I.cell,I.free,I.freeC,I.pin,I.hok,I.len⟩
theorem passX :∀(pins:List (Addr×Obj)) (σ:St) (H:Hp) (s:B0) (e:Value) (s':B0),Inv (X.tryX pn E) pins σ H s->CXE (X.tryX pn E).prog (X.tryX pn E).w (X.tryX pn E).base (X.tryX pn E).stack H s (E σ) e s'->(X.tryX pn E).xe e s':=
 λ pins σ H s e s' I c=>⟨pins,σ,H,s,I.unwish,c⟩
theorem SP.ofTry {D:Ends} {f:Flow} {s':B0} (h:SP (X.tryX (X.pn++pins) E) [] D f s'):SP X pins D f s':=by
 cases f with
 | next=>obtain ⟨a,b,I,q⟩:=h;exact ⟨a,b,I.unwish.ofPn,q⟩
 | brk=>obtain ⟨a,b,I,q⟩:=h;exact ⟨a,b,I.unwish.ofPn,q⟩
 | cont=>obtain ⟨a,b,I,q⟩:=h;exact ⟨a,b,I.unwish.ofPn,q⟩
 | ret u=>obtain ⟨v,a,b,I,r,q⟩:=h;exact ⟨v,a,b,I.unwish.ofPn,r,q⟩
theorem SP.ofExc {D:Ends} {f:Flow} {s':B0} (h:SP (X.exc ea) pins D f s') (hd:X.calm=true->X.A.handled=none):SP X pins D f s':=by
 cases f with
 | next=>obtain ⟨a,b,I,q⟩:=h;exact ⟨a,b,I.ofExc hd,q⟩
 | brk=>obtain ⟨a,b,I,q⟩:=h;exact ⟨a,b,I.ofExc hd,q⟩
 | cont=>obtain ⟨a,b,I,q⟩:=h;exact ⟨a,b,I.ofExc hd,q⟩
 | ret u=>obtain ⟨v,a,b,I,r,q⟩:=h;exact ⟨v,a,b,I.ofExc hd,r,q⟩
theorem z35 {M:Model} {A:D2} {E:Value->B0->Prop} {i:Nat} {x:Str} {pos:Pos} {Q:Unit->B0->Prop} (I:Inv X pins σ H s) (hN:X.N.Nodup) (hi:X.N[i]? = some x) (hk:X.env.kindOf x=some .local)
  (h :∀s',Inv X pins (σ.set i none) H s'->Q () s'):Q0 M A (do bindName X.env x .none;unbindBehindTheSuite X.env x pos) Q E s:=by
 obtain ⟨m,O,K⟩:=id I.loc;have C:(X.env.scope.kind == .class || (X.env.scope.kind == .module && X.env.locals != X.env.globals))=false:=by rw [I.ok.kind];rfl
 have U:i < σ.length:=by rw [I.len];exact (List.getElem?_eq_some_iff.mp hi).1
 have cne:=I.cne;refine wpAny_nameGoes_keeps hk O C λ W v D a=>?_;refine h _ ⟨I.ok,I.os,I.bare,⟨λ b o e n t g=>?_,λ b o e n t g=>?_,I.base.free,λ b o e g=>?_,I.base.tups,I.base.frzs,I.base.tbls⟩,⟨_,D,λ j y G f r V=>?_⟩,λ y c e=>?_,I.free,I.freeC,λ p F=>?_,λ b S e=>?_,by simpa using I.len⟩
 ·exact (a.2 b (U0 (B1 (J0 e) I.ok.above))).trans (I.base.keep b o e n t g)
 ·obtain ⟨P,f⟩:=I.base.slot b o e n t g;exact ⟨P,(a.2 b (U0 (B1 (J0 e) I.ok.above))).trans f⟩
 ·obtain ⟨R,f⟩:=I.base.there b o e g;exact ⟨R,(a.2 b (U0 (B1 (J0 e) I.ok.above))).trans f⟩
 ·by_cases hj:j=i
  ·subst hj;rw [e8 U] at r;cases r
  ·rw [N8 (c4 hj)] at r;obtain ⟨T,L,q⟩:=K j y G f r V;refine ⟨T,L,?_⟩;rcases q with ⟨k,e⟩|⟨k,c,e,z⟩
   ·refine .inl ⟨k,?_⟩;have:y≠x:=λ e=>hj (z7t hN f (e ▸ hi));simp [this,e]
   ·exact .inr ⟨k,c,e,z.sameBut a (cne y c e)⟩
 ·obtain ⟨w,z⟩:=I.cell y c e;exact ⟨w,z.sameBut a (cne y c e)⟩
 ·obtain ⟨e,n,u,J,d⟩:=I.pin p F;exact ⟨(a.2 p.1 u).trans e,n,u,J,d⟩
 ·refine (I.hok b S e).stay (λ c w l q=>(a.2 c ?_).trans q) (λ _ q=>q) λ _ _ q=>q;rintro rfl;have B:=I.free;rcases l with rfl|l
  ·rw [B] at e;cases e
  ·rw [B] at l;cases l
end
noncomputable def tTryAs (K:d0) (c:Value) (i:Nat) (tb:(St->XK)->TS) (th:TS):TS:=λ D σ H=>tb (λ σ1 cls _ H1=>O9 K cls c=some true/\
 ∀ea,H1 ea=none->th { nx:=λ σ2 H2=>D.nx (σ2.set i none) H2,rt:=D.rt,bk:=λ σ2 H2=>D.bk (σ2.set i none) H2,ct:=λ σ2 H2=>D.ct (σ2.set i none) H2 } (σ1.set i (some (.ref ea))) (upd H1 ea (ExcO ea cls))) D σ H
section
variable {X:Cx} {x n:Str} {c:Value} {i:Nat} {body suite:List Stmt} {b0:Stmt} {np hpos pos:Pos} {tb:(St->XK)->TS} {th:TS}
theorem zbq (hst:X.stack=X.env :: X.outer) (hf:X.env.frame=some X.env.locals) (hg:Gl X x) (hm:X.mg x=some c) (hN:X.N.Nodup) (hi:X.N[i]? = some n) (hk:X.env.scope.names.lookup n=some .local) (hb :∀pn E,PSs (X.tryX pn E) body (tb E))
  (hh :∀ea,PSs (X.exc ea) (b0 :: suite) th) (hdb:(x == ("__debug__" : Str))=false:=by decide) :
  PS X (.Try body [.ExceptHandler (some (.Name x np)) (some n) (b0 :: suite) hpos] [] [] pos) (tTryAs X.K c i tb th):=by
 intro j s σ H D I h;refine wpAny_Try_except (t3 (hb (X.pn++j) _ [] s σ H D (I.toPn.wish _) h) (λ f y q=>?_) λ e y q=>?_)
 ·cases f with
  | next=>exact S8 (SP.ofTry q)
  | brk=>exact SP.ofTry q
  | cont=>exact SP.ofTry q
  | ret u=>exact SP.ofTry q
 ·obtain ⟨b4,m,H1,Y,T,ea,P,a0,B,a,rfl,G,L,un,S,C,hB,t,keep,hE,a8⟩:=q;have d:Inv X j m H1 Y:=T.ofPn;have fr:X.A.frames=some (X.env :: X.outer):=hst ▸ d.ok.frames;refine wpAny_looks_onW fr hf (hst ▸ t) λ h4 a6 M=>?_;refine wpAny_landsW a6 λ Q k O=>?_;rw [<-hst] at k;obtain ⟨V,b2,a9⟩:=fly_un d.stack d.stkFree un S t keep k (M.trans O);have R:Inv X j m a { y with heap:=Q }:=d.call' (ch:=[]) G V b2 L λ b z=>absurd z (by simp);obtain ⟨ob,a7,a5⟩:=k.there;refine wpAny_handleBy_cons (codeAny_handlers_test (z6z (R.toExc ea) hg hm ?_ hdb)) (by intro q;cases q);have Z:PySem.W.Looks (Z0 X.prog X.w) Q (typeOf (.ref ea)) P:=by subst a5;exact (PySem.W.Looks.ld a7).andThen .now
  refine (PySem.W.exm_one (R.toExc ea).kIn Z hE).here ?_;refine codeAny_handlers_suite_as ?_;refine lands_againW k λ U F a3=>?_;obtain ⟨a2,a1,_⟩:=fly_un d.stack d.stkFree un S t keep F ((M.trans O).trans a3);obtain ⟨b3,b1,a4⟩:=F.there;have I6:Inv X j m (upd a ea (ExcO ea P)) { y with heap:=U }:=d.call' (ch:=[]) G (a2.track a9 C) (a1.track C (zgo b1 a4)) L λ b z=>absurd z (by simp);refine z55 (X:=X.exc ea) (v:=.ref ea) (I6.toExc ea) hN hi (.inl hk) rfl (λ s7 I7=>?_) (.inr hk);refine t3 (hh ea j _ _ _ _ I7 (a8 ea C)) (λ f s8 q=>?_) λ _ _ z=>y4 z;have l:=SP.ofExc q d.ok.hd;cases f with
  | next=>obtain ⟨o,a,J,z⟩:=l;exact z35 J hN hi hk λ p g=>⟨_,a,g,z⟩
  | brk=>obtain ⟨o,a,J,z⟩:=l;exact z35 J hN hi hk λ p g=>⟨_,a,g,z⟩
  | cont=>obtain ⟨o,a,J,z⟩:=l;exact z35 J hN hi hk λ p g=>⟨_,a,g,z⟩
  | ret u=>obtain ⟨v,o,a,J,r,z⟩:=l;exact z35 J hN hi hk λ p g=>⟨v,_,a,g,r,z⟩
end
section
variable {X:Cx} {x:Str} {ps:List Str} {k:Nat} {sp:Sp} {e:Expr} {es:List Expr} {t:TA} {p pos:Pos} {E:St->XK}
theorem zam (hx :∀(pins:List (Addr×Obj)) (σ:St) (H:Hp) (s:B0) (e:Value) (s':B0),Inv X pins σ H s->CXE X.prog X.w X.base X.stack H s (E σ) e s'->X.xe e s') (c:CalE X.prog X.w X.K X.mg X.base x ps k sp) (hr:Room k X.A) (hg:Gl X x) (ha:PA X (e :: es) t)
  (hdb:(x == ("__debug__" : Str))=false:=by decide) (he:E1 (e :: es) X.env=(false,V3 e X.env) :: E1 es X.env:=by rfl) (hpl:(z4 pos (E1 es X.env)).any (·.1)=false:=by rfl) :
  PE X (.Call (.Name x p) (e :: es) [] pos) (λ σ H Q=>t σ H λ vs H1=>sp vs H1 Q (E σ)):=by
 intro pins s σ H Q I h;obtain ⟨f,n,F,j,l,i⟩:=c.ex;refine R3 (z6z I hg j ?_ hdb);refine j29 (h₀:=X.base) I.ok.mod.kin l (thn (ha pos pins s σ H _ I h) λ b d ⟨vs,H1,I1,r,q⟩=>⟨I1.kIn,?_⟩) he hpl;have m:b.length=ps.length:=by rw [<-r.length];exact F.len _ _ _ _ q
 have g:=i d b I1.kIn (by rw [U2];exact m);rw [U2] at g;refine K9 (d5 (F.run X.A X.stack d H1 ⟨b,[]⟩ b vs Q (E σ) hr I1.env0 g r q) λ r s' a=>?_);cases r with
 | error e=>exact hx pins σ H1 d e s' I1 a
 | ok fl=>
  cases fl with
  | ret u=>exact I1.after a
  | next=>exact y4 a
  | brk=>exact y4 a
  | cont=>exact y4 a
end
end L2
set_option maxHeartbeats 400000
namespace L2
open PySem PySem.Spec PyProof.Rows PySem.W PySem.Calls PySem.Builtin PySem.Builtin.ObjectAttr PySem.Builtin.Getset_descriptor
section
variable {prog:Program} {w:W0} {A:D2} {E:Value->B0->Prop} {h:Heap} {g:Array j2e} {d:Drawn} {t:Nat} {os:Z2} {K:d0} {a C:Addr} {o:Obj}
theorem zfe {R:j0e->B0->Prop} {tp:Value} (X:K.In h) (L0:Looks (Z0 prog w) h (typeOf (.ref a)) (.ref C)) (hm:mroIn K C (.type "object")=some true) (hq:R (.ok (.ret (.ref C))) ⟨h,g,d,t,os⟩) :
  V4 (Z0 prog w) A (.call (.builtin "getset_descriptor.__get__") ⟨[.builtin "object.__class__",.ref a,tp],[]⟩) R ⟨h,g,d,t,os⟩:=by
 have b:=looks_mroIn (M:=Z0 prog w) X hm;refine T5 KF.slot_gs.plain KF.entry_gs (KF.slot_gs.check _ _ _ _ _ _ _ _ KF.type_class (KF.args_gs _ _ _) ?_);unfold X5.«getset_descriptor.__get__» descrGet;rw [dga_obj];refine o0 (C0 ?_);unfold descrGetter descrCheckInstance descrNameAndClass j20;simp only [KF.owner_class]
 repeat lk
 refine ⟨d9 _ (by decide +kernel),Q3 KF.entry_class ?_⟩;unfold X5.«object.__class__» shownTypeOf
 repeat lk
 exact hq
theorem zds {tk:Tok} {Q:Fin->B0->Prop} (X:K.In h) (hx:h.get? a=some o) (hc:o.cls=.ref C) (ha:findIn K (.ref C) "__class__" = some (some (.builtin "object.__class__"))) (hm:mroIn K C (.type "object")=some true)
  (hq:Q (.done (.ret (.ref C))) ⟨h,g,d,t,os⟩):Q0 (Z0 prog w) A (X5.«object.__getattribute__» ⟨[.ref a,.str "__class__" tk],[]⟩) Q E ⟨h,g,d,t,os⟩:=by
 have c:Looks (Z0 prog w) h (typeOf (.ref a)) (.ref C):=hc ▸ (Looks.ld hx).andThen .now;have b:=looks_findIn (M:=Z0 prog w) X ha;have i:(⟨h,g,d,t,os⟩:B0).TypeIs (.builtin "object.__class__") "getset_descriptor":=KF.type_class;have j:=KF.type_class;have f:=F.slot_gs_get.lookup;have e:=F.slot_gs_set.lookup
 repeat (any_goals (first|assumption|(with_reducible refine Y9 hx ?_;rw [hc])|with_reducible refine b.at ?_|wp_step))
 refine zfe X c hm ?_
 repeat (any_goals (first|assumption|wp_step))
end
end L2
namespace L2
open PySem PySem.Spec PyProof.Rows PySem.W
section
variable {prog:Program} {w:W0} {A:D2} {E:Value->B0->Prop} {h:Heap} {g:Array j2e} {d:Drawn} {t:Nat} {os:Z2} {K:d0} {a C:Addr} {o:Obj}
theorem zcm {M:Model} {nameV:Value} {Q:Unit->B0->Prop} (X:K.In h) (hx:h.get? a=some o) (hc:o.cls=.ref C) (hm:mroIn K C (.type "BaseException")=some true) (hq:Q () ⟨h,g,d,t,os⟩) :
  Q0 M A (checkBuiltinCall "BaseException.__getattribute__" ⟨[.ref a,nameV],[]⟩) Q E ⟨h,g,d,t,os⟩:=by
 have b:builtinKind "BaseException.__getattribute__" = some .slot:=by decide +kernel
 have c:splitId "BaseException.__getattribute__" = some ("BaseException","__getattribute__"):=by decide +kernel
 have e:=looks_mroIn (M:=M) X hm;have f:=F.args_bexc_ga (.ref a) nameV;simp only [checkBuiltinCall,b,c];refine o0 ?_
 ·unfold j20
  repeat (first|(with_reducible refine Y9 hx ?_;rw [hc])|with_reducible refine e.at ?_|wp_step)
  exact hq
theorem zfp {tk:Tok} {R:j0e->B0->Prop} (X:K.In h) (hx:h.get? a=some o) (hc:o.cls=.ref C) (ha:findIn K (.ref C) "__class__" = some (some (.builtin "object.__class__"))) (hm:mroIn K C (.type "object")=some true)
  (hb:mroIn K C (.type "BaseException")=some true) (hq:R (.ok (.ret (.ref C))) ⟨h,g,d,t,os⟩):V4 (Z0 prog w) A (.call (.builtin "BaseException.__getattribute__") ⟨[.ref a,.str "__class__" tk],[]⟩) R ⟨h,g,d,t,os⟩:=
 T5 F.excAttr_ValueError.ga.plain F.entry_bexc_ga (zcm X hx hc hb (zds X hx hc ha hm hq))
theorem exc_by {tk:Tok} {fill expr:Bool} {Q:Value->B0->Prop} (X:K.In h) (hx:h.get? a=some o) (hc:o.cls=.ref C) (ha:findIn K (.ref C) "__class__" = some (some (.builtin "object.__class__"))) (hm:mroIn K C (.type "object")=some true)
  (hb:mroIn K C (.type "BaseException")=some true) (hg:findIn K (.ref C) "__getattribute__" = some (some (.builtin "BaseException.__getattribute__"))) (hn:findIn K (.ref C) "__getattr__" = some none) (hq:Q (.ref C) ⟨h,g,d,t,os⟩) :
  Q0 (Z0 prog w) A (getAttrBy (.ref a) (.str "__class__" tk) fill expr) Q E ⟨h,g,d,t,os⟩:=by
 have i:=F.excAttr_ValueError.ga.bind (.ref a);have f:(expr && onTheHeap (U5 "BaseException.__getattribute__"))=false:=by cases expr<;>rfl
 have b:(U5 "BaseException.__getattribute__" == U5 "object.__getattribute__")=false:=by decide +kernel
 have j:(onTheHeap (Value.ref C) && U5 "BaseException.__getattribute__" == U5 "object.__getattribute__")=false:=by rw [b];rfl
 have c:=looks_findIn (M:=Z0 prog w) X hg;have e:=looks_findIn (M:=Z0 prog w) X hn
 repeat (any_goals (first|assumption|(with_reducible refine Y9 hx ?_;rw [hc])|with_reducible refine c.at ?_|with_reducible refine e.at ?_|wp_step))
 refine zfp X hx hc ha hm hb ?_
 repeat (any_goals (first|assumption|wp_step))
theorem zgt {Q:Option Value->B0->Prop} (X:K.In h) (hx:h.get? a=some o) (hc:o.cls=.ref C) (ha:findIn K (.ref C) "__class__" = some (some (.builtin "object.__class__"))) (hm:mroIn K C (.type "object")=some true)
  (hb:mroIn K C (.type "BaseException")=some true) (hg:findIn K (.ref C) "__getattribute__" = some (some (.builtin "BaseException.__getattribute__"))) (hn:findIn K (.ref C) "__getattr__" = some none) (hq:Q (some (.ref C)) ⟨h,g,d,t + 1,os⟩) :
  Q0 (Z0 prog w) A (J8 (.ref a) "__class__") Q E ⟨h,g,d,t,os⟩:=by
 unfold J8 getAttrBy?;refine o0 (wpAny_mkText (o0 (V6 (exc_by X hx hc ha hm hb hg hn (C0 hq)))))
end
noncomputable def excCls (K:d0) (C:Addr):Bool:=(clsIn K C).isSome && (findIn K (.ref C) "__class__" == some (some (.builtin "object.__class__")) && (mroIn K C (.type "object") == some true && (mroIn K C (.type "BaseException") == some true &&
 (findIn K (.ref C) "__getattribute__" == some (some (.builtin "BaseException.__getattribute__")) && findIn K (.ref C) "__getattr__" == some none))))
theorem zcg {K:d0} {a C:Addr} (e:excCls K C=true):KitX K (.ref a) (.ref C) (λ h=>∃o,h.get? a=some o/\o.cls=.ref C):=by
 unfold excCls at e;simp only [W2,beq_iff_eq] at e;obtain ⟨b,i,f,c,m,j⟩:=e;refine ⟨λ M h _ ⟨o,hx,hc⟩=>hc ▸ (Looks.ld hx).andThen .now,λ M h X _=>?_,λ h tp B u n y X l=>?_,λ {prog w A E Q s} X ⟨o,hx,hc⟩ k=>?_⟩
 ·unfold clsIn at b;split at b
  ·rename_i c' d' cd' sl' ho;intro D x r p k q;unfold isType loadHead;exact o0 (wpAny_loadPart (k _ _ (X _ _ ho)) (C0 q))
  ·cases b
 ·refine Bool.eq_false_iff.mpr λ q=>?_;have e:C=tp:=Value.ref.inj (beq_iff_eq.mp q);subst e;unfold clsIn at b;split at b
  ·rename_i c' d' cd' sl' ho;have z:=(X _ _ ho).symm.trans l;cases z
  ·cases b
 ·obtain ⟨h,g,d,t,v⟩:=s;exact zgt X hx hc i f c m j k
theorem zeo :∀{cs:List Addr} {its:List Value},Vals (cs.map V.ref) its->its=cs.map Value.ref
 | [],_,.nil=>rfl
 | c :: cs,_,.cons r t=>by rw [zeo t];cases (show _=Value.ref c from r);rfl
section
variable {X:Cx}
theorem z19 (K:d0) (eK:X.K=K:=by rfl):CallR X (.builtin "isinstance") (λ xs H Q=>∃ea C v u b,xs=[.ref ea,v]/\H ea=some (ExcO ea (.ref C))/\excCls K C=true/\RelV v u/\(∀u',RelV v u'->u'=u)/\kitOne K (.ref C) u=some b/\Q (.bl b) H):=by subst eK;intro m s σ H xs l Q I r h;obtain ⟨ea,C,v,u,b,rfl,e,j,n,d,f,q⟩:=h;obtain ⟨i,k,rfl,c,g⟩:=vals2 r;cases (show i=Value.ref ea from c);cases d _ g;obtain ⟨p,_⟩:=I.hok ea _ e;exact kia_one (zcg j) I.kIn p f (λ z=>nomatch z) λ a=>⟨.bl b,H,I.tok a,rfl,q⟩
theorem z12 (K:d0) (eK:X.K=K:=by rfl):CallR X (.builtin "isinstance") (λ xs H Q=>∃(ea C p:Addr) (cs:List Addr) (b:Bool),xs=[.ref ea,.ref p]/\H ea=some (ExcO ea (.ref C))/\excCls K C=true/\H p=some (.tup (cs.map V.ref))/\kitAny K (.ref C) (cs.map Value.ref)=some b/\Q (.bl b) H):=by subst eK;intro D s σ H xs y Q I r h;obtain ⟨ea,C,p,cs,b,rfl,k,x,j,u,q⟩:=h;obtain ⟨w,g,rfl,i,v⟩:=vals2 r;cases (show w=Value.ref ea from i);cases (show g=Value.ref p from v);obtain ⟨t,_⟩:=I.hok ea _ k;obtain ⟨_,f,l,⟨o,m,c,n,a⟩,_⟩:=I.hok p _ j;have e:f=cs.map Value.ref:=zeo l;subst e;obtain ⟨A,F,B,E⟩:=o;dsimp only at c a;subst c a;exact kia_tup (zcg x) I.kIn t m u (λ z=>nomatch z) λ d=>⟨.bl b,H,I.tok d,rfl,q⟩
end
end L2
namespace L2
open PySem PySem.Spec PyProof.Rows
end L2
set_option maxHeartbeats 4000000
namespace L2
open PySem PySem.Spec PyProof.Rows
noncomputable def cStG (σ:St) (fr:List (Nat×Str)) (us:List (Option V)):St:=us++fr.map λ p=>(σ[p.1]?).join
noncomputable def tCompG (wi:TI) (n:Nat) (fr:List (Nat×Str)) (g:TG) (tc:TT) (te:TE):TE:=λ σ H Q=>wi σ H λ J H1=>∃W:Nat->Nat->List V->Hp->Prop,(∃m,W 0 m [] H1)/\∀i m ys H,W i m ys H->
 (J.stop i H/\ys.length<=sizeLine/\∀p,H p=none->Q (.ref p) (upd H p (.lst ys)))\/
 (J.go i H/\ys.length<=sizeLine/\∀v H',J.yld i H v H'->g v (cStG σ fr (y3 n none)) H' λ σ6 H6=>∃us,us.length=n/\σ6=cStG σ fr us/\tc (cStG σ fr us) H6 λ b H2=>if b=true then te (cStG σ fr us) H2 λ y H3=>∃m',m' < m/\W (i + 1) m' (ys++[y]) H3 else∃m',m' < m/\W (i + 1) m' ys H2)
section
variable {X:Cx}
theorem zf2 {scope:Scope} {cl:List (Str×Addr)} {N:List Str} {C:Addr} {s₂:B0} {H₂:Hp} {fp:List Addr} {x:Str} {px:Pos} (i:Nat) (hN:N.Nodup) (hi:N[i]? = some x) (hx:scope.names.lookup x=some .local):PG (cxComp X scope cl N C s₂ H₂ fp) (.Name x px) (gName i):=
 z0p hN hi (.inl (lookup_relabel_local hx)) (.inr (lookup_relabel_local hx))
theorem zak {xs:List Str} {tg:Expr} {g:TG} {pos:Pos} {elt iter:Expr} {ifs:List Expr} {scope:Scope} {fr:List (Nat×Str)} {wi:TI} {tc:TT} {te:TE} {use:Option (Value->Sem Unit)} {QQ:Value->B0->Prop} {pins:List (Addr×Obj)} {s:B0} {σ:St} {H:Hp} {Q:VK} {pp:Pos} (hcalm:X.calm=true) (hi:PI X tg iter wi)
  (hfr :∀p∈fr,X.N[p.1]? = some p.2/\(X.env.kindOf p.2=some .cell\/X.env.kindOf p.2=some .free))
  (hfree :∀y∈scope.names,y.2=E2->X.env.kindOf y.1=some .cell\/X.env.kindOf y.1=some .free)
  (hfs :∀p∈fr,(p.2,E2)∈scope.names/\((a8 scope X.env).names.lookup p.2=some .cell\/(a8 scope X.env).names.lookup p.2=some .free))
  (hcell :∀y∈scope.names,y.2≠NameKind.cell) (hkind:scope.kind=.function) (hnames :∀y∈scope.names,y.2=NameKind.local->scope.names.lookup y.1=some .local)
  (hg :∀cl C s₂ H₂ fp,PG (cxComp X scope cl (xs++fr.map (·.2)) C s₂ H₂ fp) tg g)
  (ht :∀cl C s₂ H₂ fp,PF (cxComp X scope cl (xs++fr.map (·.2)) C s₂ H₂ fp) ifs tc) (he :∀cl C s₂ H₂ fp,PE (cxComp X scope cl (xs++fr.map (·.2)) C s₂ H₂ fp) elt te)
  (hs :∀x,E6 iter X.env x=S3 x) (I:Inv X pins σ H s) (h:tCompG wi xs.length fr g tc te σ H Q)
  (hend :∀(D:Addr) (s4:B0) (H4:Hp),Inv X pins σ H4 s4->(∃m,s4.heap.Ns (D + 1) m)->H4 (D + 1)=none->D + 1≠X.env.locals->X.s₀.heap.objs.size<=D + 1->(D + 1∉X.fs/\(∀x c,X.env.cells.lookup x=some c->c≠D + 1)/\∀p∈X.pn++pins,p.1≠D + 1)->Q (.ref D) H4->compPost (Z0 X.prog X.w) X.A X.xe use QQ (.ref D) (D + 1) (.ok .next) s4) :
  Q0 (Z0 X.prog X.w) X.A (comprehension (.ListComp elt [⟨tg,iter,ifs,0⟩] scope pos) scope X.env pp (newList []) false (firstIter [⟨tg,iter,ifs,0⟩] X.env) use) QQ X.xe s:=by
 obtain ⟨cl,g1,U,c0⟩:=zaf (scope:=scope) (env:=X.env) λ y S hk=>I.ok.has y.1 (hfree y S hk);refine wpAny_comprehension_free (use:=use) rfl hs g1 hkind hnames (thn (hi pins s σ H _ I h) λ xv s₁ h₁=>thn h₁ λ g2 s₂ h₂=>?_);obtain ⟨it,fp,tn,J,O,e,f,T,b2,M,W,⟨m0,w0⟩,f8⟩:=h₂;subst e
 -- the list that is filled,the block's names
 refine N4 (wpAny_newFunctionEnv hcell (by intro y S;simp at S) (λ h₁ a3 a0=>?_) hkind);dsimp only at a3 a0⊢;generalize hD:s₂.heap.objs.size=D at a3 a0⊢;generalize hG:s₂.heap.push { cls:=.type "list",dict:=none,data:=.seq ([]:List Value).toArray }=G at a3 a0⊢;have hC:G.objs.size=D + 1:=by rw [<-hG,R4,hD]
 generalize hCC:G.objs.size=C at a3 a0 hC⊢;subst hC;have b1 :∀b∈fp,b < D:=λ b a=>by obtain ⟨o,e,_⟩:=T.obj _ _ b2 b a;rw [<-hD];exact J0 e
 have a2 :∀b o,s₂.heap.get? b=some o->h₁.get? b=some o:=λ b o e=>a0.extBut b o (U0 (P1 (by rw [<-hD];exact J0 e))) (A0 _ (hG ▸ A0 _ e));have d8:G.get? D=some { cls:=.type "list",dict:=none,data:=.seq ([]:List Value).toArray }:=by rw [<-hG,<-hD];exact P0 _ rfl
 have f7:h₁.PlainList D #[]:=⟨0,a0.extBut _ _ (U0 (X2 D)) (A0 _ d8)⟩
 have e5 :∀y c,cl.lookup y=some c->c < D:=λ y c e=>by obtain ⟨v,q⟩:=f.cell y c (U y c e);rw [<-hD];exact q.lt
 have f9 :∀b∈frs X.stack,b < D:=λ b a=>by
  rcases List.mem_cons.mp (f.stkSub b a) with e|a
  ·rw [e,<-hD];exact f.lt
  ·rw [<-hD];exact Nat.lt_of_not_le λ z=>f.nofs z a
 have c4 :∀b∈fp,b∉frs X.stack:=λ b a e4=>by
  rcases List.mem_cons.mp (f.stkSub b e4) with e|z
  ·exact (M b a).2.1 e
  ·exact (M b a).2.2.1 z
 generalize hX':cxComp X scope cl (xs++fr.map (·.2)) (D + 1) s₂ O fp=X';have d7:X'.Ok:=by
  subst hX';refine ⟨f.ok.mod,hkind,f.ok.glob,f.ok.blt,(by show s₂.heap.objs.size<=D + 1;omega),λ y z c P L=>f.ok.inj y z c (U _ _ P) (U _ _ L),λ y S=>?_,(λ _ _ z=>Bool.noConfusion z),f.ok.hd,f.ok.frames,.inl rfl,λ b a=>⟨?_,λ y c e=>?_⟩,λ b o e=>f.bs b o e,?_,λ b o e a=>?_,c4,f.env0.funs,f.stkFree⟩
  ·rcases S with S|S
   ·exact c0 y (z3x hcell S (.inl rfl))
   ·exact c0 y (z3x hcell S (.inr rfl))
  ·exact U0 (P1 (b1 b a))
  ·exact (M b a).2.2.2.2.1 y c (U y c e)
  ·exact S0 f.ok.bsz f.sz
  ·rcases (M b a).2.2.2.1 with z|z
   ·exact f.ok.noex b o e z
   ·exact absurd (B1 (J0 (f.ok.bs b o e).1) z) (D3 _)
 have Z:X'.env.locals=D + 1:=by subst hX';rfl
 have a4:X'.env.cells=cl:=by subst hX';rfl
 have a6:X'.fs=frs X.stack:=by subst hX';rfl
 have b6:X'.pn=[]:=by subst hX';rfl
 have a5:X'.s₀=s₂:=by subst hX';rfl
 have c8:X'.H₀=O:=by subst hX';rfl
 have b3:X'.ex=fp:=by subst hX';rfl
 have c5:X'.N=xs++fr.map (·.2):=by subst hX';rfl
 have d0:X'.A=X.A:=by subst hX';rfl
 have F:X'.prog=X.prog/\X'.w=X.w/\X'.K=X.K/\X'.calm=true:=by subst hX';exact ⟨rfl,rfl,rfl,hcalm⟩
 have b9:X'.xe=λ _ _=>False:=by subst hX';rfl
 have d1:X'.env=compEnvC scope cl (D + 1) X.env:=by subst hX';rfl
 have f6:PF X' ifs tc:=hX' ▸ ht cl (D + 1) s₂ O fp;have f0:PE X' elt te:=hX' ▸ he cl (D + 1) s₂ O fp;have d6:PG X' tg g:=hX' ▸ hg cl (D + 1) s₂ O fp;have fresh :∀b,D<=b->O b=none:=λ b a=>f.hok.fresh (by rw [hD];exact a);have start :∀t,Inv X' [] (cStG σ fr (y3 xs.length none)) O { s₂ with heap:=h₁,toks:=t }:=λ t=>by
  refine ⟨d7,by rw [a5],f.bare,?_,⟨_,by rw [Z];exact a3,λ i y v P L e3=>?_⟩,λ y c e=>?_,by rw [Z];exact fresh _ (G5 _),λ y c e=>?_,λ p B=>?_,?_,?_⟩
  ·rw [a6,b3,c8,a5];exact Un.kept a2
  ·rw [c5] at P;by_cases a1:i < xs.length
   ·exfalso;unfold cStG at L;rw [E3 (by rw [Y3];exact a1),T7,if_pos a1] at L;cases L
   ·have a1:xs.length<=i:=P9 a1;rw [A3 a1,U1] at P;unfold cStG at L;rw [A3 (by rw [Y3];exact a1),Y3,U1] at L;generalize i - xs.length=i at P L;cases ej:fr[i]? with
    | none=>rw [ej] at P;cases P
    | some p=>
     rw [ej] at P;obtain rfl:p.2=y:=Q1 P;have b0:(σ[p.1]?).join=some v:=by rw [ej] at L;exact Q1 L
     have d4:σ[p.1]? = some (some v):=by
      cases q:σ[p.1]? with
      | none=>rw [q] at b0;cases b0
      | some z=>rw [q] at b0;exact congrArg some b0
     have B:=I0 ej;obtain ⟨m,hn,hl⟩:=f.loc;obtain ⟨u,r,l⟩:=hl p.1 p.2 v (hfr p B).1 d4 (by rcases (hfr p B).2 with z|z;exact .inr (.inl z);exact .inr (.inr z));refine ⟨u,r,.inr ⟨?_,?_⟩⟩
     ·rw [d1];exact (hfs p B).2
     ·rcases l with ⟨z,_⟩|⟨_,c,ec,q⟩
      ·exfalso;rcases (hfr p B).2 with z'|z'<;>(rw [z] at z';cases z')
      ·obtain ⟨c',c3⟩:=c0 p.2 (hfs p B).1;have:=U _ _ c3;rw [ec] at this;cases this;obtain ⟨o,ho,hd⟩:=q;exact ⟨c,by rw [a4];exact c3,o,a2 _ _ ho,hd⟩
  ·rw [a4] at e;obtain ⟨v,o,ho,hd⟩:=f.cell y c (U y c e);exact ⟨v,o,a2 _ _ ho,hd⟩
  ·rw [a4] at e;exact f.freeC y c (U y c e)
  ·rw [b6] at B;exact nomatch B
  ·rw [F.1,F.2.1];exact f.hok.kept a2
  ·rw [c5];unfold cStG;simp
 have FP :∀{pins':List (Addr×Obj)} {H':Hp},(∀b∈fp,H' b=none)->(∀p∈pins',p.1=D)->∀b∈fp,FpOk X' pins' H' b:=λ hn B b a=>by
  refine ⟨hn b a,?_,?_,.inl (by rw [b3];exact a),λ y c e=>?_,λ p c7=>?_⟩
  ·rw [Z];exact U0 (P1 (b1 b a))
  ·rw [a6];exact c4 b a
  ·rw [a4] at e;exact (M b a).2.2.2.2.1 y c (U y c e)
  ·rw [b6] at c7;rw [B p c7];exact O2 (b1 b a)
 -- the turns
 have loop :∀s₃:B0,s₃={ s₂ with heap:=h₁,toks:=s₂.toks + ([]:List (Str×Value)).length }->
   V4 (Z0 X.prog X.w) X.A (.compLoop (.ListComp elt [⟨tg,iter,ifs,0⟩] scope pos) 0 (.ref it) (.ref D) (compEnvC scope cl (D + 1) X.env))
    (compPost (Z0 X.prog X.w) X.A X.xe use QQ (.ref D) (D + 1)) s₃:=by
  rintro s₃ rfl;rw [<-d1,<-F.1,<-F.2.1,<-d0];refine zdo (λ k s'=>∃i ys its H',Inv X' [] (cStG σ fr (y3 xs.length none)) H' s'/\tn i s'.heap/\(∀b∈fp,H' b=none)/\s'.heap.PlainList D its.toArray/\Vals ys its/\H' D=none/\W i k ys H') ?_ m0
   ⟨0,[],[],O,start _,T.keep _ _ _ b2 λ b a o e=>a2 b o e,λ b a=>(M b a).1,f7,.nil,fresh _ (D0 _),w0⟩
  rintro n s3 ⟨i,ys,its,H3,I3,st3,fr3,ac3,rv3,hD3,w3⟩;obtain ⟨na,e8⟩:=id ac3;have c1:Inv X' [(D,{ cls:=.type "list",data:=.seq its.toArray na })] (cStG σ fr (y3 xs.length none)) H3 s3:=I3.pins_of λ p B=>by rw [List.mem_singleton] at B;subst B;refine ⟨e8,hD3,by rw [Z];exact U0 (X2 D),by rw [a6];exact λ z=>D3 _ (f9 D z),λ v z=>nomatch z⟩
  have hT:=T;rw [<-F.1,<-F.2.1,<-F.2.2.1] at hT;rcases f8 i n ys H3 w3 with ⟨d3,b5,qn⟩|⟨go,b5,step⟩
  ·refine thn (hT.done X' rfl rfl rfl F.2.2.2 i _ s3 _ H3 _ c1 (FP fr3 (by intro p B;rw [List.mem_singleton.mp B])) st3 d3) λ r s4 ⟨hr,I4⟩=>?_;subst hr;obtain ⟨m4,e0,_⟩:=id I4.loc;obtain ⟨h',c9⟩ :∃h',h'=s4.heap:=⟨_,rfl⟩
   have c2:j6 (D + 1) s4.heap h':=by rw [c9];exact ⟨rfl,λ _ _=>rfl⟩
   have f5:D≠D + 1:=U0 (X2 D);have f1:=(I4.pin (D,_) (X0 _ F2))
   have d5:h'.get? D=some { cls:=.type "list",data:=.seq its.toArray na }:=(c2.2 D f5).trans f1.1;have un:Un (frs X.stack) fp O H3 s₂.heap s4.heap:=by have:=I4.base;rw [a6,b3,c8,a5] at this;exact this
   have kp :∀b o,b≠D + 1->s4.heap.get? b=some o->h'.get? b=some o:=λ b o a e=>(c2.2 b a).trans e;have a9 :∀b o,s₂.heap.get? b=some o->b≠D + 1/\b≠D:=λ b o e=>by have:=J0 e;rw [hD] at this;exact ⟨U0 (P1 this),U0 this⟩
   have f3:Un (frs X.stack) fp O (upd H3 D (.lst ys)) s₂.heap h':=by
    refine ⟨λ b o e n a Y=>kp b o (a9 b o e).1 (un.keep b o e n a Y),λ b o e n a Y=>?_,λ b o e n Y=>by rw [upd_ne (a9 b o e).2];exact un.free b o e n Y,λ b o e Y=>?_,λ b xs e=>?_,λ b o u e=>?_,λ b ps e=>?_⟩
    ·obtain ⟨sl,z⟩:=un.slot b o e n a Y;exact ⟨sl,kp _ _ (a9 b o e).1 z⟩
    ·obtain ⟨o',z⟩:=un.there b o e Y;exact ⟨o',kp _ _ (a9 b o e).1 z⟩
    ·rw [upd_ne (z0a e (fresh D (D0 _)))];exact un.tups b xs e
    ·rw [upd_ne (z0a e (fresh D (D0 _)))];exact un.frzs b o u e
    ·rw [upd_ne (z0a e (fresh D (D0 _)))];exact un.tbls b ps e
   have b4:H3 (D + 1)=none:=by have:=I4.free;rw [Z] at this;exact this
   have d9:HOk X.prog X.w (upd H3 D (.lst ys)) h':=λ b u e=>by
    by_cases a:b=D
    ·subst a;rw [z02] at e;cases e;exact ⟨b5,its,na,rv3,d5⟩
    ·rw [upd_ne a] at e;have z:=I4.hok b u e;rw [F.1,F.2.1] at z;refine z.stay (λ c v hc q=>kp c v ?_ q) (λ c q=>by rw [upd_ne (z0a q hD3)];exact q) λ c xs q=>by rw [upd_ne (z0a q hD3)];exact q
     rintro rfl;rcases hc with rfl|hc
     ·rw [b4] at e;cases e
     ·rw [b4] at hc;cases hc
   subst c9;have I5:Inv X pins σ (upd H3 D (.lst ys)) s4:=f.call' (s':=s4) (ch:=fp) (by have:=I4.os;rw [a5] at this;exact this) f3 d9 I4.bare (λ b a=>⟨(M b a).2.2.2.1,(M b a).2.1,(M b a).2.2.2.2.1,(M b a).2.2.2.2.2⟩);show compPost (Z0 X'.prog X'.w) X'.A X.xe use QQ (.ref D) (D + 1) (.ok .next) s4;rw [F.1,F.2.1,d0];refine hend D s4 _ I5 ⟨m4,Z ▸ e0⟩ ?_ ?_ ?_ ?_ (qn D hD3)
   ·rw [upd_ne (O2 (X2 D))];exact b4
   ·exact O2 (P1 (by rw [<-hD];exact f.lt))
   ·exact S0 f.sz (by rw [hD];exact G5 D)
   ·refine ⟨λ z=>f.nofs (by rw [hD];exact G5 D) z,λ y c e=>?_,λ p B=>?_⟩
    ·obtain ⟨v,q⟩:=f.cell y c e;exact U0 (P1 (by rw [<-hD];exact q.lt))
    ·exact U0 (P1 (by rw [<-hD];exact J0 (f.pin p B).1))
  ·refine thn (hT.item X' rfl rfl rfl F.2.2.2 i _ s3 _ H3 _ c1 (FP fr3 (by intro p B;rw [List.mem_singleton.mp B])) st3 go) λ r s4 ⟨u,hr,h4⟩=>?_;subst hr;refine thn h4 λ _ s5 ⟨v,H5,I5,r5,y5,st5,fr5⟩=>?_;have e7:=I5.pinned (FP fr5 (by intro p B;rw [List.mem_singleton.mp B])) (T.obj _ _ st5);have g5:=d6 _ s5 (cStG σ fr (y3 xs.length none)) H5 v u _ e7 r5 (step v H5 y5);rw [b9] at g5;refine thn g5 λ _ s6 ⟨σ6,H6,I6,us,hus,e6,q6⟩=>?_;subst e6;have t6:=f6 _ s6 _ H6 _ I6 q6;rw [b9] at t6;refine thn t6 λ ok s7 ⟨H7,I7,q7⟩=>?_;have c6 :∀{H8:Hp} {E:B0} {ys':List V} {its':List Value} {pl:List (Addr×Obj)},Inv X' (pl++pinsAt fp s5.heap) (cStG σ fr us) H8 E->E.heap.PlainList D its'.toArray->Vals ys' its'->H8 D=none->(∃m',m' < n/\W (i + 1) m' ys' H8)->
     ∃m,m < n/\∃i ys its H',Inv X' [] (cStG σ fr (y3 xs.length none)) H' E/\tn i E.heap/\(∀b∈fp,H' b=none)/\E.heap.PlainList D its.toArray/\Vals ys its/\H' D=none/\W i m ys H':=λ {H8 E ys' its' pl} R b7 rv8 a7 ⟨m',hm,w8⟩=>by
    refine ⟨m',hm,i + 1,ys',its',H8,(R.pins_of (pins':=[]) (λ p B=>absurd B F0)).weak (by unfold cStG;simp [hus]) ?_,T.keep _ _ _ st5 λ b a o e=>(R.pin (b,o) (X0 _ (X0 _ (z10 a e)))).1,λ b a=>?_,b7,rv8,a7,w8⟩
    ·intro j z e;unfold cStG at e⊢;by_cases hj:j < xs.length
     ·rw [E3 (by rw [Y3];exact hj),T7,if_pos hj] at e;cases e
     ·have hj:xs.length<=j:=P9 hj;rw [A3 (by rw [Y3];exact hj),Y3] at e;rw [A3 (by rw [hus];exact hj),hus];exact e
    ·obtain ⟨o,e,d⟩:=T.obj _ _ st5 b a;exact (R.pin (b,o) (X0 _ (X0 _ (z10 a e)))).2.1
   have b8 :∀{H8:Hp} {E:B0} {σ8:St},Inv X' ([(D,{ cls:=.type "list",data:=.seq its.toArray na })]++pinsAt fp s5.heap) σ8 H8 E->E.heap.PlainList D its.toArray/\H8 D=none:=λ R=>
    have z:=R.pin (D,_) (X0 _ (F4 _ F2))
    ⟨⟨na,z.1⟩,z.2.1⟩
   cases ok with
   | false=>rw [if_neg R0] at q7⊢;exact c6 I7 (b8 I7).1 rv3 (b8 I7).2 q7
   | true=>
    rw [if_pos rfl] at q7⊢;have t7:=f0 _ s7 _ H7 _ I7 q7;rw [b9] at t7;refine thn t7 λ y E ⟨vy,H8,R,r8,q8⟩=>?_;obtain ⟨b7,a7⟩:=b8 R;refine wpAny_list_append_plain (hsz:=by have:=rv3.length;rw [V0,<-this];exact b5) b7 λ h9 d2 g0=>?_;have I9:Inv X' ([]++pinsAt fp s5.heap) (cStG σ fr us) H8 E:=R.pins_of λ p B=>(R.pin p (X0 _ (X0 _ B)))
    have f4:Inv X' ([]++pinsAt fp s5.heap) (cStG σ fr us) H8 { E with heap:=h9 }:=by
     refine I9.turned (t':=E.toks) (it:=D) (λ b o a e=>(g0.2 b a).trans e) a7 (by rw [Z];exact U0 (X2 D)) (.inr (by rw [a5,hD];exact D0 _)) (λ y' c e=>?_) λ p B=>?_
     ·rw [a4] at e;exact U0 (e5 y' c e)
     ·rw [b6] at B;exact U0 (b1 _ (z8q B).1)
    have e9:its.toArray.push y=(its++[y]).toArray:=by simp
    rw [e9] at d2;exact c6 f4 d2 (rv3.snoc r8) a7 q8
 exact codeAny_compStart_list (loop _ rfl) (T.self _ 0 _ _ _ (T.keep _ _ _ b2 λ b a o e=>a2 b o e) (loop _ rfl))
theorem zfz {xs:List Str} {tg:Expr} {g:TG} {pos:Pos} {elt iter:Expr} {ifs:List Expr} {scope:Scope} {fr:List (Nat×Str)} {wi:TI} {tc:TT} {te:TE} (hcalm:X.calm=true) (hi:PI X tg iter wi)
  (hfr :∀p∈fr,X.N[p.1]? = some p.2/\(X.env.kindOf p.2=some .cell\/X.env.kindOf p.2=some .free))
  (hfree :∀y∈scope.names,y.2=E2->X.env.kindOf y.1=some .cell\/X.env.kindOf y.1=some .free)
  (hfs :∀p∈fr,(p.2,E2)∈scope.names/\((a8 scope X.env).names.lookup p.2=some .cell\/(a8 scope X.env).names.lookup p.2=some .free))
  (hcell :∀y∈scope.names,y.2≠NameKind.cell) (hkind:scope.kind=.function) (hnames :∀y∈scope.names,y.2=NameKind.local->scope.names.lookup y.1=some .local)
  (hg :∀cl C s₂ H₂ fp,PG (cxComp X scope cl (xs++fr.map (·.2)) C s₂ H₂ fp) tg g)
  (ht :∀cl C s₂ H₂ fp,PF (cxComp X scope cl (xs++fr.map (·.2)) C s₂ H₂ fp) ifs tc) (he :∀cl C s₂ H₂ fp,PE (cxComp X scope cl (xs++fr.map (·.2)) C s₂ H₂ fp) elt te)
  (hs :∀x,E6 iter X.env x=S3 x:=by intro _;rfl):PE X (.ListComp elt [⟨tg,iter,ifs,0⟩] scope pos) (tCompG wi xs.length fr g tc te):=by
 intro r s σ H Q I h;rw [eval_ListComp];refine zak hcalm hi hfr hfree hfs hcell hkind hnames hg ht he hs I h λ D k d f a i j n ⟨c,hc,hp⟩ q=>?_;obtain ⟨m,a⟩:=a;exact ⟨m,a,λ t l=>⟨.ref D,d,f.turned (t':=k.toks) (it:=D + 1) (λ b o c e=>(l.2 b c).trans e) i j (.inr n) hc hp,rfl,q⟩⟩
theorem zgs {xs:List Str} {tg:Expr} {g:TG} {pos:Pos} {elt iter:Expr} {ifs:List Expr} {scope:Scope} {fr:List (Nat×Str)} {wi:TI} {tc:TT} {te:TE} {i:Nat} {y:Str} {py spos:Pos} (hNy:X.N.Nodup) (hiy:X.N[i]? = some y) (hy:Loc X.env.scope y) (hcalm:X.calm=true) (hi:PI X tg iter wi)
  (hfr :∀p∈fr,X.N[p.1]? = some p.2/\(X.env.kindOf p.2=some .cell\/X.env.kindOf p.2=some .free))
  (hfree :∀y∈scope.names,y.2=E2->X.env.kindOf y.1=some .cell\/X.env.kindOf y.1=some .free)
  (hfs :∀p∈fr,(p.2,E2)∈scope.names/\((a8 scope X.env).names.lookup p.2=some .cell\/(a8 scope X.env).names.lookup p.2=some .free))
  (hcell :∀y∈scope.names,y.2≠NameKind.cell) (hkind:scope.kind=.function) (hnames :∀y∈scope.names,y.2=NameKind.local->scope.names.lookup y.1=some .local)
  (hg :∀cl C s₂ H₂ fp,PG (cxComp X scope cl (xs++fr.map (·.2)) C s₂ H₂ fp) tg g)
  (ht :∀cl C s₂ H₂ fp,PF (cxComp X scope cl (xs++fr.map (·.2)) C s₂ H₂ fp) ifs tc) (he :∀cl C s₂ H₂ fp,PE (cxComp X scope cl (xs++fr.map (·.2)) C s₂ H₂ fp) elt te)
  (hs :∀x,E6 iter X.env x=S3 x:=by intro _;rfl) (hw:m9 (.ListComp elt [⟨tg,iter,ifs,0⟩] scope pos) (some (.Name y py)) spos.line X.env=S3 true:=by rfl) (hf:X.fn y=true\/X.env.scope.names.lookup y=some .local:=by first|exact .inl rfl|exact .inr rfl|assumption) :
  PS X (.Assign [.Name y py] (.ListComp elt [⟨tg,iter,ifs,0⟩] scope pos) spos) (tAsg (tCompG wi xs.length fr g tc te) (gName i)):=by
 intro r s σ H D I h;rw [exec_Assign_Name_used y py _ spos hw];refine o0 (B9 (o0 ?_));show Q0 _ _ (do let _ <-comprehension (.ListComp elt [⟨tg,iter,ifs,0⟩] scope pos) scope X.env (firstIterPos [⟨tg,iter,ifs,0⟩] pos) (newList []) (firstAsync [⟨tg,iter,ifs,0⟩]) (firstIter [⟨tg,iter,ifs,0⟩] X.env) (some (assign (.Name y py) X.env));S3 ()) _ _ _;refine o0 (zak hcalm hi hfr hfree hfs hcell hkind hnames hg ht he hs I h λ A n f j d J l w ⟨c,hc,hp⟩ q=>?_);obtain ⟨m,d⟩:=d;obtain ⟨o,u,L,E,hd,K,B⟩:=d;have F:Inv X ((A + 1,o) :: r) σ f n:=j.pins_of λ p a=>by
  rcases List.mem_cons.mp a with rfl|a
  ·exact ⟨E,J,l,c,λ v z=>by rw [hd] at z;cases z⟩
  ·exact j.pin p (X0 _ a)
 refine thn (z0p (pos:=py) hNy hiy hy hf _ n σ f (.ref A) (.ref A) D.nx F rfl q) λ _ k ⟨σ5,H5,I6,q6⟩=>?_;have t:=I6.pin (A + 1,o) (X0 _ F2);have M:Inv X r σ5 H5 k:=I6.pins_of λ p a=>I6.pin p (X0 _ (Y1 _ a));refine ⟨m,⟨o,u,L,t.1,hd,K,B⟩,λ O G=>?_⟩;exact C0 (C0 ⟨σ5,H5,M.turned (t':=k.toks) (it:=A + 1) (λ b o c e=>(G.2 b c).trans e) t.2.1 l (.inr w) hc hp,q6⟩)
end
end L2
set_option maxHeartbeats 400000
namespace L2
open PySem PySem.Spec PyProof.Rows
theorem z25 {t rest:TS} {D:Ends} {σ:St} {H:Hp} (R:St->Hp->Prop) (hr :∀σ1 H1,R σ1 H1->rest D σ1 H1) (h:(∀σ1 H1,R σ1 H1->rest D σ1 H1)->t { D with nx:=rest D } σ H):tSeq t rest D σ H:=h hr
theorem z0j {te:TE} {g:TG} {rest:TS} {D:Ends} {σ:St} {H:Hp} (h:te σ H λ x H1=>g x σ H1 (rest D)):tSeq (tAsg te g) rest D σ H:=h
structure Runs (J:It) (H1:Hp) (n:Nat) (Item:Nat->V->Hp->Prop):Prop where
 go :∀i,i < n->∀H,Same H1 H->J.go i H
 stop :∀H,Same H1 H->J.stop n H
 item :∀i,i < n->∀H v H',Same H1 H->J.yld i H v H'->Same H H'/\Item i v H'
theorem z1d (p:Nat->Bool) (n:Nat):(A1 (n + 1)).filter p=(A1 n).filter p++(if p n=true then [n] else []):=by rw [U9,N2,List.filter_cons];cases p n<;>rfl
inductive All2 {α β:Type} (R:α->β->Prop):List α->List β->Prop
 | nil:All2 R [] []
 | cons {a:α} {b:β} {xs:List α} {ys:List β}:R a b->All2 R xs ys->All2 R (a :: xs) (b :: ys)
theorem z3c {α β:Type} {R:α->β->Prop} :∀{xs:List α} {ys:List β} {x:α} {y:β},All2 R xs ys->R x y->All2 R (xs++[x]) (ys++[y])
 | [],_,x,y,.nil,h=>.cons h .nil
 | _ :: _,_,x,y,.cons a r,h=>.cons a (z3c r h)
theorem z01 {α β:Type} {R S:α->β->Prop} (h :∀a b,R a b->S a b) :∀{xs:List α} {ys:List β},All2 R xs ys->All2 S xs ys
 | [],_,.nil=>.nil
 | _ :: _,_,.cons a r=>.cons (h _ _ a) (z01 h r)
theorem z04 {α β:Type} {R:α->β->Prop} :∀{xs:List α} {ys:List β},All2 R xs ys->ys.length=xs.length
 | [],_,.nil=>rfl
 | _ :: _,_,.cons _ r=>congrArg (· + 1) (z04 r)
theorem z0z {α β:Type} {f:α->β} :∀{xs:List α} {ys:List β},All2 (λ x y=>y=f x) xs ys->ys=xs.map f
 | [],_,.nil=>rfl
 | _ :: _,_,.cons a r=>by rw [N1,z0z r,a]
theorem z11 {α β:Type} (p:α->Bool) (f:α->β) (d:α) :∀xs:List α,((A1 xs.length).filter λ i=>p (xs[i]?.getD d)).map (λ i=>f (xs[i]?.getD d))=(xs.filter p).map f:=by
 intro xs;have h:(A1 xs.length).map (λ i=>xs[i]?.getD d)=xs:=by
  apply C6
  ·simp
  ·intro i b a;simp only [O4,List.getElem_range,M0 a,Option.getD_some]
 have e:(xs.filter p).map f=((((A1 xs.length).map (λ i=>xs[i]?.getD d))).filter p).map f:=by rw [h]
 rw [e,List.filter_map,J4];rfl
structure QE (X:Cx) (e:Expr) (t:TE):Prop where
 run:PE X e t
structure QA (X:Cx) (es:List Expr) (t:TA):Prop where
 run:PA X es t
structure QPs (X:Cx) (pos:Pos) (ks:List (Option Expr)) (vs:List Expr) (t:List (TE×TE)):Prop where
 run:PPs X pos ks vs t
structure QS (X:Cx) (st:Stmt) (t:TS):Prop where
 run:PS X st t
structure QSs (X:Cx) (sts:List Stmt) (t:TS):Prop where
 run:PSs X sts t
section
variable {X:Cx} {pos:Pos}
theorem q_of {sts:List Stmt} {t:TS} {G:TS->Prop} (q:QSs X sts t) (g:G t) :∃t,PSs X sts t/\G t:=⟨t,q.run,g⟩
theorem zei {st:Stmt} {t:TS} (h:QS X st t):QSs X [st] t:=⟨z05 h.run⟩
theorem z0v {st:Stmt} {rest:List Stmt} {t u:TS} (h:QS X st t) (r:QSs X rest u):QSs X (st :: rest) (tSeq t u):=⟨z03 h.run r.run⟩
theorem qs_set {i:Nat} {x:Str} {e:Expr} {te:TE} {pos':Pos} (hN:X.N.Nodup) (hi:X.N[i]? = some x) (hx:Loc X.env.scope x) (he:QE X e te) (hs:m9 e (some (.Name x pos')) pos.line X.env=S3 false:=by rfl) (hf:X.fn x=true\/X.env.scope.names.lookup x=some .local:=by first|exact .inl rfl|exact .inr rfl|assumption) :
  QS X (.Assign [.Name x pos'] e pos) (tAsg te (gName i)):=⟨ps_set hN hi hx he.run hs hf⟩
theorem qe_lst {es:List Expr} {t:TA} (h:QA X es t):QE X (.List es pos) (tLst t):=⟨pe_lst h.run⟩
theorem qa_nil:QA X [] tNil:=⟨pa_nil⟩
theorem z0m {e:Expr} {es:List Expr} {te:TE} {t:TA} (ha:QE X e te) (hr:QA X es t) (hs:E1 (e :: es) X.env=(false,V3 e X.env) :: E1 es X.env:=by rfl):QA X (e :: es) (tCons te t):=⟨z00 ha.run hr.run hs⟩
end
theorem z1v {X:Cx} {K:d0} (h:X.K=K):IxR X (rIx K):=h ▸ ix_seq
theorem z0b {α β:Type} {R:α->β->Prop} :∀{xs:List α} {ys:List β} {i:Nat} {y:β},All2 R xs ys->ys[i]? = some y->∃x,xs[i]? = some x/\R x y
 | _,_,i,y,.nil,e=>by simp at e
 | _,_,0,y,.cons a _,e=>by rw [P3] at e;cases e;exact ⟨_,P3,a⟩
 | _,_,i + 1,y,.cons _ r,e=>by rw [V2] at e;obtain ⟨x,b,c⟩:=z0b r e;exact ⟨x,by rw [V2];exact b,c⟩
end L2
set_option maxHeartbeats 4000000
namespace L2
open PySem PySem.Spec PyProof.Rows
section
variable {prog:Program} {w:W0} {A:D2} {E:Value->B0->Prop} {s:B0}
theorem z4n (hh:A.handled=none) (it t:Addr) (ne:t≠it) (items:Array Value):Draws prog w A it [it,t] items.size (λ i v=>items[i]? = some v) (λ i h=>h.IsTupleIter it t i/\h.IsTuple t items) where
 live:=λ i h a=>a.1.elim λ o z=>⟨o,z.1⟩
 frame:=λ i h b a k=>⟨a.1.elim λ o z=>⟨o,k it (by simp) o z.1,z.2⟩,a.2.elim λ o z=>⟨o,k t (by simp) o z.1,z.2⟩⟩
 item:=λ i s Q E c a q=>tupOn a.1 a.2 (O5 c) λ b d sb=>q _ b s.toks (O5 c) ⟨d,a.2.elim λ o z=>⟨o,(sb.2 t ne).trans z.1,z.2⟩⟩ sb
 done:=λ s Q E a q=>tupOff hh a.1 a.2 (by simp) λ b e x y=>q b e x y
theorem zh0 (a:Addr) (xs:Array Value):Meets (X5.«enumerate.__new__» ⟨[.type "enumerate",.ref a],[]⟩) (λ _ R s=>s.heap.IsTuple a xs/\R (.ok (.ret (.ref (s.heap.objs.size + 1))))
  { s with heap:=(s.heap.push { cls:=.type "tuple_iterator",data:=.fields #[.ref a,.int 0 0] }).push { cls:=.type "enumerate",data:=.fields #[.none,.bool false,.ref s.heap.objs.size,F5 0,.none,.none] } }):=
 .of_wp λ i w A R s h=>by
  obtain ⟨f,g,d,e,k⟩:=s;obtain ⟨j,h⟩:=h;have l:=sub_enumerate;have b:Heap.IsTuple (Shared.heap ⟨f,g,d,e,k⟩) a xs:=j
  wp_walk using c5 b
  intro Γ p m;show Q0 (Z0 i w) A.in1 (S3 _) _ _ _;refine C0 ?_;generalize List.drop 1 ((Γ.code,p) :: Γ.below)=L;split
  ·rename_i c _ _ _ _;cases c == U3 "enumerate" with
   | true=>
    wp_walk using c5 b
    refine ⟨_,rfl,?_⟩;simpa [R4,W4] using h
   | false=>
    wp_walk using c5 b
    refine ⟨_,rfl,?_⟩;simpa [R4,W4] using h
  ·wp_walk using c5 b
   refine ⟨_,rfl,?_⟩;simpa [R4,W4] using h
theorem zfd {a:Addr} {xs:Array Value} {Q:Value->B0->Prop} (ha:s.heap.IsTuple a xs)
  (q :∀h',IsEnum h' (s.heap.objs.size + 1) s.heap.objs.size 0 .none->h'.IsTupleIter s.heap.objs.size a 0->h'.objs.size=s.heap.objs.size + 2->(∀c o,s.heap.get? c=some o->h'.get? c=some o)->Q (.ref (s.heap.objs.size + 1)) { s with heap:=h' }) :
  Q0 (Z0 prog w) A (call (.type "enumerate") [.ref a]) Q E s:=by
 refine callType_new F.called_enumerate (by decide) (F.typeCall_enumerate_1 _) (F.newCall_enumerate_1 _) (λ f=>F.args_object_init_2 f _) F.entry_enumerate_new (zh0 a xs) ⟨ha,?_⟩;generalize hn:s.heap.objs.size=n at q⊢;generalize h0:s.heap.push { cls:=.type "tuple_iterator",data:=.fields #[.ref a,.int 0 0] }=k0;have d:k0.objs.size=n + 1:=by rw [<-h0,R4,hn]
 have g:k0.get? n=some { cls:=.type "tuple_iterator",data:=.fields #[.ref a,.int 0 0] }:=by rw [<-h0,<-hn];exact P0 _ rfl
 have b:(k0.push { cls:=.type "enumerate",data:=.fields #[.none,.bool false,.ref n,F5 0,.none,.none] }).get? (n + 1)=some { cls:=.type "enumerate",data:=.fields #[.none,.bool false,.ref n,F5 0,.none,.none] }:=by rw [<-d];exact P0 _ rfl
 exact ⟨⟨_,b,rfl⟩,q _ b ⟨_,A0 _ g,rfl,rfl⟩ (by rw [R4,d]) λ c o e=>A0 _ (by rw [<-h0];exact A0 _ e)⟩
end
noncomputable def IteL (K:d0) (a:Addr):It:=
  ⟨λ i H=>∃xs x,SqL K H a xs/\xs[i]? = some x,
   λ i H v H'=>∃p,H p=none/\v=.ref p/\∀xs,SqL K H a xs->∃x,xs[i]? = some x/\H'=upd H p (.tup [.int i,x]),
   λ i H=>∃xs,SqL K H a xs/\xs.length=i⟩
theorem w_0:(0:Nat)<=sizeLine:=by decide
theorem w_1:(1:Nat)<=sizeLine:=by decide
theorem w_2:(2:Nat)<=sizeLine:=by decide
theorem w_3:(3:Nat)<=sizeLine:=by decide
theorem w_4:(4:Nat)<=sizeLine:=by decide
theorem w_5:(5:Nat)<=sizeLine:=by decide
theorem w_7:(7:Nat)<=sizeLine:=by decide
theorem zbx {P:Program} {w:W0} {K:d0} {elts:List Expr} {x1:Nat} {pos:Pos} {e it a:Addr} (ne:e≠it) (nae:a≠e) (nai:a≠it):Turn P w K (.Tuple elts x1 pos) (IteL K a) [e,it] e (λ n h=>(∃old,IsEnum h e it (n:Nat) old)/\h.IsListIter it a n) where
 mem:=by simp
 obj:=λ n h f c g=>by
  simp only [g4,F0,or_false] at g;rcases g with rfl|rfl
  ·obtain ⟨⟨old,z⟩,_⟩:=f;exact ⟨_,z,λ v z=>by cases (show S9 _=j19 v from z)⟩
  ·obtain ⟨_,o,e,_,d⟩:=f;exact ⟨o,e,λ v z=>by rw [d] at z;cases z⟩
 keep:=λ n h Q f k=>by obtain ⟨⟨old,z⟩,o,e1,e2⟩:=f;exact ⟨⟨old,k e (by simp) _ z⟩,o,k it (by simp) _ e1,e2⟩
 item:=by
  intro X r C G g n a6 s σ H E I m f J;subst r C G;obtain ⟨T,x,l,S⟩:=J;obtain ⟨i,B,j,_⟩:=I.list l;have j:s.heap.IsList a i.toArray:=j.isList;obtain ⟨u,N,Z⟩:=B.get S;have D:=Draws.list (prog:=X.prog) (w:=X.w) (A:=X.A.in1) (I.ok.hd g) it a nai i.toArray;have a1:n < i.toArray.size:=by have:=(List.getElem?_eq_some_iff.mp N).1;simpa using this
  obtain ⟨⟨old,O⟩,M⟩:=f;refine wpAny_pyNext_enum_itemD D O ⟨M,j⟩ a1 ne (by simp [ne,nae.symm]) λ y Q t q a2 a4 tT hz F=>?_;have q:i[n]? = some y:=by simpa using q
  rw [N] at q;cases q;have a7:e < s.heap.objs.size:=J0 O;have a0:it < s.heap.objs.size:=by obtain ⟨o,z,_⟩:=M;exact J0 z
  have L:s.heap.objs.size≠e:=O2 a7;have nT:s.heap.objs.size∉[e,it]:=by simp only [g4,F0,or_false,not_or];exact ⟨L,O2 a0⟩
  refine ⟨_,rfl,j1h a2 λ U a3 sb=>?_⟩;have k2 :∀b o,b∉[e,it]->s.heap.get? b=some o->U.get? b=some o:=λ b o p z=>by simp only [g4,F0,or_false,not_or] at p;exact (sb.2 b p.1).trans (F b o p.1 p.2 z)
  have R:=(sb.2 _ L).trans tT;have a5:=a4.1.elim λ o z=>(⟨o,(sb.2 it ne.symm).trans z.1,z.2⟩:U.IsListIter it a (n + 1))
  have fr:H s.heap.objs.size=none:=I.hok.fresh (D0 _);refine ⟨.ref s.heap.objs.size,upd H s.heap.objs.size (.tup [.int n,x]),I.turnedLaid (t':=t + 1) k2 m (D0 _) ⟨w_2,[.int n t,u],.cons ⟨t,rfl⟩ (.cons Z .nil),⟨_,R,rfl,_,rfl⟩,_,R,rfl⟩,rfl,⟨_,fr,rfl,λ a8 Y=>⟨x,?_,rfl⟩⟩,⟨⟨_,a3⟩,a5⟩,λ c g=>?_⟩
  ·rw [I.list_inj Y l];exact S
  ·rw [upd_ne (λ (z:c=s.heap.objs.size)=>nT (z ▸ g))];exact (m c g).1
 done:=by
  intro X r C G g n a6 s σ H E I m f J;subst r C G;obtain ⟨T,l,rfl⟩:=J;obtain ⟨i,B,j,_⟩:=I.list l;have j:s.heap.IsList a i.toArray:=j.isList;have D:=Draws.list (prog:=X.prog) (w:=X.w) (A:=X.A.in1) (I.ok.hd g) it a nai i.toArray;have W:=WalksT.enumerateD D e ne (by simp [ne,nae.symm]) (by simp);have la:i.toArray.size=T.length:=by simpa using B.length.symm
  exact W.done s _ E (by rw [la];exact ⟨f.1,f.2,j⟩) λ Q V F=>⟨rfl,I.turnedL (t':=V) (λ c o g e=>F c o g e) m⟩
 self:=λ _ _ _ _ _ f h=>f.1.elim λ old z=>Z7 z h
noncomputable def ieL (K:d0) (ta:TA):TI:=λ σ H R=>ta σ H λ vs H1=>∃a xs,vs=[.ref a]/\SqL K H1 a xs/\R (IteL K a) H1
theorem zfc {X:Cx} {elts:List Expr} {x1:Nat} {tpos:Pos} {e:Expr} {ta:TA} {p pos:Pos} (hg:Gl X "enumerate") (hm:X.mg "enumerate" = none) (ha:PA X [e] ta) (hs:E1 [e] X.env=[(false,V3 e X.env)]:=by rfl) :
  PI X (.Tuple elts x1 tpos) (.Call (.Name "enumerate" p) [e] [] pos) (ieL X.K ta):=by
 intro v s σ H R I h;refine Call_ (ld_blt I hg hm boot_enumerate (L3 (thn (ha pos v s σ H _ I h) λ x d ⟨vs,H1,I1,r1,q1⟩=>?_) (by rw [hs];rfl) rfl));obtain ⟨a,z,n,l,q⟩:=q1;subst n;obtain ⟨u,rfl,k⟩:=vals1 r1;cases (show u=Value.ref a from k);obtain ⟨m,w,b,_⟩:=I1.list l;have b:d.heap.IsList a m.toArray:=b.isList;have j:a < d.heap.objs.size:=by obtain ⟨o,e,_⟩:=id b;exact J0 e
 refine call_enumerate_list b λ y i t _ r=>?_;refine Z7 i ?_;refine ⟨_,_,_,_,H1,rfl,I1.kept (t':=d.toks) r,zbx (O2 (X2 _)) (U0 (P1 j)) (U0 j),⟨⟨_,i⟩,t⟩,λ c g=>?_,q⟩;have f:d.heap.objs.size<=c:=by
  simp only [g4,F0,or_false] at g;rcases g with rfl|rfl
  ·exact X7 _ _
  ·exact D0 _
 exact I1.fpOk f (I1.hok.fresh f)
noncomputable def IteT (K:d0) (a:Addr):It:=
  ⟨λ i H=>∃xs x,SqT K H a xs/\xs[i]? = some x,
   λ i H v H'=>∃p,H p=none/\v=.ref p/\∀xs,SqT K H a xs->∃x,xs[i]? = some x/\H'=upd H p (.tup [.int i,x]),
   λ i H=>∃xs,SqT K H a xs/\xs.length=i⟩
theorem zbo {P:Program} {w:W0} {K:d0} {elts:List Expr} {x1:Nat} {pos:Pos} {e it a:Addr} (ne:e≠it) (nae:a≠e) (nai:a≠it):Turn P w K (.Tuple elts x1 pos) (IteT K a) [e,it] e (λ n h=>(∃old,IsEnum h e it (n:Nat) old)/\h.IsTupleIter it a n) where
 mem:=by simp
 obj:=λ n h f c g=>by
  simp only [g4,F0,or_false] at g;rcases g with rfl|rfl
  ·obtain ⟨⟨old,z⟩,_⟩:=f;exact ⟨_,z,λ v z=>by cases (show S9 _=j19 v from z)⟩
  ·obtain ⟨_,o,e,_,d⟩:=f;exact ⟨o,e,λ v z=>by rw [d] at z;cases z⟩
 keep:=λ n h Q f k=>by obtain ⟨⟨old,z⟩,o,e1,e2⟩:=f;exact ⟨⟨old,k e (by simp) _ z⟩,o,k it (by simp) _ e1,e2⟩
 item:=by
  intro X r C G g n a6 s σ H E I m f J;subst r C G;obtain ⟨T,x,l,S⟩:=J;obtain ⟨i,B,j,_⟩:=I.tuple l;have j:s.heap.IsTuple a i.toArray:=j;obtain ⟨u,N,Z⟩:=B.get S;have D:=z4n (prog:=X.prog) (w:=X.w) (A:=X.A.in1) (I.ok.hd g) it a nai i.toArray;have a1:n < i.toArray.size:=by have:=(List.getElem?_eq_some_iff.mp N).1;simpa using this
  obtain ⟨⟨old,O⟩,M⟩:=f;refine wpAny_pyNext_enum_itemD D O ⟨M,j⟩ a1 ne (by simp [ne,nae.symm]) λ y Q t q a2 a4 tT hz F=>?_;have q:i[n]? = some y:=by simpa using q
  rw [N] at q;cases q;have a7:e < s.heap.objs.size:=J0 O;have a0:it < s.heap.objs.size:=by obtain ⟨o,z,_⟩:=M;exact J0 z
  have L:s.heap.objs.size≠e:=O2 a7;have nT:s.heap.objs.size∉[e,it]:=by simp only [g4,F0,or_false,not_or];exact ⟨L,O2 a0⟩
  refine ⟨_,rfl,j1h a2 λ U a3 sb=>?_⟩;have k2 :∀b o,b∉[e,it]->s.heap.get? b=some o->U.get? b=some o:=λ b o p z=>by simp only [g4,F0,or_false,not_or] at p;exact (sb.2 b p.1).trans (F b o p.1 p.2 z)
  have R:=(sb.2 _ L).trans tT;have a5:=a4.1.elim λ o z=>(⟨o,(sb.2 it ne.symm).trans z.1,z.2⟩:U.IsTupleIter it a (n + 1))
  have fr:H s.heap.objs.size=none:=I.hok.fresh (D0 _);refine ⟨.ref s.heap.objs.size,upd H s.heap.objs.size (.tup [.int n,x]),I.turnedLaid (t':=t + 1) k2 m (D0 _) ⟨w_2,[.int n t,u],.cons ⟨t,rfl⟩ (.cons Z .nil),⟨_,R,rfl,_,rfl⟩,_,R,rfl⟩,rfl,⟨_,fr,rfl,λ a8 Y=>⟨x,?_,rfl⟩⟩,⟨⟨_,a3⟩,a5⟩,λ c g=>?_⟩
  ·rw [I.tuple_inj Y l];exact S
  ·rw [upd_ne (λ (z:c=s.heap.objs.size)=>nT (z ▸ g))];exact (m c g).1
 done:=by
  intro X r C G g n a6 s σ H E I m f J;subst r C G;obtain ⟨T,l,rfl⟩:=J;obtain ⟨i,B,j,_⟩:=I.tuple l;have j:s.heap.IsTuple a i.toArray:=j;have D:=z4n (prog:=X.prog) (w:=X.w) (A:=X.A.in1) (I.ok.hd g) it a nai i.toArray;have W:=WalksT.enumerateD D e ne (by simp [ne,nae.symm]) (by simp);have la:i.toArray.size=T.length:=by simpa using B.length.symm
  exact W.done s _ E (by rw [la];exact ⟨f.1,f.2,j⟩) λ Q V F=>⟨rfl,I.turnedL (t':=V) (λ c o g e=>F c o g e) m⟩
 self:=λ _ _ _ _ _ f h=>f.1.elim λ old z=>Z7 z h
noncomputable def ieT (K:d0) (ta:TA):TI:=λ σ H R=>ta σ H λ vs H1=>∃a xs,vs=[.ref a]/\SqT K H1 a xs/\R (IteT K a) H1
theorem zfj {X:Cx} {elts:List Expr} {x1:Nat} {tpos:Pos} {e:Expr} {ta:TA} {p pos:Pos} (hg:Gl X "enumerate") (hm:X.mg "enumerate" = none) (ha:PA X [e] ta) (hs:E1 [e] X.env=[(false,V3 e X.env)]:=by rfl) :
  PI X (.Tuple elts x1 tpos) (.Call (.Name "enumerate" p) [e] [] pos) (ieT X.K ta):=by
 intro v s σ H R I h;refine Call_ (ld_blt I hg hm boot_enumerate (L3 (thn (ha pos v s σ H _ I h) λ x d ⟨vs,H1,I1,r1,q1⟩=>?_) (by rw [hs];rfl) rfl));obtain ⟨a,z,n,l,q⟩:=q1;subst n;obtain ⟨u,rfl,k⟩:=vals1 r1;cases (show u=Value.ref a from k);obtain ⟨m,w,b,_⟩:=I1.tuple l;have b:d.heap.IsTuple a m.toArray:=b;have j:a < d.heap.objs.size:=by obtain ⟨o,e,_⟩:=id b;exact J0 e
 refine zfd b λ y i t _ r=>?_;refine Z7 i ?_;refine ⟨_,_,_,_,H1,rfl,I1.kept (t':=d.toks) r,zbo (O2 (X2 _)) (U0 (P1 j)) (U0 j),⟨⟨_,i⟩,t⟩,λ c g=>?_,q⟩;have f:d.heap.objs.size<=c:=by
  simp only [g4,F0,or_false] at g;rcases g with rfl|rfl
  ·exact X7 _ _
  ·exact D0 _
 exact I1.fpOk f (I1.hok.fresh f)
theorem zcx {K:d0} {a:Addr} {xs:List V} {g:TG} {tb:TS} {D:Ends} {σ:St} {H:Hp} (Pv:Nat->St->Hp->Prop) (h0:Pv 0 σ H) (hl :∀i σ H,Pv i σ H->SqT K H a xs)
  (hs :∀i x σ H p,xs[i]? = some x->Pv i σ H->H p=none->g (.ref p) σ (upd H p (.tup [.int i,x])) λ σ2 H2=>tb { D with nx:=Pv (i + 1),ct:=Pv (i + 1),bk:=D.nx } σ2 H2) (hd :∀σ H,Pv xs.length σ H->D.nx σ H) :
  ∃W:Nat->Nat->St->Hp->Prop,(∃m,W 0 m σ H)/\∀i m σ H,W i m σ H->
   ((IteT K a).stop i H/\D.nx σ H)\/((IteT K a).go i H/\∃N:St->Hp->Prop,(∀σ' H',N σ' H'->∃m',m' < m/\W (i + 1) m' σ' H')/\∀x H',(IteT K a).yld i H x H'->g x σ H' λ σ2 H2=>tb { D with nx:=N,ct:=N,bk:=D.nx } σ2 H2):=by
 refine ⟨λ i m σ H=>m=xs.length - i/\i<=xs.length/\Pv i σ H,⟨xs.length,by simp,Z1 _,h0⟩,?_⟩;rintro i m σ H ⟨rfl,hi,p⟩;have b:=hl i σ H p;by_cases hlt:i < xs.length
 ·refine .inr ⟨⟨xs,xs[i],b,by simp [hlt]⟩,Pv (i + 1),λ σ' H' j=>⟨xs.length - (i + 1),by omega,rfl,hlt,j⟩,λ v H' y=>?_⟩;obtain ⟨t,f,rfl,c⟩:=y;obtain ⟨d,h,rfl⟩:=c xs b;exact hs i d σ H t h p f
 ·have e:i=xs.length:=by omega
  subst e;exact .inl ⟨⟨xs,b,rfl⟩,hd σ H p⟩
end L2
set_option maxHeartbeats 400000
namespace L2
open PySem PySem.Spec PyProof.Rows
mutual
noncomputable def IsPd (K:d0) (H:Hp):G6->V->Prop
 | .none,v=>v=.non
 | .bool b,v=>v=.bl b
 | .int i,v=>v=.int i
 | .str z,v=>v=.str z
 | .list ds,v=>∃a xs,v=.ref a/\SqL K H a xs/\IsPds K H ds xs
 | .tuple ds,v=>∃a xs,v=.ref a/\SqT K H a xs/\IsPds K H ds xs
 | .dict _,_=>False
noncomputable def IsPds (K:d0) (H:Hp):List G6->List V->Prop
 | [],xs=>xs=[]
 | d :: ds,xs=>∃x r,xs=x :: r/\IsPd K H d x/\IsPds K H ds r
end
section
variable {X:Cx} {pins:List (Addr×Obj)} {σ:St} {H:Hp} {s:B0}
mutual
theorem z3a (I:Inv X pins σ H s) :∀(d:G6) (v:V) (u:Value),IsPd X.K H d v->RelV v u->∃as,Reads s.heap u d as
 | .none,v,u,h,r=>by cases (show v=.non from h);cases (show u=.none from r);exact ⟨_,.none⟩
 | .bool b,v,u,h,r=>by cases (show v=.bl b from h);cases (show u=.bool b from r);exact ⟨_,.bool b⟩
 | .int i,v,u,h,r=>by cases (show v=.int i from h);obtain ⟨t,rfl⟩:=r;exact ⟨_,.int i t⟩
 | .str z,v,u,h,r=>by cases (show v=.str z from h);obtain ⟨t,rfl⟩:=r;exact ⟨_,.str z t⟩
 | .list ds,v,u,h,r=>by obtain ⟨a,p,rfl,e,k⟩:=h;cases (show u=.ref a from r);obtain ⟨q,m,f,_⟩:=I.list e;obtain ⟨o,g,j,n,l⟩:=f.isList;obtain ⟨as,c⟩:=z5b I ds p q k m;exact ⟨_,.list g j l c⟩
 | .tuple ds,v,u,h,r=>by obtain ⟨a,p,rfl,e,k⟩:=h;cases (show u=.ref a from r);obtain ⟨q,m,f,_⟩:=I.tuple e;obtain ⟨o,g,j,n,l⟩:=f;obtain ⟨as,c⟩:=z5b I ds p q k m;exact ⟨_,.tuple g j l c⟩
 | .dict _,v,u,h,r=>h.elim
theorem z5b (I:Inv X pins σ H s) :∀(ds:List G6) (xs:List V) (us:List Value),IsPds X.K H ds xs->Vals xs us->∃as,ReadsAll s.heap us ds as
 | [],xs,us,h,r=>by cases (show xs=[] from h);cases r;exact ⟨_,.nil⟩
 | d :: ds,xs,us,h,r=>by
  obtain ⟨x,t,rfl,a,b⟩:=h;cases r with
  | cons r1 r2=>obtain ⟨as,c⟩:=z3a I d x _ a r1;obtain ⟨bs,e⟩:=z5b I ds t _ b r2;exact ⟨_,.cons c e⟩
end
end
mutual
noncomputable def plainP:G6->Bool
 | .none=>true
 | .bool _=>false
 | .int _=>true
 | .str z=>(PyData.str z).canLay0
 | .list ds=>z1f ds
 | .tuple ds=>z1f ds
 | .dict _=>false
noncomputable def z1f:List G6->Bool
 | []=>true
 | d :: ds=>plainP d && z1f ds
end
mutual
theorem z5k :∀d:G6,plainP d=true->d.canLay0=true
 | .none,_=>rfl
 | .bool _,h=>by cases h
 | .int _,_=>rfl
 | .str _,h=>h
 | .list ds,h=>z3l ds h
 | .tuple ds,h=>z3l ds h
 | .dict _,h=>by cases h
theorem z3l :∀ds:List G6,z1f ds=true->PyData.canLayAll0 ds=true
 | [],_=>rfl
 | d :: ds,h=>by have h:(plainP d && z1f ds)=true:=h;rw [W2] at h;show (d.canLay0 && PyData.canLayAll0 ds)=true;rw [z5k d h.1,z3l ds h.2];rfl
end
mutual
theorem zen :∀d e:G6,plainP d=true->plainP e=true->(d.eqv e=true↔d=e)
 | .none,e,_,he=>by
  cases e with
  | none=>exact ⟨λ _=>rfl,λ _=>rfl⟩
  | bool b=>cases he
  | dict _=>cases he
  | _=>exact ⟨λ z=>(by cases z),λ z=>(by cases z)⟩
 | .bool _,e,hd,_=>by cases hd
 | .int i,e,_,he=>by
  cases e with
  | int j=>exact ⟨λ z=>congrArg _ (eq_of_beq (show (i == j)=true from z)),λ z=>by cases z;exact beq_self_eq_true i⟩
  | bool b=>cases he
  | dict _=>cases he
  | _=>exact ⟨λ z=>(by cases z),λ z=>(by cases z)⟩
 | .str i,e,_,he=>by
  cases e with
  | str j=>exact ⟨λ z=>congrArg _ (eq_of_beq (show (i == j)=true from z)),λ z=>by cases z;exact beq_self_eq_true i⟩
  | bool b=>cases he
  | dict _=>cases he
  | _=>exact ⟨λ z=>(by cases z),λ z=>(by cases z)⟩
 | .list ds,e,hd,he=>by
  cases e with
  | list es=>exact ⟨λ z=>congrArg _ ((z41 ds es hd he).mp z),λ z=>(z41 ds es hd he).mpr (by cases z;rfl)⟩
  | bool b=>cases he
  | dict _=>cases he
  | _=>exact ⟨λ z=>(by cases z),λ z=>(by cases z)⟩
 | .tuple ds,e,hd,he=>by
  cases e with
  | tuple es=>exact ⟨λ z=>congrArg _ ((z41 ds es hd he).mp z),λ z=>(z41 ds es hd he).mpr (by cases z;rfl)⟩
  | bool b=>cases he
  | dict _=>cases he
  | _=>exact ⟨λ z=>(by cases z),λ z=>(by cases z)⟩
 | .dict _,e,hd,_=>by cases hd
theorem z41 :∀ds es:List G6,z1f ds=true->z1f es=true->(PyData.eqvAll ds es=true↔ds=es)
 | [],[],_,_=>⟨λ _=>rfl,λ _=>rfl⟩
 | [],e :: es,_,_=>⟨λ z=>(by cases z),λ z=>(by cases z)⟩
 | d :: ds,[],_,_=>⟨λ z=>(by cases z),λ z=>(by cases z)⟩
 | d :: ds,e :: es,hd,a=>by have hd:(plainP d && z1f ds)=true:=hd;have a:(plainP e && z1f es)=true:=a;rw [W2] at hd a;show (d.eqv e && PyData.eqvAll ds es)=true↔_;rw [W2,zen d e hd.1 a.1,z41 ds es hd.2 a.2];exact ⟨λ z=>by rw [z.1,z.2],λ z=>by cases z;exact ⟨rfl,rfl⟩⟩
end
section
variable {X:Cx}
noncomputable def rNeP (K:d0):R2:=λ x y H Q=>∃d e,IsPd K H d x/\IsPd K H e y/\plainP d=true/\plainP e=true/\d.depth<=60/\Q (.bl (!d.eqv e)) H
theorem room60 {A:D2} {k m n:Nat} (hr:Room k A) (h:m<=60):A.units + min m n < cLine:=T2 (Nat.add_le_add_left (S0 (Nat.min_le_left _ _) (S0 h (by decide:60<=64))) _) hr.units
theorem op_neP {k:Nat} (hr:Room k X.A):OpR X (n3 .NotEq) (rNeP X.K):=by intro m s σ H x y v u Q I i l h;obtain ⟨d,e,hd,b,c,j,a,q⟩:=h;obtain ⟨n,f⟩:=z3a I d x v hd i;obtain ⟨bs,g⟩:=z3a I e y u b l;exact SeqAt.compareNe_reads f g (z5k _ c) (z5k _ j) (room60 hr a) ⟨.bl _,H,I,rfl,q⟩
end
end L2
set_option maxHeartbeats 1000000
namespace L2
open PySem PySem.Spec PyProof.Rows
section
variable {prog:Program} {w:W0} {A:D2} {E:Value->B0->Prop} {s:B0}
theorem z32:entryFor table "dict.update.loop" = some X5.«dict.update.loop»:=by kernel_rfl
theorem zdu {l:Addr} {items:Array Value} {n:Nat} {sl:Array (Option Value)} {Q:Option Value->B0->Prop} (h:s.heap.get? l=some { cls:=.type "list",data:=.seq items n,slots:=sl }) (hh:A.handled=none)
  (q :∀h' tk,(∀b o,s.heap.get? b=some o->h'.get? b=some o)->Q none { s with heap:=h',toks:=tk }):Q0 (Z0 prog w) A (J8 (.ref l) (Q2 "keys")) Q E s:=by
 unfold J8;refine o0 (wpAny_mkText ?_);unfold getAttrBy? getAttrBy;have a:B6 { s with toks:=s.toks + 1 } (.ref l) "list":=⟨_,h,rfl⟩
 refine o0 (V6 (R1 (o0 (F7 a ?_))));rw [show j1i (U3 "list") (Q2 "__getattribute__")=S3 (some (.builtin "list.__getattribute__")) from rfl];refine o0 (C0 ?_);show Q0 _ _ (U8 (.ref l) (.str (Q2 "keys") s.toks) (.type "list") (.builtin "list.__getattribute__") false false) _ _ _;unfold U8;refine o0 (show Q0 _ _ (S3 none) _ _ _ from C0 ?_);refine o0 (V6 (R1 ?_));show Q0 _ _ (j9 (.builtin "list.__getattribute__") (.ref l) (.str (Q2 "keys") s.toks)) _ _ _;unfold j9;rw [show bindSpecial (.builtin "list.__getattribute__") (.ref l)=S3 (U5 "list.__getattribute__",[Value.ref l]) from rfl];refine o0 (C0 ?_);show Q0 _ _ (call (.builtin "list.__getattribute__") [.ref l,.str (Q2 "keys") s.toks]) _ _ _;refine j23 F.slot_list_getattribute a am_entry_list_getattribute (F.args_list_getattribute_2 _ _) (meets_getattribute_miss_list l items n sl (Q2 "keys") s.toks rfl (by decide +kernel) (by decide +kernel)) ⟨h,hh,λ h' tk e d=>?_⟩;obtain ⟨t,u,f⟩:=d.there;have c:B6 { s with heap:=h',toks:=tk } (.ref e) "AttributeError":=⟨_,f,rfl⟩
 show Q0 _ _ (O7 (.ref l) _ (.type "list") (.ref e) none false false) _ _ _;unfold O7;refine o0 (E8 c rfl ?_);show Q0 _ _ (j21 (.type "list") none >>= _) _ _ _;rw [show j21 (.type "list") none=S3 none from rfl];refine o0 (C0 ?_);show Q0 _ _ (throw (Value.ref e) >>= _) _ _ _;refine o0 (wpAny_throw ?_);show Q0 _ _ (j20 (.ref e) (.type "AttributeError") >>= _) _ _ _;refine o0 (E8 c rfl ?_);exact C0 (q h' tk d.keeps)
theorem zc2 {l:Addr} {items:Array Value} {n:Nat} {sl:Array (Option Value)} {Q:Option Value->B0->Prop} (h:s.heap.get? l=some { cls:=.type "tuple",data:=.seq items n,slots:=sl }) (hh:A.handled=none)
  (q :∀h' tk,(∀b o,s.heap.get? b=some o->h'.get? b=some o)->Q none { s with heap:=h',toks:=tk }):Q0 (Z0 prog w) A (J8 (.ref l) (Q2 "keys")) Q E s:=by
 unfold J8;refine o0 (wpAny_mkText ?_);unfold getAttrBy? getAttrBy;have a:B6 { s with toks:=s.toks + 1 } (.ref l) "tuple":=⟨_,h,rfl⟩
 refine o0 (V6 (R1 (o0 (F7 a ?_))));rw [show j1i (U3 "tuple") (Q2 "__getattribute__")=S3 (some (.builtin "tuple.__getattribute__")) from rfl];refine o0 (C0 ?_);show Q0 _ _ (U8 (.ref l) (.str (Q2 "keys") s.toks) (.type "tuple") (.builtin "tuple.__getattribute__") false false) _ _ _;unfold U8;refine o0 (show Q0 _ _ (S3 none) _ _ _ from C0 ?_);refine o0 (V6 (R1 ?_));show Q0 _ _ (j9 (.builtin "tuple.__getattribute__") (.ref l) (.str (Q2 "keys") s.toks)) _ _ _;unfold j9;rw [show bindSpecial (.builtin "tuple.__getattribute__") (.ref l)=S3 (U5 "tuple.__getattribute__",[Value.ref l]) from rfl];refine o0 (C0 ?_);show Q0 _ _ (call (.builtin "tuple.__getattribute__") [.ref l,.str (Q2 "keys") s.toks]) _ _ _;refine j23 F.slot_tuple_getattribute a am_entry_tuple_getattribute (F.args_tuple_getattribute_2 _ _) (meets_getattribute_miss_tuple l items n sl (Q2 "keys") s.toks rfl (by decide +kernel) (by decide +kernel)) ⟨h,hh,λ h' tk e d=>?_⟩;obtain ⟨t,u,f⟩:=d.there;have c:B6 { s with heap:=h',toks:=tk } (.ref e) "AttributeError":=⟨_,f,rfl⟩
 show Q0 _ _ (O7 (.ref l) _ (.type "tuple") (.ref e) none false false) _ _ _;unfold O7;refine o0 (E8 c rfl ?_);show Q0 _ _ (j21 (.type "tuple") none >>= _) _ _ _;rw [show j21 (.type "tuple") none=S3 none from rfl];refine o0 (C0 ?_);show Q0 _ _ (throw (Value.ref e) >>= _) _ _ _;refine o0 (wpAny_throw ?_);show Q0 _ _ (j20 (.ref e) (.type "AttributeError") >>= _) _ _ _;refine o0 (E8 c rfl ?_);exact C0 (q h' tk d.keeps)
theorem z33 (a:Args):(W6 "dict.update.loop" a).quiet=true:=plainId_quiet (by decide +kernel) _
def PairOf (prog:Program) (w:W0) (h:Heap) (p:Key×Value) (u:Value):Prop:=∃a kv,u=.ref a/\h.IsTuple a #[kv,p.2]/\(z0d prog w).is p.1 kv=true
theorem PairOf.kept {h h':Heap} {p:Key×Value} {u:Value} {L:List Addr} (k :∀b o,b∉L->h.get? b=some o->h'.get? b=some o) (nt :∀b∈L,∀o,h.get? b=some o->o.cls≠.type "tuple") (x:PairOf prog w h p u):PairOf prog w h' p u:=by obtain ⟨a,g,e,⟨o,c,d,n,f⟩,i⟩:=x;exact ⟨a,g,e,⟨o,k a o (λ z=>nt a z o c d) c,d,n,f⟩,i⟩
theorem z61 {a:Addr} {items:Array Value} {Q:List Value->B0->Prop} (h:s.heap.IsTuple a items) (q:Q items.toList s):Q0 (Z0 prog w) A (G9 (.ref a)) Q E s:=by obtain ⟨o,b,d,n,c⟩:=h;unfold G9;refine o0 (F7 (T:="tuple") ⟨o,b,d⟩ ?_);show Q0 _ _ (seqItems? (.ref a) >>= _) _ _ _;exact o0 (j1f b c (C0 q))
theorem zc4 {d it l:Addr} {items:Array Value} (ndi:d≠it) (ndl:d≠l) (nil':it≠l) :∀(ps:List (Key×Value)) (i:Nat) (kvs:List (Key×Value)) (A:D2) (R:j0e->B0->Prop) (s:B0),A.handled=none->s.heap.IsListIter it l i->s.heap.IsList l items->
  All2 (PairOf prog w s.heap) ps (items.toList.drop i)->W3 (z0d prog w) s.heap d kvs->kvs.length + ps.length<=sizeLine->
  (∀h' tk,W3 (z0d prog w) h' d (ps.foldl (λ acc p=>stored acc p.1 p.2) kvs)->(∀b o,b≠d->b≠it->s.heap.get? b=some o->h'.get? b=some o)->R (.ok (.ret .none)) { s with heap:=h',toks:=tk })->
  V4 (Z0 prog w) A (W6 "dict.update.loop" { pos:=[.ref d,.ref it,.int (i:Nat) 0,.none],kw:=[] }) R s
 | [],i,kvs,A,R,s,hh,si,sl,al,n,hz,q=>by
  have hn:items[i]? = none:=by
   cases hd:items.toList.drop i with
   | nil=>have:=List.drop_eq_nil_iff.mp hd;rw [F1] at this;exact U4 this
   | cons u us=>rw [hd] at al;cases al
  refine Q3 z32 ?_;show Q0 _ _ (j8 (.ref it) >>= _) _ _ s;refine o0 (E5 (show (A.under _).handled=none from hh) si sl hn λ h' I=>?_);show Q0 _ _ ((do t9 d [];ret .none):Sem S7) _ _ _;refine o0 (show Q0 _ _ (S3 ()) _ _ _ from C0 ?_);have D:W3 (z0d prog w) h' d kvs:=by obtain ⟨o,t,v,j,m⟩:=n;exact ⟨o,t,v,I d o ndi j,m⟩
  exact C0 (q h' s.toks D λ b o _ k e=>I b o k e)
 | p :: ps,i,kvs,A,R,s,hh,si,sl,al,n,hz,q=>by
  cases hd:items.toList.drop i with
  | nil=>rw [hd] at al;cases al
  | cons u us=>
   rw [hd] at al;cases al with
   | cons pu al=>
    have O:items.toList[i]? = some u:=by have:=congrArg (λ l=>l[0]?) hd;simpa using this
    have V:items[i]? = some u:=by simpa using O
    have P:items.toList.drop (i + 1)=us:=by have:=congrArg j18 hd;simpa using this
    obtain ⟨a,E,rfl,X,ik⟩:=pu;refine Q3 z32 ?_;show Q0 _ _ (j8 (.ref it) >>= _) _ _ s;refine o0 (a5 si sl V λ j Y B=>?_);have G :∀o,s.heap.get? it=some o->o.cls≠.type "tuple":=λ o e z=>by obtain ⟨o',r,c,_⟩:=si;rw [e] at r;cases r;rw [z] at c;exact absurd c (by decide)
    have W :∀(h:Heap) (kvs:List (Key×Value)),W3 (z0d prog w) h d kvs->∀o,h.get? d=some o->o.cls≠.type "tuple":=λ h kvs n o e z=>by obtain ⟨o',t,v,r,c,_⟩:=n;rw [e] at r;cases r;have:=c.1;rw [z] at this;exact absurd this (by decide)
    have C :∀b o,b∉[it]->s.heap.get? b=some o->j.get? b=some o:=λ b o k e=>(B.2 b (λ z=>k (by rw [z];exact List.mem_singleton.mpr rfl))).trans e;have M:j.IsTuple a #[E,p.2]:=by obtain ⟨o,f,g,e3⟩:=X;exact ⟨o,C a o (λ z=>G o (List.mem_singleton.mp z ▸ f) g) f,g,e3⟩
    have T:All2 (PairOf prog w j) ps us:=z01 (λ x y z=>PairOf.kept C (λ b k o e=>G o (List.mem_singleton.mp k ▸ e)) z) al;have K:W3 (z0d prog w) j d kvs:=by obtain ⟨o,t,v,f,g⟩:=n;exact ⟨o,t,v,(B.2 d ndi).trans f,g⟩
    have S:j.IsList l items:=by obtain ⟨o,f,g⟩:=sl;exact ⟨o,(B.2 l (c4 nil')).trans f,g⟩
    refine o0 (R1 (o0 (wpAny_tryCatch (z61 (s:={ s with heap:=j }) M ?_))));show Q0 _ _ (j00 [E,p.2] (j1b d E p.2)) _ _ _;refine R1 (wpAny_dictSet_pairs ik K (λ m Z F=>?_) (S0 (X7 _ _) hz));refine C0 ⟨z33 _,?_⟩;have J :∀b o,b∉[d]->j.get? b=some o->m.get? b=some o:=λ b o k e=>(F.2 b (λ z=>k (by rw [z];exact List.mem_singleton.mpr rfl))).trans e;have a1:All2 (PairOf prog w m) ps us:=z01 (λ x y z=>PairOf.kept J (λ b k o e=>W j kvs K o (List.mem_singleton.mp k ▸ e)) z) T;have Q:m.IsListIter it l (i + 1):=by obtain ⟨o,f,g⟩:=Y;exact ⟨o,(F.2 it (c4 ndi)).trans f,g⟩
    have a0:m.IsList l items:=by obtain ⟨o,f,g⟩:=S;exact ⟨o,(F.2 l (c4 ndl)).trans f,g⟩
    have N:(stored kvs p.1 p.2).length + ps.length<=sizeLine:=by
     have:(stored kvs p.1 p.2).length<=kvs.length + 1:=by
      unfold stored;split
      ·rw [O0];exact G5 _
      ·rw [N0];exact D0 _
     rw [T0] at hz;omega
    exact zc4 ndi ndl nil' ps (i + 1) (stored kvs p.1 p.2) A R { s with heap:=m,toks:=s.toks + 1 } hh Q a0 (by rw [P];exact a1) Z N λ h' tk D U=>q h' tk D λ b o H L e=>U b o H L (J b o (λ z=>H (List.mem_singleton.mp z)) (C b o (λ z=>L (List.mem_singleton.mp z)) e))
theorem z8h {d it l:Addr} {items:Array Value} (ndi:d≠it) (ndl:d≠l) (nil':it≠l) :∀(ps:List (Key×Value)) (i:Nat) (kvs:List (Key×Value)) (A:D2) (R:j0e->B0->Prop) (s:B0),A.handled=none->s.heap.IsTupleIter it l i->s.heap.IsTuple l items->
  All2 (PairOf prog w s.heap) ps (items.toList.drop i)->W3 (z0d prog w) s.heap d kvs->kvs.length + ps.length<=sizeLine->
  (∀h' tk,W3 (z0d prog w) h' d (ps.foldl (λ acc p=>stored acc p.1 p.2) kvs)->(∀b o,b≠d->b≠it->s.heap.get? b=some o->h'.get? b=some o)->R (.ok (.ret .none)) { s with heap:=h',toks:=tk })->
  V4 (Z0 prog w) A (W6 "dict.update.loop" { pos:=[.ref d,.ref it,.int (i:Nat) 0,.none],kw:=[] }) R s
 | [],i,kvs,A,R,s,hh,si,sl,al,n,hz,q=>by
  have hn:items[i]? = none:=by
   cases hd:items.toList.drop i with
   | nil=>have:=List.drop_eq_nil_iff.mp hd;rw [F1] at this;exact U4 this
   | cons u us=>rw [hd] at al;cases al
  refine Q3 z32 ?_;show Q0 _ _ (j8 (.ref it) >>= _) _ _ s;refine o0 (wpAny_pyNext_tuple_end (show (A.under _).handled=none from hh) si sl hn λ h' I=>?_);show Q0 _ _ ((do t9 d [];ret .none):Sem S7) _ _ _;refine o0 (show Q0 _ _ (S3 ()) _ _ _ from C0 ?_);have D:W3 (z0d prog w) h' d kvs:=by obtain ⟨o,t,v,j,m⟩:=n;exact ⟨o,t,v,I d o ndi j,m⟩
  exact C0 (q h' s.toks D λ b o _ k e=>I b o k e)
 | p :: ps,i,kvs,A,R,s,hh,si,sl,al,n,hz,q=>by
  cases hd:items.toList.drop i with
  | nil=>rw [hd] at al;cases al
  | cons u us=>
   rw [hd] at al;cases al with
   | cons pu al=>
    have O:items.toList[i]? = some u:=by have:=congrArg (λ l=>l[0]?) hd;simpa using this
    have V:items[i]? = some u:=by simpa using O
    have P:items.toList.drop (i + 1)=us:=by have:=congrArg j18 hd;simpa using this
    obtain ⟨a,E,rfl,X,ik⟩:=pu;refine Q3 z32 ?_;show Q0 _ _ (j8 (.ref it) >>= _) _ _ s;refine o0 (wpAny_pyNext_tuple_item si sl V λ j Y B=>?_);have G :∀o,s.heap.get? it=some o->o.cls≠.type "tuple":=λ o e z=>by obtain ⟨o',r,c,_⟩:=si;rw [e] at r;cases r;rw [z] at c;exact absurd c (by decide)
    have W :∀(h:Heap) (kvs:List (Key×Value)),W3 (z0d prog w) h d kvs->∀o,h.get? d=some o->o.cls≠.type "tuple":=λ h kvs n o e z=>by obtain ⟨o',t,v,r,c,_⟩:=n;rw [e] at r;cases r;have:=c.1;rw [z] at this;exact absurd this (by decide)
    have C :∀b o,b∉[it]->s.heap.get? b=some o->j.get? b=some o:=λ b o k e=>(B.2 b (λ z=>k (by rw [z];exact List.mem_singleton.mpr rfl))).trans e;have M:j.IsTuple a #[E,p.2]:=by obtain ⟨o,f,g,e3⟩:=X;exact ⟨o,C a o (λ z=>G o (List.mem_singleton.mp z ▸ f) g) f,g,e3⟩
    have T:All2 (PairOf prog w j) ps us:=z01 (λ x y z=>PairOf.kept C (λ b k o e=>G o (List.mem_singleton.mp k ▸ e)) z) al;have K:W3 (z0d prog w) j d kvs:=by obtain ⟨o,t,v,f,g⟩:=n;exact ⟨o,t,v,(B.2 d ndi).trans f,g⟩
    have S:j.IsTuple l items:=by obtain ⟨o,f,g⟩:=sl;exact ⟨o,(B.2 l (c4 nil')).trans f,g⟩
    refine o0 (R1 (o0 (wpAny_tryCatch (z61 (s:={ s with heap:=j }) M ?_))));show Q0 _ _ (j00 [E,p.2] (j1b d E p.2)) _ _ _;refine R1 (wpAny_dictSet_pairs ik K (λ m Z F=>?_) (S0 (X7 _ _) hz));refine C0 ⟨z33 _,?_⟩;have J :∀b o,b∉[d]->j.get? b=some o->m.get? b=some o:=λ b o k e=>(F.2 b (λ z=>k (by rw [z];exact List.mem_singleton.mpr rfl))).trans e;have a1:All2 (PairOf prog w m) ps us:=z01 (λ x y z=>PairOf.kept J (λ b k o e=>W j kvs K o (List.mem_singleton.mp k ▸ e)) z) T;have Q:m.IsTupleIter it l (i + 1):=by obtain ⟨o,f,g⟩:=Y;exact ⟨o,(F.2 it (c4 ndi)).trans f,g⟩
    have a0:m.IsTuple l items:=by obtain ⟨o,f,g⟩:=S;exact ⟨o,(F.2 l (c4 ndl)).trans f,g⟩
    have N:(stored kvs p.1 p.2).length + ps.length<=sizeLine:=by
     have:(stored kvs p.1 p.2).length<=kvs.length + 1:=by
      unfold stored;split
      ·rw [O0];exact G5 _
      ·rw [N0];exact D0 _
     rw [T0] at hz;omega
    exact z8h ndi ndl nil' ps (i + 1) (stored kvs p.1 p.2) A R { s with heap:=m,toks:=s.toks + 1 } hh Q a0 (by rw [P];exact a1) Z N λ h' tk D U=>q h' tk D λ b o H L e=>U b o H L (J b o (λ z=>H (List.mem_singleton.mp z)) (C b o (λ z=>L (List.mem_singleton.mp z)) e))
theorem z3z {h:Heap} {D:Addr} (e:h.get? D=some { cls:=.type "dict",data:=.dict #[] }):W3 (z0d prog w) h D []:=by obtain ⟨o,b,c,a,r⟩:=j1d (knd:=z0d prog w) h;rw [P0 _ rfl] at a;cases a;exact ⟨_,b,c,e,r⟩
theorem z54 {D l:Addr} {items:Array Value} {n:Nat} {sl:Array (Option Value)} {ps:List (Key×Value)} {Q:B0->Prop} {A':D2} (hd:s.heap.get? D=some { cls:=.type "dict",data:=.dict #[] }) (hl:s.heap.get? l=some { cls:=.type "list",data:=.seq items n,slots:=sl }) (hh:A.handled=none) (hh':A'.handled=none)
  (al:All2 (PairOf prog w s.heap) ps items.toList) (hz:ps.length<=sizeLine)
  (q :∀h' tk,W3 (z0d prog w) h' D (merged [] ps)->(∀b o,b≠D->s.heap.get? b=some o->h'.get? b=some o)->Q { s with heap:=h',toks:=tk }) :
  Q0 (Z0 prog w) A (X5.«dict.__init__» { pos:=[.ref D,.ref l] }) (λ fin s'=>match fin with
   | .done f=>wants (λ r s₂=>r=Y2/\Q s₂) E (.ok f) s'
   | .again c'=>c'.quiet=true/\V4 (Z0 prog w) A' c' (wants (λ r s₂=>r=Y2/\Q s₂) E) s') (λ e s'=>wants (λ r s₂=>r=Y2/\Q s₂) E (.error e) s') s:=by
 have j:D≠l:=λ z=>by rw [z,hl] at hd;exact absurd (show U3 "list" = U3 "dict" from congrArg Obj.cls (Q1 hd)) (by decide)
 unfold X5.«dict.__init__» r9;refine o0 (o0 (wpAny_notOrdered_dict ⟨_,hd,rfl⟩ ?_));refine o0 (show Q0 _ _ (S3 D) _ _ _ from C0 (C0 ?_));show Q0 _ _ (J5 "dict.__init__" D (.ref l) [] .none) _ _ _;unfold J5;refine o0 (F7 (T:="list") ⟨_,hl,rfl⟩ ?_);show Q0 _ _ (J8 (.ref l) (Q2 "keys") >>= _) _ _ _;refine o0 (zdu hl hh λ h tk a=>?_);show Q0 _ _ (rule _ >>= _) _ _ _;refine o0 (P8 (o0 (K5 (items:=items) ⟨_,a _ _ hl,rfl,_,rfl⟩ ?_)));refine C0 ⟨z33 _,?_⟩;have p:=J0 (a _ _ hd);have i:=J0 (a _ _ hl);have c :∀b o,s.heap.get? b=some o->(h.push { cls:=.type "list_iterator",data:=.fields #[.ref l,.int 0 0] }).get? b=some o:=λ b o e=>A0 _ (a b o e);refine zc4 (d:=D) (it:=h.objs.size) (l:=l) (items:=items) (U0 p) j (O2 i) ps 0 [] A' _ _ hh' ⟨_,P0 _ rfl,rfl,rfl⟩ ⟨_,c _ _ hl,rfl,_,rfl⟩ ?_ ?_ (by simpa using hz) λ h' k t m=>⟨rfl,q h' k t λ b o g e=>m b o g (λ z=>?_) (c b o e)⟩
 ·rw [P4];exact z01 (λ x y z=>PairOf.kept (L:=[]) (λ b o _ e=>c b o e) (λ b g=>absurd g F0) z) al
 ·exact z3z (c _ _ hd)
 ·rw [z] at e;exact absurd (J0 (a _ _ e)) (D3 _)
theorem z48 {D l:Addr} {items:Array Value} {n:Nat} {sl:Array (Option Value)} {ps:List (Key×Value)} {Q:B0->Prop} {A':D2} (hd:s.heap.get? D=some { cls:=.type "dict",data:=.dict #[] }) (hl:s.heap.get? l=some { cls:=.type "tuple",data:=.seq items n,slots:=sl }) (hh:A.handled=none) (hh':A'.handled=none)
  (al:All2 (PairOf prog w s.heap) ps items.toList) (hz:ps.length<=sizeLine)
  (q :∀h' tk,W3 (z0d prog w) h' D (merged [] ps)->(∀b o,b≠D->s.heap.get? b=some o->h'.get? b=some o)->Q { s with heap:=h',toks:=tk }) :
  Q0 (Z0 prog w) A (X5.«dict.__init__» { pos:=[.ref D,.ref l] }) (λ fin s'=>match fin with
   | .done f=>wants (λ r s₂=>r=Y2/\Q s₂) E (.ok f) s'
   | .again c'=>c'.quiet=true/\V4 (Z0 prog w) A' c' (wants (λ r s₂=>r=Y2/\Q s₂) E) s') (λ e s'=>wants (λ r s₂=>r=Y2/\Q s₂) E (.error e) s') s:=by
 have j:D≠l:=λ z=>by rw [z,hl] at hd;exact absurd (show U3 "tuple" = U3 "dict" from congrArg Obj.cls (Q1 hd)) (by decide)
 unfold X5.«dict.__init__» r9;refine o0 (o0 (wpAny_notOrdered_dict ⟨_,hd,rfl⟩ ?_));refine o0 (show Q0 _ _ (S3 D) _ _ _ from C0 (C0 ?_));show Q0 _ _ (J5 "dict.__init__" D (.ref l) [] .none) _ _ _;unfold J5;refine o0 (F7 (T:="tuple") ⟨_,hl,rfl⟩ ?_);show Q0 _ _ (J8 (.ref l) (Q2 "keys") >>= _) _ _ _;refine o0 (zc2 hl hh λ h tk a=>?_);show Q0 _ _ (rule _ >>= _) _ _ _;refine o0 (P8 (o0 (c5 (items:=items) ⟨_,a _ _ hl,rfl,_,rfl⟩ ?_)));refine C0 ⟨z33 _,?_⟩;have p:=J0 (a _ _ hd);have i:=J0 (a _ _ hl);have c :∀b o,s.heap.get? b=some o->(h.push { cls:=.type "tuple_iterator",data:=.fields #[.ref l,.int 0 0] }).get? b=some o:=λ b o e=>A0 _ (a b o e);refine z8h (d:=D) (it:=h.objs.size) (l:=l) (items:=items) (U0 p) j (O2 i) ps 0 [] A' _ _ hh' ⟨_,P0 _ rfl,rfl,rfl⟩ ⟨_,c _ _ hl,rfl,_,rfl⟩ ?_ ?_ (by simpa using hz) λ h' k t m=>⟨rfl,q h' k t λ b o g e=>m b o g (λ z=>?_) (c b o e)⟩
 ·rw [P4];exact z01 (λ x y z=>PairOf.kept (L:=[]) (λ b o _ e=>c b o e) (λ b g=>absurd g F0) z) al
 ·exact z3z (c _ _ hd)
 ·rw [z] at e;exact absurd (J0 (a _ _ e)) (D3 _)
end
section
variable {X:Cx}
def zg4 (K:d0):List V->Hp->VK->Prop:=λ xs H Q=>∃a ys kvs,xs=[.ref a]/\(H a=some (.lst ys)\/H a=some (.tup ys))/\All2 (λ (p:Key×V) y=>∃b,y=.ref b/\SqT K H b [kV p.1,p.2]) kvs ys/\∀p,H p=none->Q (.ref p) (upd H p (.dK (mergeK [] kvs)))
theorem z78 {pins:List (Addr×Obj)} {σ:St} {H:Hp} {s:B0} (I:Inv X pins σ H s) :∀{kvs:List (Key×V)} {ys:List V} {its:List Value},All2 (λ (p:Key×V) y=>∃b,y=.ref b/\SqT X.K H b [kV p.1,p.2]) kvs ys->Vals ys its->
  ∃ps,KV kvs ps/\All2 (PairOf X.prog X.w s.heap) ps its
 | [],_,_,.nil,r=>by cases r;exact ⟨[],.nil,.nil⟩
 | p :: kvs,_,_,.cons ⟨b,e,sb⟩ al,r=>by
  cases r with
  | cons r1 r2=>
   subst e;obtain ⟨ps,c,d⟩:=z78 I al r2;obtain ⟨its,a,tb,_⟩:=I.tuple sb;cases a with
   | cons ra a=>
    cases a with
    | cons rb a=>cases a;rename_i u1 u2;exact ⟨(p.1,u2) :: ps,.cons ⟨rfl,rb⟩ c,.cons ⟨b,u1,r1,tb,kV_is ra⟩ d⟩
theorem z6s (kvs:List (Key×V)) :∀more:List (Key×V),(mergeK kvs more).length<=kvs.length + more.length
 | []=>D0 _
 | p :: more=>by have a:=z6s (putK kvs p.1 p.2) more;have b:=z1o kvs p.1 p.2;show (mergeK (putK kvs p.1 p.2) more).length<=_;rw [T0];omega
theorem z96 (hc:X.calm=true):CallR X (.type "dict") (zg4 X.K):=by
 intro T s σ H xs V Q I r h;obtain ⟨a,O,m,rfl,k,C,q⟩:=h;obtain ⟨u,rfl,P⟩:=vals1 r;cases (show u=Value.ref a from P);have p:X.A.handled=none:=I.ok.hd hc;have S:H s.heap.objs.size=none:=I.hok.fresh (D0 _);have big:=I.big;have fin :∀(d:List (Key×Value)) (h':Heap) (c:Nat),KV m d->m.length<=sizeLine->W3 (z0d X.prog X.w) h' s.heap.objs.size (merged [] d)->(∀b o,b≠s.heap.objs.size->(s.heap.push { cls:=.type "dict",data:=.dict #[] }).get? b=some o->h'.get? b=some o)->
   EP X T σ Q (.ref s.heap.objs.size) { s with heap:=h',toks:=c }:=λ d h' c f U l i=>by
  refine ⟨.ref s.heap.objs.size,_,I.laid (a:=s.heap.objs.size) (o:=.dK (mergeK [] m)) (h':=h') (t':=c) (λ b o e=>i b o (U0 (J0 e)) (A0 _ e)) (D0 _) ?_,rfl,q _ S⟩;exact dk_new (S0 (z6s [] m) (by simpa using U)) (beq_eq_false_iff_ne.mpr (c4 (U0 big))) (KV.merge f .nil) l
 have t:O.length=m.length:=z04 C;rcases k with k|k
 ·obtain ⟨z,R,n,D,Z,e⟩:=I.lstM k;obtain ⟨d,f,v⟩:=z78 I C D;refine callType_codes F.kt_called_dict (F.kt_typeCall_dict_1 _) F.entry_dict_init (kt_code_dict_new _ (Q₁:=λ j g=>j=.ref s.heap.objs.size/\g={ s with heap:=s.heap.push { cls:=.type "dict",data:=.dict #[] } }) ⟨rfl,rfl⟩) ?_;rintro j g ⟨rfl,rfl⟩;refine ⟨⟨_,P0 _ rfl,rfl⟩,F.args_dict_init_2 _ _,?_⟩;refine z54 (s:={ s with heap:=s.heap.push { cls:=.type "dict",data:=.dict #[] } }) (P0 _ rfl) (A0 _ e) p p (by simpa using z01 (λ x y z=>PairOf.kept (L:=[]) (λ b o _ e=>A0 _ e) (λ b B=>absurd B F0) z) v) (by rw [<-E7 f,<-t];exact z) λ h' c l i=>fin d h' c f (by rw [<-t];exact z) l i
 ·obtain ⟨z,R,D,⟨o,G,M,n,N⟩,o2,E,J⟩:=I.hok a _ k;rw [G] at E;cases E;obtain ⟨d,f,v⟩:=z78 I C D;obtain ⟨W,od,Y,a0⟩:=o;dsimp only at M N J;subst M N J;refine callType_codes F.kt_called_dict (F.kt_typeCall_dict_1 _) F.entry_dict_init (kt_code_dict_new _ (Q₁:=λ j g=>j=.ref s.heap.objs.size/\g={ s with heap:=s.heap.push { cls:=.type "dict",data:=.dict #[] } }) ⟨rfl,rfl⟩) ?_;rintro j g ⟨rfl,rfl⟩;refine ⟨⟨_,P0 _ rfl,rfl⟩,F.args_dict_init_2 _ _,?_⟩;refine z48 (s:={ s with heap:=s.heap.push { cls:=.type "dict",data:=.dict #[] } }) (P0 _ rfl) (A0 _ G) p p (by simpa using z01 (λ x y z=>PairOf.kept (L:=[]) (λ b o _ e=>A0 _ e) (λ b B=>absurd B F0) z) v) (by rw [<-E7 f,<-t];exact z) λ h' c l i=>fin d h' c f (by rw [<-t];exact z) l i
end
end L2
set_option maxHeartbeats 400000
namespace L2
open PySem PySem.Spec PyProof.Rows
structure RunsR (S:Hp->Hp->Prop) (J:It) (H1:Hp) (n:Nat) (Item:Nat->V->Hp->Prop):Prop where
 go :∀i,i < n->∀H,S H1 H->J.go i H
 stop :∀H,S H1 H->J.stop n H
 item :∀i,i < n->∀H v H',S H1 H->J.yld i H v H'->S H H'/\Item i v H'
theorem z30 {S:Hp->Hp->Prop} {J:It} {H1:Hp} {n m:Nat} {Item:Nat->V->Hp->Prop} {fr:List (Nat×Str)} {g:TG} {tc:TT} {te:TE} {σ:St} {Q:VK} (s0:S H1 H1) (st :∀a b c,S a b->S b c->S a c) (p:Nat->Bool) (R:Nat->V->Hp->Prop) (hR :∀i y H H',S H H'->R i y H->R i y H') (r:RunsR S J H1 n Item) (hn:n<=sizeLine)
  (body :∀i,i < n->∀v H,S H1 H->Item i v H->∀(KT:VK) (KF:Hp->Prop),(p i=true->∀y H',S H H'->R i y H'->KT y H')->(p i=false->∀H',S H H'->KF H')->
   g v (cStG σ fr (y3 m none)) H λ σ6 H6=>∃us,us.length=m/\σ6=cStG σ fr us/\tc (cStG σ fr us) H6 λ b H2=>if b=true then te (cStG σ fr us) H2 KT else KF H2)
  (hQ :∀l H' ys,S H1 H'->H' l=none->All2 (λ i y=>R i y H') ((A1 n).filter p) ys->Q (.ref l) (upd H' l (.lst ys))) :
  ∃W:Nat->Nat->List V->Hp->Prop,(∃m,W 0 m [] H1)/\∀i k ys H,W i k ys H->
   (J.stop i H/\ys.length<=sizeLine/\∀p,H p=none->Q (.ref p) (upd H p (.lst ys)))\/
   (J.go i H/\ys.length<=sizeLine/\∀v H',J.yld i H v H'->g v (cStG σ fr (y3 m none)) H' λ σ6 H6=>∃us,us.length=m/\σ6=cStG σ fr us/\tc (cStG σ fr us) H6 λ b H2=>if b=true then te (cStG σ fr us) H2 λ y H3=>∃m',m' < k/\W (i + 1) m' (ys++[y]) H3 else∃m',m' < k/\W (i + 1) m' ys H2):=by
 refine ⟨λ i k ys H'=>k=n - i/\i<=n/\S H1 H'/\All2 (λ i y=>R i y H') ((A1 i).filter p) ys,⟨n,by simp,Z1 _,s0,.nil⟩,?_⟩;rintro i k ys H' ⟨rfl,hi,sm,fa⟩;have j:ys.length<=sizeLine:=by rw [z04 fa];have:=m3 p (A1 i);rw [K4] at this;omega
 by_cases hlt:i < n
 ·refine .inr ⟨r.go i hlt H' sm,j,λ v H2 y=>?_⟩;obtain ⟨d,s⟩:=r.item i hlt H' v H2 sm y;refine body i hlt v H2 (st _ _ _ sm d) s _ _ (λ h y H3 f o=>⟨n - (i + 1),by omega,rfl,hlt,st _ _ _ (st _ _ _ sm d) f,?_⟩) (λ h H3 f=>⟨n - (i + 1),by omega,rfl,hlt,st _ _ _ (st _ _ _ sm d) f,?_⟩)
  ·rw [z1d,if_pos h];exact z3c (z01 (λ a b z=>hR a b _ _ (st _ _ _ d f) z) fa) o
  ·rw [z1d,if_neg (by rw [h];decide),U2];exact z01 (λ a b z=>hR a b _ _ (st _ _ _ d f) z) fa
 ·have e:i=n:=by omega
  subst e;exact .inl ⟨r.stop H' sm,j,λ l q=>hQ l H' ys sm q fa⟩
theorem zbw {S:Hp->Hp->Prop} {K:d0} {a:Addr} {xs:List V} {H1:Hp} (hs :∀H,S H1 H->S H H) (hq :∀H,S H1 H->SqL K H a xs):RunsR S (Itl K a) H1 xs.length (λ i v _=>xs[i]? = some v):=
 ⟨λ i b H s=>⟨xs,xs[i],hq H s,by simp [b]⟩,λ H s=>⟨xs,hq H s,D0 _⟩,λ i b H v c s y=>by obtain ⟨e,y⟩:=y;subst e;exact ⟨hs _ s,y xs (hq _ s)⟩⟩
theorem ze4 {S:Hp->Hp->Prop} {K:d0} {a:Addr} {xs:List V} {H1:Hp} (hs :∀H,S H1 H->S H H) (hq :∀H,S H1 H->SqT K H a xs):RunsR S (Itt K a) H1 xs.length (λ i v _=>xs[i]? = some v):=
 ⟨λ i b H s=>⟨xs,xs[i],hq H s,by simp [b]⟩,λ H s=>⟨xs,hq H s,D0 _⟩,λ i b H v c s y=>by obtain ⟨e,y⟩:=y;subst e;exact ⟨hs _ s,y xs (hq _ s)⟩⟩
def Ris (xs:Array Nat):Prop:=xs.toList.Pairwise (· < ·)
theorem Ris.lt {xs:Array Nat} (r:Ris xs) {i k:Nat} (h:i < k) (hk:k < xs.size):xs[i]'(w6 h hk) < xs[k]:=by have:=(List.pairwise_iff_getElem.mp r) i k (by simpa using w6 h hk) (by simpa using hk) h;simpa using this
theorem zg3 {xs:Array Nat} {i d:Nat} (h:i < xs.size):xs.getD i d=xs[i]:=by simp [Array.getD,h]
theorem z7a {xs:Array Nat} {j:Nat} (r:Ris xs) :∀(f lo hi:Nat),lo<=hi->hi<=xs.size->hi - lo<=f->(∀i (h:i < xs.size),i < lo->xs[i] < j)->(∀i (h:i < xs.size),hi<=i->j<=xs[i])->
  F6 xs j f lo hi<=xs.size/\(∀i (h:i < xs.size),i < F6 xs j f lo hi->xs[i] < j)/\(∀i (h:i < xs.size),F6 xs j f lo hi<=i->j<=xs[i])
 | 0,lo,hi,h1,h2,h3,ha,hb=>by
  have:lo=hi:=by omega
  subst this;exact ⟨h2,ha,hb⟩
 | f + 1,lo,hi,h1,h2,h3,ha,hb=>by
  unfold F6;by_cases z:lo < hi
  ·rw [if_pos z];have a:(lo + hi) / 2 < xs.size:=by omega
   dsimp only;rw [zg3 a];by_cases y:xs[(lo + hi) / 2] < j
   ·rw [if_pos y];refine z7a r f _ _ (by omega) h2 (by omega) (λ i h b=>?_) hb;by_cases e:i=(lo + hi) / 2
    ·subst e;exact y
    ·exact w6 (r.lt (by omega) a) y
   ·rw [if_neg y];refine z7a r f _ _ (by omega) (by omega) (by omega) ha λ i h b=>?_;by_cases e:i=(lo + hi) / 2
    ·subst e;omega
    ·exact S0 (Nat.not_lt.mp y) (u8 (r.lt (by omega) h))
  ·rw [if_neg z];have:lo=hi:=by omega
   subst this;exact ⟨h2,ha,hb⟩
theorem zc9 {xs:Array Nat} (r:Ris xs) (j:Nat):P2 xs j<=xs.size/\(∀i (h:i < xs.size),i < P2 xs j->xs[i] < j)/\(∀i (h:i < xs.size),P2 xs j<=i->j<=xs[i]):=
 z7a r _ _ _ (Z1 _) (D0 _) (D0 _) (λ i h z=>absurd z (B8 _)) (λ i h z=>absurd h (Nat.not_lt.mpr z))
theorem z46 {α:Type} (xs:Array α) (p:Nat) (x:α) (hp:p<=xs.size):(V8 xs p x).toList=xs.toList.take p++x :: xs.toList.drop p:=by unfold V8;simp [c8]
theorem Ris.insert {xs:Array Nat} (r:Ris xs) {j:Nat} (h:¬ xs[P2 xs j]? = some j):Ris (V8 xs (P2 xs j) j):=by
 obtain ⟨s,w,g⟩:=zc9 r j;unfold Ris;rw [z46 _ _ _ s];refine List.pairwise_append.mpr ⟨r.sublist (p9 _ _),List.pairwise_cons.mpr ⟨λ y v=>?_,r.sublist (List.drop_sublist _ _)⟩,λ a q b f=>?_⟩
 ·obtain ⟨i,d,e⟩:=List.mem_drop_iff_getElem.mp v;have l:P2 xs j + i < xs.size:=by simpa [Nat.add_comm] using d
  have c:xs[P2 xs j + i]=y:=by simpa using e
  have le:=g _ l (by omega);rw [c] at le;rcases Nat.lt_or_eq_of_le le with z|z
  ·exact z
  ·exfalso;have f:P2 xs j < xs.size:=by omega
   have x:=g _ f (D0 _);have:xs[P2 xs j]=j:=by
    by_cases i0:i=0
    ·subst i0;exact c.trans z.symm
    ·have:=r.lt (show P2 xs j < P2 xs j + i by omega) l;rw [c] at this;omega
   exact h (by rw [O5 f,this])
 ·obtain ⟨i,d,e⟩:=List.mem_take_iff_getElem.mp q;have t:i < xs.size:=by have:=d;simp at this;omega
  have m:i < P2 xs j:=by have:=d;simp at this;omega
  have lt:=w i t m;have c:xs[i]=a:=by simpa using e
  rw [c] at lt;rcases List.mem_cons.mp f with z|z
  ·rw [z];exact lt
  ·obtain ⟨k,u,p⟩:=List.mem_drop_iff_getElem.mp z;have n:P2 xs j + k < xs.size:=by simpa [Nat.add_comm] using u
   have o:xs[P2 xs j + k]=b:=by simpa using p
   have:=g _ n (by omega);rw [o] at this;omega
theorem zd5 (n:Nat):Ris (Array.range n):=by unfold Ris;rw [Array.toList_range];exact g6
def z6g (t:Q7) (j:Nat):Prop:=¬ t.place[P2 t.place j]? = some j
theorem z5y {t:Q7} {j:Nat} (h :∀i,t.slot j≠.live i):z6g t j:=λ e=>by refine h (P2 t.place j) ?_;unfold SetTable.slot;dsimp only;rw [if_pos (by rw [e];exact beq_self_eq_true _)]
theorem z3e {t:Q7} {hs:Nat->Int} {h:Int} :∀(f:Nat) (p:SetTable.Probe) (j:Nat) (d:Option Nat),(∀k,p.dummy=some k->z6g t k)->j04 t hs h f p=some (.empty j d)->z6g t j/\∀k,d=some k->z6g t k
 | 0,p,j,d,hd,e=>by cases e
 | f + 1,p,j,d,hd,e=>by
  unfold j04 at e;cases q:t.slot p.j with
  | empty=>rw [q] at e;cases e;exact ⟨z5y (λ i z=>by rw [q] at z;cases z),hd⟩
  | dummy=>rw [q] at e;refine z3e f _ j d (λ k z=>?_) e;unfold j2g at z;dsimp only at z;split at z<;>(cases z;exact z5y λ i z=>by rw [q] at z;cases z)
  | live i=>
   rw [q] at e;dsimp only at e;split at e
   ·cases e
   ·refine z3e f _ j d (λ k z=>?_) e;unfold j2g at z;dsimp only at z;split at z<;>exact hd k z
theorem z9n {t:Q7} {h:Int} {s:Nat} {b:Bool} (e:t.freeSlot h=some (s,b)):z6g t s:=by
 unfold SetTable.freeSlot at e;cases q:t.probe (λ _=>h + 1) h (t.probeStart h) with
 | none=>rw [q] at e;cases e
 | some m=>
  rw [q] at e;cases m with
  | candidate a b c=>cases e
  | empty j d=>
   have:=z3e _ _ j d (λ k z=>by cases z) q;cases e;cases d with
   | none=>exact this.1
   | some k=>exact this.2 k rfl
def Tidy (l:Bool) (t:Q7):Prop:=t.led=l/\Ris t.place
theorem Tidy.standIn {l:Bool} {t:Q7} (h:Tidy l t) (n:Nat):Tidy l (t.standIn n):=⟨h.1,zd5 n⟩
theorem Tidy.layNew {l:Bool} {t:Q7} (h:Tidy l t) (es:Array (Int×Value)) (k:Int) (x:Value):Tidy l (layNew t es k x).2.1:=by
 unfold PySem.layNew;cases q:t.freeSlot k with
 | none=>exact h.standIn _
 | some s=>
  obtain ⟨s,b⟩:=s;dsimp only;have a:Tidy l (t.put s).1:=⟨h.1,Ris.insert h.2 (z9n q)⟩
  unfold SetTable.orStandIn;split
  ·exact a
  ·exact a.standIn _
theorem Tidy.relayAll {l:Bool} {t:Q7} (h:Tidy l t) (es:Array (Int×Value)) (n:Nat):Tidy l (j1j t es n).2.1:=by
 unfold PySem.relayAll;cases q:t.relaid (es.map (·.1)) n with
 | none=>exact h.standIn _
 | some p=>
  obtain ⟨m,o⟩:=p;dsimp only;split
  ·unfold SetTable.relaid SetTable.laid at q;cases q2:SetTable.layClean (SetTable.sizeAbove n - 1) (es.map (·.1)) with
   | none=>rw [q2] at q;cases q
   | some ow=>rw [q2] at q;cases q;refine ⟨h.1,?_⟩;show (List.map _ _).Pairwise _;rw [j5];refine List.Pairwise.filterMap _ (λ a b i c f d hd=>?_) (g6);obtain ⟨j,_,e⟩:=Option.map_eq_some_iff.mp f;obtain ⟨k,_,g⟩:=Option.map_eq_some_iff.mp hd;rw [<-e,<-g];exact i
  ·exact h.standIn _
end L2
set_option maxHeartbeats 1000000
namespace L2
open PySem PySem.Spec PyProof.Rows
noncomputable def intOf:Value->Int
 | .int i _=>i
 | _=>0
theorem z56 {vs:List Value} {ns:List Int} (h:X3 vs ns):ns=vs.map intOf/\∀v∈vs,∃i t,v=.int i t:=by
 induction h with
 | nil=>exact ⟨rfl,λ v a=>by cases a⟩
 | cons n t r ih=>
  refine ⟨by rw [ih.1];rfl,λ v a=>?_⟩;rcases List.mem_cons.mp a with e|a
  ·exact ⟨n,t,e⟩
  ·exact ih.2 v a
theorem zb2 :∀vs:List Value,(∀v∈vs,∃i t,v=.int i t)->X3 vs (vs.map intOf)
 | [],_=>.nil
 | v :: vs,h=>by obtain ⟨i,t,e⟩:=h v (.head _);subst e;exact .cons i t (zb2 vs λ v a=>h v (.tail _ a))
theorem z8n {vs vs':List Value} {ns:List Int} (h:X3 vs ns) (p:vs'.Perm vs) :∃ns',X3 vs' ns'/\ns'.Perm ns:=by obtain ⟨e,k⟩:=z56 h;refine ⟨vs'.map intOf,zb2 vs' λ v a=>k v (p.mem_iff.mp a),?_⟩;rw [e];exact p.map _
theorem zbg {vs:List Value} {ns:List Int} (h:X3 vs ns):ns.length=vs.length:=by rw [(z56 h).1,O0]
theorem zd0 {vs:List Value} {ns:List Int} (h:X3 vs ns) (n:Int) (t:Tok):X3 (vs++[.int n t]) (ns++[n]):=by
 induction h with
 | nil=>exact .cons n t .nil
 | cons m u r ih=>exact .cons m u ih
section
variable {prog:Program} {w:W0} {A:D2} {E:Value->B0->Prop} {s:B0}
def SetAt (prog:Program) (w:W0) (l:Bool) (h:Heap) (a:Addr) (ns:List Int):Prop:=
 ∃es ep t,h.get? a=some { cls:=.type "set",dict:=none,data:=.set es ep t,slots:=#[] }/\ElemsOf (L5 prog w) es.toList/\X3 (es.toList.map (·.2)) ns/\ns.Nodup/\es.size < scanBound/\t.fits es.size=true/\Tidy l t
theorem z84 {l:Bool} {h:Heap} {a:Addr} {es0 es:Array (Int×Value)} {ep:Nat} {t0 t:Q7} {ns:List Int} (ho:h.get? a=some { cls:=.type "set",dict:=none,data:=.set es0 ep t0,slots:=#[] })
  (hel:ElemsOf (L5 prog w) es.toList) (hi:X3 (es.toList.map (·.2)) ns) (nd:ns.Nodup) (hb:es.size < scanBound) (hf:t.fits es.size=true) (ht:Tidy l t) :
  (h.update a (l9 es t)).get? a=some { cls:=.type "set",dict:=none,data:=.set es (ep + 1) t,slots:=#[] }/\SetAt prog w l (h.update a (l9 es t)) a ns:=by
 have g:(h.update a (l9 es t)).get? a=some { cls:=.type "set",dict:=none,data:=.set es (ep + 1) t,slots:=#[] }:=D8 (l9 es t) ho rfl;exact ⟨g,es,ep + 1,t,g,hel,hi,nd,hb,hf,ht⟩
theorem zfa {es:List (Int×Value)} {ns:List Int} {v:Int} (hi:X3 (es.map (·.2)) ns) (h:es.findIdx? (λ e=>(L5 prog w).is v e.2)=none):¬ v∈ns:=λ c=>by
 obtain ⟨e,k⟩:=z56 hi;rw [e] at c;obtain ⟨y,b,f⟩:=List.mem_map.mp c;obtain ⟨p,d,g⟩:=List.mem_map.mp b;obtain ⟨i,t,a⟩:=k y b;have:=List.findIdx?_eq_none_iff.mp h p d;have j:v=i:=by rw [<-f,a];rfl
 have:(L5 prog w).is v p.2=false:=by simpa using this
 rw [g,a,j,intKind_is] at this;cases this
theorem zhe {es:List (Int×Value)} {ns:List Int} {v:Int} {j:Nat} (hi:X3 (es.map (·.2)) ns) (h:es.findIdx? (λ e=>(L5 prog w).is v e.2)=some j):v∈ns:=by obtain ⟨a,b,_⟩:=List.findIdx?_eq_some_iff_getElem.mp h;obtain ⟨t,e⟩:=Value.isInt_shape (show j26 v es[j].2=true from b);rw [(z56 hi).1];exact List.mem_map.mpr ⟨es[j].2,List.mem_map.mpr ⟨es[j],N5 a,rfl⟩,by rw [e];rfl⟩
theorem zbf {ns:List Int} {v:Int} (h:ns.Nodup) (n:¬ v∈ns):(ns++[v]).Nodup:=by refine List.nodup_append.mpr ⟨h,by simp,λ a d b c e=>?_⟩;rw [List.mem_singleton.mp c] at e;exact n (e ▸ d)
noncomputable def addI (ns:List Int) (v:Int):List Int:=if v∈ns then ns else ns++[v]
theorem zgl {l:Bool} {a:Addr} {v:Int} {tk:Tok} {ns:List Int} {Q:Bool->B0->Prop} (hS:SetAt prog w l s.heap a ns) (hroom:ns.length + 1 < scanBound)
  (h :∀b h' ns',j6 a s.heap h'->SetAt prog w l h' a ns'->ns'.Perm (addI ns v)->Q b { s with heap:=h' }):Q0 (Z0 prog w) A (setAddHashed a (.int v tk) ((L5 prog w).hash v)) Q E s:=by
 obtain ⟨f,ep,t,m,u,k,K,O,D,M⟩:=hS;have Z:f.size=ns.length:=by rw [zbg k,O0,F1]
 have U:(L5 prog w).is v (.int v tk)=true:=intKind_is prog w v tk;unfold setAddHashed setAddHashedIn;refine R1 (o0 (wpAny_setState_of m rfl D ?_));dsimp only;rw [byScan_of rfl O u];simp only [↓reduceIte];unfold setAddByScan;refine o0 (o0 (P8 (o0 (wpAny_setScan_of U m rfl D u ?_))));cases hr:List.findIdx? (λ e=>(L5 prog w).is v e.2) f.toList with
 | some j=>refine C0 (C0 ?_);have:=h false s.heap ns (j0i a s.heap) ⟨f,ep,t,m,u,k,K,O,D,M⟩ (by unfold addI;rw [if_pos (zhe k hr)]);exact this
 | none=>
  dsimp only;have g:=layNew_perm t f ((L5 prog w).hash v) (.int v tk);have I:=layNew_fits t f ((L5 prog w).hash v) (.int v tk);have p:=M.layNew f ((L5 prog w).hash v) (.int v tk);generalize layNew t f ((L5 prog w).hash v) (.int v tk)=L at g I p⊢;obtain ⟨c,d,wd,a0⟩:=L;dsimp only at g I p⊢;rw [Array.toList_push] at g;have V:ElemsOf (L5 prog w) c.toList:=(u.push U rfl).perm g;have y :∃n,X3 (c.toList.map (·.2)) n/\n.Perm (ns++[v]):=z8n (zd0 k v tk) (by have:=g.map (λ e:Int×Value=>e.2);rwa [N3] at this);obtain ⟨n,y,C⟩:=y;have N:=zfa k hr;have R:n.Nodup:=C.nodup_iff.mpr (zbf K N);have T:addI ns v=ns++[v]:=if_neg N;have F:c.size < scanBound:=by rw [<-F1,g.length_eq,N0,F1,Z];exact hroom
  have J :∀(b:Bool) {B:B0} {Q':Unit->B0->Prop},Q' () B->Q0 (Z0 prog w) A (match b with|true=>rule "set.scan.the-table-gave-way" | false=>S3 ()) Q' E B:=λ b B Q' q=>by cases b with|false=>exact C0 q|true=>exact P8 q
  have Y:Q0 (Z0 prog w) A (do
    storeSet a c d
    if (!wd && d.tooFull)=true then do
      (match (j1j d c (Y4 c.size)).2.2 with|true=>rule "set.scan.the-table-gave-way" | false=>S3 ())
      storeSet a (j1j d c (Y4 c.size)).1 (j1j d c (Y4 c.size)).2.1
      S3 (some true)
     else S3 (some true)) (λ r i=>∃b,r=some b/\Q b i) E s:=by
   obtain ⟨S,S1⟩:=z84 (prog:=prog) (w:=w) m V y R F I p;have sb:=B3 s.heap a (l9 c d);refine o0 (wpAny_storeSet_of m rfl ?_ (fits_of_scanBound F));split
   ·have o:=relayAll_perm d c (Y4 c.size);have G:=relayAll_fits d c (Y4 c.size);have H:=p.relayAll c (Y4 c.size);generalize j1j d c (Y4 c.size)=L2 at o G H⊢;obtain ⟨a1,t2,g2⟩:=L2;dsimp only at o G H⊢;obtain ⟨X,a2,P⟩:=z8n y (o.map (λ e:Int×Value=>e.2));have W:a1.size < scanBound:=by rw [<-F1,o.length_eq,F1];exact F
    refine o0 (J g2 (o0 (wpAny_storeSet_of S rfl ?_ (fits_of_scanBound W))));obtain ⟨_,S2⟩:=z84 (prog:=prog) (w:=w) S (V.perm o) a2 (P.nodup_iff.mpr R) W G H;exact C0 ⟨true,rfl,h true _ X (sb.trans (B3 _ a _)) S2 (by rw [T];exact P.trans C)⟩
   ·exact C0 ⟨true,rfl,h true _ n sb S1 (by rw [T];exact C)⟩
  refine o0 (J a0 ?_);have fin:=t3 Y (Q':=λ r i=>Q0 (Z0 prog w) A (match r with|some added=>S3 added|none=>setAddHashedIn a (.int v tk) ((L5 prog w).hash v) 99999) Q E i) (E':=E) (λ r i x=>by obtain ⟨b,e,q⟩:=x;subst e;exact C0 q) (λ e i x=>x);by_cases z:d.plain=true
  ·rw [if_pos z];exact o0 (j10 (show hashByValue 8 (P7 v tk)=S3 true from rfl) fin)
  ·rw [if_neg z];exact o0 (C0 fin)
end
theorem zdi {ns ms:List Int} (p:ns.Perm ms) (v:Int):(addI ns v).Perm (addI ms v):=by
 unfold addI;by_cases z:v∈ns
 ·rw [if_pos z,if_pos (p.mem_iff.mp z)];exact p
 ·rw [if_neg z,if_neg (λ y=>z (p.mem_iff.mpr y))];exact p.append_right [v]
theorem z2b :∀(vs:List Int) {ns ms:List Int},ns.Perm ms->(vs.foldl addI ns).Perm (vs.foldl addI ms)
 | [],_,_,p=>p
 | v :: vs,_,_,p=>z2b vs (zdi p v)
theorem za2 (ns:List Int) (v:Int):(addI ns v).length<=ns.length + 1:=by
 unfold addI;split
 ·exact G5 _
 ·rw [N0];exact D0 _
section
variable {prog:Program} {w:W0} {A:D2} {E:Value->B0->Prop} {s:B0}
theorem SetAt.at' {l:Bool} {h h':Heap} {a:Addr} {ns:List Int} (k :∀o,h.get? a=some o->h'.get? a=some o) (x:SetAt prog w l h a ns):SetAt prog w l h' a ns:=by obtain ⟨b,c,t,e,r⟩:=x;exact ⟨b,c,t,k _ e,r⟩
theorem z8x (a:Args):(W6 "set.update.loop" a).quiet=true:=plainId_quiet (by decide +kernel) _
noncomputable def set0 (w:W0):Obj:={ cls:=.type "set",dict:=none,data:=.set #[] 0 (.fresh 0 0 (!w.params.followText "set-order")) }
theorem zeh (a:Value) {Q₁:Value->B0->Prop} (h:Q₁ (.ref s.heap.objs.size) { s with heap:=s.heap.push (set0 w) }):V4 (Z0 prog w) A (.call (.builtin "set.__new__") ⟨[.type "set",a],[]⟩) (wants Q₁ E) s:=by refine T5 F.plain_set_new F.entry_set_new (j10 (F.newCall_set_1 a) ?_);show Q0 _ _ (Builtin.Frozenset.newClass "set" ⟨[.type "set",a],[]⟩ >>= _) _ _ _;refine o0 (o0 (show Q0 _ _ (S3 true) _ _ _ from C0 ?_));show Q0 _ _ (isSubtype (.type "set") (.type "set") >>= _) _ _ _;refine o0 (j10 sub_set_self ?_);refine C0 ?_;show Q0 _ _ (newSet (.type "set") >>= _) _ _ _;unfold newSet setsByText;refine o0 (o0 (o0 (wpAny_askSetting (C0 ?_))));exact o0 (wpAny_alloc (C0 (C0 h)))
theorem zgm {h:Heap} {a:Addr} (e:h.get? a=some (set0 w)):SetAt prog w (!w.params.followText "set-order") h a []:=
 ⟨#[],0,_,e,λ x b=>by simp at b,.nil,List.nodup_nil,by decide,by rfl,rfl,P6⟩
end
section
variable {X:Cx}
theorem z2s :∀(vs ns:List Int),(vs.foldl addI ns).length<=ns.length + vs.length
 | [],ns=>D0 _
 | v :: vs,ns=>by have a:=z2s vs (addI ns v);have b:=za2 ns v;show (vs.foldl addI (addI ns v)).length<=_;rw [T0];omega
end
end L2
set_option maxHeartbeats 400000
namespace HT
open PySem PySem.Spec PyProof.Rows L2
variable {prog:Program} {w:W0} {A:D2} {E:Value->B0->Prop} {s:B0}
end HT
namespace L2
open PySem PySem.Spec PyProof.Rows
noncomputable def rEqC (K:d0):R2:=λ x y H Q=>∃d e,IsPd K H d x/\IsPd K H e y/\d.canLay0=true/\e.canLay0=true/\d.depth<=60/\Q (.bl (d.eqv e)) H
theorem op_eqC {X:Cx} {k:Nat} (hr:Room k X.A):OpR X (n3 .Eq) (rEqC X.K):=by intro m s σ H x y v u Q I i l h;obtain ⟨d,e,hd,b,c,j,a,q⟩:=h;obtain ⟨n,f⟩:=z3a I d x v hd i;obtain ⟨bs,g⟩:=z3a I e y u b l;exact SeqAt.compareEq_reads f g c j (room60 hr a) ⟨.bl _,H,I,rfl,q⟩
theorem zf7 {f:List V->Hp->VK->Prop} {te tb:TE} {r:R2} {σ:St} {H:Hp} {Q:Bool->Hp->Prop} (h:te σ H λ x H1=>f [x] H1 λ y H2=>tb σ H2 λ z H3=>r y z H3 λ b H4=>∃k,b=.bl k/\Q k H4):tTest (tOp r (tCB f (tCons te tNil)) tb) σ H Q:=h
theorem z8k {c:TT} {a b:TS} {D:Ends} {σ:St} {H:Hp} (h:c σ H λ k H1=>if k=true then a D σ H1 else b D σ H1):tIfS c a b D σ H:=h
theorem z27 {X:Cx} {K:d0} (hK:X.K=K) {o e:Expr} {es:List Expr} {to:TE} {t:TA} {apos cpos:Pos} (ho:PE X o to) (ha:PA X (e :: es) t)
  (hbase:d6 o "append" X.env (V3 o X.env)=V3 o X.env:=by rfl)
  (hfew:((z4 cpos (E1 (e :: es) X.env)).all (λ x=>!x.1) && (j02 cpos (b8 [] X.env)).all (λ x=>x.1.isSome) && decide ((e :: es).length + ([]:List K6).length + (if ([]:List K6).isEmpty then 0 else 1) < 30))=true:=by rfl)
  (hline:(apos.endLine == cpos.line)=true:=by rfl) (hs:E1 (e :: es) X.env=(false,V3 e X.env) :: E1 es X.env:=by rfl) (hplain:(z4 cpos (E1 es X.env)).any (·.1)=false:=by rfl) :
  PE X (.Call (.Attribute o "append" apos) (e :: es) [] cpos) (tBM K "list" z6p to t):=hK ▸ z1r ho ha hbase hfew hline hs hplain
theorem z9l {K:d0} {a:Addr} {xs:List V} {H1:Hp} (hq:SqL K H1 a xs):RunsR Same (IteL K a) H1 xs.length (λ i v H=>∃x p,xs[i]? = some x/\v=.ref p/\H p=some (.tup [.int (i:Nat),x])):=by refine ⟨λ i b H s=>⟨xs,xs[i],s.seq hq,by simp [b]⟩,λ H s=>⟨xs,s.seq hq,rfl⟩,λ i b H v e s y=>?_⟩;obtain ⟨p,c,rfl,f⟩:=y;obtain ⟨x,d,rfl⟩:=f xs (s.seq hq);exact ⟨Same.upd c,x,p,d,rfl,z02⟩
end L2
set_option maxHeartbeats 1000000
namespace L2
open PySem PySem.Spec PyProof.Rows
section
variable {prog:Program} {w:W0} {A:D2} {E:Value->B0->Prop} {s:B0}
theorem zb7 {b:Bool} {S it l:Addr} {items:Array Value} (nsi:S≠it) (nsl:S≠l) (nil':it≠l) :∀(ms:List Int) (i:Nat) (ns:List Int) (A:D2) (R:j0e->B0->Prop) (s:B0),A.handled=none->s.heap.IsListIter it l i->s.heap.IsList l items->
  X3 (items.toList.drop i) ms->SetAt prog w b s.heap S ns->ns.length + ms.length < scanBound->
  (∀h' tk ns',SetAt prog w b h' S ns'->ns'.Perm (ms.foldl addI ns)->(∀c o,c≠S->c≠it->s.heap.get? c=some o->h'.get? c=some o)->R (.ok (.ret .none)) { s with heap:=h',toks:=tk })->
  V4 (Z0 prog w) A (W6 "set.update.loop" { pos:=[.ref S,.ref it],kw:=[] }) R s
 | [],i,ns,A,R,s,hh,si,sl,al,dd,hz,q=>by
  have K:items[i]? = none:=by
   cases hd:items.toList.drop i with
   | nil=>have:=List.drop_eq_nil_iff.mp hd;rw [F1] at this;exact U4 this
   | cons u us=>rw [hd] at al;cases al
  refine Q3 m6 ?_;show Q0 _ _ (j8 (.ref it) >>= _) _ _ s;refine o0 (E5 (show (A.under _).handled=none from hh) si sl K λ h' p=>?_);exact C0 (q h' s.toks ns (dd.at' λ o e=>p S o nsi e) (y9 _) λ c o _ D e=>p c o D e)
 | m :: ms,i,ns,A,R,s,hh,si,sl,al,dd,hz,q=>by
  cases hd:items.toList.drop i with
  | nil=>rw [hd] at al;cases al
  | cons u us=>
   rw [hd] at al;cases al with
   | cons _ tk al=>
    have x:items.toList[i]? = some (.int m tk):=by have:=congrArg (λ l=>l[0]?) hd;simpa using this
    have F:items[i]? = some (.int m tk):=by simpa using x
    have y:items.toList.drop (i + 1)=us:=by have:=congrArg j18 hd;simpa using this
    refine Q3 m6 ?_;show Q0 _ _ (j8 (.ref it) >>= _) _ _ s;refine o0 (a5 si sl F λ g H f=>?_);have B:g.IsList l items:=by obtain ⟨o,a,d⟩:=sl;exact ⟨o,(f.2 l (c4 nil')).trans a,d⟩
    have L:SetAt prog w b g S ns:=dd.at' λ o e=>(f.2 S nsi).trans e;rw [T0] at hz;refine o0 (R1 (show Q0 _ _ (setAdd S (.int m tk)) _ _ _ from ?_));unfold setAdd;refine R1 (o0 ((L5 prog w).pyHash (k:=m) (intKind_is prog w m tk) ?_));refine zgl (s:={ s with heap:=g,toks:=s.toks + 1 }) L (T2 (by omega) hz) λ c j n h I t=>?_;refine C0 ⟨z8x _,?_⟩;have z:j.IsListIter it l (i + 1):=by obtain ⟨o,a,d⟩:=H;exact ⟨o,(h.2 it (c4 nsi)).trans a,d⟩
    have J:j.IsList l items:=by obtain ⟨o,a,d⟩:=B;exact ⟨o,(h.2 l (c4 nsl)).trans a,d⟩
    have N:n.length<=ns.length + 1:=by rw [t.length_eq];exact za2 ns m
    refine zb7 nsi nsl nil' ms (i + 1) n A R { s with heap:=j,toks:=s.toks + 1 } hh z J (by rw [y];exact al) I (by omega) λ h' M ns' G C E=>q h' M ns' G (C.trans (z2b ms t)) λ c o v r e=>E c o v r ((h.2 c v).trans ((f.2 c r).trans e))
theorem z6x:isSubtype (.type "list") (.type "set")=S3 false:=by rw [isSubtype_type];kernel_rfl
theorem z4d:isSubtype (.type "list") (.type "frozenset")=S3 false:=by rw [isSubtype_type];kernel_rfl
theorem z7v {l:Addr} {items:Array Value} {ns:List Int} {Q:Value->B0->Prop} (hh:A.handled=none) (ht:s.heap.IsList l items) (hi:X3 items.toList ns) (hb:ns.length < scanBound)
  (h :∀h' tk ns',SetAt prog w (!w.params.followText "set-order") h' s.heap.objs.size ns'->ns'.Perm (ns.foldl addI [])->(∀b o,s.heap.get? b=some o->h'.get? b=some o)->Q (.ref s.heap.objs.size) { s with heap:=h',toks:=tk }) :
  Q0 (Z0 prog w) A (call (.type "set") [.ref l]) Q E s:=by
 obtain ⟨c,L,V⟩:=F.called_set.mro;have K:=F.called_set.made;have M:=F.called_set.sub;refine K9 (codeAny_of_tree (show Q0 _ _ (callAny (.type "set") _) _ _ _ from C0 ⟨d9 _ (by decide +kernel),Q3 F.entry_type_call ?_⟩));rw [j31 (weight_type_call_type "set" [.ref l] []) rfl];have U:=F.called_set.notType;have Y:=F.called_set.canCreate;have T:=F.typeCall_set_1 (.ref l)
 (repeat (any_goals (first|assumption|wp_step)));refine d5 (zeh (.ref l) (E:=E) (Q₁:=λ t j=>t=.ref s.heap.objs.size/\j={ s with heap:=s.heap.push (set0 w) }) ⟨rfl,rfl⟩) λ r j d=>?_
 cases r with
 | error e=>exact d
 | ok fl=>
  cases fl with
  | next=>exact d.elim
  | brk=>exact d.elim
  | cont=>exact d.elim
  | ret t=>
   obtain ⟨rfl,rfl⟩:=d;have f:(s.heap.push (set0 w)).get? s.heap.objs.size=some (set0 w):=P0 _ rfl;have B:B6 { s with heap:=s.heap.push (set0 w) } (.ref s.heap.objs.size) "set":=⟨_,f,rfl⟩
   have X:=F.called_set.init.lookup;have J:=F.called_set.init.bind (.ref s.heap.objs.size)
   (repeat (any_goals (first|assumption|wp_step)))
   have C:V4 (Z0 prog w) A.in1 (.call (.builtin "set.__init__") ⟨[.ref s.heap.objs.size,.ref l],[]⟩) (wants (λ r p=>r=.none/\Q (.ref s.heap.objs.size) p) E) { s with heap:=s.heap.push (set0 w) }:=by
    refine T5 F.called_set.init.plain F.entry_set_init (check_set_init_1 B ?_);obtain ⟨o,g,m,n,hd⟩:=ht;obtain ⟨O,I,P,H⟩:=o;dsimp only at m hd;subst m hd;have u:(s.heap.push (set0 w)).get? l=some { cls:=.type "list",dict:=I,data:=.seq items n,slots:=H }:=A0 _ g;have W:=z6x;have Z:=z4d;have R:(U3 "list" == U3 "dict")=false:=by decide
    have N:(s.heap.push (set0 w)).get? s.heap.objs.size=some { cls:=.type "set",dict:=none,data:=.set #[] 0 (.fresh 0 0 (!w.params.followText "set-order")),slots:=#[] }:=f;have y:(s.heap.push (set0 w)).IsList l items:=⟨_,u,rfl,n,rfl⟩
    have k:l < s.heap.objs.size:=J0 g;unfold X5.«set.__init__» noKeywords y8;generalize hPI:pyIter=PI
    wp_walk
    subst hPI;refine K5 y (o0 (wpAny_runValue ?_));have q :∀b o,s.heap.get? b=some o->((s.heap.push (set0 w)).push { cls:=.type "list_iterator",data:=.fields #[.ref l,.int 0 0] }).get? b=some o:=λ b o e=>A0 _ (A0 _ e);have i:(s.heap.push (set0 w)).objs.size=s.heap.objs.size + 1:=R4 _ _;refine zb7 (S:=s.heap.objs.size) (it:=(s.heap.push (set0 w)).objs.size) (l:=l) (items:=items) (by rw [i];exact U0 (X2 _)) (O2 k) (by rw [i];exact O2 (P1 k)) ns 0 [] _ _ _ (by simp [hh]) ⟨_,P0 _ rfl,rfl,rfl⟩ ⟨_,q _ _ g,rfl,n,rfl⟩ (by rw [P4];exact hi) (zgm (A0 _ f)) (by simpa using hb) λ h' tk ns' D v z=>?_;refine C0 (C0 ⟨rfl,h h' tk ns' D v λ b o e=>z b o (U0 (J0 e)) (by rw [i];exact U0 (P1 (J0 e))) (q b o e)⟩)
   refine d5 C λ G p a=>?_;cases G with
   | error e=>exact a
   | ok f2=>
    cases f2 with
    | next=>exact a.elim
    | brk=>exact a.elim
    | cont=>exact a.elim
    | ret r=>obtain ⟨rfl,x⟩:=a;exact C0 (C0 x)
end
section
variable {X:Cx}
noncomputable def tLSet (K:d0) (te:TE):TE:=λ σ H Q=>te σ H λ x H1=>∃(a:Addr) (ns:List Int),x=.ref a/\SqL K H1 a (ns.map V.int)/\ns.length < 100/\Q (.int ((ns.foldl addI []).length:Nat)) H1
theorem zdq {e:Expr} {te:TE} {p1 p2 c1 c2:Pos} (hcalm:X.calm=true) (g1:Gl X "len") (m1:X.mg "len" = none) (g2:Gl X "set") (m2:X.mg "set" = none) (b1:D4 "len" = some (.builtin "len")) (b2:D4 "set" = some (.type "set")) (ha:PE X e te)
  (he:E1 [e] X.env=[(false,V3 e X.env)]:=by rfl):PE X (.Call (.Name "len" p1) [.Call (.Name "set" p2) [e] [] c2] [] c1) (tLSet X.K te):=by
 intro r s σ H Q I h;have k:X.A.handled=none:=I.ok.hd hcalm;refine R3 (ld_blt I g1 m1 b1 ?_ (by decide) (by decide));refine Y5 ?_ rfl rfl;refine (show Q0 _ _ (j1a ((false,V3 (.Call (.Name "set" p2) [e] [] c2) X.env) :: [])) _ _ s from B4 ?_);refine R3 (ld_blt I g2 m2 b2 ?_ (by decide) (by decide));refine L3 ?_ he rfl;rw [he];refine (show Q0 _ _ (j1a ((false,V3 e X.env) :: [])) _ _ s from B4 (thn (ha r s σ H _ I h) λ u n ⟨x,H1,I1,r1,a,ns,ex,sq,hl,q⟩=>?_));subst ex;cases r1;refine Z4 ?_;obtain ⟨z,o,c,C⟩:=I1.list sq;refine z7v k c.isList (by simpa using z3t o) (w6 hl (by decide)) λ v b y p g l=>Z4 ?_;obtain ⟨d,E,t,j,_,m,w,B,i,_⟩:=p;have f:d.size=(ns.foldl addI []).length:=by rw [<-g.length_eq,zbg m,O0,F1]
 have D:(ns.foldl addI []).length < 100:=by have:=z2s ns [];rw [C3,o6] at this;omega
 refine call_len_set (s:={ n with heap:=v,toks:=b }) j ⟨rfl,rfl,rfl⟩ rfl i (by omega) ?_;rw [f];exact ⟨.int ((ns.foldl addI []).length:Nat),H1,(I1.kept (t':=b + 1 + 1) l),⟨_,rfl⟩,q⟩
end
section
variable {prog:Program} {w:W0} {A:D2} {E:Value->B0->Prop}
theorem drawL {I l:Addr} {xs:Array Value} (nl:l≠I) :∀(m k:Nat) (s:B0) (R:List Value->B0->Prop),s.heap.IsListIter I l k->s.heap.IsList l xs->k + m<=xs.size->
  (∀g,g.IsListIter I l (k + m)->j6 I s.heap g->R ((xs.toList.drop k).take m) { s with heap:=g })->Q0 (Z0 prog w) A (draw (.ref I) m) R E s
 | 0,k,s,R,hI,_,_,hR=>(show Q0 (Z0 prog w) A (S3 ([]:List Value)) R E s from C0 (by simpa using hR s.heap hI (j0i ..)))
 | m + 1,k,s,R,hI,hl,le,hR=>by
  have lt:k < xs.size:=by omega
  refine (show Q0 (Z0 prog w) A (j8 (.ref I) >>= _) R E s from o0 (a5 hI hl (x:=xs[k]) (by simp [lt]) λ c b a=>?_));refine o0 (R1 (drawL nl m (k + 1) { s with heap:=c } _ b (hl.extBut a.extBut nl) (by omega) λ f d h=>C0 ?_));have e:xs.toList.drop k=xs[k] :: xs.toList.drop (k + 1):=by simp [Q5,lt]
  have z:=hR f (by rw [show k + (m + 1)=k + 1 + m by omega];exact d) (a.trans h);rw [e,List.take_succ_cons] at z;exact z
theorem zgy {l:Addr} {xs:Array Value} {ts:List (Bool×(Value->Sem Unit))} {R:Unit->B0->Prop} {s:B0} (hh:A.handled=none) (hl:s.heap.IsList l xs) (hn:ts.length=xs.size) (hst:ts.findIdx? (·.1)=none)
  (q :∀g,Heap.ExtBut s.heap.objs.size s.heap g->Q0 (Z0 prog w) A (assignInOrder (ts.map (·.2)) xs.toList) R E { s with heap:=g }):Q0 (Z0 prog w) A (unpack (.ref l) ts) R E s:=by
 have d:l≠s.heap.objs.size:=hl.elim λ o z=>U0 (J0 z.1);unfold unpack;rw [hn,hst];refine o0 (R1 ?_);unfold unpackItems;refine o0 ?_;unfold notIterableAtAll;refine o0 (wpAny_specialOf hl.typeIs slot_list_iter.lookup (C0 ?_));simp only [C4,if_false];refine o0 (R1 (K5 hl (o0 (R1 (drawL d xs.size 0 _ _ ⟨_,P0 _ rfl,rfl,rfl⟩ (hl.push _) (by omega) λ h f c=>?_)))));have all:List.take xs.size (List.drop 0 xs.toList)=xs.toList:=by rw [P4,c8 (by simp)]
 rw [all,if_neg (by simp)];have i:h.IsList l xs:=(hl.push _).extBut c.extBut d;refine o0 (R1 (E5 hh f i (by simp) λ j k=>?_));simp only [Option.isSome_none,C4,if_false];exact C0 (q j λ b o a e=>k b o a (c.extBut b o a (A0 _ e)))
end
section
variable {X:Cx} {pos:Pos}
noncomputable def gLst (K:d0) (n:Nat) (t:TGs):TG:=λ v σ H Q=>∃a xs,v=.ref a/\SqL K H a xs/\xs.length=n/\t xs σ H Q
theorem pg_lst {es:List Expr} {k:Nat} {t:TGs} {n:Nat} (hc:X.calm=true) (h:PGs X es t) (hn:(S6 es X.env).length=n:=by rfl) (hst:(S6 es X.env).findIdx? (·.1)=none:=by rfl):PG X (.Tuple es k pos) (gLst X.K n t):=by intro i s σ H v u Q I r ⟨a,xs,e1,hq,hl,hw⟩;subst e1;cases r;obtain ⟨l,c,d,j⟩:=I.list hq;rw [assign_Tuple];refine o0 (B9 (zgy (I.ok.hd hc) d.isList (by simp [hn,<-hl,c.length]) hst λ g f=>?_));exact h i _ σ H xs _ Q (I.kept (t':=s.toks) λ b o e=>f b o (U0 (J0 e)) e) (by simpa using c) hw
end
theorem z13 {K:d0} {a:Addr} {xs:List V} {tl te:TE} {tc:TT} {g:TG} {m:Nat} {fr:List (Nat×Str)} {σ:L2.St} {H H1:Hp} {Q:VK} (p:Nat->Bool) (R:Nat->V->Hp->Prop) (hR :∀i y H H',Same H H'->R i y H->R i y H') (htl :∀R:VK,R (.ref a) H1->tl σ H R) (hq:SqL K H1 a xs) (hn:xs.length<=sizeLine)
  (body :∀i,i < xs.length->∀v H,Same H1 H->xs[i]? = some v->∀(KT:VK) (KF:Hp->Prop),(p i=true->∀y H',Same H H'->R i y H'->KT y H')->(p i=false->∀H',Same H H'->KF H')->
   g v (cStG σ fr (y3 m none)) H λ σ6 H6=>∃us,us.length=m/\σ6=cStG σ fr us/\tc (cStG σ fr us) H6 λ b H2=>if b=true then te (cStG σ fr us) H2 KT else KF H2)
  (hQ :∀l H' ys,Same H1 H'->H' l=none->All2 (λ i y=>R i y H') ((A1 xs.length).filter p) ys->Q (.ref l) (upd H' l (.lst ys))):tCompG (iList K tl) m fr g tc te σ H Q:=
 htl _ ⟨a,rfl,⟨xs,hq⟩,z30 (Same.refl _) (λ _ _ _ a b=>a.trans b) p R hR (zbw (S:=Same) (λ _ _=>Same.refl _) λ H s=>s.seq hq) hn body hQ⟩
theorem zde {K:d0} {a:Addr} {xs:List V} {ta:TA} {te:TE} {tc:TT} {g:TG} {m:Nat} {fr:List (Nat×Str)} {σ:L2.St} {H H1:Hp} {Q:VK} (p:Nat->Bool) (R:Nat->V->Hp->Prop) (hR :∀i y H H',Same H H'->R i y H->R i y H') (hta :∀T:List V->Hp->Prop,T [.ref a] H1->ta σ H T) (hq:SqL K H1 a xs) (hn:xs.length<=sizeLine)
  (body :∀i,i < xs.length->∀v H,Same H1 H->(∃x p,xs[i]? = some x/\v=.ref p/\H p=some (.tup [.int (i:Nat),x]))->∀(KT:VK) (KF:Hp->Prop),(p i=true->∀y H',Same H H'->R i y H'->KT y H')->(p i=false->∀H',Same H H'->KF H')->
   g v (cStG σ fr (y3 m none)) H λ σ6 H6=>∃us,us.length=m/\σ6=cStG σ fr us/\tc (cStG σ fr us) H6 λ b H2=>if b=true then te (cStG σ fr us) H2 KT else KF H2)
  (hQ :∀l H' ys,Same H1 H'->H' l=none->All2 (λ i y=>R i y H') ((A1 xs.length).filter p) ys->Q (.ref l) (upd H' l (.lst ys))):tCompG (ieL K ta) m fr g tc te σ H Q:=
 hta _ ⟨a,xs,rfl,hq,z30 (Same.refl _) (λ _ _ _ a b=>a.trans b) p R hR (z9l hq) hn body hQ⟩
theorem z52 {K:d0} {a:Addr} {xs:List V} {tl te:TE} {tc:TT} {g:TG} {m:Nat} {fr:List (Nat×Str)} {σ:L2.St} {H H1:Hp} {Q:VK} (p:Nat->Bool) (R:Nat->V->Hp->Prop) (hR :∀i y H H',Same H H'->R i y H->R i y H') (htl :∀R:VK,R (.ref a) H1->tl σ H R) (hq:SqT K H1 a xs) (hn:xs.length<=sizeLine)
  (body :∀i,i < xs.length->∀v H,Same H1 H->xs[i]? = some v->∀(KT:VK) (KF:Hp->Prop),(p i=true->∀y H',Same H H'->R i y H'->KT y H')->(p i=false->∀H',Same H H'->KF H')->
   g v (cStG σ fr (y3 m none)) H λ σ6 H6=>∃us,us.length=m/\σ6=cStG σ fr us/\tc (cStG σ fr us) H6 λ b H2=>if b=true then te (cStG σ fr us) H2 KT else KF H2)
  (hQ :∀l H' ys,Same H1 H'->H' l=none->All2 (λ i y=>R i y H') ((A1 xs.length).filter p) ys->Q (.ref l) (upd H' l (.lst ys))):tCompG (iTup K tl) m fr g tc te σ H Q:=
 htl _ ⟨a,rfl,⟨xs,hq⟩,z30 (Same.refl _) (λ _ _ _ a b=>a.trans b) p R hR (ze4 (S:=Same) (λ _ _=>Same.refl _) λ H s=>s.seqT hq) hn body hQ⟩
theorem e_cb1 {f:List V->Hp->VK->Prop} {te:TE} {σ:L2.St} {H:Hp} {Q:VK} (h:te σ H λ x H1=>f [x] H1 Q):tCB f (tCons te tNil) σ H Q:=h
theorem t_test {r:R2} {ta tb:TE} {σ:L2.St} {H:Hp} {Q:Bool->Hp->Prop} (h:ta σ H λ x H1=>tb σ H1 λ y H2=>r x y H2 λ x H3=>∃c,x=.bl c/\Q c H3):tTest (tOp r ta tb) σ H Q:=h
theorem t_or {t u:TT} {σ:L2.St} {H:Hp} {Q:Bool->Hp->Prop} (h:t σ H λ c H1=>if c=true then Q true H1 else u σ H1 Q):tOr t u σ H Q:=h
theorem sq_if {c:TT} {a b rest:TS} {D:Ends} {σ:L2.St} {H:Hp} (h:c σ H λ k H1=>if k=true then a { D with nx:=rest D } σ H1 else b { D with nx:=rest D } σ H1):tSeq (tIfS c a b) rest D σ H:=h
theorem sq_ret {te:TE} {D:Ends} {σ:L2.St} {H:Hp} (h:te σ H D.rt):tRet te D σ H:=h
section
variable {X:Cx} {pins:List (Addr×Obj)} {σ:St} {H:Hp} {s:B0} {a:Addr} {u v:HO}
theorem Inv.retold (I:Inv X pins σ H s) (e:H a=some u) (nt :∀xs,u≠.tup xs) (nb :∀ps,u≠.tbl ps) (no :∀c,u≠.own c) (nf :∀o w,X.H₀ a≠some (.frz o w)) (ok:ObjOk X.prog X.w (upd H a v) s.heap a v):Inv X pins σ (upd H a v) s:=by
 have d :∀{b:Addr},H b=none->b≠a:=λ n z=>by rw [z,e] at n;cases n
 refine ⟨I.ok,I.os,I.bare,⟨I.base.keep,I.base.slot,λ b o q n j=>?_,I.base.there,λ b xs q=>?_,λ b o w q=>?_,λ b ps q=>?_⟩,I.loc,I.cell,?_,λ x c q=>?_,λ p h=>?_,λ b o q=>?_,I.len⟩
 ·have z:=I.base.free b o q n j;rw [upd_ne (d z)];exact z
 ·have z:=I.base.tups b xs q;rw [upd_ne (λ y=>by rw [y,e] at z;exact nt xs (Q1 z))];exact z
 ·have z:=I.base.frzs b o w q;rw [upd_ne (λ y=>by rw [y] at q;exact nf o w q)];exact z
 ·obtain ⟨i,z⟩:=I.base.tbls b ps q;exact ⟨i,by rw [upd_ne (λ y=>by rw [y,e] at z;exact nb _ (Q1 z))];exact z⟩
 ·rw [upd_ne (d I.free)];exact I.free
 ·rw [upd_ne (d (I.freeC x c q))];exact I.freeC x c q
 ·obtain ⟨k,f,g⟩:=I.pin p h;exact ⟨k,by rw [upd_ne (d f)];exact f,g⟩
 ·by_cases z:b=a
  ·subst z;rw [z02] at q;cases q;exact ok
  ·rw [upd_ne z] at q;refine (I.hok b o q).stay (λ _ _ _ y=>y) (λ c y=>?_) λ c xs y=>?_
   ·rw [upd_ne (λ x=>by rw [x,e] at y;exact no b (Q1 y))];exact y
   ·rw [upd_ne (λ x=>by rw [x,e] at y;exact nt xs (Q1 y))];exact y
theorem Inv.noFrz {kvs:List (Key×V)} (I:Inv X pins σ H s) (e:H a=some (.dK kvs)) :∀o w,X.H₀ a≠some (.frz o w):=λ o w q=>by have z:=I.base.frzs a o w q;rw [e] at z;cases z
theorem Inv.freeze {kvs:List (Key×V)} {ob:Obj} (I:Inv X pins σ H s) (e:H a=some (.dK kvs)) (ho:s.heap.get? a=some ob):Inv X pins σ (upd H a (.frz ob (.dK kvs))) s:=
 I.retold e (λ _ z=>by cases z) (λ _ z=>by cases z) (λ _ z=>by cases z) (I.noFrz e) ⟨ho,(show ObjOk X.prog X.w H s.heap a (.dK kvs) from I.hok a _ e)⟩
end
theorem z8w {α β:Type} {F:α->β->Prop} :∀{l:List α} {m:List β} {i:Nat} {x:α},t8 F l m->l[i]? = some x->∃y,m[i]? = some y/\F x y
 | _,_,i,x,.nil,e=>by simp at e
 | _,_,0,x,.cons a _,e=>by rw [P3] at e;cases e;exact ⟨_,P3,a⟩
 | _,_,i + 1,x,.cons _ r,e=>by rw [V2] at e;obtain ⟨y,b,c⟩:=z8w r e;exact ⟨y,by rw [V2];exact b,c⟩
theorem frz_at {X:Cx} {pins:List (Addr×Obj)} {σ:St} {H:Hp} {s:B0} {a:Addr} {ob:Obj} {kvs:List (Key×V)} {es:Array DictEntry} {ep:Nat} (I:Inv X pins σ H s) (hob:ob.data=.dict es ep) (e:H a=some (.frz ob (.dK kvs))) :
  ∃vs,KV kvs vs/\vs.length=kvs.length/\s.heap.DictAt (z0d X.prog X.w) a vs ep:=by
 obtain ⟨g,_,_,vs,d,h⟩:=(show ObjOk X.prog X.w H s.heap a (.frz ob (.dK kvs)) from I.hok a _ e)
 obtain ⟨j,c⟩:=h.dictAt;refine ⟨vs,d,d.length.symm,?_⟩;obtain ⟨o,i,f,l,b,k⟩:=id c;rw [g] at f;cases f;rw [hob] at b;cases b;exact c
noncomputable def kasRun {α:Type} (c:Nat->Nat->Bool) (n:Nat):j0f α->Option α
 | .ret a=>some a
 | .ask i j k=>if i < n/\j < n/\i≠j then kasRun c n (k (c i j)) else none
theorem z8p {α:Type} {c:Nat->Nat->Bool} {n:Nat} {cmp:Nat->Nat->(Bool->B0->Prop)->B0->Prop} {s:B0} {Q:α->B0->Prop} (hc :∀i j C,i < n->j < n->i≠j->C (c i j) s->cmp i j C s) :∀(t:j0f α) (a:α),kasRun c n t=some a->Q a s->t.kasWp cmp Q s
 | .ret b,a,h,q=>by cases h;exact q
 | .ask i j k,a,h,q=>by
  unfold kasRun at h;by_cases z:i < n/\j < n/\i≠j
  ·rw [if_pos z] at h;exact hc i j _ z.1 z.2.1 z.2.2 (z8p hc (k (c i j)) a h q)
  ·rw [if_neg z] at h;cases h
theorem z37 {α:Type} {c d:Nat->Nat->Bool} {n:Nat} (h :∀i j,i < n->j < n->c i j=d i j) :∀t:j0f α,kasRun c n t=kasRun d n t
 | .ret _=>rfl
 | .ask i j k=>by
  unfold kasRun;by_cases z:i < n/\j < n/\i≠j
  ·rw [if_pos z,if_pos z,h i j z.1 z.2.1];exact z37 h _
  ·rw [if_neg z,if_neg z]
noncomputable def z1c:Nat->List Nat->List (List Nat)
 | 0,_=>[[]]
 | n + 1,l=>l.flatMap λ x=>(z1c n (l.erase x)).map (x :: ·)
noncomputable def z23 (n:Nat) (r:List Nat):Bool:=match kasRun (λ i j=>decide (r.getD i 0 < r.getD j 0)) n (C5 n) with
 | some p=>(p.toList.map (λ i=>r.getD i 0) == A1 n) && p.toList.isPerm (A1 n)
 | none=>false
theorem good2:(z1c 2 (A1 2)).all (z23 2)=true:=by decide +kernel
theorem good3:(z1c 3 (A1 3)).all (z23 3)=true:=by decide +kernel
theorem good4:(z1c 4 (A1 4)).all (z23 4)=true:=by decide +kernel
theorem good5:(z1c 5 (A1 5)).all (z23 5)=true:=by decide +kernel
theorem good6:(z1c 6 (A1 6)).all (z23 6)=true:=by decide +kernel
theorem zgi :∀n,2<=n->n<=6->(z1c n (A1 n)).all (z23 n)=true
 | 2,_,_=>good2
 | 3,_,_=>good3
 | 4,_,_=>good4
 | 5,_,_=>good5
 | 6,_,_=>good6
 | 0,h,_=>absurd h (by decide)
 | 1,h,_=>absurd h (by decide)
 | n + 7,_,h=>absurd h (by omega)
theorem z85 :∀(r l:List Nat),r.Nodup->(∀x∈r,x∈l)->r∈z1c r.length l
 | [],l,_,_=>List.mem_singleton.mpr rfl
 | x :: r,l,nd,h=>by rw [V5] at nd;refine List.mem_flatMap.mpr ⟨x,h x (.head _),List.mem_map.mpr ⟨r,z85 r (l.erase x) nd.2 λ y a=>?_,rfl⟩⟩;exact (List.mem_erase_of_ne (show y≠x from λ e=>nd.1 (e ▸ a))).mpr (h y (.tail _ a))
noncomputable def ltS (a b:Str):Bool:=decide (a.cps.toList < b.cps.toList)
theorem z3p (a:Str):ltS a a=false:=decide_eq_false (List.lt_irrefl _)
theorem zd8 {a b c:Str} (h:ltS a b=true) (k:ltS b c=true):ltS a c=true:=decide_eq_true (List.lt_trans (of_decide_eq_true h) (of_decide_eq_true k))
theorem zey {a b:Str} (h:ltS a b=false) (k:ltS b a=false):a=b:=by have e:a.cps.toList=b.cps.toList:=List.le_antisymm (List.not_lt.mp (of_decide_eq_false k)) (List.not_lt.mp (of_decide_eq_false h));cases a;cases b;congr;exact Array.toList_inj.mp e
noncomputable def rkS (ks:List Str) (z:Str):Nat:=(ks.filter λ x=>ltS x z).length
theorem z2v {α:Type} {p q:α->Bool} :∀{l:List α},(∀x∈l,p x=true->q x=true)->(l.filter p).length<=(l.filter q).length
 | [],_=>D0 _
 | x :: l,h=>by
  have a:=z2v (l:=l) λ y b=>h y (.tail _ b);cases hp:p x with
  | true=>rw [D1 hp,D1 (h x (.head _) hp)];exact Nat.succ_le_succ a
  | false=>
   rw [J1 (by rw [hp];decide)];cases hq:q x with
   | true=>rw [D1 hq];exact Nat.le_succ_of_le a
   | false=>rw [J1 (by rw [hq];decide)];exact a
theorem z1j {α:Type} {p q:α->Bool} {y:α} :∀{l:List α},(∀x∈l,p x=true->q x=true)->y∈l->p y=false->q y=true->(l.filter p).length < (l.filter q).length
 | [],_,h,_,_=>absurd h F0
 | x :: l,h,hy,hp,hq=>by
  rcases List.mem_cons.mp hy with rfl|hy
  ·rw [J1 (by rw [hp];decide),D1 hq];exact Nat.lt_succ_of_le (z2v λ z a=>h z (.tail _ a))
  ·have b:=z1j (l:=l) (λ z a=>h z (.tail _ a)) hy hp hq;cases hpx:p x with
   | true=>rw [D1 hpx,D1 (h x (.head _) hpx)];exact Nat.succ_lt_succ b
   | false=>
    rw [J1 (by rw [hpx];decide)];cases hqx:q x with
    | true=>rw [D1 hqx];exact P1 b
    | false=>rw [J1 (by rw [hqx];decide)];exact b
theorem rk_lt {ks:List Str} {a b:Str} (ha:a∈ks) (h:ltS a b=true):rkS ks a < rkS ks b:=z1j (λ x _ z=>zd8 z h) ha (z3p a) h
theorem rk_iff {ks:List Str} {a b:Str} (ha:a∈ks) (hb:b∈ks):ltS a b=decide (rkS ks a < rkS ks b):=by
 cases h:ltS a b with
 | true=>exact (decide_eq_true (rk_lt ha h)).symm
 | false=>
  refine (decide_eq_false λ z=>?_).symm;cases k:ltS b a with
  | true=>have:=rk_lt hb k;omega
  | false=>rw [zey h k] at z;exact D3 _ z
theorem rk_inj {ks:List Str} {a b:Str} (ha:a∈ks) (hb:b∈ks) (e:rkS ks a=rkS ks b):a=b:=zey (by rw [rk_iff ha hb];exact decide_eq_false (by omega)) (by rw [rk_iff hb ha];exact decide_eq_false (by omega))
theorem zfm {ks:List Str} {a:Str} (ha:a∈ks):rkS ks a < ks.length:=by have h:=z1j (l:=ks) (p:=λ x=>ltS x a) (q:=λ _=>true) (λ _ _ _=>rfl) ha (z3p a) rfl;rw [List.filter_eq_self.mpr (λ _ _=>rfl)] at h;exact h
theorem nodup_map_on {α β:Type} {f:α->β} :∀{l:List α},(∀a∈l,∀b∈l,f a=f b->a=b)->l.Nodup->(l.map f).Nodup
 | [],_,_=>.nil
 | x :: l,h,nd=>by rw [V5] at nd;rw [N1,V5];refine ⟨λ z=>?_,nodup_map_on (λ a g b d=>h a (.tail _ g) b (.tail _ d)) nd.2⟩;obtain ⟨y,c,e⟩:=List.mem_map.mp z;exact nd.1 (h x (.head _) y (.tail _ c) e.symm ▸ c)
theorem zdr {ks:List Str} (nd:ks.Nodup) (h2:2<=ks.length) (h6:ks.length<=6) :∃p:Array Nat,kasRun (λ i j=>ltS (ks.getD i "") (ks.getD j "")) ks.length (C5 ks.length)=some p/\p.toList.Perm (A1 ks.length)/\(p.toList.map λ i=>ks.getD i "").Pairwise λ x y=>ltS x y=true:=by
 have o :∀i,i < ks.length->ks.getD i ""∈ks:=λ i g=>by rw [Y0,M0 g];exact N5 g
 have v:(ks.map (rkS ks)).length=ks.length:=O0 ..;have m :∀i,i < ks.length->(ks.map (rkS ks)).getD i 0=rkS ks (ks.getD i ""):=λ i g=>by rw [Y0,Y0,U1,M0 g];rfl
 have w:ks.map (rkS ks)∈z1c ks.length (A1 ks.length):=by
  have:=z85 (ks.map (rkS ks)) (A1 ks.length) (nodup_map_on (λ a f b h e=>rk_inj f h e) nd) λ x u=>by obtain ⟨a,f,rfl⟩:=List.mem_map.mp u;exact List.mem_range.mpr (zfm f)
  rwa [v] at this
 have l:=List.all_eq_true.mp (zgi _ h2 h6) _ w;unfold z23 at l;have t:=z37 (c:=λ i j=>ltS (ks.getD i "") (ks.getD j "")) (d:=λ i j=>decide ((ks.map (rkS ks)).getD i 0 < (ks.map (rkS ks)).getD j 0)) (n:=ks.length) (λ i j g s=>by rw [m i g,m j s];exact rk_iff (o i g) (o j s)) (C5 ks.length);rw [t];cases hk:kasRun (λ i j=>decide ((ks.map (rkS ks)).getD i 0 < (ks.map (rkS ks)).getD j 0)) ks.length (C5 ks.length) with
 | none=>rw [hk] at l;cases l
 | some p=>
  rw [hk] at l;obtain ⟨q,k⟩:=Bool.and_eq_true_iff.mp l;have q:=eq_of_beq q;have k:=List.isPerm_iff.mp k;refine ⟨p,rfl,k,?_⟩;rw [j5];have r:(p.toList.map λ i=>(ks.map (rkS ks)).getD i 0).Pairwise (· < ·):=by rw [q];exact g6
  rw [j5] at r;refine r.imp_of_mem λ {a b} f h z=>?_;have f:=List.mem_range.mp (k.mem_iff.mp f);have h:=List.mem_range.mp (k.mem_iff.mp h);rw [m a f,m b h] at z;rw [rk_iff (o a f) (o b h)];exact decide_eq_true z
def TupS (h:Heap) (v:Value) (k:Str):Prop:=∃(p:Addr) (o:Obj) (xs:Array Value) (n:Nat) (t:Tok),v=.ref p/\h.get? p=some o/\o.cls=.type "tuple"/\o.data=.seq xs n/\xs[0]? = some (.str k t)
theorem TupS.kept {h h':Heap} {v:Value} {x:Str} {c:Addr} {oc:Obj} (q:TupS h v x) (e:h.get? c=some oc) (nc:oc.cls≠.type "tuple") (k :∀b o,b≠c->h.get? b=some o->h'.get? b=some o):TupS h' v x:=by obtain ⟨p,o,f,n,t,rfl,a,d,hd⟩:=q;exact ⟨p,o,f,n,t,rfl,k p o (λ z=>by rw [z,e] at a;cases a;exact nc d) a,d,hd⟩
section
variable {prog:Program} {w:W0} {A:D2} {E:Value->B0->Prop} {s:B0}
theorem zgz {v z:Value} {x y:Str} {Q:Bool->B0->Prop} (hx:TupS s.heap v x) (hy:TupS s.heap z y) (ne:x≠y) (h:Q (ltS x y) s):Q0 (Z0 prog w) A (keyLt' (tuples' true) v z) Q E s:=by
  obtain ⟨p,o,f,n,t,rfl,l,G,hd,g⟩:=hx;obtain ⟨I,J,d,D,c,rfl,C,H,B,i⟩:=hy;have m :∃r,f.toList=.str x t :: r:=by
    cases hl:f.toList with
    | nil => have : f.toList[0]? = some (.str x t) := by simpa using g
             rw [hl] at this;cases this
    | cons a r => have : f.toList[0]? = some (.str x t) := by simpa using g
                  rw [hl] at this;cases this;exact ⟨r,rfl⟩
  have q :∃r,d.toList=.str y c :: r:=by
    cases hl:d.toList with
    | nil => have : d.toList[0]? = some (.str y c) := by simpa using i
             rw [hl] at this;cases this
    | cons a r => have : d.toList[0]? = some (.str y c) := by simpa using i
                  rw [hl] at this;cases this;exact ⟨r,rfl⟩
  obtain ⟨K,j⟩:=m;obtain ⟨F,u⟩:=q;refine PySem.W.kat_lt l hd C B ?_;rw [j,u,List.zip_cons_cons];refine PySem.W.kat_cons ((z0d prog w).eqBool (a:=.inr x) (b:=.inr y) (kV_is (k:=.inr x) (show RelV (kV (.inr x)) (.str x t) from ⟨t,rfl⟩)) (kV_is (k:=.inr y) (show RelV (kV (.inr y)) (.str y c) from ⟨c,rfl⟩)) ?_);rw [decide_eq_false (λ e=>ne (j16 e))];exact PySem.W.kat_no (oneLt_str h)
theorem z6b {h:Heap} :∀{vs:List Value} {ks:List Str},All2 (λ v k=>TupS h v k) vs ks->∃fs,PySem.W.KatTups h vs fs/\fs.length=vs.length/\∀f∈fs,∃k t,f=v9 k t
 | _,_,.nil=>⟨[],trivial,rfl,λ _ h=>absurd h F0⟩
 | _,_,.cons a r=>by obtain ⟨fs,i,j,b⟩:=z6b r;obtain ⟨p,o,m,n,t,rfl,d,c,hd,g⟩:=a;exact ⟨_ :: fs,PySem.W.KatTups.cons d c hd g i,by rw [T0,T0,j],λ f l=>(List.mem_cons.mp l).elim (λ e=>⟨_,_,e⟩) (b f)⟩
theorem zg0 {a:Addr} {vs:List Value} {ks:List Str} {n0:Nat} {P:S7->B0->Prop} (ho:s.heap.get? a=some (c3 "list" vs.toArray n0)) (l6:vs.length<=6) (al:All2 (λ v k=>TupS s.heap v k) vs ks) (nd:ks.Nodup)
  (h :∀(p:List Nat) (h':Heap) (e:Nat),p.Perm (A1 vs.length)->(p.map λ i=>ks.getD i "").Pairwise (λ x y=>ltS x y=true)->(∀b o,b≠a->s.heap.get? b=some o->h'.get? b=some o)->h'.get? a=some (c3 "list" (p.map λ i=>vs.getD i Y2).toArray e)->P (.done (.ret .none)) { s with heap:=h' }) :
  Q0 (Z0 prog w) A (X5.«list.sort» ⟨[.ref a],[]⟩) P E s:=by
 have lk:ks.length=vs.length:=z04 al;have la:a < s.heap.objs.size:=J0 ho;have sz:vs.length<=sizeLine:=S0 l6 (by decide);obtain ⟨I,L⟩ :∃I,(s.heap.update a (W1 λ _=>(#[]:Array Value))).get? a=some (c3 "list" #[] I):=⟨_,C7 ho λ _=>#[]⟩
 rw [list_sort_plain];refine o0 (listItems_at ho rfl (o0 (c6 ho rfl (o0 (g9 L rfl (o0 (wpAny_newTuple (o0 (C9 (R1 ?_) (Z1 _))) (by simpa using sz))))) (by simpa using sz) (Z1 _))));dsimp only;generalize hh3:((s.heap.update a (W1 λ _=>(#[]:Array Value))).push (c3 "tuple" vs.toArray 0)).push (c3 "list" #[] 0)=h3;have s1:=B3 s.heap a (W1 λ _=>(#[]:Array Value));have N :∀b o,b≠a->s.heap.get? b=some o->h3.get? b=some o:=λ b o n e=>by rw [<-hh3];exact A0 _ (A0 _ ((s1.2 b n).trans e))
 have B:h3.get? a=some (c3 "list" #[] I):=by rw [<-hh3];exact A0 _ (A0 _ L)
 have V:All2 (λ v k=>TupS h3 v k) vs ks:=z01 (λ _ _ z=>z.kept ho (show U3 "list"≠.type "tuple" by decide) N) al;have fin :∀(m:Array Value) (p:List Nat),m=(p.map λ i=>vs.getD i Y2).toArray->p.Perm (A1 vs.length)->(p.map λ i=>ks.getD i "").Pairwise (λ x y=>ltS x y=true)->P (.done (.ret .none)) { s with heap:=h3.update a (W1 λ _=>m) }:=λ m p g l u=>by
  obtain ⟨J,U⟩ :∃J,(h3.update a (W1 λ _=>m)).get? a=some (c3 "list" m J):=⟨_,C7 B λ _=>m⟩
  rw [g] at U⊢;exact h p _ J l u (λ b o n e=>(f8 _ _ (c4 n)).trans (N b o n e)) U
 have R :∀(p:List Nat),p.Perm (A1 vs.length)->(p.map λ i=>vs.getD i Y2).toArray.size<=sizeLine + 1:=λ p l=>by rw [V0,O0,l.length_eq,K4];exact S0 sz (G5 _)
 by_cases d:vs.toArray.size < 2
 ·rw [if_pos d];have H:vs.length < 2:=by simpa using d
  have G:(A1 vs.length).map (λ i=>vs.getD i Y2)=vs:=by
   apply C6
   ·simp
   ·intro i K d;simp [Y0,M0 d]
  have u:((A1 vs.length).map λ i=>ks.getD i "").Pairwise (λ x y=>ltS x y=true):=by
   match Z:vs.length,H with
   | 0,_=>exact P6
   | 1,_=>exact List.pairwise_singleton _ _
  refine o0 (C0 ?_);rw [if_pos d];refine (show Q0 _ _ (S3 ((),T9 general' (vs.toArray.zip vs.toArray) #[] 7 none) >>= _) _ _ _ from o0 (C0 ?_));dsimp only;have g:Array.map (λ x=>x.snd) (k9 (T9 general' (vs.toArray.zip vs.toArray) #[] 7 none))=((A1 vs.length).map λ i=>vs.getD i Y2).toArray:=by
   rw [G];show Array.map (λ x=>x.snd) (vs.toArray.zip vs.toArray)=vs.toArray;apply Array.ext
   ·simp
   ·intro i K d;simp
  refine o0 (g9 B rfl (o0 (c6 B rfl ?_ (Z1 _) ?_)))
  ·simp only [bne_self_eq_false,C4,if_false];exact C0 (fin _ _ g (y9 _) u)
  ·rw [g];exact R _ (y9 _)
 ·rw [if_neg d];have H:2<=vs.length:=by simpa using Nat.not_lt.mp d
  obtain ⟨fs,kt,lf,a5⟩:=z6b V;refine o0 (PySem.W.kat_kind (T:=.type "str") kt (by omega) (λ f F=>?_) (by decide) ?_)
  ·obtain ⟨k,t,rfl⟩:=a5 f F;exact PySem.W.Looks.now
  ·rw [if_neg d];obtain ⟨p,G,l,u⟩:=zdr nd (by omega) (by omega);rw [lk] at G l;rw [show (U3 "str" != U3 "tuple")=true by decide];have S :∀i,i < vs.length->TupS h3 (vs.getD i Y2) (ks.getD i ""):=λ i M=>by have X:ks[i]? = some (ks[i]'(by omega)):=M0 (by omega);obtain ⟨v,Z,z⟩:=z0b V X;rw [Y0,Y0,Z,X];exact z
   have a0:(C5 vs.length).kasWp (PySem.W.kas_ask prog w A (tuples' true) vs) (λ Y r=>r={ s with heap:=h3 }/\Y=p) { s with heap:=h3 }:=z8p (c:=λ i j=>ltS (ks.getD i "") (ks.getD j "")) (n:=vs.length) (λ i j C M hj ne q=>zgz (s:={ s with heap:=h3 }) (S i M) (S j hj) (λ e=>ne ?_) q) (C5 vs.length) p G ⟨rfl,rfl⟩
   ·refine o0 (t3 (PySem.W.kat_run (κ:=tuples' true) (ks:=vs) (vs:=vs) (Q:=λ D r=>r={ s with heap:=h3 }/\failedOf D=none/\Array.map (λ x=>x.snd) (k9 D)=(p.toList.map λ i=>vs.getD i Y2).toArray) rfl H (by omega) (λ Y D r a1 a2 a3 O=>⟨O.1,a3,by rw [<-O.2];exact PySem.W.kat_snds rfl a2⟩) a0) ?_ λ _ _ z=>z);rintro ⟨⟨⟩,D⟩ r ⟨rfl,F,g⟩;dsimp only at F g⊢;refine o0 (g9 B rfl (o0 (c6 B rfl ?_ (Z1 _) ?_)))
    ·rw [F];simp only [bne_self_eq_false,C4,if_false];exact C0 (fin _ _ g l u)
    ·rw [g];exact R _ l
   ·have K:i < ks.length:=by omega
    have d:j < ks.length:=by omega
    rw [Y0,Y0,M0 K,M0 d] at e;exact (List.getElem_inj nd).mp e
end
section
variable {X:Cx}
theorem z7i:CallR X (.builtin "sorted") (λ xs H Q=>∃(a:Addr) (ys:List V) (ks:List Str),xs=[.ref a]/\SqL X.K H a ys/\All2 (λ y k=>∃(p:Addr) (r:List V),y=V.ref p/\SqT X.K H p (.str k :: r)) ys ks/\ys.length<=6/\ks.Nodup/\
  ∀(l:Addr) (p:List Nat),H l=none->p.Perm (A1 ys.length)->(p.map λ i=>ks.getD i "").Pairwise (λ x y=>ltS x y=true)->Q (.ref l) (upd H l (.lst (p.map λ i=>ys.getD i .non)))):=by
 intro a1 s σ H xs us Q I rv h;obtain ⟨a,ys,ks,rfl,sq,al,l6,P,q⟩:=h;obtain ⟨u,rfl,Y⟩:=vals1 rv;cases Y;obtain ⟨d,g,N,M⟩:=I.list sq;have li:d.length=ys.length:=g.length.symm;refine Calls.call_function_entry kind_sorted plain_sorted entry_sorted (args_sorted1 _) ?_;unfold X5.«sorted»;obtain ⟨o,f,C,n,hd⟩:=N.isList;refine o0 (m:=checkCount "sorted" 1 1 _) (C0 (o0 (wpAny_collect_seq a (.inl rfl) f C hd (λ c J=>?_) (by rw [V0,<-g.length];exact M))));have O :∀{A:List Value} {ys:List V} {ks:List Str},Vals ys A->All2 (λ y k=>∃(p:Addr) (r:List V),y=V.ref p/\SqT X.K H p (.str k :: r)) ys ks->All2 (λ v k=>TupS s.heap v k) A ks:=by
  intro A ys;induction ys generalizing A with
  | nil=>intro ks c D;cases c;cases D;exact .nil
  | cons y ys ih=>
   intro ks c D;cases c with
   | cons ra rb=>
    cases D with
    | cons a b=>
     refine .cons ?_ (ih rb b);obtain ⟨p,r,rfl,sp⟩:=a;obtain ⟨js,S,⟨o,f,C,n,hd⟩,_⟩:=I.tuple sp;cases S with
     | cons r0 _=>obtain ⟨t,rfl⟩:=r0;cases (show _=Value.ref p from ra);exact ⟨p,o,_,n,t,rfl,f,C,hd,by simp⟩
 have vg :∀p:List Nat,(∀i∈p,i < ys.length)->Vals (p.map λ i=>ys.getD i .non) (p.map λ i=>d.getD i Y2):=by
  intro p;induction p with
  | nil=>intro _;exact .nil
  | cons i p ih=>intro L;refine .cons ?_ (ih λ j hj=>L j (.tail _ hj));have w:=L i (.head _);obtain ⟨u,hu,R⟩:=g.get (M0 w);show RelV (ys.getD i .non) (d.getD i Y2);rw [Y0,Y0,M0 w,hu];exact R
 have F:d.length<=6:=by omega
 have G:(c.push (c3 "list" d.toArray 0)).get? c.objs.size=some (c3 "list" d.toArray 0):=P0 _ rfl;have U:All2 (λ v k=>TupS (c.push (c3 "list" d.toArray 0)) v k) d ks:=z01 (λ _ _ z=>by obtain ⟨p,o,xs,n,t,e,f,r⟩:=z;exact ⟨p,o,xs,n,t,e,A0 _ (J _ _ f),r⟩) (O g al);have E:Inv X a1 σ H { s with heap:=c }:=I.kept (t':=s.toks) J;refine o0 (C9 (o0 (R1 (F8 slot_list_sort ⟨_,G,rfl⟩ entry_list_sort (zg0 (s:={ s with heap:=c.push (c3 "list" d.toArray 0) }) G F U P λ p h' e B T W hl=>⟨_,rfl,?_⟩) (args_list_sort _)))) (by simpa using S0 F (by decide)));rw [li] at B;have a0 :∀i∈p,i < ys.length:=λ i w=>List.mem_range.mp (B.mem_iff.mp w);have Z :∀b o,c.get? b=some o->h'.get? b=some o:=λ b o z=>W b o (U0 (J0 z)) (A0 _ z);refine C0 ⟨_,rfl,.ref c.objs.size,_,E.laid (t':=s.toks) (o:=.lst (p.map λ i=>ys.getD i .non)) Z (D0 _) ⟨?_,_,e,vg p a0,hl⟩,rfl,q _ p (E.hok.fresh (D0 _)) B T⟩;rw [O0,B.length_eq,K4];exact M
end
noncomputable def addT (ns:List Str) (v:Str):List Str:=if v∈ns then ns else ns++[v]
theorem z77 (ns:List Str) (v:Str):(addT ns v).length=if v∈ns then ns.length else ns.length + 1:=by
 unfold addT;by_cases z:v∈ns
 ·rw [if_pos z,if_pos z]
 ·rw [if_neg z,if_neg z,N0];rfl
theorem zf9 (ns:List Str) (v k:Str):(decide (k∈ns) || decide (k=v))=decide (k∈addT ns v):=by
 unfold addT;by_cases z:v∈ns
 ·rw [if_pos z];by_cases y:k=v
  ·rw [y,decide_eq_true z];rfl
  ·rw [decide_eq_false y,b9]
 ·rw [if_neg z];by_cases y:k=v
  ·rw [decide_eq_true y,Bool.or_true,decide_eq_true (by rw [y];exact List.mem_append.mpr (.inr (List.mem_singleton.mpr rfl)))]
  ·rw [decide_eq_false y,b9];by_cases x:k∈ns
   ·rw [decide_eq_true x,decide_eq_true (List.mem_append.mpr (.inl x))]
   ·rw [decide_eq_false x,decide_eq_false (λ w=>(List.mem_append.mp w).elim x λ u=>y (List.mem_singleton.mp u))]
section
variable {prog:Program} {w:W0} {A:D2} {E:Value->B0->Prop} {s:B0}
theorem z6o {h h':Heap} {a:Addr} {M:Str->Bool} {n:Nat} (k :∀o,h.get? a=some o->h'.get? a=some o) (x:o7 (L4 prog w) h a M n):o7 (L4 prog w) h' a M n:=by obtain ⟨o,b,c,t,e,r⟩:=x;exact ⟨o,b,c,t,k _ e,r⟩
theorem zfn {h:Heap} {a:Addr} (e:h.get? a=some (set0 w)):o7 (L4 prog w) h a (λ k=>decide (k∈([]:List Str))) ([]:List Str).length:=
 ⟨_,#[],0,_,e,⟨rfl,rfl,rfl⟩,rfl,λ x b=>by simp at b,λ k=>⟨λ z=>absurd (of_decide_eq_true z) F0,λ ⟨e,he,_⟩=>by simp at he⟩,by decide,by rfl,rfl⟩
theorem zah {S it l:Addr} {items:Array Value} (nsi:S≠it) (nsl:S≠l) (nil':it≠l) :∀(ms:List Str) (i:Nat) (ns:List Str) (A:D2) (R:j0e->B0->Prop) (s:B0),A.handled=none->s.heap.IsListIter it l i->s.heap.IsList l items->
  StrsAre (items.toList.drop i) ms->o7 (L4 prog w) s.heap S (λ k=>decide (k∈ns)) ns.length->ns.length + ms.length < scanBound->
  (∀h' tk ns',o7 (L4 prog w) h' S (λ k=>decide (k∈ns')) ns'.length->ns'=ms.foldl addT ns->(∀c o,c≠S->c≠it->s.heap.get? c=some o->h'.get? c=some o)->R (.ok (.ret .none)) { s with heap:=h',toks:=tk })->
  V4 (Z0 prog w) A (W6 "set.update.loop" { pos:=[.ref S,.ref it],kw:=[] }) R s
 | [],i,ns,A,R,s,hh,si,sl,al,dd,hz,q=>by
  have K:items[i]? = none:=by
   cases hd:items.toList.drop i with
   | nil=>have:=List.drop_eq_nil_iff.mp hd;rw [F1] at this;exact U4 this
   | cons u us=>rw [hd] at al;cases al
  refine Q3 m6 ?_;show Q0 _ _ (j8 (.ref it) >>= _) _ _ s;refine o0 (E5 (show (A.under _).handled=none from hh) si sl K λ h' j=>?_);exact C0 (q h' s.toks ns (z6o (λ o e=>j S o nsi e) dd) rfl λ c o _ E e=>j c o E e)
 | m :: ms,i,ns,A,R,s,hh,si,sl,al,dd,hz,q=>by
  cases hd:items.toList.drop i with
  | nil=>rw [hd] at al;cases al
  | cons u us=>
   rw [hd] at al;cases al with
   | cons _ tk al=>
    have x:items.toList[i]? = some (.str m tk):=by have:=congrArg (λ l=>l[0]?) hd;simpa using this
    have G:items[i]? = some (.str m tk):=by simpa using x
    have y:items.toList.drop (i + 1)=us:=by have:=congrArg j18 hd;simpa using this
    refine Q3 m6 ?_;show Q0 _ _ (j8 (.ref it) >>= _) _ _ s;refine o0 (a5 si sl G λ r I h=>?_);have C:r.IsList l items:=by obtain ⟨o,a,b⟩:=sl;exact ⟨o,(h.2 l (c4 nil')).trans a,b⟩
    have L:=z6o (prog:=prog) (w:=w) (λ o e=>(h.2 S nsi).trans e) dd;rw [T0] at hz;refine o0 (R1 (show Q0 _ _ (setAdd S (.str m tk)) _ _ _ from ?_));unfold setAdd;have t:(L4 prog w).is m (.str m tk)=true:=PySem.strKind_is prog w m tk;refine R1 (o0 ((L4 prog w).pyHash (k:=m) t ?_));refine wpAny_setAddHashed_of (s:={ s with heap:=r,toks:=s.toks + 1 }) t rfl L (T2 (by omega) hz) λ f g d=>?_;refine C0 ⟨z8x _,?_⟩;have J:o7 (L4 prog w) f S (λ k=>decide (k∈addT ns m)) (addT ns m).length:=by
     rw [z77];have a:(λ v=>decide (v∈ns) || decide (v=m))=λ k=>decide (k∈addT ns m):=funext λ k=>zf9 ns m k;rw [a] at d;by_cases z:m∈ns
     ·rw [if_pos z];rw [if_pos (decide_eq_true z)] at d;exact d
     ·rw [if_neg z];rw [if_neg (by rw [decide_eq_false z];decide)] at d;exact d
    have B:f.IsListIter it l (i + 1):=by obtain ⟨o,a,b⟩:=I;exact ⟨o,(g.2 it (c4 nsi)).trans a,b⟩
    have N:f.IsList l items:=by obtain ⟨o,a,b⟩:=C;exact ⟨o,(g.2 l (c4 nsl)).trans a,b⟩
    have O:(addT ns m).length<=ns.length + 1:=by rw [z77];split<;>omega
    refine zah nsi nsl nil' ms (i + 1) (addT ns m) A R { s with heap:=f,toks:=s.toks + 1 } hh B N (by rw [y];exact al) J (by omega) λ h' M ns' H D F=>q h' M ns' H D λ c o p n e=>F c o p n ((g.2 c p).trans ((h.2 c n).trans e))
theorem z6r {l:Addr} {items:Array Value} {ns:List Str} {Q:Value->B0->Prop} (hh:A.handled=none) (ht:s.heap.IsList l items) (hi:StrsAre items.toList ns) (hb:ns.length < scanBound)
  (h :∀h' tk ns',o7 (L4 prog w) h' s.heap.objs.size (λ k=>decide (k∈ns')) ns'.length->ns'=ns.foldl addT []->(∀b o,s.heap.get? b=some o->h'.get? b=some o)->Q (.ref s.heap.objs.size) { s with heap:=h',toks:=tk }) :
  Q0 (Z0 prog w) A (call (.type "set") [.ref l]) Q E s:=by
 obtain ⟨c,M,W⟩:=F.called_set.mro;have L:=F.called_set.made;have N:=F.called_set.sub;refine K9 (codeAny_of_tree (show Q0 _ _ (callAny (.type "set") _) _ _ _ from C0 ⟨d9 _ (by decide +kernel),Q3 F.entry_type_call ?_⟩));rw [j31 (weight_type_call_type "set" [.ref l] []) rfl];have V:=F.called_set.notType;have Z:=F.called_set.canCreate;have U:=F.typeCall_set_1 (.ref l)
 (repeat (any_goals (first|assumption|wp_step)));refine d5 (zeh (.ref l) (E:=E) (Q₁:=λ u j=>u=.ref s.heap.objs.size/\j={ s with heap:=s.heap.push (set0 w) }) ⟨rfl,rfl⟩) λ r j d=>?_
 cases r with
 | error e=>exact d
 | ok fl=>
  cases fl with
  | next=>exact d.elim
  | brk=>exact d.elim
  | cont=>exact d.elim
  | ret u=>
   obtain ⟨rfl,rfl⟩:=d;have f:(s.heap.push (set0 w)).get? s.heap.objs.size=some (set0 w):=P0 _ rfl;have C:B6 { s with heap:=s.heap.push (set0 w) } (.ref s.heap.objs.size) "set":=⟨_,f,rfl⟩
   have Y:=F.called_set.init.lookup;have K:=F.called_set.init.bind (.ref s.heap.objs.size)
   (repeat (any_goals (first|assumption|wp_step)))
   have D:V4 (Z0 prog w) A.in1 (.call (.builtin "set.__init__") ⟨[.ref s.heap.objs.size,.ref l],[]⟩) (wants (λ r q=>r=.none/\Q (.ref s.heap.objs.size) q) E) { s with heap:=s.heap.push (set0 w) }:=by
    refine T5 F.called_set.init.plain F.entry_set_init (check_set_init_1 C ?_);obtain ⟨o,g,p,n,hd⟩:=ht;obtain ⟨P,J,R,I⟩:=o;dsimp only at p hd;subst p hd;have v:(s.heap.push (set0 w)).get? l=some { cls:=.type "list",dict:=J,data:=.seq items n,slots:=I }:=A0 _ g;have X:=z6x;have a0:=z4d;have T:(U3 "list" == U3 "dict")=false:=by decide
    have O:(s.heap.push (set0 w)).get? s.heap.objs.size=some { cls:=.type "set",dict:=none,data:=.set #[] 0 (.fresh 0 0 (!w.params.followText "set-order")),slots:=#[] }:=f;have z:(s.heap.push (set0 w)).IsList l items:=⟨_,v,rfl,n,rfl⟩
    have m:l < s.heap.objs.size:=J0 g;unfold X5.«set.__init__» noKeywords y8;generalize hPI:pyIter=PI
    wp_walk
    subst hPI;refine K5 z (o0 (wpAny_runValue ?_));have t :∀b o,s.heap.get? b=some o->((s.heap.push (set0 w)).push { cls:=.type "list_iterator",data:=.fields #[.ref l,.int 0 0] }).get? b=some o:=λ b o e=>A0 _ (A0 _ e);have i:(s.heap.push (set0 w)).objs.size=s.heap.objs.size + 1:=R4 _ _;refine zah (S:=s.heap.objs.size) (it:=(s.heap.push (set0 w)).objs.size) (l:=l) (items:=items) (by rw [i];exact U0 (X2 _)) (O2 m) (by rw [i];exact O2 (P1 m)) ns 0 [] _ _ _ (by simp [hh]) ⟨_,P0 _ rfl,rfl,rfl⟩ ⟨_,t _ _ g,rfl,n,rfl⟩ (by rw [P4];exact hi) (zfn (A0 _ f)) (by simpa using hb) λ h' tk ns' G x B=>?_;refine C0 (C0 ⟨rfl,h h' tk ns' G x λ b o e=>B b o (U0 (J0 e)) (by rw [i];exact U0 (P1 (J0 e))) (t b o e)⟩)
   refine d5 D λ H q a=>?_;cases H with
   | error e=>exact a
   | ok f2=>
    cases f2 with
    | next=>exact a.elim
    | brk=>exact a.elim
    | cont=>exact a.elim
    | ret r=>obtain ⟨rfl,y⟩:=a;exact C0 (C0 y)
end
section
variable {X:Cx}
noncomputable def tLSetS (K:d0) (te:TE):TE:=λ σ H Q=>te σ H λ x H1=>∃(a:Addr) (ns:List Str),x=.ref a/\SqL K H1 a (ns.map V.str)/\ns.length < 100/\Q (.int ((ns.foldl addT []).length:Nat)) H1
theorem z2t :∀(vs ns:List Str),(vs.foldl addT ns).length<=ns.length + vs.length
 | [],ns=>D0 _
 | v :: vs,ns=>by
  have a:=z2t vs (addT ns v);have b:(addT ns v).length<=ns.length + 1:=by rw [z77];split<;>omega
  show (vs.foldl addT (addT ns v)).length<=_;rw [T0];omega
theorem z6h :∀{ns:List Str} {us:List Value},Vals (ns.map V.str) us->StrsAre us ns
 | [],_,.nil=>.nil
 | n :: ns,_,.cons a r=>by obtain ⟨t,rfl⟩:=a;exact .cons n t (z6h r)
theorem za9 {e:Expr} {te:TE} {p1 p2 c1 c2:Pos} (hcalm:X.calm=true) (g1:Gl X "len") (m1:X.mg "len" = none) (g2:Gl X "set") (m2:X.mg "set" = none) (b1:D4 "len" = some (.builtin "len")) (b2:D4 "set" = some (.type "set")) (ha:PE X e te)
  (he:E1 [e] X.env=[(false,V3 e X.env)]:=by rfl):PE X (.Call (.Name "len" p1) [.Call (.Name "set" p2) [e] [] c2] [] c1) (tLSetS X.K te):=by
 intro r s σ H Q I h;have j:X.A.handled=none:=I.ok.hd hcalm;refine R3 (ld_blt I g1 m1 b1 ?_ (by decide) (by decide));refine Y5 ?_ rfl rfl;refine (show Q0 _ _ (j1a ((false,V3 (.Call (.Name "set" p2) [e] [] c2) X.env) :: [])) _ _ s from B4 ?_);refine R3 (ld_blt I g2 m2 b2 ?_ (by decide) (by decide));refine L3 ?_ he rfl;rw [he];refine (show Q0 _ _ (j1a ((false,V3 e X.env) :: [])) _ _ s from B4 (thn (ha r s σ H _ I h) λ u l ⟨x,H1,I1,r1,a,ns,ex,sq,hl,q⟩=>?_));subst ex;cases r1;refine Z4 ?_;obtain ⟨z,m,c,C⟩:=I1.list sq;refine z6r j c.isList (by simpa using z6h m) (w6 hl (by decide)) λ v b y p f k=>Z4 ?_;subst f;obtain ⟨o,w,E,t,i,d,hd,_,_,B,g,n⟩:=p;have D:(ns.foldl addT []).length < 100:=by have:=z2t ns [];rw [C3,o6] at this;omega
 refine call_len_set (s:={ l with heap:=v,toks:=b }) i d hd g (by omega) ?_;rw [n];exact ⟨.int ((ns.foldl addT []).length:Nat),H1,(I1.kept (t':=b + 1 + 1) k),⟨_,rfl⟩,q⟩
end
noncomputable def Itc (x:Str):It:=⟨λ i _=>i < x.cps.size,λ i H v H'=>H'=H/\∃c,x.cps[i]? = some c/\v=.str ⟨#[c]⟩,λ i _=>x.cps.size<=i⟩
theorem zf5 {P:Program} {w:W0} {K:d0} {tg:Expr} {x:Str} {it:Addr} {t:Tok}:Turn P w K tg (Itc x) [it] it (λ i h=>h.IsStrIter it "str_ascii_iterator" x t i) where
 mem:=by simp
 obj:=λ i h a b f=>by
  obtain rfl:b=it:=by simpa using f
  obtain ⟨o,e,c,d⟩:=a;exact ⟨o,e,λ v z=>by rw [d] at z;cases z⟩
 keep:=λ i h j a k=>by obtain ⟨o,e,r⟩:=a;exact ⟨o,k it (by simp) o e,r⟩
 item:=by intro X m n p D i F s σ H E I g a B;subst m n p;obtain ⟨u,y,M,l,A,q⟩:=g it (by simp);have G:x.cps[i]? = some x.cps[i]:=O5 B;refine wpAny_pyNext_ascii_item a G λ j C sb=>?_;have J:Inv X F σ H { s with heap:=j,toks:=s.toks + 1 }:=I.turned (t':=s.toks + 1) (λ b o f e=>(sb.2 b f).trans e) u y l A q;obtain ⟨o,e,c,d⟩:=id C;exact ⟨_,rfl,go_of (s:={ s with heap:=j,toks:=s.toks + 1 }) e c d (by decide) ⟨.str ⟨#[x.cps[i]]⟩,H,J,⟨_,rfl⟩,⟨rfl,_,G,rfl⟩,C,λ b f=>(g b f).1⟩⟩
 done:=by intro X m n p D i F s σ H E I g a B;subst m n p;obtain ⟨u,y,M,l,A,q⟩:=g it (by simp);exact wpAny_pyNext_ascii_end (I.ok.hd D) a (U4 B) λ j L=>⟨rfl,I.turned (t':=s.toks) (λ b o f e=>L b o f e) u y l A q⟩
 self:=λ _ _ _ _ _ a h=>wpAny_pyIter_striter_ascii a h
noncomputable def iStr (tl:TE):TI:=λ σ H R=>tl σ H λ v H1=>∃x:Str,v=.str x/\x.cps.all (· < 128)=true/\R (Itc x) H1
theorem pi_str {X:Cx} {tg l:Expr} {tl:TE} (hl:PE X l tl):PI X tg l (iStr tl):=by
 intro d s σ H R I h;refine thn (hl d s σ H _ I h) λ v a ⟨y,H1,I1,r1,x,e,ha,q⟩=>?_;subst e;obtain ⟨t,rfl⟩:=r1;refine wpAny_pyIter_ascii ha ?_;refine ⟨a.heap.objs.size,[a.heap.objs.size],_,_,H1,rfl,I1.kept (t':=a.toks) λ b o e=>A0 _ e,zf5,⟨_,P0 _ rfl,rfl,rfl⟩,λ b c=>?_,q⟩;obtain rfl:b=a.heap.objs.size:=by simpa using c
 exact I1.fpOk (D0 _) (I1.hok.fresh (D0 _))
theorem zdx {x:Str} {H1:Hp}:RunsR Same (Itc x) H1 x.cps.size (λ i v _=>∃c,x.cps[i]? = some c/\v=.str ⟨#[c]⟩):=
 ⟨λ i a H s=>a,λ H s=>D0 _,λ i a H v b s y=>by obtain ⟨e,y⟩:=y;subst e;exact ⟨Same.refl _,y⟩⟩
theorem tcompS {x:Str} {tl te:TE} {tc:TT} {g:TG} {m:Nat} {fr:List (Nat×Str)} {σ:L2.St} {H H1:Hp} {Q:VK} (p:Nat->Bool) (R:Nat->V->Hp->Prop) (hR :∀i y H H',Same H H'->R i y H->R i y H') (htl :∀R:VK,R (.str x) H1->tl σ H R) (ha:x.cps.all (· < 128)=true) (hn:x.cps.size<=sizeLine)
  (body :∀i,i < x.cps.size->∀v H,Same H1 H->(∃c,x.cps[i]? = some c/\v=.str ⟨#[c]⟩)->∀(KT:VK) (KF:Hp->Prop),(p i=true->∀y H',Same H H'->R i y H'->KT y H')->(p i=false->∀H',Same H H'->KF H')->
   g v (cStG σ fr (y3 m none)) H λ σ6 H6=>∃us,us.length=m/\σ6=cStG σ fr us/\tc (cStG σ fr us) H6 λ b H2=>if b=true then te (cStG σ fr us) H2 KT else KF H2)
  (hQ :∀l H' ys,Same H1 H'->H' l=none->All2 (λ i y=>R i y H') ((A1 x.cps.size).filter p) ys->Q (.ref l) (upd H' l (.lst ys))):tCompG (iStr tl) m fr g tc te σ H Q:=
 htl _ ⟨x,rfl,ha,z30 (Same.refl _) (λ _ _ _ a b=>a.trans b) p R hR zdx hn body hQ⟩
theorem zg8 {K:d0} {te:TE} {σ:L2.St} {H:Hp} {Q:VK} (h:te σ H λ x H1=>∃(a:Addr) (ns:List Str),x=.ref a/\SqL K H1 a (ns.map V.str)/\ns.length < 100/\Q (.int ((ns.foldl addT []).length:Nat)) H1):tLSetS K te σ H Q:=h
theorem tB_not {te:TE} {σ:L2.St} {H:Hp} {Q:Bool->Hp->Prop} (h:te σ H λ x H1=>∃c,x=.bl c/\Q (!c) H1):tNot (tB te) σ H Q:=h
end L2
set_option maxHeartbeats 400000
namespace L2
open PySem PySem.Spec PyProof.Rows
end L2
set_option maxHeartbeats 1000000
namespace L2
open PySem PySem.Spec PyProof.Rows
structure ZLAt (h:Heap) (z T U i j a b:Addr) (n:Nat) (f:Value):Prop where
 z:IsZip h z T U f
 t:IsPair h T (.ref i) (.ref j)
 u :∃p q,IsPair h U p q
 i:h.IsListIter i a n
 j:h.IsListIter j b n
section
variable {X:Cx}
def zel:V->List V->Hp->VK->Prop:=λ x vs H Q=>∃(l:Addr) (xs:List V) (k:Nat) (y:V),x=.ref l/\vs=[.int (k:Nat),y]/\H l=some (.lst xs)/\k<=xs.length/\xs.length < 1000/\Q .non (upd H l (.lst (xs.take k++y :: xs.drop k)))
theorem zdj:MtM X "list.insert" zel:=by
 intro C s σ H x w v A Q I j p h;obtain ⟨l,c,k,y,rfl,rfl,b,E,D,q⟩:=h;cases j;obtain ⟨u,v,rfl,d,g⟩:=p.two;obtain ⟨t,rfl⟩:=d;obtain ⟨z,a,n,r,B,e⟩:=I.lstM b;have sz:(1000:Nat)<=sizeLine:=by decide
 generalize hx:(k:Int)=x;have i:f9 x=true:=by unfold f9;rw [W2];exact ⟨decide_eq_true (by omega),decide_eq_true (by omega)⟩
 have o:¬(!Builtin.List.listFitsIndex x)=true:=by rw [i];decide
 have m:a.toArray.size<=sizeLine:=by rw [V0];omega
 refine j23 F.slot_list_insert ⟨_,e,rfl⟩ F.entry_list_insert (F.args_list_insert_3 _ _ _) (PySem.AutoSeq1.list_insert_list_int_val_1 l a.toArray n x t v o m) ⟨e,?_⟩;refine ⟨.non,_,I.lset (its':=a.take k++v :: a.drop k) (ys:=c.take k++y :: c.drop k) b e ?_ ((r.take k).append (.cons g (r.drop k))) ?_,rfl,q⟩
 ·have f:(if x < 0 then (x + (a.toArray.size:Int)).toNat else min x.toNat a.toArray.size)=k:=by rw [if_neg (by omega),V0,<-hx,A9];omega
  show (a.toArray.extract 0 (if x < 0 then (x + (a.toArray.size:Int)).toNat else min x.toNat a.toArray.size)).push v++a.toArray.extract (if x < 0 then (x + (a.toArray.size:Int)).toNat else min x.toNat a.toArray.size)=_;rw [f];exact PySem.W.kl_ins_eq a k v
 ·rw [N0,T0,A4,F9];omega
theorem z34 {o e:Expr} {es:List Expr} {to:TE} {t:TA} {apos cpos:Pos} (ho:PE X o to) (ha:PA X (e :: es) t)
  (hbase:d6 o "insert" X.env (V3 o X.env)=V3 o X.env:=by rfl)
  (hfew:((z4 cpos (E1 (e :: es) X.env)).all (λ x=>!x.1) && (j02 cpos (b8 [] X.env)).all (λ x=>x.1.isSome) && decide ((e :: es).length + ([]:List K6).length + (if ([]:List K6).isEmpty then 0 else 1) < 30))=true:=by rfl)
  (hline:(apos.endLine == cpos.line)=true:=by rfl) (hs:E1 (e :: es) X.env=(false,V3 e X.env) :: E1 es X.env:=by rfl) (hplain:(z4 cpos (E1 es X.env)).any (·.1)=false:=by rfl) :
  PE X (.Call (.Attribute o "insert" apos) (e :: es) [] cpos) (tBM X.K "list" zel to t):=pe_bm j09 PySem.F.slot_list_insert PySem.F.type_list_insert zdj ho ha hbase hfew hline hs hplain
end
end L2
namespace L2
open PySem PySem.Spec PyProof.Rows PySem.NumText
end L2
namespace L2
open PySem PySem.Spec PyProof.Rows
end L2
open PySem PySem.W PyProof.Rows
set_option maxHeartbeats 4000000
namespace TJ
section
variable (p:Program) (w:W0) (n₀:Nat) (ann:Option Value) (code:Code) (q:Pos)
theorem ze6 {n m:Nat} :∀{s s' s'':B0} {t t' t'':j27},segGo O3 p w n₀ ann 1 n s t=some (s',t')->segGo O3 p w n₀ ann 1 m s' t'=some (s'',t'')->
  segGo O3 p w n₀ ann 1 (n + m) s t=some (s'',t''):=by
 induction n with
 | zero=>
  intro s s' s'' t t' t'' h k;obtain ⟨rfl,rfl⟩:s=s'/\t=t':=by simpa [segGo] using h
  rw [o6];exact k
 | succ n ih=>
  intro s s' s'' t t' t'' h k;rw [show n + 1 + m=n + m + 1 by omega];unfold segGo at h⊢;cases he:endAt 1 t with
  | some f=>rw [he] at h;cases h
  | none=>
   rw [he] at h;cases hk:stepOk n₀ ann t with
   | false=>rw [hk] at h;cases h
   | true=>
    rw [hk] at h;cases hs:step (denote O3) p w s t with
    | halt o s₂=>rw [hs] at h;cases h
    | go s₂ t₂=>rw [hs] at h;exact ih h k
def Steps (c:Nat) (s:B0) (t:j27) (s':B0) (t':j27):Prop:=∃n,n<=c/\segGo O3 p w n₀ ann 1 n s t=some (s',t')
def Goes {α:Type} (c:Nat) (x:Sem α) (s:B0) (pos:Pos) (a:α) (s':B0) (pos':Pos):Prop:=
 ∀(K:α->Sem Fin) (H:Value->Sem Fin) (gd:Bool->Bool) (lv:List Value->List Value),
  Steps p w n₀ ann c s ⟨x.wrap K H gd lv,code,pos,[topFrame q]⟩ s' ⟨K a,code,pos',[topFrame q]⟩
end
section
variable {p:Program} {w:W0} {n₀:Nat} {ann:Option Value} {code:Code} {q:Pos}
theorem Steps.trans {c d:Nat} {s s' s'':B0} {t t' t'':j27} (h:Steps p w n₀ ann c s t s' t') (k:Steps p w n₀ ann d s' t' s'' t''):Steps p w n₀ ann (c + d) s t s'' t'':=by obtain ⟨n,a,h⟩:=h;obtain ⟨m,b,k⟩:=k;exact ⟨n + m,by omega,ze6 p w n₀ ann h k⟩
theorem Steps.refl {s:B0} {t:j27}:Steps p w n₀ ann 0 s t s t:=⟨0,D0 _,rfl⟩
theorem Steps.le {c d:Nat} {s s':B0} {t t':j27} (h:Steps p w n₀ ann c s t s' t') (l:c<=d):Steps p w n₀ ann d s t s' t':=let ⟨n,a,b⟩:=h;⟨n,S0 a l,b⟩
theorem Steps.one {s s':B0} {t t':j27} (he:endAt 1 t=none) (hk:stepOk n₀ ann t=true) (hs:step (denote O3) p w s t=.go s' t'):Steps p w n₀ ann 1 s t s' t':=by refine ⟨1,D0 _,?_⟩;unfold segGo;rw [he,hk,hs];rfl
variable {α β:Type} {s s' s'':B0} {pos pos' pos'':Pos} {a:α} {b:β} {c d:Nat}
theorem Goes.pure:Goes p w n₀ ann code q 0 (j17 a:Sem α) s pos a s pos:=λ _ _ _ _=>.refl
theorem Goes.le {x:Sem α} (h:Goes p w n₀ ann code q c x s pos a s' pos') (l:c<=d):Goes p w n₀ ann code q d x s pos a s' pos':=λ K H b e=>(h K H b e).le l
theorem Goes.bind {x:Sem α} {f:α->Sem β} (h:Goes p w n₀ ann code q c x s pos a s' pos') (k:Goes p w n₀ ann code q d (f a) s' pos' b s'' pos''):Goes p w n₀ ann code q (c + d) (x >>= f) s pos b s'' pos'':=by
 intro K H g i;have e:(x >>= f).wrap K H g i=x.wrap (λ a=>(f a).wrap K H g i) H g i:=by rw [Sem.bind_eq_wrap',Sem.wrap_wrap];rfl
 rw [e];exact (h _ H g i).trans (k K H g i)
theorem Goes.keep {x:Sem α} {vs:List Value} (h:Goes p w n₀ ann code q c x s pos a s' pos'):Goes p w n₀ ann code q c (x.keep vs) s pos a s' pos':=by intro K H b d;rw [Sem.keep_eq_wrap,Sem.wrap_wrap];exact h K H _ _
theorem Goes.holding {x:Sem α} {vs:List Value} (h:Goes p w n₀ ann code q c x s pos a s' pos'):Goes p w n₀ ann code q c (j00 vs x) s pos a s' pos':=by rw [holding_eq_keep];exact h.keep
theorem Goes.rule {tag:String}:Goes p w n₀ ann code q 1 (PySem.rule tag) s pos () s pos:=λ _ _ _ _=>.one rfl rfl rfl
theorem Goes.at' {pos₁:Pos}:Goes p w n₀ ann code q 1 (standAt pos₁) s pos () s pos₁:=λ _ _ _ _=>.one rfl rfl rfl
theorem Goes.loadPart {A:Addr} {o:Obj} {part:Option Value} (ho:s.heap.get? A=some o):Goes p w n₀ ann code q 1 (loadPart A part) s pos o s pos:=λ K H a b=>.one rfl rfl (by obtain ⟨heap,c,e,d,f⟩:=s;show (match heap.get? A with|some o=>Step.go _ _|none=>_)=_;have ho:heap.get? A=some o:=ho;rw [ho];rfl)
theorem Goes.updatePart {A:Addr} {o:Obj} {f:Obj->Obj} {part:Option Value} (ho:s.heap.get? A=some o) (hn:Nat.ble n₀ A=true):Goes p w n₀ ann code q 1 (updatePart A part f) s pos () { s with heap:=s.heap.update A f } pos:=λ K H a b=>
 .one rfl (by
  show (_ && (Nat.ble n₀ A || _ || _ || _))=true;rw [hn];rfl) (by
  obtain ⟨heap,c,e,d,g⟩:=s;have ho:heap.get? A=some o:=ho;show (if (heap.get? A).isSome=true then Step.go _ _ else _)=_;rw [ho];rfl)
theorem Goes.leaf {x:Sem α} {sT sT':SharedT} (n:Nat) (h :∀K H gd lv,segGoT O3 p w n₀ ann 1 n sT ⟨x.wrap K H gd lv,code,pos,[topFrame q]⟩=some (sT',⟨K a,code,pos',[topFrame q]⟩)) :
  Goes p w n₀ ann code q n x sT.abs pos a sT'.abs pos':=λ K H gd lv=>⟨n,D0 _,segGo_of (h K H gd lv)⟩
end
end TJ
open PySem PySem.W PyProof.Rows
namespace TJ
section
variable {p:Program} {w:W0} {n₀:Nat} {ann:Option Value} {code:Code} {q:Pos} {s:B0} {pos:Pos}
theorem Goes.forIn {γ β:Type} {c:Nat} {f:γ->β->Sem (ForInStep β)} {b:β} :∀{l:List γ},(∀x∈l,Goes p w n₀ ann code q c (f x b) s pos (.yield b) s pos)->Goes p w n₀ ann code q (l.length * c) (ForIn.forIn l b f) s pos b s pos
 | [],_=>by rw [j0d];exact Goes.pure.le (Z1 _)
 | x :: l,h=>by rw [V9];have k:=Goes.forIn (l:=l) λ y a=>h y (Y1 _ a);have e:=Goes.bind (f:=λ r=>match r with | .done b=>(j17 b:Sem β) | .yield b=>ForIn.forIn l b f) (h x F2) k;exact e.le (by rw [T0,Nat.add_mul];omega)
theorem Goes.entries {d:Addr} {o:Obj} {es:Array DictEntry} {ep:Nat} {part:Option Value} (ho:s.heap.get? d=some o) (hd:o.data=.dict es ep):Goes p w n₀ ann code q 1 (dictEntries d part) s pos es s pos:=by unfold dictEntries;refine (Goes.bind (d:=0) (Goes.loadPart ho) ?_);rw [hd];exact Goes.pure
theorem Goes.epoch {d:Addr} {o:Obj} {es:Array DictEntry} {ep:Nat} {part:Option Value} (ho:s.heap.get? d=some o) (hd:o.data=.dict es ep):Goes p w n₀ ann code q 1 (dictEpoch d part) s pos ep s pos:=by unfold dictEpoch;refine (Goes.bind (d:=0) (Goes.loadPart ho) ?_);rw [hd];exact Goes.pure
theorem Goes.mayTell {a:Addr} {stored:List Value} {cq:Nat} (hq:Goes p w n₀ ann code q cq (A6 8 (.ref a)) s pos true s pos) (hs :∀v∈stored,Goes p w n₀ ann code q cq (A6 8 v) s pos true s pos) :
  Goes p w n₀ ann code q (cq + stored.length * cq) (tableMayTell (.ref a) stored) s pos false s pos:=by
 unfold tableMayTell;split
 ·exact Goes.pure.le (Z1 _)
 ·refine Goes.bind hq ?_;simp only [j15,C4,if_false];refine (Goes.bind (a:=(none,())) (d:=0) (Goes.forIn λ v b=>?_) ?_).le (D0 _)
  ·refine (Goes.bind (d:=0) (hs v b) ?_).le (D0 _);simp only [j15,C4,if_false];exact Goes.pure
  ·exact Goes.pure
theorem Goes.find_none {d a:Addr} {o:Obj} {es:Array DictEntry} {ep:Nat} {h:Int} {cq ce:Nat} (ho:s.heap.get? d=some o) (hd:o.data=.dict es ep)
  (hq:Goes p w n₀ ann code q cq (A6 8 (.ref a)) s pos true s pos)
  (hk :∀e∈es.toList,∃b,e.key=.ref b/\b≠a/\Goes p w n₀ ann code q cq (A6 8 (.ref b)) s pos true s pos/\Goes p w n₀ ann code q ce (eqBool (.ref b) (.ref a)) s pos false s pos) :
  Goes p w n₀ ann code q (2 + cq + es.size * (cq + ce + 10)) (dictFind d (.ref a) h) s pos none s pos:=by
 have m :∀(i:Nat) (e:DictEntry),es[i]? = some e->e∈es.toList:=λ i e A=>Array.mem_toList_iff.mpr (j1e A);have x:¬ (es.any λ e=>e.key == Value.ref a && e.hash != h)=true:=by rw [<-Array.any_toList,List.any_eq_true];rintro ⟨e,hin,hc⟩;obtain ⟨b,f,g,_⟩:=hk e hin;simp only [f,W2,beq_iff_eq,Value.ref.injEq] at hc;exact g hc.1
 have n :∀v∈(D6 es.size (λ i=>es[i]?.map (·.hash)) h).filterMap (λ i=>es[i]?.map (·.key)),∃b,v=.ref b/\b≠a/\Goes p w n₀ ann code q cq (A6 8 v) s pos true s pos:=by
  intro v k;obtain ⟨i,_,j⟩:=List.mem_filterMap.mp k;cases hei:es[i]? with
  | none=>rw [hei] at j;cases j
  | some e=>
   rw [hei] at j;obtain rfl:e.key=v:=by simpa using j
   obtain ⟨b,f,g,r,_⟩:=hk e (m i e hei);exact ⟨b,f,g,f ▸ r⟩
 have l:(D6 es.size (λ i=>es[i]?.map (·.hash)) h).length<=es.size:=by unfold D6;exact S0 (m3 _ _) (by rw [K4];exact D0 _)
 have B:((D6 es.size (λ i=>es[i]?.map (·.hash)) h).filterMap (λ i=>es[i]?.map (·.key))).length<=es.size:=S0 (List.length_filterMap_le _ _) l;unfold dictFind;refine Goes.holding ?_;refine (Goes.bind (d:=1 + cq + es.size * (cq + ce + 10)) (Goes.entries ho hd) ?_).le (by omega);dsimp only;rw [if_neg (show ¬ ((Value.ref a :: (D6 es.size (λ i=>es[i]?.map (·.hash)) h).filterMap (λ i=>es[i]?.map (·.key))).all carriedByValue)=true by simp [carriedByValue])];rw [if_neg x];have t:¬ (((D6 es.size (λ i=>es[i]?.map (·.hash)) h).filterMap (λ i=>es[i]?.map (·.key))) == [Value.ref a])=true:=by intro e;have e:=eq_of_beq e;obtain ⟨b,f,g,_⟩:=n (.ref a) (by rw [e];exact List.mem_singleton.mpr rfl);exact g (by injection f with f;exact f.symm)
 rw [if_neg t];refine (Goes.bind (d:=1 + es.size * (ce + 10)) (Goes.mayTell hq λ v k=>(let ⟨_,_,_,z⟩:=n v k;z)) ?_).le ?_
 ·rw [if_neg (by simp)];refine (Goes.bind (a:=(none,none)) (d:=0) (Goes.forIn (c:=ce + 10) λ i j=>?_) ?_).le ?_
  ·cases hei:es[i]? with
   | none=>exact Goes.pure.le (Z1 _)
   | some e=>
    dsimp only;split
    ·obtain ⟨b,f,g,_,y⟩:=hk e (m i e hei);rw [f];refine (Goes.bind (d:=ce + 2) (Goes.epoch ho hd) (Goes.bind (d:=2) y (Goes.bind (d:=1) (Goes.epoch ho hd) ?_))).le (by omega);rw [if_neg (by simp)];rw [if_neg (by simp)];refine Goes.bind (d:=0) Goes.rule ?_;rw [if_neg (by simp)];exact Goes.pure
    ·exact Goes.pure.le (Z1 _)
  ·exact Goes.pure
  ·have:=R8 (ce + 10) l;omega
 ·have:=R8 cq B;have u:es.size * (cq + ce + 10)=es.size * cq + es.size * (ce + 10):=by rw [<-Nat.mul_add,Nat.add_assoc]
  rw [u];omega
end
end TJ
open PySem PySem.W PyProof.Rows
namespace TJ
noncomputable abbrev dObj (es:Array DictEntry) (ep:Nat):Obj:={ cls:=.type "dict",data:=.dict es ep }
noncomputable abbrev KV3:=Addr×Value×Int
noncomputable def ent (x:KV3):DictEntry:=⟨x.2.2,.ref x.1,x.2.1⟩
noncomputable def unh (a:Addr):Sem Value:=do rule "hash.unhashable";raiseError "TypeError" s!"unhashable type: '{← typeNameOf (.ref a)}'"
noncomputable def z8c (d:Addr) (vs:List (Value×Value)):Sem PUnit:=forIn vs Y8 λ (x:Value×Value) (_:PUnit)=>(do j1b d x.1 x.2;S3 (n4 Y8):Sem (ForInStep PUnit))
section
variable {p:Program} {w:W0} {n₀:Nat} {ann:Option Value} {code:Code} {q:Pos} {pos:Pos} {F:Obj->Nat->SharedT} {d:Addr}
structure Fam (n₀:Nat) (d:Addr) (F:Obj->Nat->SharedT):Prop where
 le:Nat.ble n₀ d=true
 get :∀es ep tk,(F (dObj es ep) tk).abs.heap.get? d=some (dObj es ep)
 upd :∀es ep tk (e:DictEntry),({ (F (dObj es ep) tk).abs with heap:=(F (dObj es ep) tk).abs.heap.update d (A8 (·.push e)) }:B0)=(F (dObj (es.push e) (ep + 1)) tk).abs
theorem Goes.updKeys (Z:Fam n₀ d F) {es:Array DictEntry} {ep tk:Nat} {e:DictEntry} {part:Option Value} (hsz:es.size < sizeLine) :
  Goes p w n₀ ann code q 3 (updateDictKeys d (·.push e) part) (F (dObj es ep) tk).abs pos () (F (dObj (es.push e) (ep + 1)) tk).abs pos:=by
 unfold updateDictKeys;refine (Goes.bind (d:=2) (Goes.loadPart (Z.get es ep tk)) ?_);dsimp only;have u:=Goes.updatePart (p:=p) (w:=w) (ann:=ann) (code:=code) (q:=q) (pos:=pos) (part:=part) (f:=A8 (·.push e)) (Z.get es ep tk) Z.le;rw [Z.upd es ep tk e] at u;refine Goes.bind (d:=1) u ?_;unfold lookBehind;refine Goes.bind (d:=0) (Goes.loadPart (Z.get _ _ tk)) ?_;have a:(dObj (es.push e) (ep + 1)).data.pastItsLine=none:=by unfold Data.pastItsLine;dsimp only;rw [if_neg (by rw [Array.size_push];omega)]
 rw [a];exact Goes.pure
theorem Goes.set (Z:Fam n₀ d F) {a:Addr} {v:Value} {es:Array DictEntry} {ep tk k cp cq ce:Nat} {hsh:Int} (hsz:es.size < sizeLine)
  (hpy:Goes p w n₀ ann code q cp (pyHash (.ref a)) (F (dObj es ep) tk).abs pos hsh (F (dObj es ep) (tk + k)).abs pos)
  (hq:Goes p w n₀ ann code q cq (A6 8 (.ref a)) (F (dObj es ep) (tk + k)).abs pos true (F (dObj es ep) (tk + k)).abs pos)
  (hk :∀e∈es.toList,∃b,e.key=.ref b/\b≠a/\Goes p w n₀ ann code q cq (A6 8 (.ref b)) (F (dObj es ep) (tk + k)).abs pos true (F (dObj es ep) (tk + k)).abs pos/\
   Goes p w n₀ ann code q ce (eqBool (.ref b) (.ref a)) (F (dObj es ep) (tk + k)).abs pos false (F (dObj es ep) (tk + k)).abs pos) :
  Goes p w n₀ ann code q (cp + (2 + cq + es.size * (cq + ce + 10)) + 4) (j1b d (.ref a) v) (F (dObj es ep) tk).abs pos () (F (dObj (es.push ⟨hsh,.ref a,v⟩) (ep + 1)) (tk + k)).abs pos:=by
 unfold j1b;refine Goes.holding ?_;refine (Goes.bind (d:=(2 + cq + es.size * (cq + ce + 10)) + 4) hpy ?_).le (by omega);unfold dictSetHashed;refine Goes.holding ?_;refine Goes.bind (d:=4) (Goes.find_none (h:=hsh) (Z.get es ep (tk + k)) rfl hq hk) ?_;exact Goes.bind (d:=3) Goes.rule (Goes.updKeys Z hsz)
theorem zh9 {γ β:Type} {f:γ->β->Sem (ForInStep β)} {x:γ} {xs:List γ} {b b' b'':β} {c c':Nat} {s s' s'':B0} (h:Goes p w n₀ ann code q c (f x b) s pos (.yield b') s' pos) (k:Goes p w n₀ ann code q c' (forIn xs b' f) s' pos b'' s'' pos) :
  Goes p w n₀ ann code q (c + c') (forIn (x :: xs) b f) s pos b'' s'' pos:=by
 rw [V9];exact Goes.bind (f:=λ r=>match r with | .done b=>(j17 b:Sem β) | .yield b=>forIn xs b f) h k
theorem Goes.loop (Z:Fam n₀ d F) {cp cq ce N:Nat} (all:List KV3) (hN:all.length<=N) (hN':N < sizeLine) (hnd:(all.map (·.1)).Nodup)
  (hQ :∀x∈all,∀oD tk,Goes p w n₀ ann code q cq (A6 8 (.ref x.1)) (F oD tk).abs pos true (F oD tk).abs pos)
  (hE:all.Pairwise λ x y=>∀oD tk,Goes p w n₀ ann code q ce (eqBool (.ref x.1) (.ref y.1)) (F oD tk).abs pos false (F oD tk).abs pos)
  (hH :∀x∈all,∀oD tk,Goes p w n₀ ann code q cp (pyHash (.ref x.1)) (F oD tk).abs pos x.2.2 (F oD (tk + 3)).abs pos) :
  ∀(todo done:List KV3) (tk:Nat),all=done++todo->
   Goes p w n₀ ann code q (todo.length * (cp + (2 + cq + N * (cq + ce + 10)) + 4)) (z8c d (todo.map λ x=>(Value.ref x.1,x.2.1)))
    (F (dObj (done.map ent).toArray done.length) tk).abs pos () (F (dObj (all.map ent).toArray all.length) (tk + 3 * todo.length)).abs pos:=by
 intro todo;induction todo with
 | nil=>intro done tk e;rw [U2] at e;subst e;unfold z8c;rw [d8,j0d];exact Goes.pure.le (Z1 _)
 | cons x todo ih=>
  intro done tk e;have h:x∈all:=by rw [e];exact X0 _ F2
  have c:=ih (done++[x]) (tk + 3) (by rw [e,q9];rfl);unfold z8c at c⊢;rw [N1];have g:(done.map ent).toArray.size<=N:=by rw [V0,O0];rw [e,N0] at hN;omega
  have f:=Goes.set (p:=p) (w:=w) (ann:=ann) (code:=code) (q:=q) (pos:=pos) (v:=x.2.1) (ep:=done.length) Z (T2 g hN') (hH x h _ tk) (hQ x h _ _) (es:=(done.map ent).toArray) (ce:=ce) (by
   intro s m;obtain ⟨y,a,rfl⟩:=List.mem_map.mp m;have o:y∈all:=by rw [e];exact F4 _ a
   have k:y.1≠x.1:=by rw [e,N3,N1] at hnd;intro q;exact (List.nodup_append.mp hnd).2.2 y.1 (List.mem_map.mpr ⟨y,a,rfl⟩) x.1 F2 q
   rw [e] at hE;exact ⟨y.1,rfl,k,hQ y o _ _,(List.pairwise_append.mp hE).2.2 y a x F2 _ _⟩)
  have j:((done.map ent).toArray.push ⟨x.2.2,.ref x.1,x.2.1⟩)=((done++[x]).map ent).toArray:=by rw [List.push_toArray,N3];rfl
  have l:done.length + 1=(done++[x]).length:=by rw [N0];rfl
  rw [j,l] at f;have i:tk + 3 * (x :: todo).length=(tk + 3) + 3 * todo.length:=by rw [T0];omega
  rw [i];have r:Goes p w n₀ ann code q (_ + 0) (do j1b d (Value.ref x.1,x.2.1).1 (Value.ref x.1,x.2.1).2;j17 (n4 Y8):Sem (ForInStep PUnit)) _ pos (n4 Y8) _ pos:=Goes.bind f Goes.pure;have n:=zh9 (b:=Y8) (xs:=todo.map λ x=>(Value.ref x.1,x.2.1)) r c;refine n.le ?_;rw [T0,Nat.add_mul];have:=R8 (cq + ce + 10) g;omega
noncomputable def z7w (acc:Nat):Int:=if acc == 2 ^ 64 - 1 then 1546275796 else if acc < 2 ^ 63 then acc else (acc:Int) - (2 ^ 64:Nat)
theorem z4z (acc:Nat) (h:acc < 2 ^ 64):-(2:Int) ^ 63<=z7w acc/\z7w acc < 2 ^ 63:=by
 unfold z7w;split
 ·constructor<;>decide
 ·split
  ·constructor<;>omega
  ·constructor<;>omega
theorem z43 (hs:List Int):-(2:Int) ^ 63<=y0 hs/\y0 hs < 2 ^ 63:=
 z4z _ (Nat.mod_lt _ (by decide))
theorem Goes.pyHashT {a:Addr} {s s':B0} {hs:List Int} {tok:Tok} (h1:Goes p w n₀ ann code q 1 (cRoomFor "hash" [.ref a]) s pos () s pos)
  (h2:Goes p w n₀ ann code q 1 (specialOf (.ref a) "__hash__") s pos (some (.builtin "tuple.__hash__")) s pos)
  (h3:Goes p w n₀ ann code q 22 (Z6 (.ref a) "__hash__" (unh a)) s pos (some (.int (y0 hs) tok)) s' pos) :
  Goes p w n₀ ann code q 25 (pyHash (.ref a)) s pos (O1 (y0 hs)) s' pos:=by
 have e:pyHash (.ref a)=pyHashByItsType (.ref a):=rfl;rw [e];unfold pyHashByItsType;refine Goes.bind (d:=24) h1 ?_;refine Goes.bind (d:=23) h2 ?_;rw [if_neg (by rw [beq_builtin_none];exact R0)];refine Goes.bind (d:=22) h2 ?_;show Goes p w n₀ ann code q 22 (Z6 (.ref a) "__hash__" (unh a) >>= _) s pos _ s' pos;refine Goes.bind (d:=0) h3 ?_;have r:(decide (-(2:Int) ^ 63<=y0 hs) && decide (y0 hs < 2 ^ 63))=true:=by have r:=z43 hs;rw [decide_eq_true r.1,decide_eq_true r.2];rfl
 show Goes p w n₀ ann code q 0 (if (decide (-(2:Int) ^ 63<=y0 hs) && decide (y0 hs < 2 ^ 63))=true then _ else _) s' pos _ s' pos;have b:O1 (y0 hs)=(if (y0 hs == -1)=true then -2 else y0 hs):=by unfold O1;rw [if_pos r]
 rw [if_pos r,b];exact Goes.pure
theorem Goes.subDict {pairs:List (Sem Value×Sem Value)} {s s₁ s':B0} {vs:List (Value×Value)} {c c':Nat} {d:Addr} (hlen:pairs.length<=15) (hd:s.heap.objs.size=d)
  (h1:Goes p w n₀ ann code q c (evalPairs pairs) { s with heap:=s.heap.push { cls:=.type "dict",data:=.dict #[] } } pos vs s₁ pos)
  (h2:Goes p w n₀ ann code q c' (z8c d vs) s₁ pos () s' pos):Goes p w n₀ ann code q (1 + (c + c')) (subDict pairs) s pos d s' pos:=by
 subst hd;unfold PySem.subDict;refine Goes.bind (a:=s.heap.objs.size) (λ _ _ _ _=>.one rfl rfl rfl) ?_;refine (Goes.bind (d:=0) (a:=()) (Goes.holding ?_) Goes.pure);rw [if_pos hlen];refine Goes.bind h1 ?_;exact Goes.holding (Goes.bind (d:=0) h2 Goes.pure)
theorem Goes.execs1 {st:Stmt} {env:Env} {s s':B0} {pos':Pos} {c:Nat} (h:Goes p w n₀ ann code q c (exec st env) s pos .next s' pos'):Goes p w n₀ ann code q c (execs [st] env) s pos .next s' pos':=by rw [execs_cons];exact Goes.bind (d:=0) h Goes.pure
theorem Goes.seg {l:List Stmt} {env:Env} {s s':B0} {pos':Pos} {c:Nat} (h:Goes p w n₀ ann code q c (execs l env) s pos .next s' pos') :∃n,n<=c + 1/\segRun O3 p w n₀ ann 1 n s (piecesOf l env code pos [topFrame q])=some (.next,s',code,pos'):=by obtain ⟨n,a,h⟩:=h doneF deadEnd id id;exact ⟨n + 1,by omega,seg_go h rfl⟩
end
theorem zfk {p q:Program} {loose:List Str} {Xt:B0->Bool} {α:Type} {Yf:B0->α} {Ya:W0->α} {N:Nat} {H₀:C1->Heap} {gs₀:Array j2e} {d₀:Drawn} {k₀ m₀:Nat} {ann:Option Value} {S:W0->Z2->B0}
  (opens :∀w:W0,(fencedOpening O3 p w N).map (λ s=>(s.heap,s.gens,s.drawn,s.toks))=some (H₀ w.params,gs₀,d₀,k₀))
  (sizes :∀w:W0,(((H₀ w.params).isNs B2 && gs₀.size == 0),(H₀ w.params).objs.size,(H₀ w.params).nsMap B2 "__annotations__")=(true,m₀,ann))
  (runs :∀(w:W0) (os:Z2),∃M,M<=N/\topRun O3 p w m₀ ann M ⟨H₀ w.params,gs₀,d₀,k₀,os⟩ (topStub p)=some (S w os))
  (looks1 :∀(w:W0) (os:Z2),(staticsOk (B7 p.main.body) (H₀ w.params) (S w os).heap && namesBound p (S w os).heap && gensDone (S w os) && laidKept (H₀ w.params) (S w os).heap)=true)
  (looks2 :∀(w:W0) (os:Z2),openSeen q loose (B7 p.main.body) Xt true (S w os)=openGood q loose) (looks3 :∀(w:W0) (os:Z2),Yf (S w os)=Ya w):LeftO p q loose Xt Yf Ya N:=by
 intro w;obtain ⟨⟨h,d,c,k,os⟩,e,a⟩:=Option.map_eq_some_iff.mp (opens w);simp only [Prod.mk.injEq] at a;obtain ⟨rfl,rfl,rfl,rfl⟩:=a;have z:=sizes w;simp only [Prod.mk.injEq] at z;obtain ⟨i,b,g⟩:=z;obtain ⟨M,f,r⟩:=runs w os;have r:=topRun_mono (N - M) _ _ _ _ r;rw [Nat.add_sub_cancel' f] at r;have t:topFrom O3 p w N ⟨H₀ w.params,d,c,k,os⟩=some (S w os):=by unfold topFrom;dsimp only;rw [i,b,g,r];show (match (staticsOk (B7 p.main.body) (H₀ w.params) (S w os).heap && namesBound p (S w os).heap && gensDone (S w os) && laidKept (H₀ w.params) (S w os).heap) with|true=>some (S w os)|false=>none)=_;rw [looks1 w os]
 unfold openEnds;rw [e];show (topFrom O3 p w N _).map _=_;rw [t];show some (_,_)=some (_,_);rw [looks2 w os,looks3 w os]
theorem zbr {p:Program} {w:W0} {n₀:Nat} {ann:Option Value} {env:Env} {q:Pos} {c N:Nat} {s s' r:B0} {l rest:List Stmt} {b:Code} {pos pos':Pos} (h:Goes p w n₀ ann b q c (execs l env) s pos .next s' pos')
  (k:topRun O3 p w n₀ ann N s' (restOf rest env b pos' [topFrame q])=some r) :∃M,M<=c + 1 + N/\topRun O3 p w n₀ ann M s (restOf (l++rest) env b pos [topFrame q])=some r:=by
 obtain ⟨n,a,g⟩:=Goes.seg h;exact ⟨n + N,by omega,piece_app g k⟩
end TJ
open PySem PySem.Spec PyProof.Rows
namespace L2
noncomputable abbrev fnX (x q:Str) (s:Stmt) (m:Str) (k c:Nat):FuncData:=Z5 x q (z60 s) (z2x s) (z07 s) .none .none .none (.str m k) none (.ref c) .none
noncomputable abbrev fY (x q:Str) (s:Stmt):=fnX x q s "law_talejudge_k15_tales_that_are_not_plain" 786
noncomputable abbrev fO (x q:Str) (s:Stmt) (m:Str) (k c:Nat):Obj:=⟨.type "function",none,.func (fnX x q s m k c),#[]⟩
noncomputable abbrev fL (x q:Str) (s:Stmt):=fO x q s "law_talejudge_k15_tales_that_are_not_plain" 786
noncomputable abbrev cO (x q:Str) (i l n a j:Nat):Obj:=
 ⟨.type "code",none,.fields #[.str x i,.str q (i + 1),.str "/claim/cut.py" (i + 2),.int l 0,.int n 0,.int 0 0,.int 0 0,.int 3 0,.ref a,.bool true,.int 181 0,.ref (a + 1),.none,.ref (a + 2),.ref (a + 3),.ref (a + 4),.int j 0,.int l 0,.str "/claim/cut.py" (j + 1)],#[]⟩
noncomputable abbrev cP (x q:Str) (i l n a j:Nat):Obj:=
 ⟨.type "code",none,.fields #[.str x i,.str q (i + 1),.str "/claim/cut.py" (i + 2),.int l 0,.int n 0,.int 0 0,.int 0 0,.int 3 0,.ref a,.bool true,.int 181 0,.ref (a + 1),.none,.none,.none,.ref (a + 2),.int j 0,.int l 0,.str "/claim/cut.py" (j + 1)],#[]⟩
noncomputable abbrev kR (P:C1) (x:Str) (i a:Nat):DictEntry:=⟨c0 P x,.str x i,.ref a⟩
section
variable {P:Program} {w:W0} {K:d0} {mg:Str->Option Value} {base:Heap} {x q:Str} {st:Stmt} {f:Addr} {fd:FuncData} {k:Nat} {ps:List Str} {sp:Sp}
theorem z0e {m:Str} {i c:Nat} (l:K.lookup f=some (fO x q st m i c):=by kernel_rfl) (hc:o8 K (.ref c) q=true:=by kernel_rfl) (hk:M4 K (.ref f)=true:=by kernel_rfl):Fun K x q st f (fnX x q st m i c):=fun_mk l hc hk
theorem cal_mk (T:TX K mg) (F:Fun K x q st f fd) (g:T3 K B2 x=some (some (.ref f))) (b:Binds K fd ps []) (G:FnOk P w K mg base CX0 k f fd ps sp):Cal P w K mg base x ps k sp:=⟨⟨f,fd,G,T.of g,F.kp,b⟩⟩
theorem zgh (T:TX K mg) (F:Fun K x q st f fd) (g:T3 K B2 x=some (some (.ref f))) (b:Binds K fd ps []) (G:FnOk P w K mg base (CXE P w base) k f fd ps sp):CalE P w K mg base x ps k sp:=⟨⟨f,fd,G,T.of g,F.kp,b⟩⟩
end
section
variable {p:List Value->Prop}
theorem us1 (h :∀a,p [a]) :∀us:List Value,us.length=1->p us | [a],_=>h a
theorem us2 (h :∀a b,p [a,b]) :∀us:List Value,us.length=2->p us | [a,b],_=>h a b
theorem us3 (h :∀a b c,p [a,b,c]) :∀us:List Value,us.length=3->p us | [a,b,c],_=>h a b c
end
end L2
set_option maxHeartbeats 1000000
namespace L2
open PySem PySem.Spec PyProof.Rows
variable {X:Cx}
theorem zdz (hc:X.calm=true):CallR X (.builtin "max") (λ xs H Q=>∃(p:Addr) (ns:List Int),xs=[.ref p]/\SqL X.K H p (ns.map V.int)/\ns≠[]/\∀M,M∈ns->(∀a∈ns,a<=M)->Q (.int M) H):=by
 intro E s σ H xs C Q I r h;obtain ⟨p,ns,rfl,n,k,q⟩:=h;obtain ⟨u,rfl,o⟩:=vals1 r;cases o;obtain ⟨m,x,i,G⟩:=I.list n;have c:X3 m ns:=z3t x;obtain ⟨xs,e⟩:=c.allInts.items;have b:ns=xs.toList.map (·.1):=by rw [<-c.numsOf,<-nums_intItems,<-e]
 have l:0 < xs.size:=by have g:=List.length_pos_iff.mpr k;rw [b,O0,F1] at g;exact g
 have f:=i.isList;rw [e] at f;refine max_intList (I.ok.hd hc) f l λ v F B z y=>?_;obtain ⟨t,rfl⟩:=intItems_at z;obtain ⟨D,A⟩:=argBest_gt (numAt xs) (xs.size - 1);refine ⟨.int _,H,I.kept y,⟨_,rfl⟩,q _ ?_ λ a d=>?_⟩
 ·rw [b,numAt_eq];exact getD_mem (by rw [O0,F1];omega)
 ·rw [b] at d;obtain ⟨j,w,rfl⟩:=mem_getD d;rw [O0,F1] at w;rw [<-numAt_eq];exact A j (by omega)
theorem zdh (hc:X.calm=true):CallR X (.builtin "min") (λ xs H Q=>∃(p:Addr) (ns:List Int),xs=[.ref p]/\SqL X.K H p (ns.map V.int)/\ns≠[]/\∀M,M∈ns->(∀a∈ns,M<=a)->Q (.int M) H):=by
 intro E s σ H xs C Q I r h;obtain ⟨p,ns,rfl,n,k,q⟩:=h;obtain ⟨u,rfl,o⟩:=vals1 r;cases o;obtain ⟨m,x,i,G⟩:=I.list n;have c:X3 m ns:=z3t x;obtain ⟨xs,e⟩:=c.allInts.items;have b:ns=xs.toList.map (·.1):=by rw [<-c.numsOf,<-nums_intItems,<-e]
 have l:0 < xs.size:=by have g:=List.length_pos_iff.mpr k;rw [b,O0,F1] at g;exact g
 have f:=i.isList;rw [e] at f;refine min_intList (I.ok.hd hc) f l λ v F B z y=>?_;obtain ⟨t,rfl⟩:=intItems_at z;obtain ⟨D,A⟩:=argBest_lt (numAt xs) (xs.size - 1);refine ⟨.int _,H,I.kept y,⟨_,rfl⟩,q _ ?_ λ a d=>?_⟩
 ·rw [b,numAt_eq];exact getD_mem (by rw [O0,F1];omega)
 ·rw [b] at d;obtain ⟨j,w,rfl⟩:=mem_getD d;rw [O0,F1] at w;rw [<-numAt_eq];exact A j (by omega)
end L2
set_option maxHeartbeats 4000000
namespace L2
open PySem PySem.Spec PyProof.Rows
noncomputable def Itms (a:Addr) (ob:Obj) (kvs:List (Key×V)):It:=
 ⟨λ i H=>H a=some (.frz ob (.dK kvs))/\i < kvs.length,λ i H x H'=>∃p k v,H p=none/\x=.ref p/\kvs[i]? = some (k,v)/\H'=upd H p (.tup [kV k,v]),λ i H=>H a=some (.frz ob (.dK kvs))/\kvs.length<=i⟩
theorem za7 {P:Program} {w:W0} {K:d0} {elts:List Expr} {x1:Nat} {pos:Pos} {a it:Addr} {ob:Obj} {kvs:List (Key×V)} {es:Array DictEntry} {ep:Nat} (hob:ob.data=.dict es ep):Turn P w K (.Tuple elts x1 pos) (Itms a ob kvs) [it] it (λ i h=>∃ok ov,IsItemIter h it a i kvs.length ep ok ov) where
 mem:=by simp
 obj:=λ i h d b f=>by
  obtain rfl:b=it:=by simpa using f
  obtain ⟨ok,ov,e⟩:=d;exact ⟨_,e,λ v z=>by cases (show S9 _=j19 v from z)⟩
 keep:=λ i h G d k=>by obtain ⟨ok,ov,e⟩:=d;exact ⟨ok,ov,k it (by simp) _ e⟩
 item:=by
  intro X m r y g i a1 s σ H E I l d C;subst m r y;obtain ⟨B,D⟩:=C;obtain ⟨Q,O,j,q⟩:=frz_at I hob B;have L:kvs[i]? = some kvs[i]:=M0 D;obtain ⟨⟨k',u⟩,hu,n,S⟩:=z8w O L;obtain ⟨ok,ov,d⟩:=d;rw [<-j] at d;have T:it < s.heap.objs.size:=J0 d;have J:s.heap.objs.size≠it:=O2 T;refine wpAny_pyNext_items_item d q hu λ N G a2 a0 tT hz U=>?_;refine ⟨_,rfl,wpAny_letOwnedTupleGo_items a0 λ h2 F sb=>?_⟩;have rk:RelV (kV kvs[i].1) N:=by
   have n:kvs[i].1=k':=n;rw [n];rcases z0k a2 with ⟨i,t,p,A⟩|⟨x,t,p,A⟩
   ·rw [p,A];exact ⟨t,rfl⟩
   ·rw [p,A];exact ⟨t,rfl⟩
  have Y :∀b o,b∉[it]->s.heap.get? b=some o->h2.get? b=some o:=λ b o f z=>by have f:b≠it:=λ z=>f (List.mem_singleton.mpr z);exact (sb.2 b f).trans (U b o f z)
  have M:=(sb.2 _ J).trans tT;have fr:H s.heap.objs.size=none:=I.hok.fresh (D0 _);rw [j] at F;refine ⟨.ref s.heap.objs.size,upd H s.heap.objs.size (.tup [kV kvs[i].1,kvs[i].2]),I.turnedLaid (t':=s.toks) Y l (D0 _) ⟨w_2,[N,u],.cons rk (.cons S .nil),⟨_,M,rfl,_,rfl⟩,_,M,rfl⟩,rfl,⟨_,_,_,fr,rfl,L,rfl⟩,⟨_,_,F⟩,λ c g=>?_⟩;rw [upd_ne (λ (z:c=s.heap.objs.size)=>J (z ▸ List.mem_singleton.mp g))];exact (l c g).1
 done:=by intro X m r y g i a1 s σ H E I l d C;subst m r y;obtain ⟨B,D⟩:=C;obtain ⟨Q,O,j,q⟩:=frz_at I hob B;obtain ⟨f0,f1,f2,R,f4,f5⟩:=l it (by simp);obtain ⟨ok,ov,d⟩:=d;rw [<-j] at d;exact wpAny_pyNext_items_end (I.ok.hd g) d q (by rw [Z3];omega) λ G Z=>⟨rfl,I.turned (t':=s.toks) (λ b o f e=>Z b o f e) f0 f1 R f4 f5⟩
 self:=λ _ _ _ _ _ d h=>by obtain ⟨ok,ov,d⟩:=d;exact PySem.W.kcp_self d h
noncomputable def iItems (td:TE):TI:=λ σ H R=>td σ H λ x H1=>∃a kvs,x=.ref a/\H1 a=some (.dK kvs)/\∀ob,R (Itms a ob kvs) (upd H1 a (.frz ob (.dK kvs)))
section
variable {X:Cx}
theorem zfv {elts:List Expr} {x1:Nat} {tpos:Pos} {o:Expr} {to:TE} {apos cpos:Pos} (ho:PE X o to) (hbase:d6 o "items" X.env (V3 o X.env)=V3 o X.env:=by rfl) (hline:(apos.endLine == cpos.line)=true:=by rfl):PI X (.Tuple elts x1 tpos) (.Call (.Attribute o "items" apos) [] [] cpos) (iItems to):=by
 intro m s σ H R I h;refine wpAny_Call_method0_late hbase hline (thn (ho m s σ H _ I h) λ v c ⟨x,H1,I1,r1,a,kvs,ex,ea,q⟩=>?_);subst ex;cases r1;obtain ⟨f,z,hd⟩:=isD_at I1 (.inl ⟨_,.inl ea⟩);obtain ⟨_,_,i,C,l⟩:=dk_of I1.hok ea;obtain ⟨B,j⟩:=l.dictAt;obtain ⟨n,g,ho,D,y,_⟩:=id j;refine ⟨"dict","dict.items",j0a,j08,PySem.F.type_dict_items,f,z,Y7 rfl (PySem.evalArgs_none ?_)⟩;refine call_meetsIn j08 f PySem.F.entry_dict_items (PySem.F.args_dict_items_1 _) (meets_dict_items (z0d X.prog X.w) a hd) ⟨⟨_,l⟩,?_⟩;have k :∀b o,c.heap.get? b=some o->(c.heap.push { cls:=.type "dict_items",data:=.fields #[.ref a] }).get? b=some o:=λ b o e=>A0 _ e;have d:Inv X m σ (upd H1 a (.frz n (.dK kvs))) { c with heap:=c.heap.push { cls:=.type "dict_items",data:=.fields #[.ref a] } }:=(I1.freeze ea ho).kept (t':=c.toks) k;have p:(c.heap.push { cls:=.type "dict_items",data:=.fields #[.ref a] }).DictAt (z0d X.prog X.w) a i B:=by obtain ⟨o,g,A,r⟩:=j;exact ⟨o,g,k _ _ A,r⟩
 refine wpAny_pyIter_items (s:={ c with heap:=c.heap.push { cls:=.type "dict_items",data:=.fields #[.ref a] } }) ⟨_,P0 _ rfl,rfl,rfl⟩ p ?_;have t:i.length=kvs.length:=C.length.symm;generalize hh2:c.heap.push { cls:=.type "dict_items",data:=.fields #[.ref a] }=h2 at d p;refine ⟨h2.objs.size,[h2.objs.size],_,_,_,rfl,d.kept (t':=c.toks) λ b o e=>A0 _ e,za7 y,⟨_,_,by rw [<-t];exact P0 _ rfl⟩,λ b u=>?_,q n⟩;obtain rfl:b=h2.objs.size:=by simpa using u
 exact d.fpOk (D0 _) (d.hok.fresh (D0 _))
end
theorem zd7 {a:Addr} {ob:Obj} {kvs:List (Key×V)} {g:TG} {tb:TS} {D:Ends} {σ:St} {H:Hp} (Pv:Nat->St->Hp->Prop) (h0:Pv 0 σ H) (fr :∀i σ H,Pv i σ H->H a=some (.frz ob (.dK kvs)))
  (hs :∀i k v σ H p,kvs[i]? = some (k,v)->Pv i σ H->H p=none->g (.ref p) σ (upd H p (.tup [kV k,v])) λ σ2 H2=>tb { D with nx:=Pv (i + 1),ct:=Pv (i + 1),bk:=D.nx } σ2 H2) (hd :∀σ H,Pv kvs.length σ H->D.nx σ H) :
  ∃W:Nat->Nat->St->Hp->Prop,(∃m,W 0 m σ H)/\∀i m σ H,W i m σ H->
   ((Itms a ob kvs).stop i H/\D.nx σ H)\/((Itms a ob kvs).go i H/\∃N:St->Hp->Prop,(∀σ' H',N σ' H'->∃m',m' < m/\W (i + 1) m' σ' H')/\∀x H',(Itms a ob kvs).yld i H x H'->g x σ H' λ σ2 H2=>tb { D with nx:=N,ct:=N,bk:=D.nx } σ2 H2):=by
 refine ⟨λ i m σ H=>m=kvs.length - i/\i<=kvs.length/\Pv i σ H,⟨kvs.length,by simp,Z1 _,h0⟩,?_⟩;rintro i m σ H ⟨rfl,hi,p⟩;by_cases hlt:i < kvs.length
 ·refine .inr ⟨⟨fr _ _ _ p,hlt⟩,Pv (i + 1),λ σ' H' q=>⟨kvs.length - (i + 1),by omega,rfl,hlt,q⟩,λ x H' y=>?_⟩;obtain ⟨b,k,v,d,rfl,c,rfl⟩:=y;exact hs i k v σ H b c p d
 ·obtain rfl:i=kvs.length:=by omega
  exact .inl ⟨⟨fr _ _ _ p,D0 _⟩,hd σ H p⟩
end L2
set_option maxHeartbeats 1000000
namespace L2
open PySem PySem.Spec PyProof.Rows
theorem z90 {α β:Type} {g:α->β} {l m:List β} (h:l.Perm m) :∀zs:List α,m=zs.map g->∃zs':List α,zs'.Perm zs/\l=zs'.map g:=by
 induction h with
 | nil=>intro zs e;exact ⟨zs,.refl _,e⟩
 | cons x _ ih=>
  intro zs e;cases zs with
  | nil=>cases e
  | cons z zs=>injection e with e1 e2;obtain ⟨zs',a,b⟩:=ih zs e2;exact ⟨z :: zs',a.cons z,by rw [N1,<-e1,<-b]⟩
 | swap x y l=>
  intro zs e;cases zs with
  | nil=>cases e
  | cons z zs=>
   cases zs with
   | nil=>injection e with _ e;cases e
   | cons z' zs=>injection e with e1 e2;injection e2 with e2 e3;exact ⟨z' :: z :: zs,.swap _ _ _,by rw [N1,N1,<-e1,<-e2,<-e3]⟩
 | trans _ _ ih1 ih2=>intro zs e;obtain ⟨i,a,b⟩:=ih2 zs e;obtain ⟨f,c,d⟩:=ih1 i b;exact ⟨f,c.trans a,d⟩
def KeyOut (kz:List Int) (ys out:List V):Prop:=∃ps:List (Int×V),ps.Perm (kz.zip ys)/\out=ps.map Prod.snd/\ps.Pairwise λ p q=>p.1<=q.1
theorem zh4 {kz:List Int} {ys:List V} {vs out:List Value} (hv:Vals ys vs) (hl:kz.length=ys.length) (h:KskOut false kz vs out) :∃zs,Vals zs out/\KeyOut kz ys zs/\zs.length=ys.length:=by
 obtain ⟨n,a,rfl,c⟩:=h;have f:=hv.length;have e:kz.zip vs=(kz.zip (ys.zip vs)).map λ p=>(p.1,p.2.2):=by
  clear a c hl;induction hv generalizing kz with
  | nil=>rw [j7,List.zip_nil_left,j7];rfl
  | cons r t ih=>
   cases kz with
   | nil=>rfl
   | cons k kz=>have:=ih (kz:=kz) (by have:=f;simpa using this);show (k,_) :: kz.zip _=_ :: _;rw [this];rfl
 obtain ⟨zs,d,g⟩:=z90 a _ e;have i :∀p∈kz.zip (ys.zip vs),RelV p.2.1 p.2.2:=λ p a=>by
  have:=(Q6 a).2;have m :∀{ys:List V} {vs:List Value},Vals ys vs->∀q∈ys.zip vs,RelV q.1 q.2:=by
   intro ys vs h;induction h with
   | nil=>exact λ q b=>absurd b F0
   | cons r t ih=>
    intro q b;rcases List.mem_cons.mp b with rfl|b
    ·exact r
    ·exact ih q b
  exact m hv _ this
 have j :∀zs:List (Int×V×Value),(∀p∈zs,RelV p.2.1 p.2.2)->Vals (zs.map λ p=>p.2.1) (zs.map λ p=>p.2.2):=by
  intro zs;induction zs with
  | nil=>exact λ _=>.nil
  | cons z zs ih=>exact λ h=>.cons (h z (.head _)) (ih λ p a=>h p (.tail _ a))
 have l:kz.zip ys=(kz.zip (ys.zip vs)).map λ p=>(p.1,p.2.1):=by
  clear a c hl d g i e;induction hv generalizing kz with
  | nil=>rw [j7,List.zip_nil_left,j7];rfl
  | cons r t ih=>
   cases kz with
   | nil=>rfl
   | cons k kz=>have:=ih (kz:=kz) (by have:=f;simpa using this);show (k,_) :: kz.zip _=_ :: _;rw [this];rfl
 refine ⟨zs.map λ p=>p.2.1,?_,⟨zs.map λ p=>(p.1,p.2.1),?_,?_,?_⟩,?_⟩
 ·rw [g,J4];exact j zs λ p a=>i p (d.mem_iff.mp a)
 ·rw [l];exact d.map _
 ·rw [J4];rfl
 ·rw [g] at c;rw [j5] at c⊢;exact c.imp λ h=>h
 ·rw [O0,d.length_eq,List.length_zip,List.length_zip,hl,<-f,j2a,j2a]
section
variable {X:Cx} {pins:List (Addr×Obj)} {σ:St} {H:Hp} {s:B0}
theorem Inv.track {a:Addr} {o:HO} (I:Inv X pins σ H s) (hf:FpOk X pins H a) (new:ObjOk X.prog X.w (upd H a o) s.heap a o):Inv X pins σ (upd H a o) s:=by
 have h:=hf.1;have f :∀b u,H b=some u->upd H a o b=some u:=λ b u e=>by rw [upd_ne (z0a e h)];exact e
 refine I.step (h':=s.heap) (t':=s.toks) (g':=s.gens) (d':=s.drawn) (ch:=[a]) (λ b d=>?_) (λ b o _ _ _ e _=>e) (λ b o _ _ _ e _=>⟨o.slots,e⟩) (λ b u d e n=>?_) (λ b o _ e=>⟨o,e⟩) (λ _ _ e=>f _ _ e) (λ _ _ _ e=>f _ _ e) (λ b i e=>⟨#[],by rw [f _ _ e];simp⟩) (λ m g=>g) (λ b u e=>?_) I.bare
 ·cases List.mem_singleton.mp d;exact ⟨hf.2.2.2.1,hf.2.1,hf.2.2.2.2.1,hf.2.2.2.2.2⟩
 ·rw [upd_ne λ z=>d (List.mem_singleton.mpr z)];exact n
 ·by_cases d:b=a
  ·subst d;rw [z02] at e;cases e;exact new
  ·rw [upd_ne d] at e;exact (I.hok b u e).stay (λ c v _ q=>q) (λ c q=>f _ _ q) λ c j q=>f _ _ q
theorem zh8 {A:D2} {E:Value->B0->Prop} {P:S7->B0->Prop} {a kS:Addr} {vs:List Value} {kz:List Int} {keys:Array Value} {e e1:Nat}
  (I:Inv X pins σ H s) (fa:FpOk X pins H a) (fk:FpOk X pins H kS) (hka:kS≠a) (ek:s.heap.get? kS=some (c3 "list" keys e)) (ea:s.heap.get? a=some (c3 "list" #[] e1))
  (hk:X3 keys.toList kz) (hlen:kz.length=vs.length) (h64:vs.length < 64)
  (h :∀h' tk out c,Inv X pins σ H { s with heap:=h',toks:=tk }->h'.get? a=some (c3 "list" out c)->KskOut false kz vs out.toList->P (.done (.ret .none)) { s with heap:=h',toks:=tk }) :
  Q0 (Z0 X.prog X.w) A (ksk_end a false vs.toArray e1 (.ref kS) keys) P E s:=by
 have l:keys.size=vs.length:=by have D:=hk.length;rw [F1] at D;omega
 have k:(keys.zip vs.toArray).size=vs.length:=by rw [Array.size_zip,l,V0,j2a]
 have r :∀st:SortSt,(k9 st).Perm (keys.zip vs.toArray)->SortedTo (k9 st) (k9 st).size->failedOf st=none->Q0 (Z0 X.prog X.w) A (ksk_tail a false e1 (.ref kS) st) P E s:=by
  intro st g p G;have v:(k9 st).size=vs.length:=by rw [g.size_eq,k]
  have t:=B3 s.heap kS (W1 λ _=>(#[]:Array Value));have m:(s.heap.update kS (W1 λ _=>(#[]:Array Value))).get? a=some (c3 "list" #[] e1):=(t.2 a hka.symm).trans ea;have x:=B3 (s.heap.update kS (W1 λ _=>(#[]:Array Value))) a (W1 λ _=>(k9 st).map (·.2));obtain ⟨n,B⟩ :∃n,((s.heap.update kS (W1 λ _=>(#[]:Array Value))).update a (W1 λ _=>(k9 st).map (·.2))).get? a=some (c3 "list" ((k9 st).map (·.2)) n):=
   ⟨_,C7 m λ _=>(k9 st).map (·.2)⟩
  unfold ksk_tail
  try dsimp only
  refine o0 (c6 ek rfl ?_ (by rw [l,z6];omega) (Z1 _));refine o0 (wpAny_letGo ?_);refine o0 (g9 m rfl ?_);refine o0 (c6 m rfl ?_ (Z1 _) (S0 (x8 ((Array.size_map ..).trans v)) (by rw [z6];omega)));rw [G];simp only [bne_self_eq_false,C4,if_false];have J:=I.turnedL (fp:=[kS,a]) (h':=(s.heap.update kS (W1 λ _=>(#[]:Array Value))).update a (W1 λ _=>(k9 st).map (·.2))) (t':=s.toks) (λ b o f q=>(x.2 b λ z=>f (z ▸ .tail _ (.head _))).trans ((t.2 b λ z=>f (z ▸ .head _)).trans q)) (λ b f=>by
   rcases List.mem_cons.mp f with rfl|f
   ·exact fk
   ·rw [List.mem_singleton.mp f];exact fa)
  exact C0 (h _ _ _ n J B (ksk_out (b:=false) hk g p))
 unfold ksk_end
 try dsimp only
 rw [if_neg R0];by_cases h2:vs.toArray.size < 2
 ·rw [if_pos h2,if_pos h2];refine o0 (C0 ?_);rw [StateT.run_pure];refine o0 (C0 ?_)
  try dsimp only
  refine r (T9 general' (if false=true then (keys.zip vs.toArray).reverse else keys.zip vs.toArray) #[] 7 none) (j2f _) ?_ rfl;intro i j M y;have F:j < (keys.zip vs.toArray).size:=y;rw [k] at F;rw [V0] at h2;have:i=j:=by omega
  subst this;exact X9 _
 ·rw [if_neg h2,if_neg h2];rw [V0] at h2;rw [ksk_kind hk (by rw [l];omega)];refine o0 (C0 ?_);refine o0 (t3 (wpS_sortRuns (a₀:=keys.zip vs.toArray) (st:=T9 oneType' (if false=true then (keys.zip vs.toArray).reverse else keys.zip vs.toArray) #[] 7 none)
   (Q:=λ _ d=>(k9 d).Perm (keys.zip vs.toArray)/\failedOf d=none/\SortedTo (k9 d) (keys.zip vs.toArray).size)
   (ksk_intKeys hk) ⟨j2f _,rfl,rfl,rfl⟩ (by rw [k];omega) (by rw [k];exact h64) λ d C u K=>⟨C,u,K⟩) ?_ λ _ _ e=>e)
  rintro ⟨⟨⟩,d⟩ L ⟨rfl,g,hf,p⟩
  try dsimp only
  exact r d g (by rw [g.size_eq];exact p) hf
theorem zfb {A:D2} {E:Value->B0->Prop} {P:S7->B0->Prop} {a:Addr} {vs:List Value} {kz:List Int} {f:Value} {n:Nat}
  (I:Inv X pins σ H s) (fa:FpOk X pins H a) (ea:s.heap.get? a=some (c3 "list" vs.toArray n)) (hlen:kz.length=vs.length) (h64:vs.length < 64)
  (turn :∀(i:Nat) (v:Value) (k:Int),vs[i]? = some v->kz[i]? = some k->∀(pins':List (Addr×Obj)) (s1:B0),Inv X (pins++pins') σ H s1->Q0 (Z0 X.prog X.w) A (call f [v]) (λ u s2=>∃t,u=.int k t/\Inv X (pins++pins') σ H s2) (λ _ _=>False) s1)
  (h :∀s' out c,Inv X pins σ H s'->s'.heap.get? a=some (c3 "list" out c)->KskOut false kz vs out.toList->P (.done (.ret .none)) s') :
  Q0 (Z0 X.prog X.w) A (ksk_tree a f false) P E s:=by
 have Z:a < s.heap.objs.size:=J0 ea;have s1:=B3 s.heap a (W1 λ _=>(#[]:Array Value));obtain ⟨l,F⟩ :∃l,(s.heap.update a (W1 λ _=>(#[]:Array Value))).get? a=some (c3 "list" #[] l):=⟨_,C7 ea λ _=>#[]⟩
 have C:((s.heap.update a (W1 λ _=>(#[]:Array Value))).push (c3 "tuple" vs.toArray 0)).objs.size=s.heap.objs.size + 1:=by rw [size_push',Heap.size_update]
 unfold ksk_tree;refine o0 (listItems_at ea rfl ?_);refine o0 (c6 ea rfl ?_ (by rw [V0,z6];omega) (Z1 _));refine o0 (g9 F rfl ?_);refine o0 (wpAny_newTuple ?_ (by show vs.length<=_;rw [z6];omega));refine o0 (C9 ?_ (Z1 _));refine R1 ?_;have p:(((s.heap.update a (W1 λ _=>(#[]:Array Value))).push (c3 "tuple" vs.toArray 0)).push (c3 "list" #[] 0)).get? ((s.heap.update a (W1 λ _=>(#[]:Array Value))).push (c3 "tuple" vs.toArray 0)).objs.size=some (c3 "list" #[] 0):=P0 _ rfl;have G:(((s.heap.update a (W1 λ _=>(#[]:Array Value))).push (c3 "tuple" vs.toArray 0)).push (c3 "list" #[] 0)).get? a=some (c3 "list" #[] l):=A0 _ (A0 _ F);have J:Inv X pins σ H { s with heap:=((s.heap.update a (W1 λ _=>(#[]:Array Value))).push (c3 "tuple" vs.toArray 0)).push (c3 "list" #[] 0),toks:=s.toks }:=I.turnedL (fp:=[a]) (λ b o d q=>A0 _ (A0 _ ((s1.2 b λ z=>d (z ▸ .head _)).trans q))) (λ b d=>by rw [List.mem_singleton.mp d];exact fa);have m:FpOk X pins H ((s.heap.update a (W1 λ _=>(#[]:Array Value))).push (c3 "tuple" vs.toArray 0)).objs.size:=I.fpOk (by rw [C];omega) (I.hok.fresh (by rw [C];omega));have r:((s.heap.update a (W1 λ _=>(#[]:Array Value))).push (c3 "tuple" vs.toArray 0)).objs.size≠a:=by rw [C];exact O2 (P1 Z)
 generalize ((s.heap.update a (W1 λ _=>(#[]:Array Value))).push (c3 "tuple" vs.toArray 0)).objs.size=kS at p m r⊢;generalize ((s.heap.update a (W1 λ _=>(#[]:Array Value))).push (c3 "tuple" vs.toArray 0)).push (c3 "list" #[] 0)=h3 at p G J⊢;unfold ksk_rest;refine o0 (P8 ?_);first
  | rw [List.forIn_toArray]
  | (rw [<-Array.forIn_toList];simp only [List.toList_toArray])
  | rw [<-Array.forIn_toList]
 refine o0 (ksk_fold (λ i s'=>∃kA e,Inv X pins σ H s'/\s'.heap.get? kS=some (c3 "list" kA e)/\s'.heap.get? a=some (c3 "list" #[] l)/\X3 kA.toList (kz.take i)) vs 0 _
  ⟨#[],0,J,p,G,by simpa using IntsAre.nil⟩ ?step ?done)
 case step=>
  rintro j x s' M ⟨kA,e,J',ek,ea',hk⟩;simp only [o6] at hk⊢;have hj:j < vs.length:=(List.getElem?_eq_some_iff.mp M).1;obtain ⟨k,L⟩ :∃k,kz[j]? = some k:=⟨_,M0 (by omega)⟩
  have hz:kA.size<=vs.length:=by have h1:=hk.length;rw [F1,A4] at h1;omega
  have Q:=J'.pinned (fp:=[kS,a]) (λ b d=>by
   rcases List.mem_cons.mp d with rfl|d
   ·exact m
   ·rw [List.mem_singleton.mp d];exact fa) (λ b d=>by
   rcases List.mem_cons.mp d with rfl|d
   ·exact ⟨_,ek,λ v z=>by cases z⟩
   ·rw [List.mem_singleton.mp d];exact ⟨_,ea',λ v z=>by cases z⟩)
  refine o0 (V6 (t3 (turn j x k M L _ s' Q) (λ v B R=>?_) λ _ _ V=>V.elim));obtain ⟨g,rfl,D⟩:=R
  try dsimp only
  have K:=D.pin (kS,c3 "list" kA e) (X0 _ (X0 _ (z10 (.head _) ek)));have S:=D.pin (a,c3 "list" #[] l) (X0 _ (X0 _ (z10 (.tail _ (.head _)) ea')));have T:=D.unpinned;have s1:=B3 B.heap kS (W1 (·.push (.int k g)));obtain ⟨y,Y⟩ :∃y,(B.heap.update kS (W1 (·.push (.int k g)))).get? kS=some (c3 "list" (kA.push (.int k g)) y):=⟨_,C7 K.1 (·.push (.int k g))⟩
  have N:kz.take (j + 1)=kz.take j++[k]:=by rw [List.take_add_one,L];simp
  have a0:(kA.push (P7 k g)).toList=kA.toList++[P7 k g]:=by simp
  refine o0 (c6 K.1 rfl ?_ (by rw [z6];omega) (S0 (x8 (Array.size_push ..)) (by rw [z6];omega)));refine C0 ⟨rfl,kA.push (.int k g),y,T.turnedL (fp:=[kS]) (t':=B.toks) (λ b o d q=>(s1.2 b λ z=>d (z ▸ .head _)).trans q) (λ b d=>by rw [List.mem_singleton.mp d];exact m),Y,(s1.2 a r.symm).trans S.1,by rw [a0,N];exact ksk_snoc hk⟩
 case done=>
  rintro s' ⟨kA,e,J',ek,ea',hk⟩;have W:X3 kA.toList kz:=by have e3:kz.take (0 + vs.length)=kz:=c8 (by omega);rw [e3] at hk;exact hk
  try dsimp only
  refine o0 (listItems_at ek rfl ?_);exact zh8 J' fa m r ek ea' W hlen h64 λ h' tk out c U K1 O=>h _ out c U K1 O
theorem zce {l q:Addr} {ys:List V} {kz:List Int} {Q:Value->B0->Prop} {E:Value->B0->Prop} (I:Inv X pins σ H s) (sq:SqL X.K H l ys) (hlen:kz.length=ys.length) (h64:ys.length < 64)
  (turn :∀(i:Nat) (y:V) (u:Value) (k:Int),ys[i]? = some y->kz[i]? = some k->RelV y u->∀(pins':List (Addr×Obj)) (s1:B0),Inv X (pins++pins') σ H s1->Q0 (Z0 X.prog X.w) X.A.in1.in1 (call (.ref q) [u]) (λ v s2=>∃t,v=.int k t/\Inv X (pins++pins') σ H s2) (λ _ _=>False) s1)
  (h :∀(D:Addr) (out:List V) (s':B0),H D=none->KeyOut kz ys out->Inv X pins σ (upd H D (.lst out)) s'->Q (.ref D) s') :
  Q0 (Z0 X.prog X.w) X.A (call (.builtin "sorted") [.ref l] [(Q2 "key",.ref q)]) Q E s:=by
 obtain ⟨d,f,F,B⟩:=I.list sq;have C:d.length=ys.length:=f.length.symm;refine call_function_entry_kw kind_sorted plain_sorted entry_sorted (ksk_s1 _ _) ?_;unfold X5.«sorted»;obtain ⟨o,O,M,n,hd⟩:=F.isList;refine o0 (m:=checkCount "sorted" 1 1 _) (C0 (o0 (wpAny_collect_seq l (.inl rfl) O M hd (λ a P=>?_) (by rw [V0,C];exact B))));have r:(a.push (c3 "list" d.toArray 0)).get? a.objs.size=some (c3 "list" d.toArray 0):=P0 _ rfl;have g:Inv X pins σ H { s with heap:=a }:=I.kept (t':=s.toks) P;have G:Inv X pins σ H { s with heap:=a.push (c3 "list" d.toArray 0) }:=g.kept (t':=s.toks) λ b o e=>A0 _ e;have j:FpOk X pins H a.objs.size:=g.fpOk (D0 _) (g.hok.fresh (D0 _));refine o0 (C9 (o0 (R1 (wpAny_call_entry_kw slot_list_sort ⟨_,r,rfl⟩ entry_list_sort ?body (ksk_l1 _ _)))) (by show d.length<=_;rw [C];exact B))
 case body=>
  show Q0 (Z0 X.prog X.w) X.A.in1.in1 (X5.«list.sort» ⟨[.ref a.objs.size],[(Q2 "key",.ref q)]⟩) _ _ _;rw [ksk_t1];refine zfb (kz:=kz) G j r (by omega) (by omega) (λ i v k z T pins' s1 J=>?_) λ s' out c J e S=>⟨_,rfl,?_⟩
  ·have p:i < ys.length:=by have:=(List.getElem?_eq_some_iff.mp z).1;omega
   obtain ⟨u,x,L⟩:=f.get (M0 p);rw [z] at x;cases x;exact turn i _ v k (M0 p) T L pins' s1 J
  obtain ⟨N,U,R,W⟩:=zh4 f hlen S;exact C0 ⟨_,rfl,h _ N s' j.1 R (J.track j ⟨by omega,out.toList,c,U,by simpa using e⟩)⟩
end
theorem zgx {P:Program} {w:W0} {K:d0} {mg:Str->Option Value} {base:Heap} {k:Nat} {f c':Addr} {name qual:Str} {params:Arguments} {body:Expr} {scope:Scope} {pm ctv:Value} {N ps:List Str} {A:D2} {outer:List Env} {s:B0} {H:Hp} {us:List Value} {vs:List V} {Q:VK} {t:TE}
  (hr:Room (k + 1) A) (e0:Env0 P w K mg base A outer s H) (ho:s.heap.get? f=some (S5 name qual params body scope [] pm c' ctv)) (hcd:s.heap.CodeRec (.ref c') qual) (S:FnScope N ps scope)
  (hb:bindArgs (PySem.W.kla_fn name qual params body scope [] pm (.ref c') ctv) ⟨us,[]⟩=S3 (ps.zip us)) (hl:vs.length=ps.length) (r:Vals vs us)
  (ht:PE (cxOf CX0 P w K mg base N qual scope f (.ref c') A outer s H E0).nox body t) (hq:t (start N vs) H Q) :
  V4 (Z0 P w) A (.call (.ref f) ⟨us,[]⟩) (λ r s'=>∃u,r=.ok (.ret u)/\CE outer P w H s Q u s') s:=by
 have d:s.heap.NoLimit:=e0.mod.nolimit.keeps λ b o e=>(e0.bs b o e).1;have g :∀y∈ps.zip us,scope.names.lookup y.1=some .local\/(scope.names.lookup y.1=some .cell/\((cellsFrom (s.heap.objs.size + 1) scope.names []).lookup y.1).isSome=true):=λ ⟨n,v⟩ hy=>by
  rcases S.par n (Q6 hy).1 with q|q
  ·exact .inl q
  ·exact .inr ⟨q,R7 _ _ _ (.inl q)⟩
 refine PySem.W.kla_callFunE hr.depth ho rfl S.co S.gen rfl hcd ?_;rw [hb];refine C0 (j1g S.kind g λ l i c x=>?_);subst i;refine ⟨d.keeps x.toInCall.keep,PySem.W.kla_codeExpr ?_⟩;have I:Inv (cxOf CX0 P w K mg base N qual scope f (.ref c') A outer s H E0) [] (start N vs) H c:=z88 S hr.hd e0 hl r x;refine t3 (ht [] c (start N vs) H _ (I.wish _) hq) (λ u s' a=>?_) λ e s' a=>a.elim;obtain ⟨v,h,J,j,q⟩:=a;exact ⟨u,rfl,v,h,J.os,J.bare,J.base,J.hok,j,q⟩
def CodeK (K:d0) (c T:Addr):Prop:=
 ∃o vs file tf flags tg inF text tt,K.lookup c=some o/\o.cls=.type "code"/\o.data=.fields vs/\vs[11]? = some (.ref T)/\vs.getD 11 .none=.ref T/\vs.getD 18 .none=.str file tf/\
  vs.getD 7 .none=.int flags tg/\vs.getD 9 .none=.bool inF/\vs.getD 10 .none=.int text tt/\c≠T
theorem CodeK.hd {K:d0} {c T:Addr} {h:Heap} (x:CodeK K c T) (k:K.In h):p8 h c T:=
 let ⟨o,vs,file,tf,flags,tg,inF,text,tt,e,r⟩:=x;⟨o,vs,file,tf,flags,tg,inF,text,tt,k _ _ e,r⟩
noncomputable def CodeO (c:Addr) (qual:Str):HO:=.ext λ h=>h.CodeRec (.ref c) qual
def LamT (T:Addr) (pos:Pos) (qual:Str) (H:Hp):Prop:=H T=some (.tbl #[])\/∃c',H T=some (.tbl #[F5 pos.line,F5 pos.col,.ref c'])/\H c'=some (CodeO c' qual)
def SameB (T:Addr) (H H':Hp):Prop:=∀b o,b≠T->H b=some o->H' b=some o
def BtMain (h:Heap) (mg:Str->Option Value):Prop:=∃bm o,mg "__builtins__" = some (.ref bm)/\bm≠L9/\bm≠B2/\h.get? bm=some o/\o.cls=.type "module"/\o.dict=some L9/\o.data=.plain
section
variable {X:Cx} {pins:List (Addr×Obj)} {σ:St} {H:Hp} {s:B0} {T:Addr} {lpos:Pos} {params:Arguments} {body:Expr} {scope:Scope}
theorem zg2 {P:Program} {w:W0} {H:Hp} {h:Heap} {c:Addr} {qual:Str} (x:h.CodeRec (.ref c) qual):ObjOk P w H h c (CodeO c qual):=by
 refine ⟨x,?_,λ g i y k=>?_⟩
 ·obtain ⟨f,d,b,t,e,a,_⟩:=x;cases e;exact ⟨_,a⟩
 ·obtain ⟨f,d,b,t,e,a,r⟩:=y;cases e;exact ⟨c,d,b,t,rfl,k _ a,r⟩
theorem zfx {c:Addr} {Q:Value->B0->Prop} {E:Value->B0->Prop} (I:Inv X pins σ H s) (B:BtMain X.base X.mg) (hcode:X.env.code=.ref c) (C:p8 X.base c T) (hT:LamT T lpos (X.env.qual++"<lambda>") H)
  (hcl:j22 scope X.env=S3 []) (hdef:defaultsOf params X.env=([],[]))
  (h :∀f c' ctv pm H' s',SameB T H H'->LamT T lpos (X.env.qual++"<lambda>") H'->Inv X pins σ H' s'->FpOk X pins H' f->s'.heap.get? f=some (S5 "<lambda>" (X.env.qual++"<lambda>") params body scope [] pm c' ctv)->H' c'=some (CodeO c' (X.env.qual++"<lambda>"))->Q (.ref f) s') :
  Q0 (Z0 X.prog X.w) X.A (V3 (.Lambda params body scope lpos) X.env) Q E s:=by
 have D:s.heap.Ns B2 X.mg:=by obtain ⟨o,x,P,e,r⟩:=I.ok.mod.glob;exact ⟨o,x,P,I.bk _ _ e,r⟩
 have N:p8 s.heap c T:=C.keeps I.bk;have p :∀{a:Array Value},H T=some (.tbl a)->s.heap.get? T=some (m8 a):=λ e=>I.hok T _ e;have K :∀{b:Addr} {o:Obj} {a:Array Value},X.base.get? b=some o->H T=some (.tbl a)->b≠T:=λ {b o a} e z q=>by have:=(I.bs b o e).2;rw [q,z] at this;cases this
 have F :∀{a:Array Value},H T=some (.tbl a)->s.heap.BuiltinsAt X.mg T:=λ z=>by obtain ⟨R,o,b1,b2,b3,L,U⟩:=B;exact ⟨R,o,b1,b2,b3,K L z,I.bk _ _ L,U⟩
 have gT :∀{a:Array Value},H T=some (.tbl a)->B2≠T:=λ z=>by obtain ⟨o,x,P,e,r⟩:=I.ok.mod.glob;exact K e z
 refine PySem.W.kla_eval hdef ?_;rcases hT with z|⟨c',z,zc⟩
 ·refine PySem.W.kla_makeFunction hcl I.ok.glob D hcode N (p z) trivial rfl (gT z) (F z) λ c' ctv h' l hx j G Y a0=>?_;have cn:H c'=none:=I.hok.fresh j;have O:T < s.heap.objs.size:=J0 (p z);have cT:c'≠T:=λ q=>D3 _ (B1 (q ▸ O) j);have k :∀b o,b≠T->s.heap.get? b=some o->(h'.push (S5 "<lambda>" (X.env.qual++"<lambda>") params body scope [] ((X.mg "__name__").getD .none) c' ctv)).get? b=some o:=λ b o n e=>A0 _ (hx b o n e);have y:upd (upd H T (.tbl #[F5 lpos.line,F5 lpos.col,.ref c'])) c' (CodeO c' (X.env.qual++"<lambda>")) T=some (.tbl #[F5 lpos.line,F5 lpos.col,.ref c']):=by rw [upd_ne cT.symm];exact z02
  have g :∀b u,b≠T->H b=some u->upd (upd H T (.tbl #[F5 lpos.line,F5 lpos.col,.ref c'])) c' (CodeO c' (X.env.qual++"<lambda>")) b=some u:=λ b u n e=>by rw [upd_ne (z0a e cn),upd_ne n];exact e
  have m :∀{b:Addr},H b=none->b≠T:=λ e q=>by rw [q,z] at e;cases e
  have i :∀{b:Addr} {u:HO},H b=some u->(∀a,u≠.tbl a)->b≠T:=λ e n q=>by rw [q,z] at e;exact n _ (Q1 e).symm
  have M:(h'.push (S5 "<lambda>" (X.env.qual++"<lambda>") params body scope [] ((X.mg "__name__").getD .none) c' ctv)).get? T=some { cls:=.none,data:=.fields #[F5 lpos.line,F5 lpos.col,.ref c'] }:=A0 _ a0;have d:s.heap.objs.size<=h'.objs.size:=S0 j (u8 G);have J:=I.un (h':=h'.push (S5 "<lambda>" (X.env.qual++"<lambda>") params body scope [] ((X.mg "__name__").getD .none) c' ctv)) (t':=l) (H':=upd (upd H T (.tbl #[F5 lpos.line,F5 lpos.col,.ref c'])) c' (CodeO c' (X.env.qual++"<lambda>"))) ⟨λ b o e n _ _=>k b o (m n) e,λ b o e n _ _=>⟨o.slots,k b o (m n) e⟩,λ b o e n _=>by
    rw [upd_ne (show b≠c' from U0 (B1 (J0 e) j)),upd_ne (m n)];exact n,λ b o e _=>by
    by_cases q:b=T
    ·exact ⟨_,q ▸ M⟩
    ·exact ⟨_,k b o q e⟩,λ b xs e=>g _ _ (i e λ _ q=>by cases q) e,λ b o u e=>g _ _ (i e λ _ q=>by cases q) e,λ b a e=>by
    by_cases q:b=T
    ·subst q;rw [z] at e;cases e;exact ⟨#[F5 lpos.line,F5 lpos.col,.ref c'],by rw [y];simp⟩
    ·exact ⟨#[],by rw [g _ _ q e];simp⟩⟩ λ b u e=>by
    by_cases q1:b=c'
    ·subst q1;rw [z02] at e;cases e;refine zg2 ?_;obtain ⟨c2,oc,S,t,e2,Z,r⟩:=Y;exact ⟨c2,oc,S,t,e2,A0 _ Z,r⟩
    ·rw [upd_ne q1] at e;by_cases q2:b=T
     ·subst q2;rw [z02] at e;cases e;exact M
     ·rw [upd_ne q2] at e;exact (I.hok b u e).stay (λ c v V q=>k c v (V.elim (λ w=>w ▸ q2) λ w=>i w λ _ q=>by cases q) q) (λ c q=>g _ _ (i q λ _ q=>by cases q) q) λ c xs q=>g _ _ (i q λ _ q=>by cases q) q
  refine h h'.objs.size c' ctv _ _ _ (λ b o n e=>g b o n e) (.inr ⟨c',y,z02⟩) J (I.fpOk d ?_) (P0 _ rfl) z02;rw [upd_ne (O2 G),upd_ne (O2 (B1 O d))];exact I.hok.fresh d
 ·refine PySem.W.kla_makeFunctionHit (cv:=.ref c') hcl I.ok.glob D hcode N (p z) trivial (by simp [codeAmong,F5]) (F z) λ ctv h' l hk d=>?_;have J:=I.kept (h':=h'.push (S5 "<lambda>" (X.env.qual++"<lambda>") params body scope [] ((X.mg "__name__").getD .none) c' ctv)) (t':=l) λ b o e=>A0 _ (hk b o e);exact h h'.objs.size c' ctv _ _ _ (λ b o n e=>e) (.inr ⟨c',z,zc⟩) J (I.fpOk d (I.hok.fresh d)) (P0 _ rfl) zc
noncomputable def tSortL (K:d0) (T:Addr) (lpos:Pos) (qual:Str) (N:List Str) (tb:TE) (ta:TA):TE:=λ σ H Q=>ta σ H λ vs H1=>∃(l:Addr) (ys:List V) (kz:List Int),vs=[.ref l]/\SqL K H1 l ys/\kz.length=ys.length/\ys.length < 64/\LamT T lpos qual H1/\
 ∀H2,SameB T H1 H2->LamT T lpos qual H2->(∀(i:Nat) (y:V) (k:Int),ys[i]? = some y->kz[i]? = some k->tb (start N [y]) H2 λ v H3=>v=.int k/\H3=H2)/\∀D out,H2 D=none->KeyOut kz ys out->Q (.ref D) (upd H2 D (.lst out))
theorem SameB.seqL {K:d0} {H H':Hp} {a:Addr} {xs:List V} (s:SameB T H H') (hT :∃ps,H T=some (.tbl ps)) (h:SqL K H a xs):SqL K H' a xs:=by
 obtain ⟨ps,z⟩:=hT;rcases h with e|e
 ·refine .inl ?_;rcases e with e|⟨o,e⟩
  ·exact .inl (s _ _ (λ q=>by rw [q,z] at e;cases e) e)
  ·exact .inr ⟨o,s _ _ (λ q=>by rw [q,z] at e;cases e) e⟩
 ·exact .inr e
theorem LamT.tb {qual:Str} (h:LamT T lpos qual H) :∃ps,H T=some (.tbl ps):=by
 rcases h with z|⟨_,z,_⟩
 ·exact ⟨_,z⟩
 ·exact ⟨_,z⟩
theorem zbb {e:Expr} {ta:TA} {p pos kp:Pos} {c:Addr} {k:Nat} {N:List Str} {px:Str} {tb:TE} (B:BtMain X.base X.mg) (hcode:X.env.code=.ref c) (C:CodeK X.K c T) (hr:Room (k + 3) X.A) (hg:Gl X "sorted") (hm:X.mg "sorted" = none) (ha:PA X [e] ta)
  (S:FnScope N [px] scope)
  (hbind :∀(pm ctv:Value) (c':Addr) (u:Value),bindArgs (PySem.W.kla_fn "<lambda>" (X.env.qual++"<lambda>") params body scope [] pm (.ref c') ctv) ⟨[u],[]⟩=S3 [(px,u)])
  (hbody :∀(f c':Addr) (s:B0) (H:Hp),PE (cxOf CX0 X.prog X.w X.K X.mg X.base N (X.env.qual++"<lambda>") scope f (.ref c') X.A.in1.in1 X.stack s H E0).nox body tb)
  (hcl:j22 scope X.env=S3 []:=by rfl) (hdef:defaultsOf params X.env=([],[]):=by rfl)
  (he:z4 pos (E1 [e] X.env)=(false,V3 e X.env) :: z4 pos (E1 [] X.env):=by rfl) (hpl:(z4 pos (E1 [e] X.env)).any (·.1)=false:=by rfl) :
  PE X (.Call (.Name "sorted" p) [e] [⟨some "key",.Lambda params body scope lpos,kp⟩] pos) (tSortL X.K T lpos (X.env.qual++"<lambda>") N tb ta):=by
 intro a0 s σ H Q I h;refine R3 (ld_blt I hg hm boot_sorted (callWith_kw (thn (ha pos a0 s σ H _ I h) λ us s1 ⟨vs,H1,I1,r,q⟩=>?_) he hpl));obtain ⟨l,ys,kz,rfl,sq,x,R,j,q⟩:=q;obtain ⟨u,rfl,M⟩:=vals1 r;cases M;refine kws_cons (zfx I1 B hcode (C.hd I1.ok.mod.kin) j hcl hdef λ f c' ctv pm n s2 sb U E ff g L=>kws_nil ?_);obtain ⟨qb,qd⟩:=q n sb U;have G:=sb.seqL j.tb sq;have Y:=E.pinned (fp:=[f]) (λ b a=>by rw [List.mem_singleton.mp a];exact ff) (λ b a=>by rw [List.mem_singleton.mp a];exact ⟨_,g,λ v z=>by cases z⟩);refine zce Y G x R (λ i y u k hy hk F a1 m J=>?_) λ D P o hD ko J=>⟨.ref D,_,J.unpinned,rfl,qd D P hD ko⟩
 have pf:=J.pin (f,_) (X0 _ (F4 _ (X0 _ (z10 (.head _) g))));have V:m.heap.CodeRec (.ref c') (X.env.qual++"<lambda>"):=(J.hok c' _ L).1;refine K9 (d5 (zgx hr.in1.in1 J.env0.in1.in1 pf.1 V S (by exact hbind pm ctv c' u) rfl (.cons F .nil) (hbody f c' m n) (qb i y k hy hk)) λ r o d=>?_);obtain ⟨u',rfl,d⟩:=d;obtain ⟨v,H',O,Z,rfl,rfl⟩:=J.after d;obtain ⟨t,rfl⟩:=Z;exact ⟨t,rfl,O⟩
end
theorem zd4 {P:Program} {w:W0} {K:d0} {mg mb:Str->Option Value} {CX:CXT} {k:Nat} {fa a:Addr} {fd:FuncData} {x:Str} {sp:Sp} {s₁:B0} {vs:List Value} {ns:List Int} {T c:Addr}
  (KX:K.In s₁.heap) (hns:s₁.heap.Ns B2 mg) (hb:s₁.heap.Ns L9 mb) (hbb :∀x:Str,x≠"__name__"->mb x=D4 x) (hlim:s₁.heap.NoLimit) (hg:s₁.gens = #[])
  (ha:s₁.heap.get? a=some { cls:=.type "list",data:=.seq vs.toArray }) (hi:X3 vs ns) (hl:ns.length<=sizeLine) (hr:Room k j01) (hT:s₁.heap.get? T=some (m8 #[])) (hKT:K.lookup T=none) (C:p8 s₁.heap c T) (hbm:BtMain s₁.heap mg)
  (F :∀base:Heap,K.In base->base.Ns B2 mg->BtMain base mg->FnOk P w K mg base CX k fa fd [x] sp) (hbind :∀(s:B0) (u:Value),BindsTo s fd ⟨[u],[]⟩ [(x,u)])
  (hsp :∀H:Hp,H T=some (.tbl #[])->SqL K H a (ns.map V.int)->sp [.ref a] H (λ v _=>v=.bl true) λ _ _ _=>False)
  (hCX :∀H e s',CX [] H s₁ (λ _ _ _=>False) e s'->False) :
  V4 (Z0 P w) j01 (.call (.ref fa) ⟨[.ref a],[]⟩) (λ r s'=>r=.ok (.ret (.bool true))/\OldK s₁.heap s'.heap/\s'.os=s₁.os/\g8 s'.gens) s₁:=by
 have J:=z87 hi;have a0:=hi.length;have X:a≠T:=λ q=>by rw [q,hT] at ha;cases ha
 have E :∀H:Hp,H T=some (.tbl #[])->SqL K H a (ns.map V.int)->HOk P w H s₁.heap->(∀b u,H b=some u->(b=a/\K.lookup a=none/\∃o i,u=.frz o (.lst i))\/(b=T/\u=.tbl #[]))->
   V4 (Z0 P w) j01 (.call (.ref fa) ⟨[.ref a],[]⟩) (λ r s'=>r=.ok (.ret (.bool true))/\OldK s₁.heap s'.heap/\s'.os=s₁.os/\g8 s'.gens) s₁:=by
  intro H hO Q L y;have j :∀{b:Addr} {o:Obj},s₁.heap.get? b=some o->H b=none->(hidT s₁.heap H).get? b=some o:=λ e n=>zfq e n;have B :∀{b:Addr} {o:Obj},s₁.heap.get? b=some o->(∀i n,o.data≠.seq i n)->(∀vs,o.data≠.fields vs)->H b=none:=λ {b o} e d1 d2=>by
   cases q:H b with
   | none=>rfl
   | some u=>
    rcases y b u q with ⟨z,_⟩|⟨z,_⟩
    ·subst z;rw [ha] at e;cases e;exact absurd rfl (d1 _ _)
    ·subst z;rw [hT] at e;cases e;exact absurd rfl (d2 _)
  have g :∀{b:Addr} {m:Str->Option Value},s₁.heap.Ns b m->(hidT s₁.heap H).Ns b m:=λ {b m} ⟨o,es,ep,e,d,r⟩=>⟨o,es,ep,j e (B e (λ _ _ z=>by rw [d] at z;cases z) λ _ z=>by rw [d] at z;cases z),d,r⟩
  have G:K.In (hidT s₁.heap H):=λ b o e=>j (KX b o e) (by
   cases q:H b with
   | none=>rfl
   | some u=>
    rcases y b u q with ⟨z,Y,_⟩|⟨z,_⟩
    ·rw [z,Y] at e;cases e
    ·rw [z,hKT] at e;cases e)
  have S:BtMain (hidT s₁.heap H) mg:=by obtain ⟨N,o,Z,W,b3,I,O,U,t⟩:=hbm;exact ⟨N,o,Z,W,b3,j I (B I (λ _ _ z=>by rw [t] at z;cases z) λ _ z=>by rw [t] at z;cases z),O,U,t⟩
  have hM:Mod K mg (hidT s₁.heap H):=⟨G,g hns,⟨mb,g hb,hbb⟩,let ⟨mc,h1,h2⟩:=hlim;⟨mc,g h1,h2⟩⟩
  have e0:Env0 P w K mg (hidT s₁.heap H) j01 [] s₁ H:=⟨rfl,hM,λ b o e=>zgd e,x8 (zd3 _ _),trivial,λ b hb=>absurd (show b∈([]:List Addr) from hb) (by simp),L,.of_eq hg⟩
  refine d5 ((F _ G (g hns) S).run j01 [] s₁ H ⟨[.ref a],[]⟩ [.ref a] [.ref a] _ _ hr e0 (hbind s₁ (.ref a)) (.cons rfl .nil) (hsp H hO Q)) λ r s' h=>?_;cases r with
  | error e=>exact (hCX H e s' h).elim
  | ok fl=>
   cases fl with
   | next=>exact y4 h
   | brk=>exact y4 h
   | cont=>exact y4 h
   | ret u=>
    obtain ⟨v,H',os,R,un,M,r',q⟩:=h;have q':v=.bl true:=q;subst q';obtain rfl:u=j03 true:=r';refine ⟨rfl,⟨λ b o e=>?_,λ b o e=>un.there b o e (by simp)⟩,os,R⟩;cases q:H b with
    | none=>exact .inl (un.keep b o e q (by intro z;exact absurd (show b∈([]:List Addr) from z) (by simp)) (by simp))
    | some u=>
     rcases y b u q with ⟨_,_,ob,i,rfl⟩|⟨rfl,rfl⟩
     ·have l:=un.frzs b ob _ q;obtain ⟨D,_⟩:=L b _ q;obtain ⟨p,_⟩:=M b _ l;rw [e] at D;cases D;exact .inl p
     ·obtain ⟨A,l⟩:=un.tbls b _ q;have p:s'.heap.get? b=some { cls:=.none,data:=.fields (#[]++A) }:=M b _ l;rw [hT] at e;cases e;exact .inr (.inl ⟨(C.tab hT).isCodeTable,rfl,#[],A,rfl,p⟩)
 cases hk:K.lookup a with
 | some o=>
  have e:=KX a o hk;rw [ha] at e;cases e;refine E (λ b=>if b=T then some (.tbl #[]) else none) (if_pos rfl) (.inr ⟨_,vs.toArray,_,hk,rfl,rfl,rfl,by rw [V0,a0];exact hl,by simpa using J⟩) (λ b u z=>?_) (λ b u z=>?_)
  ·by_cases hb:b=T
   ·have f:=(if_pos hb).symm.trans z;cases f;subst hb;exact hT
   ·have f:=(if_neg hb).symm.trans z;cases f
  ·by_cases hb:b=T
   ·have f:=(if_pos hb).symm.trans z;cases f;exact .inr ⟨hb,rfl⟩
   ·have f:=(if_neg hb).symm.trans z;cases f
 | none=>
  refine E (λ b=>if b=T then some (.tbl #[]) else if b=a then some (.frz { cls:=.type "list",data:=.seq vs.toArray } (.lst (ns.map V.int))) else none) (if_pos rfl) (.inl (.inr ⟨{ cls:=.type "list",data:=.seq vs.toArray },(if_neg X).trans (if_pos rfl)⟩)) (λ b u z=>?_) (λ b u z=>?_)
  ·by_cases hb:b=T
   ·have f:=(if_pos hb).symm.trans z;cases f;subst hb;exact hT
   ·by_cases hc:b=a
    ·have f:=((if_neg hb).trans (if_pos hc)).symm.trans z;cases f;subst hc;exact ⟨ha,by rw [O0];exact hl,vs,_,J,ha⟩
    ·have f:=((if_neg hb).trans (if_neg hc)).symm.trans z;cases f
  ·by_cases hb:b=T
   ·have f:=(if_pos hb).symm.trans z;cases f;exact .inr ⟨hb,rfl⟩
   ·by_cases hc:b=a
    ·have f:=((if_neg hb).trans (if_pos hc)).symm.trans z;cases f;exact .inl ⟨hc,hk,_,_,rfl⟩
    ·have f:=((if_neg hb).trans (if_neg hc)).symm.trans z;cases f
theorem walk_ofT {l:PySem.W.OpenLaw} {n k:Nat} {q:Program} {loose:List Str} {XP:(Str->Option Value)->Heap->Prop} {YP:W0->Heap->Prop} {d:DefRec} {K:C1->d0} {CX:W0->CXT} {sp:W0->Sp} {x:Str} {T c:Addr}
  (hn:l.most=some n) (hn2:n<=sizeLine) (hdf:d.params.defaults=[]) (hr:Room k j01)
  (hY :∀(w:W0) (h:Heap),YP w h->(K w.params).In h/\h.get? T=some (m8 #[])) (hKT :∀P,(K P).lookup T=none) (hC :∀P,CodeK (K P) c T)
  (F :∀(w:W0) (mg:Str->Option Value) (fa:Addr) (h:Heap),(K w.params).In h->h.Ns B2 mg->mg d.name=some (.ref fa)->
   ∃fd:FuncData,(∀(s:B0) (u:Value),BindsTo s fd ⟨[u],[]⟩ [(x,u)])/\
    ∀base:Heap,(K w.params).In base->base.Ns B2 mg->BtMain base mg->FnOk l.prog w (K w.params) mg base (CX w) k fa fd [x] (sp w))
  (hsp :∀(w:W0) (H:Hp) (a:Addr) (ns:List Int),ns.length<=n->H T=some (.tbl #[])->SqL (K w.params) H a (ns.map V.int)->sp w [.ref a] H (λ v _=>v=.bl true) λ _ _ _=>False)
  (hCX :∀(w:W0) (H:Hp) (s:B0) (e:Value) (s':B0),CX w [] H s (λ _ _ _=>False) e s'->False) :
  PySem.W.WalkO q loose XP YP l.row.toRowW d [] (λ f vs=>PySem.call f vs):=by
 refine Att.attach_call hn hdf λ w U r mg mb fa o S X a1 a vs ns G Y Z hd a0 N L D p Q=>?_;obtain ⟨KX,E⟩:=hY w _ Y;obtain ⟨fd,A,B⟩:=F w mg fa _ KX G.T.g N;have i:BtMain r.heap mg:=by obtain ⟨i,O,J,C,m,I,t,j⟩:=G.T.bmain;refine ⟨i,O,J,C,λ z=>?_,m,I,t,j⟩;obtain ⟨o,R,ep,e,hd,_⟩:=G.T.g;rw [z,e] at m;cases m;rw [hd] at j;cases j
 exact zd4 KX G.T.g G.T.b G.T.builtins G.T.nolimit Q L D (S0 p hn2) hr E (hKT _) ((hC _).hd KX) i B A (λ H M y=>hsp w H a ns p M y) λ H e s'=>hCX w H r e s'
theorem Fun.okC {P:Program} {w:W0} {K:d0} {mg:Str->Option Value} {base:Heap} {x qual:Str} {st:Stmt} {f c:Addr} {fd:FuncData} {N ps:List Str} {k:Nat} {sp:Sp} (F:Fun K x qual st f fd) (hc:fd.code=.ref c) (S:FnScope N ps (z07 st)) (len :∀vs H Q E,sp vs H Q E->vs.length=ps.length)
  (hbody :∀(A:D2) (outer:List Env) (s:B0) (H:Hp) (vs:List V) (Q:VK) (E:XK),Room k (A.deeper (o4 qual (z07 st) s.heap.objs.size f (.ref c)))->sp vs H Q E->
   ∃t,PSs (cxOf CX0 P w K mg base N qual (z07 st) f (.ref c) A outer s H E).nox (z2x st) t/\t { nx:=λ _ H'=>Q .non H',rt:=Q } (start N vs) H):FnOk P w K mg base CX0 (k + 1) f fd ps sp:=by
 obtain ⟨j,o,kV,i,m,an,e,n,l,rfl,a,b⟩:=F.ex;obtain rfl:e=.ref c:=hc;refine fn_of a b S len λ A outer s H vs Q E d g=>?_;obtain ⟨t,h,q⟩:=hbody A outer s H vs Q E d g;exact ⟨t,h.nox,q⟩
end L2
set_option maxHeartbeats 4000000
namespace L2
open PySem PySem.Spec PyProof.Rows
end L2
set_option maxHeartbeats 0
namespace K15
open PySem PySem.W PyProof.Rows TJ L2
noncomputable abbrev PX:Program:=PySem.Challenge.pw_talejudge_k15_tales_that_are_not_plain
noncomputable abbrev annX:Option Value:=some (.ref 6)
noncomputable def tp (a b:Str) (t:Nat):Obj:={ cls:=.type "tuple",data:=.seq #[.str a t,.str b (t + 1)] 0 }
noncomputable def tups:List Obj:=[tp "register" "read" 522,tp "register" "write" 524,tp "counter" "read" 526,tp "counter" "add" 528,tp "queue" "put" 530,tp "queue" "take" 532,tp "set" "put" 534,tp "set" "cut" 536,tp "set" "has" 538,tp "cell" "read" 540,tp "cell" "write" 542,tp "cell" "swap" 544]
noncomputable def insAll:List Obj->Nat->BT->BT
 | [],_,t=>t
 | x :: r,n,t=>insAll r (n + 1) (t.ins n x)
noncomputable def treeD (P:C1) (oD:Obj):BT:=insAll tups 247 ((K15.pre.tree_319 P).ins 246 oD)
noncomputable def FX (w:W0) (os:Z2) (oD:Obj) (tk:Nat):SharedT:=⟨treeD w.params oD,259,{},⟨[]⟩,{},tk,os⟩
noncomputable abbrev cdX:Code:=.body (behindTheImports PX) K15.pre.env_1
noncomputable abbrev qX:Pos:=⟨0,0,0,0⟩
noncomputable abbrev BX:List Frame:=[topFrame qX]
noncomputable abbrev GX {α:Type} (w:W0) (c:Nat) (x:Sem α) (s:B0) (pos:Pos) (a:α) (s':B0) (pos':Pos):Prop:=Goes PX w 11 annX cdX qX c x s pos a s' pos'
def LX (n:Nat) {α:Type} (x:Sem α) (w:W0) (pos:Pos) (s:Z2->Obj->Nat->SharedT) (a:Nat->α) (s':Z2->Obj->Nat->SharedT) (pos':Pos):Prop:=
 ∀(os:Z2) (oD:Obj) (tk:Nat) (K:α->Sem S7) (H:Value->Sem S7) (gd:Bool->Bool) (lv:List Value->List Value),
  PySem.W.Fast.tw10295753902157049106 V7 PX w 11 annX 1 n (s os oD tk) ⟨x.wrap K H gd lv,cdX,pos,BX⟩=some (s' os oD tk,⟨K (a tk),cdX,pos',BX⟩)
theorem LX.goes {n:Nat} {α:Type} {x:Sem α} {w:W0} {pos pos':Pos} {s s':Z2->Obj->Nat->SharedT} {a:Nat->α} (h:LX n x w pos s a s' pos') (os:Z2) (oD:Obj) (tk:Nat):GX w n x (s os oD tk).abs pos (a tk) (s' os oD tk).abs pos':=by refine Goes.leaf n λ K H b c=>?_;have e:=h os oD tk K H b c;rw [<-PySem.W.Fast.te10295753902157049106,<-A5] at e;exact e
noncomputable abbrev stay (w:W0):Z2->Obj->Nat->SharedT:=FX w
noncomputable abbrev plus3 (w:W0):Z2->Obj->Nat->SharedT:=λ os oD tk=>FX w os oD (tk + 3)
theorem qtH (a:Addr) (h :∀(w:W0) (pos:Pos),LX 3 (PySem.W.Fast.tw13066428366354244818 8 (.ref a)) w pos (stay w) (λ _=>true) (stay w) pos:=by intro w pos os oD tk K H gd lv;kernel_rfl) (w:W0) (pos:Pos):LX 3 (A6 8 (.ref a)) w pos (stay w) (λ _=>true) (stay w) pos:=by rw [PySem.W.Fast.te13066428366354244818];exact h w pos
noncomputable def qt0:=qtH 247
noncomputable def qt1:=qtH 248
noncomputable def qt2:=qtH 249
noncomputable def qt3:=qtH 250
noncomputable def qt4:=qtH 251
noncomputable def qt5:=qtH 252
noncomputable def qt6:=qtH 253
noncomputable def qt7:=qtH 254
noncomputable def qt8:=qtH 255
noncomputable def qt9:=qtH 256
noncomputable def qt10:=qtH 257
noncomputable def qt11:=qtH 258
theorem eqH (n:Nat) (a b:Addr) (hf :∀(w:W0) (pos:Pos),LX n (w5 (.ref a) (.ref b)) (w.withFollow "special-get-raises" false) pos (stay (w.withFollow "special-get-raises" false)) (λ _=>false) (stay (w.withFollow "special-get-raises" false)) pos:=by intro w pos os oD tk K H gd lv;kernel_rfl) (ht :∀(w:W0) (pos:Pos),LX n (w5 (.ref a) (.ref b)) (w.withFollow "special-get-raises" true) pos (stay (w.withFollow "special-get-raises" true)) (λ _=>false) (stay (w.withFollow "special-get-raises" true)) pos:=by intro w pos os oD tk K H gd lv;kernel_rfl) (w:W0) (pos:Pos):LX n (eqBool (.ref a) (.ref b)) w pos (stay w) (λ _=>false) (stay w) pos:=by rw [PySem.W.Fast.te13926502685295537346];exact byRow2 "special-get-raises" (P:=λ w=>LX n (w5 (.ref a) (.ref b)) w pos (stay w) (λ _=>false) (stay w) pos) (λ w=>hf w pos) (λ w=>ht w pos) w
noncomputable def eq0_1:=eqH 20 247 248
noncomputable def eq0_2:=eqH 16 247 249
noncomputable def eq0_3:=eqH 16 247 250
noncomputable def eq0_4:=eqH 16 247 251
noncomputable def eq0_5:=eqH 16 247 252
noncomputable def eq0_6:=eqH 16 247 253
noncomputable def eq0_7:=eqH 16 247 254
noncomputable def eq0_8:=eqH 16 247 255
noncomputable def eq0_9:=eqH 16 247 256
noncomputable def eq0_10:=eqH 16 247 257
noncomputable def eq0_11:=eqH 16 247 258
noncomputable def eq1_2:=eqH 16 248 249
noncomputable def eq1_3:=eqH 16 248 250
noncomputable def eq1_4:=eqH 16 248 251
noncomputable def eq1_5:=eqH 16 248 252
noncomputable def eq1_6:=eqH 16 248 253
noncomputable def eq1_7:=eqH 16 248 254
noncomputable def eq1_8:=eqH 16 248 255
noncomputable def eq1_9:=eqH 16 248 256
noncomputable def eq1_10:=eqH 16 248 257
noncomputable def eq1_11:=eqH 16 248 258
noncomputable def eq2_3:=eqH 20 249 250
noncomputable def eq2_4:=eqH 16 249 251
noncomputable def eq2_5:=eqH 16 249 252
noncomputable def eq2_6:=eqH 16 249 253
noncomputable def eq2_7:=eqH 16 249 254
noncomputable def eq2_8:=eqH 16 249 255
noncomputable def eq2_9:=eqH 16 249 256
noncomputable def eq2_10:=eqH 16 249 257
noncomputable def eq2_11:=eqH 16 249 258
noncomputable def eq3_4:=eqH 16 250 251
noncomputable def eq3_5:=eqH 16 250 252
noncomputable def eq3_6:=eqH 16 250 253
noncomputable def eq3_7:=eqH 16 250 254
noncomputable def eq3_8:=eqH 16 250 255
noncomputable def eq3_9:=eqH 16 250 256
noncomputable def eq3_10:=eqH 16 250 257
noncomputable def eq3_11:=eqH 16 250 258
noncomputable def eq4_5:=eqH 20 251 252
noncomputable def eq4_6:=eqH 16 251 253
noncomputable def eq4_7:=eqH 16 251 254
noncomputable def eq4_8:=eqH 16 251 255
noncomputable def eq4_9:=eqH 16 251 256
noncomputable def eq4_10:=eqH 16 251 257
noncomputable def eq4_11:=eqH 16 251 258
noncomputable def eq5_6:=eqH 16 252 253
noncomputable def eq5_7:=eqH 16 252 254
noncomputable def eq5_8:=eqH 16 252 255
noncomputable def eq5_9:=eqH 16 252 256
noncomputable def eq5_10:=eqH 16 252 257
noncomputable def eq5_11:=eqH 16 252 258
noncomputable def eq6_7:=eqH 20 253 254
noncomputable def eq6_8:=eqH 20 253 255
noncomputable def eq6_9:=eqH 16 253 256
noncomputable def eq6_10:=eqH 16 253 257
noncomputable def eq6_11:=eqH 16 253 258
noncomputable def eq7_8:=eqH 20 254 255
noncomputable def eq7_9:=eqH 16 254 256
noncomputable def eq7_10:=eqH 16 254 257
noncomputable def eq7_11:=eqH 16 254 258
noncomputable def eq8_9:=eqH 16 255 256
noncomputable def eq8_10:=eqH 16 255 257
noncomputable def eq8_11:=eqH 16 255 258
noncomputable def eq9_10:=eqH 20 256 257
noncomputable def eq9_11:=eqH 20 256 258
noncomputable def zgc:=eqH 20 257 258
theorem crH (a:Addr) (hf :∀(w:W0) (pos:Pos),LX 1 (z5 "hash" [.ref a]) (w.withFollow "special-get-raises" false) pos (stay (w.withFollow "special-get-raises" false)) (λ _=>()) (stay (w.withFollow "special-get-raises" false)) pos:=by intro w pos os oD tk K H gd lv;kernel_rfl) (ht :∀(w:W0) (pos:Pos),LX 1 (z5 "hash" [.ref a]) (w.withFollow "special-get-raises" true) pos (stay (w.withFollow "special-get-raises" true)) (λ _=>()) (stay (w.withFollow "special-get-raises" true)) pos:=by intro w pos os oD tk K H gd lv;kernel_rfl) (w:W0) (pos:Pos):LX 1 (cRoomFor "hash" [.ref a]) w pos (stay w) (λ _=>()) (stay w) pos:=by rw [PySem.W.Fast.te13383273872528276517];exact byRow2 "special-get-raises" (P:=λ w=>LX 1 (z5 "hash" [.ref a]) w pos (stay w) (λ _=>()) (stay w) pos) (λ w=>hf w pos) (λ w=>ht w pos) w
theorem soH (a:Addr) (hf :∀(w:W0) (pos:Pos),LX 1 (D5 (.ref a) "__hash__") (w.withFollow "special-get-raises" false) pos (stay (w.withFollow "special-get-raises" false)) (λ _=>some (.builtin "tuple.__hash__")) (stay (w.withFollow "special-get-raises" false)) pos:=by intro w pos os oD tk K H gd lv;kernel_rfl) (ht :∀(w:W0) (pos:Pos),LX 1 (D5 (.ref a) "__hash__") (w.withFollow "special-get-raises" true) pos (stay (w.withFollow "special-get-raises" true)) (λ _=>some (.builtin "tuple.__hash__")) (stay (w.withFollow "special-get-raises" true)) pos:=by intro w pos os oD tk K H gd lv;kernel_rfl) (w:W0) (pos:Pos):LX 1 (specialOf (.ref a) "__hash__") w pos (stay w) (λ _=>some (.builtin "tuple.__hash__")) (stay w) pos:=by rw [PySem.W.Fast.te4214721358667687652];exact byRow2 "special-get-raises" (P:=λ w=>LX 1 (D5 (.ref a) "__hash__") w pos (stay w) (λ _=>some (.builtin "tuple.__hash__")) (stay w) pos) (λ w=>hf w pos) (λ w=>ht w pos) w
theorem csH (a:Addr) (k l:Str) (hf :∀(w:W0) (pos:Pos),LX 22 (o5 (.ref a) "__hash__" (unh a)) (w.withFollow "special-get-raises" false) pos (stay (w.withFollow "special-get-raises" false)) (λ tk=>some (.int (y0 [c0 (w.withFollow "special-get-raises" false).params k,c0 (w.withFollow "special-get-raises" false).params l]) (tk + 2))) (plus3 (w.withFollow "special-get-raises" false)) pos:=by intro w pos os oD tk K H gd lv;kernel_rfl) (ht :∀(w:W0) (pos:Pos),LX 22 (o5 (.ref a) "__hash__" (unh a)) (w.withFollow "special-get-raises" true) pos (stay (w.withFollow "special-get-raises" true)) (λ tk=>some (.int (y0 [c0 (w.withFollow "special-get-raises" true).params k,c0 (w.withFollow "special-get-raises" true).params l]) (tk + 2))) (plus3 (w.withFollow "special-get-raises" true)) pos:=by intro w pos os oD tk K H gd lv;kernel_rfl) (w:W0) (pos:Pos):LX 22 (Z6 (.ref a) "__hash__" (unh a)) w pos (stay w) (λ tk=>some (.int (y0 [c0 w.params k,c0 w.params l]) (tk + 2))) (plus3 w) pos:=by rw [PySem.W.Fast.te16697807410369149715];exact byRow2 "special-get-raises" (P:=λ w=>LX 22 (o5 (.ref a) "__hash__" (unh a)) w pos (stay w) (λ tk=>some (.int (y0 [c0 w.params k,c0 w.params l]) (tk + 2))) (plus3 w) pos) (λ w=>hf w pos) (λ w=>ht w pos) w
noncomputable def cr0:=crH 247
noncomputable def so0:=soH 247
noncomputable def cs0:=csH 247 "register" "read"
noncomputable def cr1:=crH 248
noncomputable def so1:=soH 248
noncomputable def cs1:=csH 248 "register" "write"
noncomputable def cr2:=crH 249
noncomputable def so2:=soH 249
noncomputable def cs2:=csH 249 "counter" "read"
noncomputable def cr3:=crH 250
noncomputable def so3:=soH 250
noncomputable def cs3:=csH 250 "counter" "add"
noncomputable def cr4:=crH 251
noncomputable def so4:=soH 251
noncomputable def cs4:=csH 251 "queue" "put"
noncomputable def cr5:=crH 252
noncomputable def so5:=soH 252
noncomputable def cs5:=csH 252 "queue" "take"
noncomputable def cr6:=crH 253
noncomputable def so6:=soH 253
noncomputable def cs6:=csH 253 "set" "put"
noncomputable def cr7:=crH 254
noncomputable def so7:=soH 254
noncomputable def cs7:=csH 254 "set" "cut"
noncomputable def cr8:=crH 255
noncomputable def so8:=soH 255
noncomputable def cs8:=csH 255 "set" "has"
noncomputable def cr9:=crH 256
noncomputable def so9:=soH 256
noncomputable def cs9:=csH 256 "cell" "read"
noncomputable def cr10:=crH 257
noncomputable def so10:=soH 257
noncomputable def cs10:=csH 257 "cell" "write"
noncomputable def cr11:=crH 258
noncomputable def so11:=soH 258
noncomputable def cs11:=csH 258 "cell" "swap"
noncomputable def allX (P:C1):List KV3:=[(247,(.ref 191),(O1 (y0 [c0 P "register",c0 P "read"]))),(248,(.ref 198),(O1 (y0 [c0 P "register",c0 P "write"]))),(249,(.ref 191),(O1 (y0 [c0 P "counter",c0 P "read"]))),(250,(.ref 205),(O1 (y0 [c0 P "counter",c0 P "add"]))),(251,(.ref 212),(O1 (y0 [c0 P "queue",c0 P "put"]))),(252,(.ref 219),(O1 (y0 [c0 P "queue",c0 P "take"]))),(253,(.ref 226),(O1 (y0 [c0 P "set",c0 P "put"]))),(254,(.ref 231),(O1 (y0 [c0 P "set",c0 P "cut"]))),(255,(.ref 238),(O1 (y0 [c0 P "set",c0 P "has"]))),(256,(.ref 191),(O1 (y0 [c0 P "cell",c0 P "read"]))),(257,(.ref 198),(O1 (y0 [c0 P "cell",c0 P "write"]))),(258,(.ref 245),(O1 (y0 [c0 P "cell",c0 P "swap"])))]
theorem zgf (w:W0) (os:Z2) (pos:Pos):(allX w.params).Pairwise λ x y=>∀oD tk,GX w 20 (eqBool (.ref x.1) (.ref y.1)) (FX w os oD tk).abs pos false (FX w os oD tk).abs pos:=by
 unfold allX;refine
 .cons (λ y a oD tk=>(by
  revert y;simp only [C2,F0,false_implies,implies_true,and_true];exact ⟨(eq0_1 w pos).goes os oD tk |>.le (by decide),(eq0_2 w pos).goes os oD tk |>.le (by decide),(eq0_3 w pos).goes os oD tk |>.le (by decide),(eq0_4 w pos).goes os oD tk |>.le (by decide),(eq0_5 w pos).goes os oD tk |>.le (by decide),(eq0_6 w pos).goes os oD tk |>.le (by decide),(eq0_7 w pos).goes os oD tk |>.le (by decide),(eq0_8 w pos).goes os oD tk |>.le (by decide),(eq0_9 w pos).goes os oD tk |>.le (by decide),(eq0_10 w pos).goes os oD tk |>.le (by decide),(eq0_11 w pos).goes os oD tk |>.le (by decide)⟩))
  (.cons (λ y a oD tk=>(by
  revert y;simp only [C2,F0,false_implies,implies_true,and_true];exact ⟨(eq1_2 w pos).goes os oD tk |>.le (by decide),(eq1_3 w pos).goes os oD tk |>.le (by decide),(eq1_4 w pos).goes os oD tk |>.le (by decide),(eq1_5 w pos).goes os oD tk |>.le (by decide),(eq1_6 w pos).goes os oD tk |>.le (by decide),(eq1_7 w pos).goes os oD tk |>.le (by decide),(eq1_8 w pos).goes os oD tk |>.le (by decide),(eq1_9 w pos).goes os oD tk |>.le (by decide),(eq1_10 w pos).goes os oD tk |>.le (by decide),(eq1_11 w pos).goes os oD tk |>.le (by decide)⟩))
  (.cons (λ y a oD tk=>(by
  revert y;simp only [C2,F0,false_implies,implies_true,and_true];exact ⟨(eq2_3 w pos).goes os oD tk |>.le (by decide),(eq2_4 w pos).goes os oD tk |>.le (by decide),(eq2_5 w pos).goes os oD tk |>.le (by decide),(eq2_6 w pos).goes os oD tk |>.le (by decide),(eq2_7 w pos).goes os oD tk |>.le (by decide),(eq2_8 w pos).goes os oD tk |>.le (by decide),(eq2_9 w pos).goes os oD tk |>.le (by decide),(eq2_10 w pos).goes os oD tk |>.le (by decide),(eq2_11 w pos).goes os oD tk |>.le (by decide)⟩))
  (.cons (λ y a oD tk=>(by
  revert y;simp only [C2,F0,false_implies,implies_true,and_true];exact ⟨(eq3_4 w pos).goes os oD tk |>.le (by decide),(eq3_5 w pos).goes os oD tk |>.le (by decide),(eq3_6 w pos).goes os oD tk |>.le (by decide),(eq3_7 w pos).goes os oD tk |>.le (by decide),(eq3_8 w pos).goes os oD tk |>.le (by decide),(eq3_9 w pos).goes os oD tk |>.le (by decide),(eq3_10 w pos).goes os oD tk |>.le (by decide),(eq3_11 w pos).goes os oD tk |>.le (by decide)⟩))
  (.cons (λ y a oD tk=>(by
  revert y;simp only [C2,F0,false_implies,implies_true,and_true];exact ⟨(eq4_5 w pos).goes os oD tk |>.le (by decide),(eq4_6 w pos).goes os oD tk |>.le (by decide),(eq4_7 w pos).goes os oD tk |>.le (by decide),(eq4_8 w pos).goes os oD tk |>.le (by decide),(eq4_9 w pos).goes os oD tk |>.le (by decide),(eq4_10 w pos).goes os oD tk |>.le (by decide),(eq4_11 w pos).goes os oD tk |>.le (by decide)⟩))
  (.cons (λ y a oD tk=>(by
  revert y;simp only [C2,F0,false_implies,implies_true,and_true];exact ⟨(eq5_6 w pos).goes os oD tk |>.le (by decide),(eq5_7 w pos).goes os oD tk |>.le (by decide),(eq5_8 w pos).goes os oD tk |>.le (by decide),(eq5_9 w pos).goes os oD tk |>.le (by decide),(eq5_10 w pos).goes os oD tk |>.le (by decide),(eq5_11 w pos).goes os oD tk |>.le (by decide)⟩))
  (.cons (λ y a oD tk=>(by
  revert y;simp only [C2,F0,false_implies,implies_true,and_true];exact ⟨(eq6_7 w pos).goes os oD tk |>.le (by decide),(eq6_8 w pos).goes os oD tk |>.le (by decide),(eq6_9 w pos).goes os oD tk |>.le (by decide),(eq6_10 w pos).goes os oD tk |>.le (by decide),(eq6_11 w pos).goes os oD tk |>.le (by decide)⟩))
  (.cons (λ y a oD tk=>(by
  revert y;simp only [C2,F0,false_implies,implies_true,and_true];exact ⟨(eq7_8 w pos).goes os oD tk |>.le (by decide),(eq7_9 w pos).goes os oD tk |>.le (by decide),(eq7_10 w pos).goes os oD tk |>.le (by decide),(eq7_11 w pos).goes os oD tk |>.le (by decide)⟩))
  (.cons (λ y a oD tk=>(by
  revert y;simp only [C2,F0,false_implies,implies_true,and_true];exact ⟨(eq8_9 w pos).goes os oD tk |>.le (by decide),(eq8_10 w pos).goes os oD tk |>.le (by decide),(eq8_11 w pos).goes os oD tk |>.le (by decide)⟩))
  (.cons (λ y a oD tk=>(by
  revert y;simp only [C2,F0,false_implies,implies_true,and_true];exact ⟨(eq9_10 w pos).goes os oD tk |>.le (by decide),(eq9_11 w pos).goes os oD tk |>.le (by decide)⟩))
  (.cons (λ y a oD tk=>(by
  revert y;simp only [C2,F0,false_implies,implies_true,and_true];exact (zgc w pos).goes os oD tk |>.le (by decide)))
  (.cons (λ y a=>nomatch a)
  (P6))))))))))))
theorem allX_q (w:W0) (os:Z2) (pos:Pos) :∀x∈allX w.params,∀oD tk,GX w 3 (A6 8 (.ref x.1)) (FX w os oD tk).abs pos true (FX w os oD tk).abs pos:=by unfold allX;simp only [C2,F0,false_implies,implies_true,and_true];exact ⟨λ oD tk=>(qt0 w pos).goes os oD tk,λ oD tk=>(qt1 w pos).goes os oD tk,λ oD tk=>(qt2 w pos).goes os oD tk,λ oD tk=>(qt3 w pos).goes os oD tk,λ oD tk=>(qt4 w pos).goes os oD tk,λ oD tk=>(qt5 w pos).goes os oD tk,λ oD tk=>(qt6 w pos).goes os oD tk,λ oD tk=>(qt7 w pos).goes os oD tk,λ oD tk=>(qt8 w pos).goes os oD tk,λ oD tk=>(qt9 w pos).goes os oD tk,λ oD tk=>(qt10 w pos).goes os oD tk,λ oD tk=>(qt11 w pos).goes os oD tk⟩
theorem allX_h (w:W0) (os:Z2) (pos:Pos) :∀x∈allX w.params,∀oD tk,GX w 25 (pyHash (.ref x.1)) (FX w os oD tk).abs pos x.2.2 (FX w os oD (tk + 3)).abs pos:=by unfold allX;simp only [C2,F0,false_implies,implies_true,and_true];exact ⟨λ oD tk=>Goes.pyHashT ((cr0 w pos).goes os oD tk) ((so0 w pos).goes os oD tk) ((cs0 w pos).goes os oD tk),λ oD tk=>Goes.pyHashT ((cr1 w pos).goes os oD tk) ((so1 w pos).goes os oD tk) ((cs1 w pos).goes os oD tk),λ oD tk=>Goes.pyHashT ((cr2 w pos).goes os oD tk) ((so2 w pos).goes os oD tk) ((cs2 w pos).goes os oD tk),λ oD tk=>Goes.pyHashT ((cr3 w pos).goes os oD tk) ((so3 w pos).goes os oD tk) ((cs3 w pos).goes os oD tk),λ oD tk=>Goes.pyHashT ((cr4 w pos).goes os oD tk) ((so4 w pos).goes os oD tk) ((cs4 w pos).goes os oD tk),λ oD tk=>Goes.pyHashT ((cr5 w pos).goes os oD tk) ((so5 w pos).goes os oD tk) ((cs5 w pos).goes os oD tk),λ oD tk=>Goes.pyHashT ((cr6 w pos).goes os oD tk) ((so6 w pos).goes os oD tk) ((cs6 w pos).goes os oD tk),λ oD tk=>Goes.pyHashT ((cr7 w pos).goes os oD tk) ((so7 w pos).goes os oD tk) ((cs7 w pos).goes os oD tk),λ oD tk=>Goes.pyHashT ((cr8 w pos).goes os oD tk) ((so8 w pos).goes os oD tk) ((cs8 w pos).goes os oD tk),λ oD tk=>Goes.pyHashT ((cr9 w pos).goes os oD tk) ((so9 w pos).goes os oD tk) ((cs9 w pos).goes os oD tk),λ oD tk=>Goes.pyHashT ((cr10 w pos).goes os oD tk) ((so10 w pos).goes os oD tk) ((cs10 w pos).goes os oD tk),λ oD tk=>Goes.pyHashT ((cr11 w pos).goes os oD tk) ((so11 w pos).goes os oD tk) ((cs11 w pos).goes os oD tk)⟩
theorem famX (w:W0) (os:Z2):Fam 11 246 (FX w os):=by
 have g :∀c,(treeD w.params c).get 246=some c:=λ c=>by kernel_rfl
 refine ⟨by decide,λ a b d=>abs_get (show 246 < 259 by decide) (g _),λ a b d e=>?_⟩;have u:(absHeap (treeD w.params (dObj a b)) 259 {}).update 246 (A8 (·.push e))=absHeap (treeD w.params (dObj (a.push e) (b + 1))) 259 {}:=by
  rw [<-absHeap_set (g _)];have v:(treeD w.params (dObj a b)).set 246 (A8 (·.push e))=treeD w.params (dObj (a.push e) (b + 1)):=by kernel_rfl
  rw [v]
 exact congrArg (λ h=>(⟨h,⟨[]⟩,{},d,os⟩:B0)) u
noncomputable def stD:Stmt:=(behindTheImports PX).getD 33 (.Pass ⟨0,0,0,0⟩)
noncomputable def sufX:List Stmt:=(behindTheImports PX).drop 34
theorem bodyX:behindTheImports PX=K15.pre.sts_7++(K15.pre.sts_59++(K15.pre.sts_78++(K15.pre.sts_97++(K15.pre.sts_116++(K15.pre.sts_135++(K15.pre.sts_154++(K15.pre.sts_173++(K15.pre.sts_192++(K15.pre.sts_211++(K15.pre.sts_230++(K15.pre.sts_254++([stD]++sufX)))))))))))):=by kernel_rfl
noncomputable def dKeys:Stmt->List (Option Expr)
 | .Assign _ (.Dict ks _ _) _=>ks
 | _=>[]
noncomputable def dVals:Stmt->List Expr
 | .Assign _ (.Dict _ vs _) _=>vs
 | _=>[]
noncomputable def dPos:Stmt->Pos
 | .Assign _ (.Dict _ _ p) _=>p
 | _=>⟨0,0,0,0⟩
noncomputable def sPos:Stmt->Pos
 | .Assign _ _ p=>p
 | _=>⟨0,0,0,0⟩
noncomputable abbrev p1X:Pos:=sPos stD
noncomputable abbrev p2X:Pos:=dPos stD
noncomputable abbrev p3X:Pos:=⟨69,0,69,5⟩
noncomputable def runX:List (Sem Value×Sem Value):=(((evalEachOpt (dKeys stD) K15.pre.env_1).zip ((evalEach (dVals stD) K15.pre.env_1).map λ v=>do let x <-v;standAt p2X;S3 x))).filterMap λ x=>x.1.map (·,x.2)
theorem stD_eq:stD=.Assign [.Name "DOERS" p3X] (.Dict (dKeys stD) (dVals stD) p2X) p1X:=by kernel_rfl
theorem evD:V3 (.Dict (dKeys stD) (dVals stD) p2X) K15.pre.env_1=(do standAt p2X;let r <-(do let x <-subDict runX;S3 (some x));match r with|some x=>S3 (Value.ref x)|none=>newDict):=by kernel_rfl
theorem swD:m9 (.Dict (dKeys stD) (dVals stD) p2X) (some (.Name "DOERS" p3X)) p1X.line K15.pre.env_1=S3 false:=by kernel_rfl
noncomputable def F0X (w:W0) (os:Z2):SharedT:=⟨K15.pre.tree_319 w.params,246,{},⟨[]⟩,{},522,os⟩
noncomputable def F1X (w:W0) (os:Z2):SharedT:=⟨(K15.pre.tree_319 w.params).ins 246 (dObj #[] 0),247,{},⟨[]⟩,{},522,os⟩
noncomputable def vsX:List (Value×Value):=[(.ref 247,(.ref 191)),(.ref 248,(.ref 198)),(.ref 249,(.ref 191)),(.ref 250,(.ref 205)),(.ref 251,(.ref 212)),(.ref 252,(.ref 219)),(.ref 253,(.ref 226)),(.ref 254,(.ref 231)),(.ref 255,(.ref 238)),(.ref 256,(.ref 191)),(.ref 257,(.ref 198)),(.ref 258,(.ref 245))]
theorem za5 (w:W0):LX 84 (evalPairs runX) w p2X (λ os _ _=>F1X w os) (λ _=>vsX) (λ os _ _=>FX w os (dObj #[] 0) 546) p2X:=by rw [PySem.W.Fast.te1788576489739465902];exact λ os d b K H a c=>by kernel_rfl
noncomputable def F2X (w:W0) (os:Z2) (oD:Obj) (tk:Nat):SharedT:=⟨(treeD w.params oD).set 3 (Obj.putName "DOERS" (c0 w.params "DOERS") (.str "DOERS" tk) (.ref 246)),259,{},⟨[]⟩,{},tk + 1,os⟩
theorem zcp (w:W0) (pos:Pos):LX 6 (bindName K15.pre.env_1 "DOERS" (.ref 246)) w pos (stay w) (λ _=>()) (λ os oD tk=>F2X w os oD tk) pos:=by
 rw [PySem.W.Fast.te7536695828754713326];exact byRow2 "special-get-raises" (P:=λ w=>LX 6 (PySem.W.Fast.tw7536695828754713326 K15.pre.env_1 "DOERS" (.ref 246)) w pos (stay w) (λ _=>()) (λ os oD tk=>F2X w os oD tk) pos)
  (λ w os oD tk K H a b=>by kernel_rfl) (λ w os oD tk K H a b=>by kernel_rfl) w
noncomputable abbrev oDX (P:C1):Obj:=dObj ((allX P).map ent).toArray 12
noncomputable abbrev S2X (w:W0) (os:Z2):SharedT:=F2X w os (oDX w.params) 582
theorem stD_go (w:W0) (os:Z2) (pos:Pos):GX w 100000 (exec stD K15.pre.env_1) (F0X w os).abs pos .next (S2X w os).abs p3X:=by
 rw [stD_eq,exec_Assign_Name _ _ _ _ _ swD];have l:=Goes.loop (p:=PX) (w:=w) (ann:=annX) (code:=cdX) (q:=qX) (pos:=p2X) (famX w os) (N:=12) (allX w.params) (show 12<=12 by decide) (by decide) (show ([247,248,249,250,251,252,253,254,255,256,257,258]:List Nat).Nodup by decide) (allX_q w os p2X) (zgf w os p2X) (allX_h w os p2X) (allX w.params) [] 546 rfl;have b:=(za5 w).goes os (dObj #[] 0) 0;have d:GX w _ (subDict runX) (F0X w os).abs p2X 246 (FX w os (oDX w.params) 582).abs p2X:=
  Goes.subDict (by decide +kernel) (absHeap_size _ _ _) (show GX w _ (evalPairs runX) _ p2X vsX _ p2X from by
   have e:({ (F0X w os).abs with heap:=(F0X w os).abs.heap.push { cls:=.type "dict",data:=.dict #[] } }:B0)=(F1X w os).abs:=by have i:=absHeap_ins (t:=K15.pre.tree_319 w.params) (n:=246) (life:={}) (o:=dObj #[] 0) (by kernel_rfl);exact congrArg (λ h=>(⟨h,⟨[]⟩,{},522,os⟩:B0)) i.symm
   rw [e];exact b) l
 refine (Goes.bind Goes.at' (Goes.bind (a:=Value.ref 246) (pos':=p2X) ?_ (Goes.bind Goes.at' (Goes.bind (f:=λ _=>S3 Flow.next) ((zcp w p3X).goes os (oDX w.params) 582) Goes.pure)))).le (c:=1 + (((1 + ((1 + (84 + 12 * (25 + (2 + 3 + 12 * (3 + 20 + 10)) + 4))) + 0 + 0)) + (1 + (6 + 0))))) (by decide);rw [evD];exact Goes.bind Goes.at' (Goes.bind (Goes.bind d Goes.pure) Goes.pure)
noncomputable abbrev pLX:Pos:=⟨254,0,262,15⟩
noncomputable def R3X (w:W0) (os:Z2):Option (Flow×SharedT×Code×Pos):=PySem.W.Fast.tw10110043849684766642 V7 PX w 11 annX 1 1005 (S2X w os) ⟨(PySem.W.Fast.tw12563942051412417395 sufX K15.pre.env_1).wrap doneF deadEnd id id,cdX,p3X,BX⟩
noncomputable def S3X (w:W0) (os:Z2):SharedT:=match R3X w os with|some r=>r.2.1|none=>S2X w os
theorem R3X_eq (w:W0) (os:Z2):R3X w os=some (.next,S3X w os,cdX,pLX):=by kernel_rfl
theorem zgr (w:W0) (os:Z2):segRun O3 PX w 11 annX 1 1005 (S2X w os).abs (piecesOf sufX K15.pre.env_1 cdX p3X BX)=some (.next,(S3X w os).abs,cdX,pLX):=by have e:=R3X_eq w os;unfold R3X at e;rw [<-PySem.W.Fast.te10110043849684766642,<-A5,<-PySem.W.Fast.te12563942051412417395] at e;exact segRun_of e
noncomputable def S0X (w:W0) (os:Z2):SharedT:=⟨K15.pre.tree_6 w.params,15,{},⟨[]⟩,{},187,os⟩
theorem pre_go (w:W0) (os:Z2):topGo O3 PX w 11 annX 12 ⟨boot_heap w.params,Array.mk [],boot_drawn,boot_toks,os⟩ (topStub PX)=some ((S0X w os).abs,⟨denote O3 cdX,cdX,qX,BX⟩):=by rw [PySem.W.Fast.te15667345088766844465,A5,PySem.W.Fast.te11892475500146522536];kernel_rfl
theorem zf1 (w:W0) (os:Z2) :∃M,M<=200000/\topRun O3 PX w 11 annX M ⟨boot_heap w.params,Array.mk [],boot_drawn,boot_toks,os⟩ (topStub PX)=some (S3X w os).abs:=by have c:topRun O3 PX w 11 annX 2 (S3X w os).abs (restOf [] K15.pre.env_1 cdX pLX BX)=some (S3X w os).abs:=rfl;have b:=piece_app (zgr w os) c;rw [U2] at b;obtain ⟨M,h,g⟩:=zbr (Goes.execs1 (stD_go w os ⟨65,0,68,21⟩)) b;have a:=K15.pre.chain PX (behindTheImports PX) w os _ M _ g;rw [<-bodyX] at a;have e:segRun O3 PX w 11 annX 1 1 (S0X w os).abs (blockOf (behindTheImports PX) K15.pre.env_1 cdX qX BX)=some (.next,(S0X w os).abs,cdX,qX):=rfl;have f:=piece_block e a;have d:=go_top (pre_go w os) f;refine ⟨_,?_,d⟩;simp only [Nat.add_eq];omega
noncomputable def looseX:List Str:=[("GREATEST_WORTH" : Str),("LONGEST_NAME" : Str),("SMALL_LETTERS" : Str),("is_whole" : Str),("is_within" : Str),("is_worth" : Str),("is_name" : Str),("is_tuple_of" : Str),("TaleError" : Str),("NoDeed" : Str),("NoTale" : Str),("NoStrictness" : Str),("NoThing" : Str),("NoOrder" : Str),("NoHand" : Str),("NotPlain" : Str),("NoPlan" : Str),("NoDealings" : Str),("NoRow" : Str),("FIRST_STATES" : Str),("WORTHS_OF_VERBS" : Str),("read_state" : Str),("write_state" : Str),("add_to_number" : Str),("put_behind" : Str),("take_first" : Str),("put_into_set" : Str),("cut_from_set" : Str),("has_in_set" : Str),("swap_state" : Str),("DOERS" : Str),("is_kind" : Str),("is_deed" : Str),("MOST_THINGS" : Str),("MOST_BEGINS" : Str),("LAST_HAND" : Str),("GREATEST_ANSWER" : Str),("ANSWER_WORDS" : Str),("make_tale" : Str),("make_things" : Str),("is_thing" : Str),("make_events" : Str),("is_begin" : Str),("is_end" : Str),("is_event" : Str),("is_hand" : Str),("is_answer" : Str),("go_by_turns" : Str),("deeds" : Str),("FIRST_WRITE" : Str),("plain_deeds" : Str),("are_plain" : Str),("is_answered" : Str),("writers" : Str),("ended_reads" : Str),("zones" : Str),("zone_of" : Str),("collision" : Str),("first_pair" : Str),("of_kind" : Str),("collide" : Str),("_law_row" : Str),("_law_take" : Str),("_law_deeds" : Str),("_law_tale" : Str),("_law_refused" : Str)]
noncomputable def viewX:Program:={ PX with main:={ PX.main with body:=(PX.main.body[72]?).toList } }
noncomputable def top (i:Nat):Stmt:=PX.main.body.getD i (.Pass ⟨0,0,0,0⟩)
noncomputable def asX:List Addr:=[3,11,13,15,17,18,20,21,22,24,25,27,28,29,31,32,34,35,36,39,40,41,43,44,46,47,48,50,51,53,55,56,57,61,63,64,66,68,69,70,73,75,76,78,80,81,82,85,87,88,90,92,93,94,97,99,100,102,104,105,106,109,111,112,114,116,117,118,121,123,124,126,128,129,130,133,135,136,138,140,141,142,145,147,148,150,152,153,154,157,159,160,162,164,165,166,169,171,172,174,176,177,178,181,182,183,184,185,187,188,190,191,192,194,195,197,198,199,201,202,204,205,206,208,209,211,212,213,215,216,218,219,220,222,223,225,226,227,230,231,232,234,235,237,238,239,241,242,244,245,246,247,248,249,250,251,252,253,254,255,256,257,258,259,261,262,264,265,266,269,270,271,272,274,275,277,278,279,282,283,284,286,287,289,290,291,294,295,296,298,299,301,302,303,305,306,308,309,310,312,313,315,316,317,319,320,322,323,324,326,327,329,330,331,333,334,336,337,338,340,341,343,344,345,346,349,350,351,354,355,356,358,359,361,362,363,365,366,368,369,370,373,374,375,378,379,380,383,384,385,387,388,390,391,392,394,395,397,398,399,402,403,404,406,407,409,410,411,413,414,416,417,418,420,421,423,424,425,427,428,430,431,432,434,435,437,438,439,441,442,444,445,446,448,449,451,452]
noncomputable def KX (P:C1):Frag:=[
 (3,⟨(.type "dict"),none,(.dict #[⟨(c0 P "__name__"),(.str "__name__" 165),(.str "law_talejudge_k15_tales_that_are_not_plain" 786)⟩,⟨(c0 P "__doc__"),(.str "__doc__" 166),.none⟩,⟨(c0 P "__package__"),(.str "__package__" 167),.none⟩,⟨(c0 P "__loader__"),(.str "__loader__" 168),(.builtin "__main__.__loader__#opaque")⟩,⟨(c0 P "__spec__"),(.str "__spec__" 169),.none⟩,kR P "__annotations__" 170 6,kR P "__builtins__" 171 4,⟨(c0 P "__file__"),(.str "__file__" 173),(.str "/claim/cut.py" 172)⟩,⟨(c0 P "__cached__"),(.str "__cached__" 174),.none⟩,⟨(c0 P "GREATEST_WORTH"),(.str "GREATEST_WORTH" 190),(.int (1000000000) 189)⟩,⟨(c0 P "LONGEST_NAME"),(.str "LONGEST_NAME" 192),(.int (8) 191)⟩,⟨(c0 P "SMALL_LETTERS"),(.str "SMALL_LETTERS" 194),(.str "abcdefghijklmnopqrstuvwxyz" 193)⟩,kR P "is_whole" 201 21,kR P "is_within" 209 28,kR P "is_worth" 216 35,kR P "is_name" 222 40,kR P "is_tuple_of" 230 47,kR P "TaleError" 250 57,kR P "NoDeed" 266 70,kR P "NoTale" 282 82,kR P "NoStrictness" 298 94,kR P "NoThing" 314 106,kR P "NoOrder" 330 118,kR P "NoHand" 346 130,kR P "NotPlain" 362 142,kR P "NoPlan" 378 154,kR P "NoDealings" 394 166,kR P "NoRow" 410 178,kR P "FIRST_STATES" 426 181,kR P "WORTHS_OF_VERBS" 451 184,kR P "read_state" 459 191,kR P "write_state" 467 198,kR P "add_to_number" 475 205,kR P "put_behind" 483 212,kR P "take_first" 491 219,kR P "put_into_set" 499 226,kR P "cut_from_set" 505 231,kR P "has_in_set" 513 238,kR P "swap_state" 521 245,kR P "DOERS" 582 246,kR P "is_kind" 589 265,kR P "is_deed" 595 270,⟨(c0 P "MOST_THINGS"),(.str "MOST_THINGS" 599),(.int (6) 598)⟩,⟨(c0 P "MOST_BEGINS"),(.str "MOST_BEGINS" 601),(.int (24) 600)⟩,⟨(c0 P "LAST_HAND"),(.str "LAST_HAND" 603),(.int (5) 602)⟩,⟨(c0 P "GREATEST_ANSWER"),(.str "GREATEST_ANSWER" 605),(.int (1000000000000) 604)⟩,kR P "ANSWER_WORDS" 608 271,kR P "make_tale" 617 278,kR P "make_things" 623 283,kR P "is_thing" 630 290,kR P "make_events" 636 295,kR P "is_begin" 644 302,kR P "is_end" 651 309,kR P "is_event" 660 316,kR P "is_hand" 667 323,kR P "is_answer" 674 330,kR P "go_by_turns" 684 337,kR P "deeds" 697 344,kR P "FIRST_WRITE" 704 345,kR P "plain_deeds" 710 350,kR P "are_plain" 716 355,kR P "is_answered" 723 362,kR P "writers" 732 369,kR P "ended_reads" 738 374,kR P "zones" 744 379,kR P "zone_of" 750 384,kR P "collision" 761 391,kR P "first_pair" 771 398,kR P "of_kind" 777 403,kR P "collide" 785 410,kR P "_law_row" 794 417,kR P "_law_take" 803 424,kR P "_law_deeds" 814 431,kR P "_law_tale" 827 438,kR P "_law_refused" 838 445,kR P "law" 850 452] 76),#[]⟩),
 (11,⟨(.type "tuple"),none,(.seq #[] 0),#[]⟩),
 (13,⟨(.type "code"),none,(.fields #[(.str "<module>" 182),(.str "<module>" 183),(.str "/claim/cut.py" 184),(.int (1) 0),(.int (0) 0),(.int (0) 0),(.int (0) 0),(.int (0) 0),(.ref 11),(.bool false),(.int (181) 0),(.ref 12),.none,.none,.none,.none,(.int (185) 0),(.int (1) 0),(.str "/claim/cut.py" 186)]),#[]⟩),
 (15,⟨(.type "tuple"),none,(.seq #[] 0),#[]⟩),
 (17,⟨(.type "tuple"),none,(.seq #[(.str "value" 198)] 0),#[]⟩),
 (18,⟨(.type "tuple"),none,(.seq #[] 0),#[]⟩),
 (20,cO "is_whole" "is_whole" 195 5 1 15 199),
 (21,fO "is_whole" "is_whole" (top 4) "talejudge.basics" 187 20),
 (22,⟨(.type "tuple"),none,(.seq #[] 0),#[]⟩),
 (24,⟨(.type "tuple"),none,(.seq #[(.str "value" 205),(.str "greatest" 206)] 0),#[]⟩),
 (25,⟨(.type "tuple"),none,(.seq #[] 0),#[]⟩),
 (27,cO "is_within" "is_within" 202 7 2 22 207),
 (28,fO "is_within" "is_within" (top 5) "talejudge.basics" 187 27),
 (29,⟨(.type "tuple"),none,(.seq #[] 0),#[]⟩),
 (31,⟨(.type "tuple"),none,(.seq #[(.str "value" 213)] 0),#[]⟩),
 (32,⟨(.type "tuple"),none,(.seq #[] 0),#[]⟩),
 (34,cO "is_worth" "is_worth" 210 9 1 29 214),
 (35,fO "is_worth" "is_worth" (top 6) "talejudge.basics" 187 34),
 (36,⟨(.type "tuple"),none,(.seq #[] 0),#[]⟩),
 (39,cP "is_name" "is_name" 217 11 1 36 220),
 (40,fO "is_name" "is_name" (top 7) "talejudge.basics" 187 39),
 (41,⟨(.type "tuple"),none,(.seq #[] 0),#[]⟩),
 (43,⟨(.type "tuple"),none,(.seq #[(.str "value" 226),(.str "many" 227)] 0),#[]⟩),
 (44,⟨(.type "tuple"),none,(.seq #[] 0),#[]⟩),
 (46,cO "is_tuple_of" "is_tuple_of" 223 15 2 41 228),
 (47,fO "is_tuple_of" "is_tuple_of" (top 8) "talejudge.basics" 187 46),
 (48,⟨(.type "tuple"),none,(.seq #[(.type "ValueError")] 0),#[]⟩),
 (50,⟨(.type "dict"),none,(.dict #[⟨(c0 P "__module__"),(.str "__module__" 240),(.str "talejudge.errors" 231)⟩,⟨(c0 P "__qualname__"),(.str "__qualname__" 242),(.str "TaleError" 241)⟩,⟨(c0 P "__firstlineno__"),(.str "__firstlineno__" 244),(.int (18) 243)⟩,kR P "__static_attributes__" 245 55] 4),#[]⟩),
 (51,⟨(.type "tuple"),none,(.seq #[] 0),#[]⟩),
 (53,⟨(.type "code"),none,(.fields #[(.str "TaleError" 235),(.str "TaleError" 236),(.str "/claim/cut.py" 237),(.int (18) 0),(.int (0) 0),(.int (0) 0),(.int (0) 0),(.int (0) 0),(.ref 51),(.bool false),(.int (181) 0),(.ref 52),.none,.none,.none,.none,(.int (238) 0),(.int (18) 0),(.str "/claim/cut.py" 239)]),#[]⟩),
 (55,⟨(.type "tuple"),none,(.seq #[] 0),#[]⟩),
 (56,⟨(.type "dict"),none,(.dict #[⟨(c0 P "__module__"),(.str "__module__" 240),(.str "talejudge.errors" 231)⟩,⟨(c0 P "__firstlineno__"),(.str "__firstlineno__" 244),(.int (18) 243)⟩,kR P "__static_attributes__" 245 55,kR P "__weakref__" 247 58,⟨(c0 P "__doc__"),(.str "__doc__" 248),.none⟩] 3),#[]⟩),
 (57,⟨(.type "type"),none,(.cls ⟨"TaleError",[(.type "ValueError")],[(.ref 57),(.type "ValueError"),(.type "Exception"),(.type "BaseException"),(.type "object")],56,"TaleError",true,[],[(.ref 70),(.ref 82),(.ref 94),(.ref 106),(.ref 118),(.ref 130),(.ref 142),(.ref 154),(.ref 166),(.ref 178)],false,none,false⟩),#[some (.ref 48),none,some (.str "TaleError" 233),some (.str "TaleError" 241),some (.builtin "ValueError.__new__"),some (.bool true)]⟩),
 (61,⟨(.type "tuple"),none,(.seq #[(.ref 57)] 0),#[]⟩),
 (63,⟨(.type "dict"),none,(.dict #[⟨(c0 P "__module__"),(.str "__module__" 258),(.str "talejudge.errors" 231)⟩,⟨(c0 P "__qualname__"),(.str "__qualname__" 260),(.str "NoDeed" 259)⟩,⟨(c0 P "__firstlineno__"),(.str "__firstlineno__" 262),(.int (20) 261)⟩,kR P "__static_attributes__" 263 68] 4),#[]⟩),
 (64,⟨(.type "tuple"),none,(.seq #[] 0),#[]⟩),
 (66,⟨(.type "code"),none,(.fields #[(.str "NoDeed" 253),(.str "NoDeed" 254),(.str "/claim/cut.py" 255),(.int (20) 0),(.int (0) 0),(.int (0) 0),(.int (0) 0),(.int (0) 0),(.ref 64),(.bool false),(.int (181) 0),(.ref 65),.none,.none,.none,.none,(.int (256) 0),(.int (20) 0),(.str "/claim/cut.py" 257)]),#[]⟩),
 (68,⟨(.type "tuple"),none,(.seq #[] 0),#[]⟩),
 (69,⟨(.type "dict"),none,(.dict #[⟨(c0 P "__module__"),(.str "__module__" 258),(.str "talejudge.errors" 231)⟩,⟨(c0 P "__firstlineno__"),(.str "__firstlineno__" 262),(.int (20) 261)⟩,kR P "__static_attributes__" 263 68,⟨(c0 P "__doc__"),(.str "__doc__" 264),.none⟩] 2),#[]⟩),
 (70,⟨(.type "type"),none,(.cls ⟨"NoDeed",[(.ref 57)],[(.ref 70),(.ref 57),(.type "ValueError"),(.type "Exception"),(.type "BaseException"),(.type "object")],69,"NoDeed",true,[],[],false,none,false⟩),#[some (.ref 61),none,some (.str "NoDeed" 251),some (.str "NoDeed" 259),some (.builtin "ValueError.__new__"),some (.bool true)]⟩),
 (73,⟨(.type "tuple"),none,(.seq #[(.ref 57)] 0),#[]⟩),
 (75,⟨(.type "dict"),none,(.dict #[⟨(c0 P "__module__"),(.str "__module__" 274),(.str "talejudge.errors" 231)⟩,⟨(c0 P "__qualname__"),(.str "__qualname__" 276),(.str "NoTale" 275)⟩,⟨(c0 P "__firstlineno__"),(.str "__firstlineno__" 278),(.int (22) 277)⟩,kR P "__static_attributes__" 279 80] 4),#[]⟩),
 (76,⟨(.type "tuple"),none,(.seq #[] 0),#[]⟩),
 (78,⟨(.type "code"),none,(.fields #[(.str "NoTale" 269),(.str "NoTale" 270),(.str "/claim/cut.py" 271),(.int (22) 0),(.int (0) 0),(.int (0) 0),(.int (0) 0),(.int (0) 0),(.ref 76),(.bool false),(.int (181) 0),(.ref 77),.none,.none,.none,.none,(.int (272) 0),(.int (22) 0),(.str "/claim/cut.py" 273)]),#[]⟩),
 (80,⟨(.type "tuple"),none,(.seq #[] 0),#[]⟩),
 (81,⟨(.type "dict"),none,(.dict #[⟨(c0 P "__module__"),(.str "__module__" 274),(.str "talejudge.errors" 231)⟩,⟨(c0 P "__firstlineno__"),(.str "__firstlineno__" 278),(.int (22) 277)⟩,kR P "__static_attributes__" 279 80,⟨(c0 P "__doc__"),(.str "__doc__" 280),.none⟩] 2),#[]⟩),
 (82,⟨(.type "type"),none,(.cls ⟨"NoTale",[(.ref 57)],[(.ref 82),(.ref 57),(.type "ValueError"),(.type "Exception"),(.type "BaseException"),(.type "object")],81,"NoTale",true,[],[],false,none,false⟩),#[some (.ref 73),none,some (.str "NoTale" 267),some (.str "NoTale" 275),some (.builtin "ValueError.__new__"),some (.bool true)]⟩),
 (85,⟨(.type "tuple"),none,(.seq #[(.ref 57)] 0),#[]⟩),
 (87,⟨(.type "dict"),none,(.dict #[⟨(c0 P "__module__"),(.str "__module__" 290),(.str "talejudge.errors" 231)⟩,⟨(c0 P "__qualname__"),(.str "__qualname__" 292),(.str "NoStrictness" 291)⟩,⟨(c0 P "__firstlineno__"),(.str "__firstlineno__" 294),(.int (24) 293)⟩,kR P "__static_attributes__" 295 92] 4),#[]⟩),
 (88,⟨(.type "tuple"),none,(.seq #[] 0),#[]⟩),
 (90,⟨(.type "code"),none,(.fields #[(.str "NoStrictness" 285),(.str "NoStrictness" 286),(.str "/claim/cut.py" 287),(.int (24) 0),(.int (0) 0),(.int (0) 0),(.int (0) 0),(.int (0) 0),(.ref 88),(.bool false),(.int (181) 0),(.ref 89),.none,.none,.none,.none,(.int (288) 0),(.int (24) 0),(.str "/claim/cut.py" 289)]),#[]⟩),
 (92,⟨(.type "tuple"),none,(.seq #[] 0),#[]⟩),
 (93,⟨(.type "dict"),none,(.dict #[⟨(c0 P "__module__"),(.str "__module__" 290),(.str "talejudge.errors" 231)⟩,⟨(c0 P "__firstlineno__"),(.str "__firstlineno__" 294),(.int (24) 293)⟩,kR P "__static_attributes__" 295 92,⟨(c0 P "__doc__"),(.str "__doc__" 296),.none⟩] 2),#[]⟩),
 (94,⟨(.type "type"),none,(.cls ⟨"NoStrictness",[(.ref 57)],[(.ref 94),(.ref 57),(.type "ValueError"),(.type "Exception"),(.type "BaseException"),(.type "object")],93,"NoStrictness",true,[],[],false,none,false⟩),#[some (.ref 85),none,some (.str "NoStrictness" 283),some (.str "NoStrictness" 291),some (.builtin "ValueError.__new__"),some (.bool true)]⟩),
 (97,⟨(.type "tuple"),none,(.seq #[(.ref 57)] 0),#[]⟩),
 (99,⟨(.type "dict"),none,(.dict #[⟨(c0 P "__module__"),(.str "__module__" 306),(.str "talejudge.errors" 231)⟩,⟨(c0 P "__qualname__"),(.str "__qualname__" 308),(.str "NoThing" 307)⟩,⟨(c0 P "__firstlineno__"),(.str "__firstlineno__" 310),(.int (26) 309)⟩,kR P "__static_attributes__" 311 104] 4),#[]⟩),
 (100,⟨(.type "tuple"),none,(.seq #[] 0),#[]⟩),
 (102,⟨(.type "code"),none,(.fields #[(.str "NoThing" 301),(.str "NoThing" 302),(.str "/claim/cut.py" 303),(.int (26) 0),(.int (0) 0),(.int (0) 0),(.int (0) 0),(.int (0) 0),(.ref 100),(.bool false),(.int (181) 0),(.ref 101),.none,.none,.none,.none,(.int (304) 0),(.int (26) 0),(.str "/claim/cut.py" 305)]),#[]⟩),
 (104,⟨(.type "tuple"),none,(.seq #[] 0),#[]⟩),
 (105,⟨(.type "dict"),none,(.dict #[⟨(c0 P "__module__"),(.str "__module__" 306),(.str "talejudge.errors" 231)⟩,⟨(c0 P "__firstlineno__"),(.str "__firstlineno__" 310),(.int (26) 309)⟩,kR P "__static_attributes__" 311 104,⟨(c0 P "__doc__"),(.str "__doc__" 312),.none⟩] 2),#[]⟩),
 (106,⟨(.type "type"),none,(.cls ⟨"NoThing",[(.ref 57)],[(.ref 106),(.ref 57),(.type "ValueError"),(.type "Exception"),(.type "BaseException"),(.type "object")],105,"NoThing",true,[],[],false,none,false⟩),#[some (.ref 97),none,some (.str "NoThing" 299),some (.str "NoThing" 307),some (.builtin "ValueError.__new__"),some (.bool true)]⟩),
 (109,⟨(.type "tuple"),none,(.seq #[(.ref 57)] 0),#[]⟩),
 (111,⟨(.type "dict"),none,(.dict #[⟨(c0 P "__module__"),(.str "__module__" 322),(.str "talejudge.errors" 231)⟩,⟨(c0 P "__qualname__"),(.str "__qualname__" 324),(.str "NoOrder" 323)⟩,⟨(c0 P "__firstlineno__"),(.str "__firstlineno__" 326),(.int (28) 325)⟩,kR P "__static_attributes__" 327 116] 4),#[]⟩),
 (112,⟨(.type "tuple"),none,(.seq #[] 0),#[]⟩),
 (114,⟨(.type "code"),none,(.fields #[(.str "NoOrder" 317),(.str "NoOrder" 318),(.str "/claim/cut.py" 319),(.int (28) 0),(.int (0) 0),(.int (0) 0),(.int (0) 0),(.int (0) 0),(.ref 112),(.bool false),(.int (181) 0),(.ref 113),.none,.none,.none,.none,(.int (320) 0),(.int (28) 0),(.str "/claim/cut.py" 321)]),#[]⟩),
 (116,⟨(.type "tuple"),none,(.seq #[] 0),#[]⟩),
 (117,⟨(.type "dict"),none,(.dict #[⟨(c0 P "__module__"),(.str "__module__" 322),(.str "talejudge.errors" 231)⟩,⟨(c0 P "__firstlineno__"),(.str "__firstlineno__" 326),(.int (28) 325)⟩,kR P "__static_attributes__" 327 116,⟨(c0 P "__doc__"),(.str "__doc__" 328),.none⟩] 2),#[]⟩),
 (118,⟨(.type "type"),none,(.cls ⟨"NoOrder",[(.ref 57)],[(.ref 118),(.ref 57),(.type "ValueError"),(.type "Exception"),(.type "BaseException"),(.type "object")],117,"NoOrder",true,[],[],false,none,false⟩),#[some (.ref 109),none,some (.str "NoOrder" 315),some (.str "NoOrder" 323),some (.builtin "ValueError.__new__"),some (.bool true)]⟩),
 (121,⟨(.type "tuple"),none,(.seq #[(.ref 57)] 0),#[]⟩),
 (123,⟨(.type "dict"),none,(.dict #[⟨(c0 P "__module__"),(.str "__module__" 338),(.str "talejudge.errors" 231)⟩,⟨(c0 P "__qualname__"),(.str "__qualname__" 340),(.str "NoHand" 339)⟩,⟨(c0 P "__firstlineno__"),(.str "__firstlineno__" 342),(.int (30) 341)⟩,kR P "__static_attributes__" 343 128] 4),#[]⟩),
 (124,⟨(.type "tuple"),none,(.seq #[] 0),#[]⟩),
 (126,⟨(.type "code"),none,(.fields #[(.str "NoHand" 333),(.str "NoHand" 334),(.str "/claim/cut.py" 335),(.int (30) 0),(.int (0) 0),(.int (0) 0),(.int (0) 0),(.int (0) 0),(.ref 124),(.bool false),(.int (181) 0),(.ref 125),.none,.none,.none,.none,(.int (336) 0),(.int (30) 0),(.str "/claim/cut.py" 337)]),#[]⟩),
 (128,⟨(.type "tuple"),none,(.seq #[] 0),#[]⟩),
 (129,⟨(.type "dict"),none,(.dict #[⟨(c0 P "__module__"),(.str "__module__" 338),(.str "talejudge.errors" 231)⟩,⟨(c0 P "__firstlineno__"),(.str "__firstlineno__" 342),(.int (30) 341)⟩,kR P "__static_attributes__" 343 128,⟨(c0 P "__doc__"),(.str "__doc__" 344),.none⟩] 2),#[]⟩),
 (130,⟨(.type "type"),none,(.cls ⟨"NoHand",[(.ref 57)],[(.ref 130),(.ref 57),(.type "ValueError"),(.type "Exception"),(.type "BaseException"),(.type "object")],129,"NoHand",true,[],[],false,none,false⟩),#[some (.ref 121),none,some (.str "NoHand" 331),some (.str "NoHand" 339),some (.builtin "ValueError.__new__"),some (.bool true)]⟩),
 (133,⟨(.type "tuple"),none,(.seq #[(.ref 57)] 0),#[]⟩),
 (135,⟨(.type "dict"),none,(.dict #[⟨(c0 P "__module__"),(.str "__module__" 354),(.str "talejudge.errors" 231)⟩,⟨(c0 P "__qualname__"),(.str "__qualname__" 356),(.str "NotPlain" 355)⟩,⟨(c0 P "__firstlineno__"),(.str "__firstlineno__" 358),(.int (32) 357)⟩,kR P "__static_attributes__" 359 140] 4),#[]⟩),
 (136,⟨(.type "tuple"),none,(.seq #[] 0),#[]⟩),
 (138,⟨(.type "code"),none,(.fields #[(.str "NotPlain" 349),(.str "NotPlain" 350),(.str "/claim/cut.py" 351),(.int (32) 0),(.int (0) 0),(.int (0) 0),(.int (0) 0),(.int (0) 0),(.ref 136),(.bool false),(.int (181) 0),(.ref 137),.none,.none,.none,.none,(.int (352) 0),(.int (32) 0),(.str "/claim/cut.py" 353)]),#[]⟩),
 (140,⟨(.type "tuple"),none,(.seq #[] 0),#[]⟩),
 (141,⟨(.type "dict"),none,(.dict #[⟨(c0 P "__module__"),(.str "__module__" 354),(.str "talejudge.errors" 231)⟩,⟨(c0 P "__firstlineno__"),(.str "__firstlineno__" 358),(.int (32) 357)⟩,kR P "__static_attributes__" 359 140,⟨(c0 P "__doc__"),(.str "__doc__" 360),.none⟩] 2),#[]⟩),
 (142,⟨(.type "type"),none,(.cls ⟨"NotPlain",[(.ref 57)],[(.ref 142),(.ref 57),(.type "ValueError"),(.type "Exception"),(.type "BaseException"),(.type "object")],141,"NotPlain",true,[],[],false,none,false⟩),#[some (.ref 133),none,some (.str "NotPlain" 347),some (.str "NotPlain" 355),some (.builtin "ValueError.__new__"),some (.bool true)]⟩),
 (145,⟨(.type "tuple"),none,(.seq #[(.ref 57)] 0),#[]⟩),
 (147,⟨(.type "dict"),none,(.dict #[⟨(c0 P "__module__"),(.str "__module__" 370),(.str "talejudge.errors" 231)⟩,⟨(c0 P "__qualname__"),(.str "__qualname__" 372),(.str "NoPlan" 371)⟩,⟨(c0 P "__firstlineno__"),(.str "__firstlineno__" 374),(.int (34) 373)⟩,kR P "__static_attributes__" 375 152] 4),#[]⟩),
 (148,⟨(.type "tuple"),none,(.seq #[] 0),#[]⟩),
 (150,⟨(.type "code"),none,(.fields #[(.str "NoPlan" 365),(.str "NoPlan" 366),(.str "/claim/cut.py" 367),(.int (34) 0),(.int (0) 0),(.int (0) 0),(.int (0) 0),(.int (0) 0),(.ref 148),(.bool false),(.int (181) 0),(.ref 149),.none,.none,.none,.none,(.int (368) 0),(.int (34) 0),(.str "/claim/cut.py" 369)]),#[]⟩),
 (152,⟨(.type "tuple"),none,(.seq #[] 0),#[]⟩),
 (153,⟨(.type "dict"),none,(.dict #[⟨(c0 P "__module__"),(.str "__module__" 370),(.str "talejudge.errors" 231)⟩,⟨(c0 P "__firstlineno__"),(.str "__firstlineno__" 374),(.int (34) 373)⟩,kR P "__static_attributes__" 375 152,⟨(c0 P "__doc__"),(.str "__doc__" 376),.none⟩] 2),#[]⟩),
 (154,⟨(.type "type"),none,(.cls ⟨"NoPlan",[(.ref 57)],[(.ref 154),(.ref 57),(.type "ValueError"),(.type "Exception"),(.type "BaseException"),(.type "object")],153,"NoPlan",true,[],[],false,none,false⟩),#[some (.ref 145),none,some (.str "NoPlan" 363),some (.str "NoPlan" 371),some (.builtin "ValueError.__new__"),some (.bool true)]⟩),
 (157,⟨(.type "tuple"),none,(.seq #[(.ref 57)] 0),#[]⟩),
 (159,⟨(.type "dict"),none,(.dict #[⟨(c0 P "__module__"),(.str "__module__" 386),(.str "talejudge.errors" 231)⟩,⟨(c0 P "__qualname__"),(.str "__qualname__" 388),(.str "NoDealings" 387)⟩,⟨(c0 P "__firstlineno__"),(.str "__firstlineno__" 390),(.int (36) 389)⟩,kR P "__static_attributes__" 391 164] 4),#[]⟩),
 (160,⟨(.type "tuple"),none,(.seq #[] 0),#[]⟩),
 (162,⟨(.type "code"),none,(.fields #[(.str "NoDealings" 381),(.str "NoDealings" 382),(.str "/claim/cut.py" 383),(.int (36) 0),(.int (0) 0),(.int (0) 0),(.int (0) 0),(.int (0) 0),(.ref 160),(.bool false),(.int (181) 0),(.ref 161),.none,.none,.none,.none,(.int (384) 0),(.int (36) 0),(.str "/claim/cut.py" 385)]),#[]⟩),
 (164,⟨(.type "tuple"),none,(.seq #[] 0),#[]⟩),
 (165,⟨(.type "dict"),none,(.dict #[⟨(c0 P "__module__"),(.str "__module__" 386),(.str "talejudge.errors" 231)⟩,⟨(c0 P "__firstlineno__"),(.str "__firstlineno__" 390),(.int (36) 389)⟩,kR P "__static_attributes__" 391 164,⟨(c0 P "__doc__"),(.str "__doc__" 392),.none⟩] 2),#[]⟩),
 (166,⟨(.type "type"),none,(.cls ⟨"NoDealings",[(.ref 57)],[(.ref 166),(.ref 57),(.type "ValueError"),(.type "Exception"),(.type "BaseException"),(.type "object")],165,"NoDealings",true,[],[],false,none,false⟩),#[some (.ref 157),none,some (.str "NoDealings" 379),some (.str "NoDealings" 387),some (.builtin "ValueError.__new__"),some (.bool true)]⟩),
 (169,⟨(.type "tuple"),none,(.seq #[(.ref 57)] 0),#[]⟩),
 (171,⟨(.type "dict"),none,(.dict #[⟨(c0 P "__module__"),(.str "__module__" 402),(.str "talejudge.errors" 231)⟩,⟨(c0 P "__qualname__"),(.str "__qualname__" 404),(.str "NoRow" 403)⟩,⟨(c0 P "__firstlineno__"),(.str "__firstlineno__" 406),(.int (38) 405)⟩,kR P "__static_attributes__" 407 176] 4),#[]⟩),
 (172,⟨(.type "tuple"),none,(.seq #[] 0),#[]⟩),
 (174,⟨(.type "code"),none,(.fields #[(.str "NoRow" 397),(.str "NoRow" 398),(.str "/claim/cut.py" 399),(.int (38) 0),(.int (0) 0),(.int (0) 0),(.int (0) 0),(.int (0) 0),(.ref 172),(.bool false),(.int (181) 0),(.ref 173),.none,.none,.none,.none,(.int (400) 0),(.int (38) 0),(.str "/claim/cut.py" 401)]),#[]⟩),
 (176,⟨(.type "tuple"),none,(.seq #[] 0),#[]⟩),
 (177,⟨(.type "dict"),none,(.dict #[⟨(c0 P "__module__"),(.str "__module__" 402),(.str "talejudge.errors" 231)⟩,⟨(c0 P "__firstlineno__"),(.str "__firstlineno__" 406),(.int (38) 405)⟩,kR P "__static_attributes__" 407 176,⟨(c0 P "__doc__"),(.str "__doc__" 408),.none⟩] 2),#[]⟩),
 (178,⟨(.type "type"),none,(.cls ⟨"NoRow",[(.ref 57)],[(.ref 178),(.ref 57),(.type "ValueError"),(.type "Exception"),(.type "BaseException"),(.type "object")],177,"NoRow",true,[],[],false,none,false⟩),#[some (.ref 169),none,some (.str "NoRow" 395),some (.str "NoRow" 403),some (.builtin "ValueError.__new__"),some (.bool true)]⟩),
 (181,⟨(.type "dict"),none,(.dict #[⟨(c0 P "register"),(.str "register" 413),(.int (0) 414)⟩,⟨(c0 P "counter"),(.str "counter" 415),(.int (0) 416)⟩,kR P "queue" 417 182,kR P "set" 418 183,⟨(c0 P "cell"),(.str "cell" 419),(.int (0) 420)⟩] 5),#[]⟩),
 (182,⟨(.type "tuple"),none,(.seq #[] 0),#[]⟩),
 (183,⟨(.type "tuple"),none,(.seq #[] 0),#[]⟩),
 (184,⟨(.type "dict"),none,(.dict #[⟨(c0 P "read"),(.str "read" 427),(.int (0) 428)⟩,⟨(c0 P "take"),(.str "take" 429),(.int (0) 430)⟩,⟨(c0 P "write"),(.str "write" 431),(.int (1) 432)⟩,⟨(c0 P "add"),(.str "add" 433),(.int (1) 434)⟩,⟨(c0 P "put"),(.str "put" 435),(.int (1) 436)⟩,⟨(c0 P "cut"),(.str "cut" 437),(.int (1) 438)⟩,⟨(c0 P "has"),(.str "has" 439),(.int (1) 440)⟩,⟨(c0 P "swap"),(.str "swap" 441),(.int (2) 442)⟩] 8),#[]⟩),
 (185,⟨(.type "tuple"),none,(.seq #[] 0),#[]⟩),
 (187,⟨(.type "tuple"),none,(.seq #[(.str "state" 455),(.str "worth" 456)] 0),#[]⟩),
 (188,⟨(.type "tuple"),none,(.seq #[] 0),#[]⟩),
 (190,cO "read_state" "read_state" 452 43 2 185 457),
 (191,fO "read_state" "read_state" (top 24) "talejudge.store" 411 190),
 (192,⟨(.type "tuple"),none,(.seq #[] 0),#[]⟩),
 (194,⟨(.type "tuple"),none,(.seq #[(.str "state" 463),(.str "worth" 464)] 0),#[]⟩),
 (195,⟨(.type "tuple"),none,(.seq #[] 0),#[]⟩),
 (197,cO "write_state" "write_state" 460 45 2 192 465),
 (198,fO "write_state" "write_state" (top 25) "talejudge.store" 411 197),
 (199,⟨(.type "tuple"),none,(.seq #[] 0),#[]⟩),
 (201,⟨(.type "tuple"),none,(.seq #[(.str "state" 471),(.str "worth" 472)] 0),#[]⟩),
 (202,⟨(.type "tuple"),none,(.seq #[] 0),#[]⟩),
 (204,cO "add_to_number" "add_to_number" 468 47 2 199 473),
 (205,fO "add_to_number" "add_to_number" (top 26) "talejudge.store" 411 204),
 (206,⟨(.type "tuple"),none,(.seq #[] 0),#[]⟩),
 (208,⟨(.type "tuple"),none,(.seq #[(.str "state" 479),(.str "worth" 480)] 0),#[]⟩),
 (209,⟨(.type "tuple"),none,(.seq #[] 0),#[]⟩),
 (211,cO "put_behind" "put_behind" 476 49 2 206 481),
 (212,fO "put_behind" "put_behind" (top 27) "talejudge.store" 411 211),
 (213,⟨(.type "tuple"),none,(.seq #[] 0),#[]⟩),
 (215,⟨(.type "tuple"),none,(.seq #[(.str "state" 487),(.str "worth" 488)] 0),#[]⟩),
 (216,⟨(.type "tuple"),none,(.seq #[] 0),#[]⟩),
 (218,cO "take_first" "take_first" 484 51 2 213 489),
 (219,fO "take_first" "take_first" (top 28) "talejudge.store" 411 218),
 (220,⟨(.type "tuple"),none,(.seq #[] 0),#[]⟩),
 (222,⟨(.type "tuple"),none,(.seq #[(.str "state" 495),(.str "worth" 496)] 0),#[]⟩),
 (223,⟨(.type "tuple"),none,(.seq #[] 0),#[]⟩),
 (225,cO "put_into_set" "put_into_set" 492 55 2 220 497),
 (226,fO "put_into_set" "put_into_set" (top 29) "talejudge.store" 411 225),
 (227,⟨(.type "tuple"),none,(.seq #[] 0),#[]⟩),
 (230,cP "cut_from_set" "cut_from_set" 500 59 2 227 503),
 (231,fO "cut_from_set" "cut_from_set" (top 30) "talejudge.store" 411 230),
 (232,⟨(.type "tuple"),none,(.seq #[] 0),#[]⟩),
 (234,⟨(.type "tuple"),none,(.seq #[(.str "state" 509),(.str "worth" 510)] 0),#[]⟩),
 (235,⟨(.type "tuple"),none,(.seq #[] 0),#[]⟩),
 (237,cO "has_in_set" "has_in_set" 506 63 2 232 511),
 (238,fO "has_in_set" "has_in_set" (top 31) "talejudge.store" 411 237),
 (239,⟨(.type "tuple"),none,(.seq #[] 0),#[]⟩),
 (241,⟨(.type "tuple"),none,(.seq #[(.str "state" 517),(.str "worth" 518)] 0),#[]⟩),
 (242,⟨(.type "tuple"),none,(.seq #[] 0),#[]⟩),
 (244,cO "swap_state" "swap_state" 514 65 2 239 519),
 (245,fO "swap_state" "swap_state" (top 32) "talejudge.store" 411 244),
 (246,⟨(.type "dict"),none,(.dict #[⟨(O1 (y0 [c0 P "register",c0 P "read"])),(.ref 247),(.ref 191)⟩,⟨(O1 (y0 [c0 P "register",c0 P "write"])),(.ref 248),(.ref 198)⟩,⟨(O1 (y0 [c0 P "counter",c0 P "read"])),(.ref 249),(.ref 191)⟩,⟨(O1 (y0 [c0 P "counter",c0 P "add"])),(.ref 250),(.ref 205)⟩,⟨(O1 (y0 [c0 P "queue",c0 P "put"])),(.ref 251),(.ref 212)⟩,⟨(O1 (y0 [c0 P "queue",c0 P "take"])),(.ref 252),(.ref 219)⟩,⟨(O1 (y0 [c0 P "set",c0 P "put"])),(.ref 253),(.ref 226)⟩,⟨(O1 (y0 [c0 P "set",c0 P "cut"])),(.ref 254),(.ref 231)⟩,⟨(O1 (y0 [c0 P "set",c0 P "has"])),(.ref 255),(.ref 238)⟩,⟨(O1 (y0 [c0 P "cell",c0 P "read"])),(.ref 256),(.ref 191)⟩,⟨(O1 (y0 [c0 P "cell",c0 P "write"])),(.ref 257),(.ref 198)⟩,⟨(O1 (y0 [c0 P "cell",c0 P "swap"])),(.ref 258),(.ref 245)⟩] 12),#[]⟩),
 (247,⟨(.type "tuple"),none,(.seq #[(.str "register" 522),(.str "read" 523)] 0),#[]⟩),
 (248,⟨(.type "tuple"),none,(.seq #[(.str "register" 524),(.str "write" 525)] 0),#[]⟩),
 (249,⟨(.type "tuple"),none,(.seq #[(.str "counter" 526),(.str "read" 527)] 0),#[]⟩),
 (250,⟨(.type "tuple"),none,(.seq #[(.str "counter" 528),(.str "add" 529)] 0),#[]⟩),
 (251,⟨(.type "tuple"),none,(.seq #[(.str "queue" 530),(.str "put" 531)] 0),#[]⟩),
 (252,⟨(.type "tuple"),none,(.seq #[(.str "queue" 532),(.str "take" 533)] 0),#[]⟩),
 (253,⟨(.type "tuple"),none,(.seq #[(.str "set" 534),(.str "put" 535)] 0),#[]⟩),
 (254,⟨(.type "tuple"),none,(.seq #[(.str "set" 536),(.str "cut" 537)] 0),#[]⟩),
 (255,⟨(.type "tuple"),none,(.seq #[(.str "set" 538),(.str "has" 539)] 0),#[]⟩),
 (256,⟨(.type "tuple"),none,(.seq #[(.str "cell" 540),(.str "read" 541)] 0),#[]⟩),
 (257,⟨(.type "tuple"),none,(.seq #[(.str "cell" 542),(.str "write" 543)] 0),#[]⟩),
 (258,⟨(.type "tuple"),none,(.seq #[(.str "cell" 544),(.str "swap" 545)] 0),#[]⟩),
 (259,⟨(.type "tuple"),none,(.seq #[] 0),#[]⟩),
 (261,⟨(.type "tuple"),none,(.seq #[(.str "kind" 586)] 0),#[]⟩),
 (262,⟨(.type "tuple"),none,(.seq #[] 0),#[]⟩),
 (264,cO "is_kind" "is_kind" 583 70 1 259 587),
 (265,fO "is_kind" "is_kind" (top 34) "talejudge.store" 411 264),
 (266,⟨(.type "tuple"),none,(.seq #[] 0),#[]⟩),
 (269,cP "is_deed" "is_deed" 590 72 3 266 593),
 (270,fO "is_deed" "is_deed" (top 35) "talejudge.store" 411 269),
 (271,⟨(.type "tuple"),none,(.seq #[(.str "ok" 606),(.str "none" 607)] 0),#[]⟩),
 (272,⟨(.type "tuple"),none,(.seq #[] 0),#[]⟩),
 (274,⟨(.type "tuple"),none,(.seq #[(.str "things" 612),(.str "events" 613),(.str "own_things" 614)] 0),#[]⟩),
 (275,⟨(.type "tuple"),none,(.seq #[] 0),#[]⟩),
 (277,cO "make_tale" "make_tale" 609 87 2 272 615),
 (278,fO "make_tale" "make_tale" (top 42) "talejudge.tales" 596 277),
 (279,⟨(.type "tuple"),none,(.seq #[] 0),#[]⟩),
 (282,cP "make_things" "make_things" 618 90 1 279 621),
 (283,fO "make_things" "make_things" (top 43) "talejudge.tales" 596 282),
 (284,⟨(.type "tuple"),none,(.seq #[] 0),#[]⟩),
 (286,⟨(.type "tuple"),none,(.seq #[(.str "thing" 627)] 0),#[]⟩),
 (287,⟨(.type "tuple"),none,(.seq #[] 0),#[]⟩),
 (289,cO "is_thing" "is_thing" 624 98 1 284 628),
 (290,fO "is_thing" "is_thing" (top 44) "talejudge.tales" 596 289),
 (291,⟨(.type "tuple"),none,(.seq #[] 0),#[]⟩),
 (294,cP "make_events" "make_events" 631 100 2 291 634),
 (295,fO "make_events" "make_events" (top 45) "talejudge.tales" 596 294),
 (296,⟨(.type "tuple"),none,(.seq #[] 0),#[]⟩),
 (298,⟨(.type "tuple"),none,(.seq #[(.str "event" 640),(.str "kinds" 641)] 0),#[]⟩),
 (299,⟨(.type "tuple"),none,(.seq #[] 0),#[]⟩),
 (301,cO "is_begin" "is_begin" 637 108 2 296 642),
 (302,fO "is_begin" "is_begin" (top 46) "talejudge.tales" 596 301),
 (303,⟨(.type "tuple"),none,(.seq #[] 0),#[]⟩),
 (305,⟨(.type "tuple"),none,(.seq #[(.str "event" 648)] 0),#[]⟩),
 (306,⟨(.type "tuple"),none,(.seq #[] 0),#[]⟩),
 (308,cO "is_end" "is_end" 645 112 1 303 649),
 (309,fO "is_end" "is_end" (top 47) "talejudge.tales" 596 308),
 (310,⟨(.type "tuple"),none,(.seq #[] 0),#[]⟩),
 (312,⟨(.type "tuple"),none,(.seq #[(.str "event" 655),(.str "word" 656),(.str "many" 657)] 0),#[]⟩),
 (313,⟨(.type "tuple"),none,(.seq #[] 0),#[]⟩),
 (315,cO "is_event" "is_event" 652 114 3 310 658),
 (316,fO "is_event" "is_event" (top 48) "talejudge.tales" 596 315),
 (317,⟨(.type "tuple"),none,(.seq #[] 0),#[]⟩),
 (319,⟨(.type "tuple"),none,(.seq #[(.str "hand" 664)] 0),#[]⟩),
 (320,⟨(.type "tuple"),none,(.seq #[] 0),#[]⟩),
 (322,cO "is_hand" "is_hand" 661 116 1 317 665),
 (323,fO "is_hand" "is_hand" (top 49) "talejudge.tales" 596 322),
 (324,⟨(.type "tuple"),none,(.seq #[] 0),#[]⟩),
 (326,⟨(.type "tuple"),none,(.seq #[(.str "answer" 671)] 0),#[]⟩),
 (327,⟨(.type "tuple"),none,(.seq #[] 0),#[]⟩),
 (329,cO "is_answer" "is_answer" 668 118 1 324 672),
 (330,fO "is_answer" "is_answer" (top 50) "talejudge.tales" 596 329),
 (331,⟨(.type "tuple"),none,(.seq #[] 0),#[]⟩),
 (333,⟨(.type "tuple"),none,(.seq #[(.str "events" 678),(.str "busy" 679),(.str "event" 680),(.str "begins" 681)] 0),#[]⟩),
 (334,⟨(.type "tuple"),none,(.seq #[] 0),#[]⟩),
 (336,cO "go_by_turns" "go_by_turns" 675 122 1 331 682),
 (337,fO "go_by_turns" "go_by_turns" (top 51) "talejudge.tales" 596 336),
 (338,⟨(.type "tuple"),none,(.seq #[] 0),#[]⟩),
 (340,⟨(.type "tuple"),none,(.seq #[(.str "tale" 688),(.str "told" 689),(.str "numbers" 690),(.str "place" 691),(.str "event" 692),(.str "number" 693),(.str "begun" 694)] 0),#[]⟩),
 (341,⟨(.type "tuple"),none,(.seq #[] 0),#[]⟩),
 (343,cO "deeds" "deeds" 685 130 1 338 695),
 (344,fO "deeds" "deeds" (top 52) "talejudge.tales" 596 343),
 (345,⟨(.type "tuple"),none,(.seq #[(.int (-2) 701),(.int (-1) 703)] 0),#[]⟩),
 (346,⟨(.type "tuple"),none,(.seq #[] 0),#[]⟩),
 (349,cP "plain_deeds" "plain_deeds" 705 144 1 346 708),
 (350,fO "plain_deeds" "plain_deeds" (top 55) "talejudge.zones" 698 349),
 (351,⟨(.type "tuple"),none,(.seq #[] 0),#[]⟩),
 (354,cP "are_plain" "are_plain" 711 149 1 351 714),
 (355,fO "are_plain" "are_plain" (top 56) "talejudge.zones" 698 354),
 (356,⟨(.type "tuple"),none,(.seq #[] 0),#[]⟩),
 (358,⟨(.type "tuple"),none,(.seq #[(.str "deed" 720)] 0),#[]⟩),
 (359,⟨(.type "tuple"),none,(.seq #[] 0),#[]⟩),
 (361,cO "is_answered" "is_answered" 717 154 1 356 721),
 (362,fO "is_answered" "is_answered" (top 57) "talejudge.zones" 698 361),
 (363,⟨(.type "tuple"),none,(.seq #[] 0),#[]⟩),
 (365,⟨(.type "tuple"),none,(.seq #[(.str "told" 727),(.str "found" 728),(.str "deed" 729)] 0),#[]⟩),
 (366,⟨(.type "tuple"),none,(.seq #[] 0),#[]⟩),
 (368,cO "writers" "writers" 724 158 1 363 730),
 (369,fO "writers" "writers" (top 58) "talejudge.zones" 698 368),
 (370,⟨(.type "tuple"),none,(.seq #[] 0),#[]⟩),
 (373,cP "ended_reads" "ended_reads" 733 164 1 370 736),
 (374,fO "ended_reads" "ended_reads" (top 59) "talejudge.zones" 698 373),
 (375,⟨(.type "tuple"),none,(.seq #[] 0),#[]⟩),
 (378,cP "zones" "zones" 739 166 1 375 742),
 (379,fO "zones" "zones" (top 60) "talejudge.zones" 698 378),
 (380,⟨(.type "tuple"),none,(.seq #[] 0),#[]⟩),
 (383,cP "zone_of" "zone_of" 745 174 2 380 748),
 (384,fO "zone_of" "zone_of" (top 61) "talejudge.zones" 698 383),
 (385,⟨(.type "tuple"),none,(.seq #[] 0),#[]⟩),
 (387,⟨(.type "tuple"),none,(.seq #[(.str "tale" 754),(.str "told" 755),(.str "written" 756),(.str "number" 757),(.str "read" 758)] 0),#[]⟩),
 (388,⟨(.type "tuple"),none,(.seq #[] 0),#[]⟩),
 (390,cO "collision" "collision" 751 180 1 385 759),
 (391,fO "collision" "collision" (top 62) "talejudge.zones" 698 390),
 (392,⟨(.type "tuple"),none,(.seq #[] 0),#[]⟩),
 (394,⟨(.type "tuple"),none,(.seq #[(.str "found" 765),(.str "kind" 766),(.str "zone" 767),(.str "other" 768)] 0),#[]⟩),
 (395,⟨(.type "tuple"),none,(.seq #[] 0),#[]⟩),
 (397,cO "first_pair" "first_pair" 762 187 1 392 769),
 (398,fO "first_pair" "first_pair" (top 63) "talejudge.zones" 698 397),
 (399,⟨(.type "tuple"),none,(.seq #[] 0),#[]⟩),
 (402,cP "of_kind" "of_kind" 772 194 2 399 775),
 (403,fO "of_kind" "of_kind" (top 64) "talejudge.zones" 698 402),
 (404,⟨(.type "tuple"),none,(.seq #[] 0),#[]⟩),
 (406,⟨(.type "tuple"),none,(.seq #[(.str "zone" 781),(.str "other" 782)] 0),#[]⟩),
 (407,⟨(.type "tuple"),none,(.seq #[] 0),#[]⟩),
 (409,cO "collide" "collide" 778 196 2 404 783),
 (410,fO "collide" "collide" (top 65) "talejudge.zones" 698 409),
 (411,⟨(.type "tuple"),none,(.seq #[] 0),#[]⟩),
 (413,⟨(.type "tuple"),none,(.seq #[(.str "cell" 791)] 0),#[]⟩),
 (414,⟨(.type "tuple"),none,(.seq #[] 0),#[]⟩),
 (416,cO "_law_row" "_law_row" 788 201 1 411 792),
 (417,fL "_law_row" "_law_row" (top 67) 416),
 (418,⟨(.type "tuple"),none,(.seq #[] 0),#[]⟩),
 (420,⟨(.type "tuple"),none,(.seq #[(.str "row" 798),(.str "many" 799),(.str "told" 800)] 0),#[]⟩),
 (421,⟨(.type "tuple"),none,(.seq #[] 0),#[]⟩),
 (423,cO "_law_take" "_law_take" 795 203 2 418 801),
 (424,fL "_law_take" "_law_take" (top 68) 423),
 (425,⟨(.type "tuple"),none,(.seq #[] 0),#[]⟩),
 (427,⟨(.type "tuple"),none,(.seq #[(.str "row" 807),(.str "kind" 808),(.str "some" 809),(.str "k" 810),(.str "odd" 811)] 0),#[]⟩),
 (428,⟨(.type "tuple"),none,(.seq #[] 0),#[]⟩),
 (430,cO "_law_deeds" "_law_deeds" 804 210 2 425 812),
 (431,fL "_law_deeds" "_law_deeds" (top 69) 430),
 (432,⟨(.type "tuple"),none,(.seq #[] 0),#[]⟩),
 (434,⟨(.type "tuple"),none,(.seq #[(.str "row" 818),(.str "kind" 819),(.str "events" 820),(.str "hand" 821),(.str "verb" 822),(.str "worth" 823),(.str "answer" 824)] 0),#[]⟩),
 (435,⟨(.type "tuple"),none,(.seq #[] 0),#[]⟩),
 (437,cO "_law_tale" "_law_tale" 815 223 2 432 825),
 (438,fL "_law_tale" "_law_tale" (top 70) 437),
 (439,⟨(.type "tuple"),none,(.seq #[] 0),#[]⟩),
 (441,⟨(.type "tuple"),none,(.seq #[(.str "tale" 831),(.str "way" 832),(.str "told" 833),(.str "kind" 834),(.str "e" 835)] 0),#[]⟩),
 (442,⟨(.type "tuple"),none,(.seq #[] 0),#[]⟩),
 (444,cO "_law_refused" "_law_refused" 828 239 2 439 836),
 (445,fL "_law_refused" "_law_refused" (top 71) 444),
 (446,⟨(.type "tuple"),none,(.seq #[] 0),#[]⟩),
 (448,⟨(.type "tuple"),none,(.seq #[(.str "script" 842),(.str "cell" 843),(.str "row" 844),(.str "kind" 845),(.str "tale" 846),(.str "due" 847)] 0),#[]⟩),
 (449,⟨(.type "tuple"),none,(.seq #[] 0),#[]⟩),
 (451,cO "law" "law" 839 254 1 446 848),
 (452,fL "law" "law" (top 72) 451)]
noncomputable def asY:List Addr:=376 :: asX
noncomputable def KY (P:C1):Frag:=(376,⟨.none,none,.fields #[],#[]⟩) :: KX P
noncomputable abbrev cdT:Addr:=378
noncomputable abbrev tbT:Addr:=376
noncomputable def HX:Hook:=kHook KY asY (λ _=>by kernel_rfl)
noncomputable abbrev XtX:B0->Bool:=λ s=>xlAt viewX [] s && recOk (RowW.records (OpenRow.toRowW PySem.Challenge.rw_talejudge_k15_tales_that_are_not_plain.row)) s
theorem look1 (w:W0) (os:Z2):(staticsOk (B7 PX.main.body) (boot_heap w.params) (S3X w os).abs.heap && namesBound PX (S3X w os).abs.heap && gensDone (S3X w os).abs && laidKept (boot_heap w.params) (S3X w os).abs.heap)=true:=by kernel_rfl
theorem look2 (w:W0) (os:Z2):openSeen viewX looseX (B7 PX.main.body) XtX true (S3X w os).abs=openGood viewX looseX:=by rw [PySem.W.Fast.te4187177175401517315];kernel_rfl
theorem look3 (w:W0) (os:Z2):Hook.obs HX (S3X w os).abs=Hook.val HX w:=by kernel_rfl
theorem leftX:LeftO PX viewX looseX XtX (Hook.obs HX) (Hook.val HX) 200000:=
 zfk (H₀:=boot_heap) (gs₀:=Array.mk []) (boot_open (by kernel_rfl) (by decide) (λ s=>rfl)) (λ w=>by kernel_rfl) zf1 look1 look2 look3
end K15
set_option maxHeartbeats 4000000
namespace L2
open PySem PySem.Spec PyProof.Rows
theorem FnScope.k {N P:List Str} {sc:Scope} (a:sc.kind=.function:=by exact rfl) (b:sc.isCoroutine=false:=by exact rfl) (c:sc.isGenerator=false:=by exact rfl) (d:N.Nodup:=by decide +kernel) (e:N.take P.length=P:=by exact rfl) (f :∀x∈P,sc.names.lookup x=some .local\/sc.names.lookup x=some .cell:=by decide +kernel) (g :∀y∈sc.names,y.2≠.free:=by decide +kernel):FnScope N P sc:=⟨a,b,c,d,e,f,g⟩
theorem newA {H:Hp} {p:Addr} (o:HO) (h:H p=none) :∃H',H'=upd H p o/\Same H H'/\H' p=some o:=⟨_,rfl,Same.upd h,z02⟩
theorem iteK {c A B:Prop} [Decidable c] (h:B) (hc:¬ c:=by decide +kernel):if c then A else B:=iteN hc h
theorem pg_cn {X:Cx} {scope:Scope} {cl:List (Str×Addr)} {N:List Str} {C:Addr} {s₂:B0} {H₂:Hp} {fp:List Addr} {x:Str} {px:Pos} (i:Nat) (hN:N.Nodup:=by decide +kernel) (hi:N[i]? = some x:=by exact rfl) (hx:scope.names.lookup x=some .local:=by exact rfl):PG (cxComp X scope cl N C s₂ H₂ fp) (.Name x px) (gName i):=zf2 i hN hi hx
theorem pe_cg {X:Cx} {xs:List Str} {tg:Expr} {g:TG} {pos:Pos} {elt iter:Expr} {ifs:List Expr} {scope:Scope} {fr:List (Nat×Str)} {wi:TI} {tc:TT} {te:TE} (hi:PI X tg iter wi)
  (hg :∀cl C s₂ H₂ fp,PG (cxComp X scope cl (xs++fr.map (·.2)) C s₂ H₂ fp) tg g)
  (ht :∀cl C s₂ H₂ fp,PF (cxComp X scope cl (xs++fr.map (·.2)) C s₂ H₂ fp) ifs tc) (he :∀cl C s₂ H₂ fp,PE (cxComp X scope cl (xs++fr.map (·.2)) C s₂ H₂ fp) elt te) (hcalm:X.calm=true:=by exact rfl)
  (hfr :∀p∈fr,X.N[p.1]? = some p.2/\(X.env.kindOf p.2=some .cell\/X.env.kindOf p.2=some .free):=by first|exact λ _ z=>absurd z F0|(intro p hp;obtain rfl:=List.mem_singleton.mp hp;first|exact ⟨rfl,.inl rfl⟩|exact ⟨rfl,.inr rfl⟩))
  (hin:(scope.names.all λ y=>y.2 != E2 || fr.any λ p=>p.2 == y.1)=true:=by decide +kernel)
  (hfs :∀p∈fr,(p.2,E2)∈scope.names/\((a8 scope X.env).names.lookup p.2=some .cell\/(a8 scope X.env).names.lookup p.2=some .free):=by first|exact λ _ z=>absurd z F0|(intro p hp;obtain rfl:=List.mem_singleton.mp hp;exact ⟨by decide +kernel,by first|exact .inl rfl|exact .inr rfl⟩))
  (hcell :∀y∈scope.names,y.2≠NameKind.cell:=by decide +kernel) (hkind:scope.kind=.function:=by exact rfl) (hnames :∀y∈scope.names,y.2=NameKind.local->scope.names.lookup y.1=some .local:=by decide +kernel)
  (hs :∀x,E6 iter X.env x=S3 x:=by intro _;rfl):PE X (.ListComp elt [⟨tg,iter,ifs,0⟩] scope pos) (tCompG wi xs.length fr g tc te):=
 zfz hcalm hi hfr (λ y a e=>by
  have h:=List.all_eq_true.mp hin y a;rw [e] at h;obtain ⟨p,hp,z⟩:=List.any_eq_true.mp (show fr.any (λ p=>p.2 == y.1)=true from h);have:=(hfr p hp).2
  rwa [eq_of_beq z] at this) hfs hcell hkind hnames hg ht he hs
end L2
namespace K15
open PySem PySem.Spec PyProof.Rows TJ L2
abbrev Gg (n:Str) (a:Addr):Prop:=∀P,T3 (KX P) B2 n=some (some (.ref a))
abbrev Gn (n:Str):Prop:=∀P,T3 (KX P) B2 n=some none
noncomputable abbrev kx (w:W0):=KX w.params
noncomputable abbrev Ca (P:Program) (w:W0) (mg:Str->Option Value) (base:Heap):=Cal P w (KX w.params) mg base
noncomputable abbrev CaE (P:Program) (w:W0) (mg:Str->Option Value) (base:Heap):=CalE P w (KX w.params) mg base
noncomputable abbrev Fo (P:Program) (w:W0) (mg:Str->Option Value) (base:Heap):=FnOk P w (KX w.params) mg base
theorem z08:Gn "isinstance":=λ _=>by kernel_rfl
theorem n_len:Gn "len":=λ _=>by kernel_rfl
theorem n_all:Gn "all":=λ _=>by kernel_rfl
theorem n_max:Gn "max":=λ _=>by kernel_rfl
theorem n_min:Gn "min":=λ _=>by kernel_rfl
theorem n_int:Gn "int":=λ _=>by kernel_rfl
theorem n_str:Gn "str":=λ _=>by kernel_rfl
theorem n_bool:Gn "bool":=λ _=>by kernel_rfl
theorem z6l:Gn "tuple":=λ _=>by kernel_rfl
theorem n_list:Gn "list":=λ _=>by kernel_rfl
theorem zg7:Gn "range":=λ _=>by kernel_rfl
theorem zcb:Gn "sorted":=λ _=>by kernel_rfl
theorem n_dict:Gn "dict":=λ _=>by kernel_rfl
theorem n_set:Gn "set":=λ _=>by kernel_rfl
theorem z4f:Gn "enumerate":=λ _=>by kernel_rfl
theorem z40 (P:C1):T3 (KX P) B2 "GREATEST_WORTH" = some (some (.int (1000000000) 189)):=by kernel_rfl
theorem z4r (P:C1):T3 (KX P) B2 "LONGEST_NAME" = some (some (.int (8) 191)):=by kernel_rfl
theorem z44 (P:C1):T3 (KX P) B2 "SMALL_LETTERS" = some (some (.str "abcdefghijklmnopqrstuvwxyz" 193)):=by kernel_rfl
theorem zc3:Gg "is_whole" 21:=λ _=>by kernel_rfl
theorem z9q:Gg "is_within" 28:=λ _=>by kernel_rfl
theorem zcf:Gg "is_worth" 35:=λ _=>by kernel_rfl
theorem zco:Gg "is_name" 40:=λ _=>by kernel_rfl
theorem z73:Gg "is_tuple_of" 47:=λ _=>by kernel_rfl
theorem z4e:Gg "TaleError" 57:=λ _=>by kernel_rfl
theorem zat:Gg "NoDeed" 70:=λ _=>by kernel_rfl
theorem zci:Gg "NoTale" 82:=λ _=>by kernel_rfl
theorem z2a:Gg "NoStrictness" 94:=λ _=>by kernel_rfl
theorem z86:Gg "NoThing" 106:=λ _=>by kernel_rfl
theorem z8z:Gg "NoOrder" 118:=λ _=>by kernel_rfl
theorem zab:Gg "NoHand" 130:=λ _=>by kernel_rfl
theorem z36:Gg "NotPlain" 142:=λ _=>by kernel_rfl
theorem zbv:Gg "NoPlan" 154:=λ _=>by kernel_rfl
theorem z3d:Gg "NoDealings" 166:=λ _=>by kernel_rfl
theorem zem:Gg "NoRow" 178:=λ _=>by kernel_rfl
theorem z5p:Gg "FIRST_STATES" 181:=λ _=>by kernel_rfl
theorem z2y:Gg "WORTHS_OF_VERBS" 184:=λ _=>by kernel_rfl
theorem zga:Gg "DOERS" 246:=λ _=>by kernel_rfl
theorem zd2:Gg "is_kind" 265:=λ _=>by kernel_rfl
theorem ze5:Gg "is_deed" 270:=λ _=>by kernel_rfl
theorem z62 (P:C1):T3 (KX P) B2 "MOST_THINGS" = some (some (.int (6) 598)):=by kernel_rfl
theorem z6c (P:C1):T3 (KX P) B2 "MOST_BEGINS" = some (some (.int (24) 600)):=by kernel_rfl
theorem z9m (P:C1):T3 (KX P) B2 "LAST_HAND" = some (some (.int (5) 602)):=by kernel_rfl
theorem z2z (P:C1):T3 (KX P) B2 "GREATEST_ANSWER" = some (some (.int (1000000000000) 604)):=by kernel_rfl
theorem z4t:Gg "ANSWER_WORDS" 271:=λ _=>by kernel_rfl
theorem z9r:Gg "make_tale" 278:=λ _=>by kernel_rfl
theorem z6v:Gg "make_things" 283:=λ _=>by kernel_rfl
theorem zbj:Gg "is_thing" 290:=λ _=>by kernel_rfl
theorem z6u:Gg "make_events" 295:=λ _=>by kernel_rfl
theorem zbt:Gg "is_begin" 302:=λ _=>by kernel_rfl
theorem zfo:Gg "is_end" 309:=λ _=>by kernel_rfl
theorem zba:Gg "is_event" 316:=λ _=>by kernel_rfl
theorem zdf:Gg "is_hand" 323:=λ _=>by kernel_rfl
theorem z9u:Gg "is_answer" 330:=λ _=>by kernel_rfl
theorem z6k:Gg "go_by_turns" 337:=λ _=>by kernel_rfl
theorem zh1:Gg "deeds" 344:=λ _=>by kernel_rfl
theorem z6q:Gg "FIRST_WRITE" 345:=λ _=>by kernel_rfl
theorem z2w:Gg "plain_deeds" 350:=λ _=>by kernel_rfl
theorem z9a:Gg "are_plain" 355:=λ _=>by kernel_rfl
theorem z6m:Gg "is_answered" 362:=λ _=>by kernel_rfl
theorem zdp:Gg "writers" 369:=λ _=>by kernel_rfl
theorem z5z:Gg "ended_reads" 374:=λ _=>by kernel_rfl
theorem zew:Gg "zones" 379:=λ _=>by kernel_rfl
theorem zd6:Gg "zone_of" 384:=λ _=>by kernel_rfl
theorem z4l:Gg "collision" 391:=λ _=>by kernel_rfl
theorem z76:Gg "first_pair" 398:=λ _=>by kernel_rfl
theorem zcy:Gg "of_kind" 403:=λ _=>by kernel_rfl
theorem zda:Gg "collide" 410:=λ _=>by kernel_rfl
theorem zc6:Gg "_law_row" 417:=λ _=>by kernel_rfl
theorem z97:Gg "_law_take" 424:=λ _=>by kernel_rfl
theorem z7s:Gg "_law_deeds" 431:=λ _=>by kernel_rfl
theorem z9w:Gg "_law_tale" 438:=λ _=>by kernel_rfl
theorem z5q:Gg "_law_refused" 445:=λ _=>by kernel_rfl
theorem g_law:Gg "law" 452:=λ _=>by kernel_rfl
theorem zbi (P:C1):M8 (KX P) 142 [.type "ValueError",.type "Exception",.type "BaseException",.type "object"] "ValueError.__new__" = true:=by kernel_rfl
theorem z1p (P:C1):excCls (KX P) 142=true:=by kernel_rfl
noncomputable def kl_FIRST_STATES:List (Str×V):=[("register",.int (0)),("counter",.int (0)),("queue",.ref 182),("set",.ref 183),("cell",.int (0))]
theorem z42 (P:C1):KDict (KX P) P 181 kl_FIRST_STATES:=⟨⟨#[⟨(c0 P "register"),(.str "register" 413),(.int (0) 414)⟩,⟨(c0 P "counter"),(.str "counter" 415),(.int (0) 416)⟩,⟨(c0 P "queue"),(.str "queue" 417),(.ref 182)⟩,⟨(c0 P "set"),(.str "set" 418),(.ref 183)⟩,⟨(c0 P "cell"),(.str "cell" 419),(.int (0) 420)⟩],5,by kernel_rfl,(.cons ⟨⟨_,rfl⟩,rfl,⟨_,rfl⟩⟩ (.cons ⟨⟨_,rfl⟩,rfl,⟨_,rfl⟩⟩ (.cons ⟨⟨_,rfl⟩,rfl,rfl⟩ (.cons ⟨⟨_,rfl⟩,rfl,rfl⟩ (.cons ⟨⟨_,rfl⟩,rfl,⟨_,rfl⟩⟩ .nil)))))⟩,by decide⟩
noncomputable def kl_WORTHS_OF_VERBS:List (Str×V):=[("read",.int (0)),("take",.int (0)),("write",.int (1)),("add",.int (1)),("put",.int (1)),("cut",.int (1)),("has",.int (1)),("swap",.int (2))]
theorem z2k (P:C1):KDict (KX P) P 184 kl_WORTHS_OF_VERBS:=⟨⟨#[⟨(c0 P "read"),(.str "read" 427),(.int (0) 428)⟩,⟨(c0 P "take"),(.str "take" 429),(.int (0) 430)⟩,⟨(c0 P "write"),(.str "write" 431),(.int (1) 432)⟩,⟨(c0 P "add"),(.str "add" 433),(.int (1) 434)⟩,⟨(c0 P "put"),(.str "put" 435),(.int (1) 436)⟩,⟨(c0 P "cut"),(.str "cut" 437),(.int (1) 438)⟩,⟨(c0 P "has"),(.str "has" 439),(.int (1) 440)⟩,⟨(c0 P "swap"),(.str "swap" 441),(.int (2) 442)⟩],8,by kernel_rfl,(.cons ⟨⟨_,rfl⟩,rfl,⟨_,rfl⟩⟩ (.cons ⟨⟨_,rfl⟩,rfl,⟨_,rfl⟩⟩ (.cons ⟨⟨_,rfl⟩,rfl,⟨_,rfl⟩⟩ (.cons ⟨⟨_,rfl⟩,rfl,⟨_,rfl⟩⟩ (.cons ⟨⟨_,rfl⟩,rfl,⟨_,rfl⟩⟩ (.cons ⟨⟨_,rfl⟩,rfl,⟨_,rfl⟩⟩ (.cons ⟨⟨_,rfl⟩,rfl,⟨_,rfl⟩⟩ (.cons ⟨⟨_,rfl⟩,rfl,⟨_,rfl⟩⟩ .nil))))))))⟩,by decide⟩
noncomputable def kl_DOERS:List ((Str×Str)×V):=[(("register","read"),.ref 191),(("register","write"),.ref 198),(("counter","read"),.ref 191),(("counter","add"),.ref 205),(("queue","put"),.ref 212),(("queue","take"),.ref 219),(("set","put"),.ref 226),(("set","cut"),.ref 231),(("set","has"),.ref 238),(("cell","read"),.ref 191),(("cell","write"),.ref 198),(("cell","swap"),.ref 245)]
theorem zg1 (P:C1):KDictT (KX P) P 246 kl_DOERS:=⟨⟨#[⟨(O1 (y0 [c0 P "register",c0 P "read"])),(.ref 247),(.ref 191)⟩,⟨(O1 (y0 [c0 P "register",c0 P "write"])),(.ref 248),(.ref 198)⟩,⟨(O1 (y0 [c0 P "counter",c0 P "read"])),(.ref 249),(.ref 191)⟩,⟨(O1 (y0 [c0 P "counter",c0 P "add"])),(.ref 250),(.ref 205)⟩,⟨(O1 (y0 [c0 P "queue",c0 P "put"])),(.ref 251),(.ref 212)⟩,⟨(O1 (y0 [c0 P "queue",c0 P "take"])),(.ref 252),(.ref 219)⟩,⟨(O1 (y0 [c0 P "set",c0 P "put"])),(.ref 253),(.ref 226)⟩,⟨(O1 (y0 [c0 P "set",c0 P "cut"])),(.ref 254),(.ref 231)⟩,⟨(O1 (y0 [c0 P "set",c0 P "has"])),(.ref 255),(.ref 238)⟩,⟨(O1 (y0 [c0 P "cell",c0 P "read"])),(.ref 256),(.ref 191)⟩,⟨(O1 (y0 [c0 P "cell",c0 P "write"])),(.ref 257),(.ref 198)⟩,⟨(O1 (y0 [c0 P "cell",c0 P "swap"])),(.ref 258),(.ref 245)⟩],12,by kernel_rfl,(.cons ⟨⟨247,522,523,0,rfl,by kernel_rfl⟩,rfl,rfl⟩ (.cons ⟨⟨248,524,525,0,rfl,by kernel_rfl⟩,rfl,rfl⟩ (.cons ⟨⟨249,526,527,0,rfl,by kernel_rfl⟩,rfl,rfl⟩ (.cons ⟨⟨250,528,529,0,rfl,by kernel_rfl⟩,rfl,rfl⟩ (.cons ⟨⟨251,530,531,0,rfl,by kernel_rfl⟩,rfl,rfl⟩ (.cons ⟨⟨252,532,533,0,rfl,by kernel_rfl⟩,rfl,rfl⟩ (.cons ⟨⟨253,534,535,0,rfl,by kernel_rfl⟩,rfl,rfl⟩ (.cons ⟨⟨254,536,537,0,rfl,by kernel_rfl⟩,rfl,rfl⟩ (.cons ⟨⟨255,538,539,0,rfl,by kernel_rfl⟩,rfl,rfl⟩ (.cons ⟨⟨256,540,541,0,rfl,by kernel_rfl⟩,rfl,rfl⟩ (.cons ⟨⟨257,542,543,0,rfl,by kernel_rfl⟩,rfl,rfl⟩ (.cons ⟨⟨258,544,545,0,rfl,by kernel_rfl⟩,rfl,rfl⟩ .nil))))))))))))⟩,by decide +kernel,by decide⟩
noncomputable abbrev y1e:Stmt:=top 4
noncomputable abbrev y0i:FuncData:=fnX "is_whole" "is_whole" (top 4) "talejudge.basics" 187 20
theorem z3m (P:C1):Fun (KX P) "is_whole" "is_whole" y1e 21 y0i:=z0e
theorem zbp (P:C1):Binds (KX P) y0i ["value"] []:=(z3m P).binds λ _ _ _ _ _ _=>us1 λ _=>rfl
theorem z9h:FnScope ["value"] ["value"] (z07 y1e):=.k
noncomputable abbrev y16:Stmt:=top 5
noncomputable abbrev y0b:FuncData:=fnX "is_within" "is_within" (top 5) "talejudge.basics" 187 27
theorem z2i (P:C1):Fun (KX P) "is_within" "is_within" y16 28 y0b:=z0e
theorem z9c (P:C1):Binds (KX P) y0b ["value","greatest"] []:=(z2i P).binds λ _ _ _ _ _ _=>us2 λ _ _=>rfl
theorem z7p:FnScope ["value","greatest"] ["value","greatest"] (z07 y16):=.k
noncomputable abbrev y1f:Stmt:=top 6
noncomputable abbrev y0j:FuncData:=fnX "is_worth" "is_worth" (top 6) "talejudge.basics" 187 34
theorem z3v (P:C1):Fun (KX P) "is_worth" "is_worth" y1f 35 y0j:=z0e
theorem zac (P:C1):Binds (KX P) y0j ["value"] []:=(z3v P).binds λ _ _ _ _ _ _=>us1 λ _=>rfl
theorem z9p:FnScope ["value"] ["value"] (z07 y1f):=.k
noncomputable abbrev y1l:Stmt:=top 7
noncomputable abbrev y0v:FuncData:=fnX "is_name" "is_name" (top 7) "talejudge.basics" 187 39
theorem z57 (P:C1):Fun (KX P) "is_name" "is_name" y1l 40 y0v:=z0e
theorem zcs (P:C1):Binds (KX P) y0v ["value"] []:=(z57 P).binds λ _ _ _ _ _ _=>us1 λ _=>rfl
theorem zar:FnScope ["value"] ["value"] (z07 y1l):=.k
noncomputable abbrev y0o:Stmt:=top 8
noncomputable abbrev y03:FuncData:=fnX "is_tuple_of" "is_tuple_of" (top 8) "talejudge.basics" 187 46
theorem z1n (P:C1):Fun (KX P) "is_tuple_of" "is_tuple_of" y0o 47 y03:=z0e
theorem z67 (P:C1):Binds (KX P) y03 ["value","many"] []:=(z1n P).binds λ _ _ _ _ _ _=>us2 λ _ _=>rfl
theorem z5v:FnScope ["value","many"] ["value","many"] (z07 y0o):=.k
noncomputable abbrev y1m:Stmt:=top 34
noncomputable abbrev y0w:FuncData:=fnX "is_kind" "is_kind" (top 34) "talejudge.store" 411 264
theorem z5l (P:C1):Fun (KX P) "is_kind" "is_kind" y1m 265 y0w:=z0e
theorem zdy (P:C1):Binds (KX P) y0w ["kind"] []:=(z5l P).binds λ _ _ _ _ _ _=>us1 λ _=>rfl
theorem zbn:FnScope ["kind"] ["kind"] (z07 y1m):=.k
noncomputable abbrev y1n:Stmt:=top 35
noncomputable abbrev y0x:FuncData:=fnX "is_deed" "is_deed" (top 35) "talejudge.store" 411 269
theorem z53 (P:C1):Fun (KX P) "is_deed" "is_deed" y1n 270 y0x:=z0e
theorem zeb (P:C1):Binds (KX P) y0x ["kind","verb","worth"] []:=(z53 P).binds λ _ _ _ _ _ _=>us3 λ _ _ _=>rfl
theorem sc_is_deed:FnScope ["kind","verb","worth","many"] ["kind","verb","worth"] (z07 y1n):=.k
noncomputable abbrev y17:Stmt:=top 42
noncomputable abbrev y0c:FuncData:=fnX "make_tale" "make_tale" (top 42) "talejudge.tales" 596 277
theorem z2j (P:C1):Fun (KX P) "make_tale" "make_tale" y17 278 y0c:=z0e
theorem z9t (P:C1):Binds (KX P) y0c ["things","events"] []:=(z2j P).binds λ _ _ _ _ _ _=>us2 λ _ _=>rfl
theorem sc_make_tale:FnScope ["things","events","own_things"] ["things","events"] (z07 y17):=.k
noncomputable abbrev y0p:Stmt:=top 43
noncomputable abbrev y04:FuncData:=fnX "make_things" "make_things" (top 43) "talejudge.tales" 596 282
theorem z1l (P:C1):Fun (KX P) "make_things" "make_things" y0p 283 y04:=z0e
theorem z6d (P:C1):Binds (KX P) y04 ["things"] []:=(z1l P).binds λ _ _ _ _ _ _=>us1 λ _=>rfl
theorem z5n:FnScope ["things"] ["things"] (z07 y0p):=.k
noncomputable abbrev y1g:Stmt:=top 44
noncomputable abbrev y0k:FuncData:=fnX "is_thing" "is_thing" (top 44) "talejudge.tales" 596 289
theorem z3o (P:C1):Fun (KX P) "is_thing" "is_thing" y1g 290 y0k:=z0e
theorem zca (P:C1):Binds (KX P) y0k ["thing"] []:=(z3o P).binds λ _ _ _ _ _ _=>us1 λ _=>rfl
theorem z98:FnScope ["thing"] ["thing"] (z07 y1g):=.k
noncomputable abbrev y0q:Stmt:=top 45
noncomputable abbrev y05:FuncData:=fnX "make_events" "make_events" (top 45) "talejudge.tales" 596 294
theorem z1i (P:C1):Fun (KX P) "make_events" "make_events" y0q 295 y05:=z0e
theorem z6e (P:C1):Binds (KX P) y05 ["events","kinds"] []:=(z1i P).binds λ _ _ _ _ _ _=>us2 λ _ _=>rfl
theorem z5o:FnScope ["events","kinds"] ["events","kinds"] (z07 y0q):=.k
noncomputable abbrev y1h:Stmt:=top 46
noncomputable abbrev y0l:FuncData:=fnX "is_begin" "is_begin" (top 46) "talejudge.tales" 596 301
theorem z3k (P:C1):Fun (KX P) "is_begin" "is_begin" y1h 302 y0l:=z0e
theorem zbm (P:C1):Binds (KX P) y0l ["event","kinds"] []:=(z3k P).binds λ _ _ _ _ _ _=>us2 λ _ _=>rfl
theorem z9s:FnScope ["event","kinds"] ["event","kinds"] (z07 y1h):=.k
noncomputable abbrev y1t:Stmt:=top 47
noncomputable abbrev y18:FuncData:=fnX "is_end" "is_end" (top 47) "talejudge.tales" 596 308
theorem z7n (P:C1):Fun (KX P) "is_end" "is_end" y1t 309 y18:=z0e
theorem zfs (P:C1):Binds (KX P) y18 ["event"] []:=(z7n P).binds λ _ _ _ _ _ _=>us1 λ _=>rfl
theorem ze8:FnScope ["event"] ["event"] (z07 y1t):=.k
noncomputable abbrev y1i:Stmt:=top 48
noncomputable abbrev y0m:FuncData:=fnX "is_event" "is_event" (top 48) "talejudge.tales" 596 315
theorem z38 (P:C1):Fun (KX P) "is_event" "is_event" y1i 316 y0m:=z0e
theorem zau (P:C1):Binds (KX P) y0m ["event","word","many"] []:=(z38 P).binds λ _ _ _ _ _ _=>us3 λ _ _ _=>rfl
theorem z9d:FnScope ["event","word","many"] ["event","word","many"] (z07 y1i):=.k
noncomputable abbrev y1o:Stmt:=top 49
noncomputable abbrev y0y:FuncData:=fnX "is_hand" "is_hand" (top 49) "talejudge.tales" 596 322
theorem z5j (P:C1):Fun (KX P) "is_hand" "is_hand" y1o 323 y0y:=z0e
theorem ze9 (P:C1):Binds (KX P) y0y ["hand"] []:=(z5j P).binds λ _ _ _ _ _ _=>us1 λ _=>rfl
theorem zbk:FnScope ["hand"] ["hand"] (z07 y1o):=.k
noncomputable abbrev y19:Stmt:=top 50
noncomputable abbrev y0d:FuncData:=fnX "is_answer" "is_answer" (top 50) "talejudge.tales" 596 329
theorem z2h (P:C1):Fun (KX P) "is_answer" "is_answer" y19 330 y0d:=z0e
theorem za0 (P:C1):Binds (KX P) y0d ["answer"] []:=(z2h P).binds λ _ _ _ _ _ _=>us1 λ _=>rfl
theorem z7j:FnScope ["answer"] ["answer"] (z07 y19):=.k
noncomputable abbrev y0r:Stmt:=top 51
noncomputable abbrev y06:FuncData:=fnX "go_by_turns" "go_by_turns" (top 51) "talejudge.tales" 596 336
theorem z1g (P:C1):Fun (KX P) "go_by_turns" "go_by_turns" y0r 337 y06:=z0e
theorem z6j (P:C1):Binds (KX P) y06 ["events"] []:=(z1g P).binds λ _ _ _ _ _ _=>us1 λ _=>rfl
theorem sc_go_by_turns:FnScope ["events","busy","event","begins"] ["events"] (z07 y0r):=.k
noncomputable abbrev y1u:Stmt:=top 52
noncomputable abbrev y1k:FuncData:=fnX "deeds" "deeds" (top 52) "talejudge.tales" 596 343
theorem zag (P:C1):Fun (KX P) "deeds" "deeds" y1u 344 y1k:=z0e
theorem zgq (P:C1):Binds (KX P) y1k ["tale"] []:=(zag P).binds λ _ _ _ _ _ _=>us1 λ _=>rfl
theorem sc_deeds:FnScope ["tale","told","numbers","place","event","number","begun"] ["tale"] (z07 y1u):=.k
noncomputable abbrev y0s:Stmt:=top 55
noncomputable abbrev y00:FuncData:=fnX "plain_deeds" "plain_deeds" (top 55) "talejudge.zones" 698 349
theorem z0u (P:C1):Fun (KX P) "plain_deeds" "plain_deeds" y0s 350 y00:=z0e
theorem z2o (P:C1):Binds (KX P) y00 ["tale"] []:=(z0u P).binds λ _ _ _ _ _ _=>us1 λ _=>rfl
theorem sc_plain_deeds:FnScope ["tale","told"] ["tale"] (z07 y0s):=.k
noncomputable abbrev y1a:Stmt:=top 56
noncomputable abbrev y0e:FuncData:=fnX "are_plain" "are_plain" (top 56) "talejudge.zones" 698 354
theorem z2l (P:C1):Fun (KX P) "are_plain" "are_plain" y1a 355 y0e:=z0e
theorem z9o (P:C1):Binds (KX P) y0e ["told"] []:=(z2l P).binds λ _ _ _ _ _ _=>us1 λ _=>rfl
theorem sc_are_plain:FnScope ["told","worths"] ["told"] (z07 y1a):=.k
noncomputable abbrev y0t:Stmt:=top 57
noncomputable abbrev y07:FuncData:=fnX "is_answered" "is_answered" (top 57) "talejudge.zones" 698 361
theorem z1m (P:C1):Fun (KX P) "is_answered" "is_answered" y0t 362 y07:=z0e
theorem z72 (P:C1):Binds (KX P) y07 ["deed"] []:=(z1m P).binds λ _ _ _ _ _ _=>us1 λ _=>rfl
theorem z5e:FnScope ["deed"] ["deed"] (z07 y0t):=.k
noncomputable abbrev y1p:Stmt:=top 58
noncomputable abbrev y0z:FuncData:=fnX "writers" "writers" (top 58) "talejudge.zones" 698 368
theorem z4w (P:C1):Fun (KX P) "writers" "writers" y1p 369 y0z:=z0e
theorem ze3 (P:C1):Binds (KX P) y0z ["told"] []:=(z4w P).binds λ _ _ _ _ _ _=>us1 λ _=>rfl
theorem sc_writers:FnScope ["told","found","deed"] ["told"] (z07 y1p):=.k
noncomputable abbrev y0u:Stmt:=top 59
noncomputable abbrev y08:FuncData:=fnX "ended_reads" "ended_reads" (top 59) "talejudge.zones" 698 373
theorem z1k (P:C1):Fun (KX P) "ended_reads" "ended_reads" y0u 374 y08:=z0e
theorem z63 (P:C1):Binds (KX P) y08 ["told"] []:=(z1k P).binds λ _ _ _ _ _ _=>us1 λ _=>rfl
theorem z5a:FnScope ["told"] ["told"] (z07 y0u):=.k
noncomputable abbrev y1v:Stmt:=top 60
noncomputable abbrev y10:FuncData:=fnX "zones" "zones" (top 60) "talejudge.zones" 698 378
theorem z69 (P:C1):Fun (KX P) "zones" "zones" y1v 379 y10:=z0e
theorem zeq (P:C1):Binds (KX P) y10 ["tale"] []:=(z69 P).binds λ _ _ _ _ _ _=>us1 λ _=>rfl
theorem sc_zones:FnScope ["tale","told","found","worth","write","spans"] ["tale"] (z07 y1v):=.k
noncomputable abbrev y1q:Stmt:=top 61
noncomputable abbrev y11:FuncData:=fnX "zone_of" "zone_of" (top 61) "talejudge.zones" 698 383
theorem z5t (P:C1):Fun (KX P) "zone_of" "zone_of" y1q 384 y11:=z0e
theorem zcq (P:C1):Binds (KX P) y11 ["worth","spans"] []:=(z5t P).binds λ _ _ _ _ _ _=>us2 λ _ _=>rfl
theorem sc_zone_of:FnScope ["worth","spans","least","greatest"] ["worth","spans"] (z07 y1q):=.k
noncomputable abbrev y1b:Stmt:=top 62
noncomputable abbrev y01:FuncData:=fnX "collision" "collision" (top 62) "talejudge.zones" 698 390
theorem z14 (P:C1):Fun (KX P) "collision" "collision" y1b 391 y01:=z0e
theorem z4m (P:C1):Binds (KX P) y01 ["tale"] []:=(z14 P).binds λ _ _ _ _ _ _=>us1 λ _=>rfl
theorem sc_collision:FnScope ["tale","told","written","number","read"] ["tale"] (z07 y1b):=.k
noncomputable abbrev y14:Stmt:=top 63
noncomputable abbrev y09:FuncData:=fnX "first_pair" "first_pair" (top 63) "talejudge.zones" 698 397
theorem z21 (P:C1):Fun (KX P) "first_pair" "first_pair" y14 398 y09:=z0e
theorem z7h (P:C1):Binds (KX P) y09 ["found"] []:=(z21 P).binds λ _ _ _ _ _ _=>us1 λ _=>rfl
theorem sc_first_pair:FnScope ["found","kind","zone","other"] ["found"] (z07 y14):=.k
noncomputable abbrev y1r:Stmt:=top 64
noncomputable abbrev y12:FuncData:=fnX "of_kind" "of_kind" (top 64) "talejudge.zones" 698 402
theorem z4q (P:C1):Fun (KX P) "of_kind" "of_kind" y1r 403 y12:=z0e
theorem zea (P:C1):Binds (KX P) y12 ["found","kind"] []:=(z4q P).binds λ _ _ _ _ _ _=>us2 λ _ _=>rfl
theorem zb9:FnScope ["found","kind"] ["found","kind"] (z07 y1r):=.k
noncomputable abbrev y1s:Stmt:=top 65
noncomputable abbrev y13:FuncData:=fnX "collide" "collide" (top 65) "talejudge.zones" 698 409
theorem z5h (P:C1):Fun (KX P) "collide" "collide" y1s 410 y13:=z0e
theorem zdg (P:C1):Binds (KX P) y13 ["zone","other"] []:=(z5h P).binds λ _ _ _ _ _ _=>us2 λ _ _=>rfl
theorem zap:FnScope ["zone","other"] ["zone","other"] (z07 y1s):=.k
noncomputable abbrev y1j:Stmt:=top 67
noncomputable abbrev y0n:FuncData:=fY "_law_row" "_law_row" (top 67) 416
theorem z3y (P:C1):Fun (KX P) "_law_row" "_law_row" y1j 417 y0n:=z0e
theorem zb6 (P:C1):Binds (KX P) y0n ["cell"] []:=(z3y P).binds λ _ _ _ _ _ _=>us1 λ _=>rfl
theorem z9e:FnScope ["cell"] ["cell"] (z07 y1j):=.k
noncomputable abbrev y1c:Stmt:=top 68
noncomputable abbrev y0f:FuncData:=fY "_law_take" "_law_take" (top 68) 423
theorem z2g (P:C1):Fun (KX P) "_law_take" "_law_take" y1c 424 y0f:=z0e
theorem z9y (P:C1):Binds (KX P) y0f ["row","many"] []:=(z2g P).binds λ _ _ _ _ _ _=>us2 λ _ _=>rfl
theorem sc__law_take:FnScope ["row","many","told"] ["row","many"] (z07 y1c):=.k
noncomputable abbrev y15:Stmt:=top 69
noncomputable abbrev y0a:FuncData:=fY "_law_deeds" "_law_deeds" (top 69) 430
theorem z1y (P:C1):Fun (KX P) "_law_deeds" "_law_deeds" y15 431 y0a:=z0e
theorem z82 (P:C1):Binds (KX P) y0a ["row","kind"] []:=(z1y P).binds λ _ _ _ _ _ _=>us2 λ _ _=>rfl
theorem sc__law_deeds:FnScope ["row","kind","some","k","odd"] ["row","kind"] (z07 y15):=.k
noncomputable abbrev y1d:Stmt:=top 70
noncomputable abbrev y0g:FuncData:=fY "_law_tale" "_law_tale" (top 70) 437
theorem z2m (P:C1):Fun (KX P) "_law_tale" "_law_tale" y1d 438 y0g:=z0e
theorem z9x (P:C1):Binds (KX P) y0g ["row","kind"] []:=(z2m P).binds λ _ _ _ _ _ _=>us2 λ _ _=>rfl
theorem sc__law_tale:FnScope ["row","kind","events","hand","verb","worth","answer"] ["row","kind"] (z07 y1d):=.k
noncomputable abbrev y0h:Stmt:=top 71
noncomputable abbrev y02:FuncData:=fY "_law_refused" "_law_refused" (top 71) 444
theorem z17 (P:C1):Fun (KX P) "_law_refused" "_law_refused" y0h 445 y02:=z0e
theorem z5u (P:C1):Binds (KX P) y02 ["tale","way"] []:=(z17 P).binds λ _ _ _ _ _ _=>us2 λ _ _=>rfl
theorem sc__law_refused:FnScope ["tale","way","told","kind","e"] ["tale","way"] (z07 y0h):=.k
noncomputable abbrev y1w:Stmt:=top 72
noncomputable abbrev fd_law:FuncData:=fY "law" "law" (top 72) 451
theorem F_law (P:C1):Fun (KX P) "law" "law" y1w 452 fd_law:=z0e
theorem sc_law:FnScope ["script","cell","row","kind","tale","due"] ["script"] (z07 y1w):=.k
section
variable {P:Program} {w:W0} {mg:Str->Option Value} {base:Heap}
def z1s:Sp:=λ vs H Q _=>∃x T,vs=[x]/\TagOf H x T/\Q (.bl (decide (T = "int"))) H
theorem za1 (T:TX (kx w) mg):Fo P w mg base CX0 1 21 y0i ["value"] z1s:=by
 refine (z3m w.params).ok z9h (λ b H Q E h=>?_) (λ d A e s H b Q E c h=>?_)
 ·obtain ⟨x,t,rfl,_⟩:=h;rfl
 ·obtain ⟨x,t,rfl,a,q⟩:=h;refine ⟨_,(z05 (ps_ret (pe_and (z09 z0f rfl (T.no (z08 _)) V1 (z00 (pv 0) (z00 (z0w (v:=.ty "int") rfl (T.no (n_int _)) boot_int rfl) pa_nil))) (pe_one (pe_not (z09 z0f rfl (T.no (z08 _)) V1 (z00 (pv 0) (z00 (z0w (v:=.ty "bool") rfl (T.no (n_bool _)) boot_bool rfl) pa_nil)))))))),?_⟩;refine ⟨_,rfl,_,_,_,rfl,a,by decide,_,rfl,?_⟩;by_cases h1:instB t "int" = true
  ·rw [if_pos h1];refine ⟨_,rfl,_,_,_,rfl,a,by decide,_,rfl,?_⟩;rw [z5s a (by decide)];have:(!decide (t = "bool"))=decide (t = "int"):=by rcases a.one with rfl|rfl|rfl|rfl|rfl|rfl|rfl<;>revert h1<;>decide
   rw [this];exact q
  ·rw [if_neg h1];have:decide (t = "int")=false:=by rcases a.one with rfl|rfl|rfl|rfl|rfl|rfl|rfl<;>revert h1<;>decide
   rw [this] at q;exact q
def z22:Sp:=λ vs H Q _=>∃x T g,vs=[x,.int g]/\TagOf H x T/\Q (.bl (z0n x g)) H
theorem z81 (T:TX (kx w) mg) (c0:Ca P w mg base "is_whole" ["value"] 1 z1s):Fo P w mg base CX0 2 28 y0b ["value","greatest"] z22:=by
 refine (z2i w.params).ok z7p (λ c H Q E h=>?_) (λ d A e s H c Q E b h=>?_)
 ·obtain ⟨x,t,g,rfl,_⟩:=h;rfl
 ·obtain ⟨x,t,g,rfl,a,q⟩:=h;refine ⟨_,(z05 (ps_ret (pe_and (pe_cal c0 (b.mono (by decide)) rfl (z00 (pv 0) pa_nil)) (pe_one (z7k op_le op_le (pe_un un_neg (pv 1)) (pv 0) (pv 1)))))),?_⟩;refine ⟨_,rfl,x,t,rfl,a,_,rfl,?_⟩;by_cases h1:t = "int"
  ·subst h1;obtain ⟨i,rfl⟩:=a.int;refine iteT ?_;refine ⟨_,rfl,_,rfl,_,rfl,_,_,rfl,rfl,_,rfl,?_⟩;unfold z0n at q;dsimp only at q;by_cases h2:-g<=i
   ·rw [decide_eq_true h2] at q⊢;refine iteT ⟨_,rfl,_,_,rfl,rfl,?_⟩;rw [M7] at q;exact q
   ·rw [decide_eq_false h2] at q⊢;refine iteF ?_;rw [n6] at q;exact q
  ·rw [decide_eq_false h1];refine iteF ?_;rw [noInt a h1] at q;exact q
def z4k:Sp:=λ vs H Q _=>∃x T,vs=[x]/\TagOf H x T/\Q (.bl (z0n x 1000000000)) H
theorem z9v (T:TX (kx w) mg) (c0:Ca P w mg base "is_within" ["value","greatest"] 2 z22):Fo P w mg base CX0 3 35 y0j ["value"] z4k:=by
 refine (z3v w.params).ok z9p (λ c H Q E h=>?_) (λ d A e s H c Q E a h=>?_)
 ·obtain ⟨x,t,rfl,_⟩:=h;rfl
 ·obtain ⟨x,t,rfl,b,q⟩:=h;refine ⟨_,(z05 (ps_ret (pe_cal c0 (a.mono (by decide)) rfl (z00 (pv 0) (z00 (z0h (v:=.int (1000000000)) rfl (T.of (z40 _)) ⟨_,rfl⟩) pa_nil))))),?_⟩;exact ⟨_,rfl,x,t,1000000000,rfl,b,q⟩
def z0y:Sp:=λ vs H Q _=>∃x T m,vs=[x,.int m]/\TagOf H x T/\Q (.bl (match tupOf H x with|some xs=>decide ((xs.length:Int)=m)|none=>false)) H
theorem z4y (T:TX (kx w) mg):Fo P w mg base CX0 1 47 y03 ["value","many"] z0y:=by
 refine (z1n w.params).ok z5v (λ i H Q E h=>?_) (λ k A l s H i Q E j h=>?_)
 ·obtain ⟨x,t,g,rfl,_⟩:=h;rfl
 ·obtain ⟨x,t,g,rfl,b,q⟩:=h;refine ⟨_,(z05 (ps_ret (pe_and (z09 z0f rfl (T.no (z08 _)) V1 (z00 (pv 0) (z00 (z0w (v:=.ty "tuple") rfl (T.no (z6l _)) M9 rfl) pa_nil))) (pe_one (z0x opEq (z09 z1e rfl (T.no (n_len _)) B5 (z00 (pv 0) pa_nil)) (pv 1) (nomark _)))))),?_⟩;refine ⟨_,rfl,_,_,_,rfl,b,by decide,_,rfl,?_⟩;rw [z5s b (by decide)];by_cases h1:t = "tuple"
  ·subst h1;obtain ⟨a,c,rfl,d⟩:=b.tuple;refine iteT ⟨_,rfl,.inl ⟨a,c,rfl,.inr (SqT.of d),_,rfl,rfl,?_⟩⟩;have e:tupOf H (.ref a)=some c:=by unfold tupOf;dsimp only;rw [d]
   rw [e] at q;have f:decide (V.int (c.length:Int)=V.int g)=decide ((c.length:Int)=g):=by simp
   rw [f];exact q
  ·rw [decide_eq_false h1];refine iteF ?_;rw [noTup b h1] at q;exact q
noncomputable def kindB (x:V):Bool:=match x with
 | .str z=>(kl_FIRST_STATES.lookup z).isSome
 | _=>false
def z3f:Sp:=λ vs H Q _=>∃x T,vs=[x]/\TagOf H x T/\Q (.bl (kindB x)) H
theorem zc5 (T:TX (kx w) mg):Fo P w mg base CX0 1 265 y0w ["kind"] z3f:=by
 refine (z5l w.params).ok zbn (λ b H Q E h=>?_) (λ d A e s H b Q E c h=>?_)
 ·obtain ⟨x,t,rfl,_⟩:=h;rfl
 ·obtain ⟨x,t,rfl,a,q⟩:=h;refine ⟨_,(z05 (ps_ret (pe_and (z09 z0f rfl (T.no (z08 _)) V1 (z00 (pv 0) (z00 (z0w (v:=.ty "str") rfl (T.no (n_str _)) j24 rfl) pa_nil))) (pe_one (z0x (zft (z42 _)) (pv 0) (z0h (v:=.ref 181) rfl (T.of (z5p _)) rfl) (by with_unfolding_all rfl)))))),?_⟩;refine ⟨_,rfl,_,_,_,rfl,a,by decide,_,rfl,?_⟩;rw [z5s a (by decide)];by_cases h1:t = "str"
  ·subst h1;obtain ⟨z,rfl⟩:=a.str;exact iteT ⟨_,rfl,z,rfl,rfl,q⟩
  ·rw [decide_eq_false h1];refine iteF ?_;cases x with
   | str z=>exact absurd a h1
   | _=>exact q
noncomputable def formOf (k v:Str):Int:=match kl_DOERS.lookup (k,v) with
 | none=>-1
 | some _=>(match kl_WORTHS_OF_VERBS.lookup v with|some (.int i)=>i|_=>-1)
noncomputable def deedB (H:Hp) (k v x:V):Bool:=match k,v with
 | .str a,.str b=>if formOf a b=0 then decide (x=.non) else if formOf a b=1 then z0n x 1000000000 else if formOf a b=2 then
   (match tupOf H x with|some xs=>decide (xs.length=2) && xs.all λ y=>z0n y 1000000000|none=>false) else false
 | _,_=>false
theorem z64 {a b:Str} {v:V} (h:kl_DOERS.lookup (a,b)=some v):(kl_FIRST_STATES.lookup a).isSome=true/\∃i,kl_WORTHS_OF_VERBS.lookup b=some (.int i)/\(i=0\/i=1\/i=2):=by
 have m:=z7m h;have all :∀p∈kl_DOERS,(kl_FIRST_STATES.lookup p.1.1).isSome=true/\(kl_WORTHS_OF_VERBS.lookup p.1.2=some (.int 0)\/kl_WORTHS_OF_VERBS.lookup p.1.2=some (.int 1)\/kl_WORTHS_OF_VERBS.lookup p.1.2=some (.int 2)):=by decide +kernel
 obtain ⟨d,c⟩:=all _ m;refine ⟨d,?_⟩;rcases c with c|c|c
 ·exact ⟨0,c,.inl rfl⟩
 ·exact ⟨1,c,.inr (.inl rfl)⟩
 ·exact ⟨2,c,.inr (.inr rfl)⟩
def z6n:Sp:=λ vs H Q _=>∃k v x Tk Tv Tx,vs=[k,v,x]/\TagOf H k Tk/\TagOf H v Tv/\TagOf H x Tx/\Flat H x/\∀H',Same H H'->Q (.bl (deedB H k v x)) H'
theorem zcc (T:TX (kx w) mg) (c0:Ca P w mg base "is_kind" ["kind"] 1 z3f) (c1:Ca P w mg base "is_worth" ["value"] 3 z4k) (c2:Ca P w mg base "is_tuple_of" ["value","many"] 1 z0y):Fo P w mg base CX0 4 270 y0x ["kind","verb","worth"] z6n:=by
 refine (z53 w.params).ok sc_is_deed (λ U H Q E h=>?_) (λ a2 A a1 s H U Q E m h=>?_)
 ·obtain ⟨k,v,x,S,L,u,rfl,_⟩:=h;rfl
 ·obtain ⟨k,v,x,S,L,u,rfl,hk,o,F,Y,q⟩:=h;refine ⟨_,(z03 (ps_if (PW.pt (pw_or (pt_not (pt_val (pe_cal c0 (m.mono (by decide)) rfl (z00 (pv 0) pa_nil)) (λ _=>rfl))) (pw_or (pt_not (pt_val (z09 z0f rfl (T.no (z08 _)) V1 (z00 (pv 1) (z00 (z0w (v:=.ty "str") rfl (T.no (n_str _)) j24 rfl) pa_nil))) (λ _=>rfl))) (pw_or1 (z0c (z7c (hu_of m) (zg1 _)) (pe_tup (z00 (pv 0) (z00 (pv 1) pa_nil))) (z0h (v:=.ref 246) rfl (T.of (zga _)) rfl) (by with_unfolding_all rfl))))))
   (z05 (ps_ret pe_bl))
   z0g)
   (z03 (ps_set (i:=3) sc_is_deed.nd rfl (A2 rfl) (pe_ix (ix_kd (z2k _)) (z0h (v:=.ref 184) rfl (T.of (z2y _)) rfl) (pv 1) (λ _ _=>rfl)))
   (z03 (ps_if (z0c opEq (pv 3) pe_int (nomark _))
   (z05 (ps_ret (z0x op_isN (pv 2) pe_non (nomark _))))
   z0g)
   (z03 (ps_if (z0c opEq (pv 3) pe_int (nomark _))
   (z05 (ps_ret (pe_cal c1 (m.mono (by decide)) rfl (z00 (pv 2) pa_nil))))
   z0g)
   (z05 (ps_ret (pe_and (pe_cal c2 (m.mono (by decide)) rfl (z00 (pv 2) (z00 (pv 3) pa_nil))) (pe_one (z09 (z29 rfl) rfl (T.no (n_all _)) j25 (z00 (pe_cg (xs:=["part"]) (g:=gName 0) (fr:=[]) (pi_tup (pv 2)) (λ _ _ _ _ _=>(pg_cn (N:=["part"]) 0)) (λ _ _ _ _ _=>pf_nil) (λ _ _ _ _ _=>(pe_cal c1 (m.mono (by decide)) rfl (z00 (pv 0) pa_nil)))) pa_nil)))))))))),?_⟩
  refine ⟨_,rfl,k,S,rfl,hk,_,rfl,?_⟩;have I:deedB H k v x=false->Q (.bl false) H:=λ e=>by have:=q H (Same.refl H);rw [e] at this;exact this
  by_cases j :∃a,k=.str a/\(kl_FIRST_STATES.lookup a).isSome=true
  ·obtain ⟨a,rfl,j⟩:=j;have a0:kindB (.str a)=true:=j;rw [a0];refine iteF ?_;refine ⟨_,rfl,_,_,_,rfl,o,by decide,_,rfl,?_⟩;rw [z5s o (by decide)];by_cases r:L = "str"
   ·subst r;obtain ⟨b,rfl⟩:=o.str;refine iteF ?_;refine ⟨_,rfl,_,rfl,?_⟩;refine ⟨w_2,λ p hp=>⟨p,a,b,rfl,z02,rfl,_,rfl,?_⟩⟩;have d:Same H (upd H p (.tup [.str a,.str b])):=Same.upd hp;cases h3:kl_DOERS.lookup (a,b) with
    | none=>
     refine iteT ?_;have:=q _ d;have e:deedB H (.str a) (.str b) x=false:=by unfold deedB formOf;dsimp only;rw [h3];rfl
     rw [e] at this;exact this
    | some z=>
     refine iteF ?_;obtain ⟨_,i,M,h5⟩:=z64 h3;have C:formOf a b=i:=by unfold formOf;rw [h3];dsimp only;rw [M]
     refine ⟨_,rfl,b,.int i,rfl,rfl,M,?_⟩;refine ⟨_,rfl,rfl,_,rfl,?_⟩;rcases h5 with rfl|rfl|rfl
     ·refine iteT ⟨_,rfl,rfl,?_⟩;have:=q _ d;have e:deedB H (.str a) (.str b) x=decide (x=.non):=by unfold deedB;dsimp only;rw [C];rfl
      rw [e] at this;exact this
     ·refine iteF ⟨_,rfl,rfl,_,rfl,?_⟩;refine iteT ⟨_,rfl,x,u,rfl,F.same d,?_⟩;have:=q _ d;have e:deedB H (.str a) (.str b) x=z0n x 1000000000:=by unfold deedB;dsimp only;rw [C];rfl
      rw [e] at this;exact this
     ·refine iteF ⟨_,rfl,rfl,_,rfl,?_⟩;refine iteF ⟨_,rfl,_,rfl,x,u,2,rfl,F.same d,_,rfl,?_⟩;rw [zaq F d];have e:deedB H (.str a) (.str b) x=(match tupOf H x with|some xs=>decide (xs.length=2) && xs.all λ y=>z0n y 1000000000|none=>false):=by unfold deedB;dsimp only;rw [C];rfl
      rw [e] at q;cases ht:tupOf H x with
      | none=>rw [ht] at q;exact iteF (q _ d)
      | some xs=>
       rw [ht] at q;dsimp only at q⊢;by_cases n:xs.length=2
       ·have D:((xs.length:Nat):Int)=2:=by omega
        rw [if_pos (decide_eq_true D)];rw [decide_eq_true n,M7] at q;obtain ⟨c,rfl,hc⟩:=zas ht;have W:xs.length<=sizeLine:=by rw [n];decide
        refine e_cb1 ?_;refine z52 (K:=KX w.params) (a:=c) (xs:=xs) (H1:=upd H p (.tup [.str a,.str b])) (λ _=>true) (λ i y _=>y=.bl (z0n (xs[i]?.getD .non) 1000000000)) (λ _ _ _ _ _ z=>z) (λ R h=>⟨_,rfl,h⟩) (SqT.of (d _ _ hc)) W ?_ ?_
        ·intro i J B H' t G KT KF k1 k2;obtain ⟨Ty,ty⟩:=(Y xs ht).2 B (I0 G);refine ⟨[some B],rfl,rfl,iteT ?_⟩;exact ⟨_,rfl,B,Ty,rfl,(ty.same d).same t,k1 rfl _ _ (Same.refl _) (by rw [G];rfl)⟩
        ·intro l H' X t n O;rw [List.filter_eq_self.mpr (λ _ _=>rfl)] at O;have ey:X=xs.map λ y=>V.bl (z0n y 1000000000):=by
          rw [z0z (f:=λ i=>V.bl (z0n (xs[i]?.getD .non) 1000000000)) O];apply C6
          ·simp
          ·intro i j r;have J:i < xs.length:=by simpa using j
           simp [M0 J]
         subst ey;refine ⟨l,_,rfl,SqL.of z02,λ y hy=>?_,?_⟩
         ·obtain ⟨z,_,rfl⟩:=List.mem_map.mp hy;exact ⟨_,rfl⟩
         ·have e9:((xs.map λ y=>V.bl (z0n y 1000000000)).all λ y=>decide (y=V.bl true))=xs.all λ y=>z0n y 1000000000:=by rw [List.all_map];congr 1;funext y;simp
          rw [e9];exact q _ ((d.trans t).trans (Same.upd n))
       ·have D:¬ ((xs.length:Nat):Int)=2:=by omega
        rw [if_neg (by rw [decide_eq_false D];exact R0)];rw [decide_eq_false n,n6] at q;exact q _ d
   ·rw [decide_eq_false r];refine iteT ?_;exact I (by unfold deedB;cases v with|str z=>exact absurd o r|_=>rfl)
  ·have Z:kindB k=false:=by
    cases k with
    | str z=>exact Bool.eq_false_iff.mpr λ e=>j ⟨z,rfl,e⟩
    | _=>rfl
   rw [Z];refine iteT ?_;refine I ?_;cases k with
   | str a=>
    cases v with
    | str b=>
     unfold deedB formOf;dsimp only;cases h3:kl_DOERS.lookup (a,b) with
     | none=>rfl
     | some z=>exact absurd ⟨a,rfl,(z64 h3).1⟩ j
    | _=>rfl
   | _=>rfl
inductive Ev
 | beg (h:Int) (n v x:V)
 | fin (h:Int) (a:V)
noncomputable def EvAt (K:d0) (H:Hp):Ev->V->Prop
 | .beg h n v x,y=>∃p,y=.ref p/\SqT K H p [.str "begin",.int h,n,v,x]
 | .fin h a,y=>∃p,y=.ref p/\SqT K H p [.str "end",.int h,a]
structure Rc where
 h:Int
 n:V
 v:V
 x:V
 a:V
 b:Nat
 e:Option Nat
noncomputable def endV:Option Nat->V
 | none=>.non
 | some i=>.int i
def RcAt (K:d0) (H:Hp) (r:Rc) (y:V):Prop:=∃p,y=.ref p/\SqT K H p [.int r.h,r.n,r.v,r.x,r.a,.int r.b,endV r.e]
def Tups (K:d0) (H H':Hp):Prop:=∀a xs,SqT K H a xs->SqT K H' a xs
theorem Tups.of {K:d0} {H H':Hp} (s:Same H H'):Tups K H H':=λ _ _ q=>s.seqT q
theorem Tups.lst {K:d0} {H:Hp} {l:Addr} {o:HO} {zs:List V} (e:H l=some (.lst zs)):Tups K H (upd H l o):=λ _ _ q=>q.wrote e
theorem Tups.dict {K:d0} {H:Hp} {l:Addr} {o:HO} {kvs:List (Key×V)} (e:H l=some (.dK kvs)):Tups K H (upd H l o):=λ a b h=>by
 rcases h with (h|⟨ob,h⟩)|h
 ·exact .inl (.inl (by rw [upd_ne (ne_of h e (by intro z;cases z))];exact h))
 ·exact .inl (.inr ⟨ob,by rw [upd_ne (ne_of h e (by intro z;cases z))];exact h⟩)
 ·exact .inr h
theorem zgk {n j:Nat} (h:j < n):ixN n (j:Nat)=some j:=by unfold ixN;rw [if_pos (by omega),if_pos (by omega)];rfl
theorem Same.keep {H H':Hp} {l:Addr} {o:HO} (s:Same H H') (n:H l=none):Same H (upd H' l o):=λ a x e=>by rw [upd_ne (z0a e n)];exact s a x e
theorem z0o {α β:Type} {R:α->β->Prop} {x:α} {y:β} :∀{xs:List α} {ys:List β},All2 R xs ys->R x y->All2 R (xs++[x]) (ys++[y])
 | _,_,.nil,h=>.cons h .nil
 | _,_,.cons a r,h=>.cons a (z0o r h)
theorem zbd {κ:Type} [DecidableEq κ] {kvs:List (κ×V)} {k:κ} {v:V}:(putK kvs k v).length<=kvs.length + 1:=by
 unfold putK;by_cases z:(kvs.any λ a=>decide (a.1=k))=true
 ·rw [if_pos z,O0];omega
 ·rw [if_neg z,N0];exact D0 _
noncomputable def lastI (h:Int) (hs:List Int):Option Nat:=(hs.foldl (λ (acc:Nat×Option Nat) k=>(acc.1 + 1,if k=h then some acc.1 else acc.2)) (0,none)).2
theorem lastF (h:Int) :∀hs:List Int,(hs.foldl (λ (acc:Nat×Option Nat) k=>(acc.1 + 1,if k=h then some acc.1 else acc.2)) (0,none)).1=hs.length:=by
 have b :∀(hs:List Int) (a:Nat×Option Nat),(hs.foldl (λ (acc:Nat×Option Nat) k=>(acc.1 + 1,if k=h then some acc.1 else acc.2)) a).1=a.1 + hs.length:=by
  intro hs;induction hs with
  | nil=>intro a;rfl
  | cons k hs ih=>intro a;rw [W5,ih,T0];show a.1 + 1 + hs.length=_;omega
 intro hs;rw [b hs (0,none)];simp
theorem z2e (h k:Int) (hs:List Int):lastI h (hs++[k])=if k=h then some hs.length else lastI h hs:=by unfold lastI;rw [J7];show (if k=h then some _ else _)=_;rw [lastF]
theorem z75 {h:Int} {hs:List Int} {j:Nat} (e:lastI h hs=some j):j < hs.length:=by
 have c :∀(hs:List Int) (a:Nat×Option Nat),(∀j,a.2=some j->j < a.1)->∀j,(hs.foldl (λ (acc:Nat×Option Nat) k=>(acc.1 + 1,if k=h then some acc.1 else acc.2)) a).2=some j->j < a.1 + hs.length:=by
  intro hs;induction hs with
  | nil=>intro a b j e;exact b j e
  | cons k hs ih=>
   intro a b j e;rw [W5] at e;have:=ih (a.1 + 1,if k=h then some a.1 else a.2) (λ j e=>by
    dsimp only at e⊢;by_cases z:k=h
    ·rw [if_pos z] at e;cases e;omega
    ·rw [if_neg z] at e;have:=b j e;omega) j e
   rw [T0];dsimp only at this;omega
 have:=c hs (0,none) (λ j e=>by cases e) j e;simpa using this
noncomputable def dstep (i:Nat) (rs:List Rc):Ev->List Rc
 | .beg h n v x=>rs++[⟨h,n,v,x,.non,i,none⟩]
 | .fin h a=>match lastI h (rs.map Rc.h) with|some j=>rs.modify j (λ r=>{ r with a:=a,e:=some i })|none=>rs
noncomputable def dAll:Nat->List Rc->List Ev->List Rc
 | _,rs,[]=>rs
 | i,rs,e :: es=>dAll (i + 1) (dstep i rs e) es
noncomputable def dWf:Nat->List Rc->List Ev->Prop
 | _,_,[]=>True
 | i,rs,e :: es=>(∀h a,e=.fin h a->(lastI h (rs.map Rc.h)).isSome=true)/\dWf (i + 1) (dstep i rs e) es
theorem RcAt.tups {K:d0} {H H':Hp} {r:Rc} {y:V} (t:Tups K H H') (h:RcAt K H r y):RcAt K H' r y:=h.elim λ p z=>⟨p,z.1,t _ _ z.2⟩
theorem EvAt.tups {K:d0} {H H':Hp} (t:Tups K H H') :∀{e:Ev} {y:V},EvAt K H e y->EvAt K H' e y
 | .beg h n v x,_,z=>z.elim λ p z=>⟨p,z.1,t _ _ z.2⟩
 | .fin h a,_,z=>z.elim λ p z=>⟨p,z.1,t _ _ z.2⟩
theorem z4i {α β:Type} {R:α->β->Prop} {f:α->α} {y:β} :∀{xs:List α} {ys:List β} {j:Nat} {x:α},All2 R xs ys->xs[j]? = some x->R (f x) y->All2 R (xs.modify j f) (ys.set j y)
 | _,_,_,_,.nil,e,_=>by simp at e
 | _,_,0,x,.cons a r,e,h=>by rw [P3] at e;cases e;exact .cons h r
 | _,_,j + 1,x,.cons a r,e,h=>by rw [V2] at e;exact .cons a (z4i r e h)
theorem z4h {α β:Type} {R:α->β->Prop} :∀{xs:List α} {ys:List β} {i:Nat} {x:α},All2 R xs ys->xs[i]? = some x->∃y,ys[i]? = some y/\R x y
 | _,_,i,x,.nil,e=>by simp at e
 | _,_,0,x,.cons a _,e=>by rw [P3] at e;cases e;exact ⟨_,P3,a⟩
 | _,_,i + 1,x,.cons _ r,e=>by rw [V2] at e;obtain ⟨y,b,c⟩:=z4h r e;exact ⟨y,by rw [V2];exact b,c⟩
def z7f (K:d0):Sp:=λ vs H Q _=>∃(t te:Addr) (th:V) (ys:List V) (es:List Ev),vs=[.ref t]/\SqT K H t [th,.ref te]/\SqT K H te ys/\All2 (EvAt K H) es ys/\es.length<=100/\dWf 0 [] es/\
 ∀l zs H',Same H H'->H l=none->H' l=some (.lst zs)->All2 (RcAt K H') (dAll 0 [] es) zs->Q (.ref l) H'
theorem zez (T:TX (kx w) mg):Fo P w mg base CX0 1 344 y1k ["tale"] (z7f (kx w)):=by
 refine (zag w.params).ok sc_deeds (λ vs H Q E h=>?_) (λ c3 A c4 s H vs Q E hr h=>?_)
 ·obtain ⟨t,te,th,ys,C,rfl,_⟩:=h;rfl
 ·obtain ⟨t,te,th,ys,C,rfl,st,se,al,hl,wf,q⟩:=h;refine ⟨_,(z03 (ps_set (i:=1) sc_deeds.nd rfl (A2 rfl) (pe_lst pa_nil))
   (z03 (ps_set (i:=2) sc_deeds.nd rfl (A2 rfl) zae)
   (z03 (ps_for F3 rfl (zfj rfl (T.no (z4f _)) (z00 (pe_ix ix_seq (pv 0) pe_int (λ _ _=>rfl)) pa_nil)) (pg_tup rfl (z0i (z0p (i:=3) sc_deeds.nd rfl (A2 rfl)) (z0i (z0p (i:=4) sc_deeds.nd rfl (A2 rfl)) z1w)))
   (z05 (ps_if (z0c opEq (pe_ix ix_seq (pv 4) pe_int (λ _ _=>rfl)) pe_str (nomark _))
   (z03 (zao (hu_of hr) (pv 2) (pe_ix ix_seq (pv 4) pe_int (λ _ _=>rfl)) (z09 z1e rfl (T.no (n_len _)) B5 (z00 (pv 1) pa_nil)) rfl)
   (z05 (z15 (z1r (pv 1) (z00 (pe_op opAdd (z50 slSeq (pv 4) (z8b pe_int) z8t) (pe_tup (z00 pe_non (z00 (pv 3) (z00 pe_non pa_nil))))) pa_nil)))))
   (z03 (ps_set (i:=5) sc_deeds.nd rfl (A2 rfl) (zaj (hu_of hr) (pv 2) (pe_ix ix_seq (pv 4) pe_int (λ _ _=>rfl)) (λ _ _=>rfl)))
   (z03 (ps_set (i:=6) sc_deeds.nd rfl (A2 rfl) (pe_ix ix_seq (pv 1) (pv 5) (λ _ _=>rfl)))
   (z05 (ps_asg (pe_op opAdd (z50 slSeq (pv 6) z8t (z8b pe_int)) (pe_tup (z00 (pe_ix ix_seq (pv 4) pe_int (λ _ _=>rfl)) (z00 (pe_ix ix_seq (pv 6) pe_int (λ _ _=>rfl)) (z00 (pv 3) pa_nil))))) (pg_sub (pv 1) (pv 5) z79))))))))
   (z05 (ps_ret (pv 1)))))),?_⟩
  refine ⟨w_0,λ l a0=>?_⟩;intro d a5;have U:l≠d:=z0a z02 a5;have s0:upd H l (.lst []) d=none->H d=none:=λ z=>by rwa [upd_ne U.symm] at z
  have Z:Same H (upd (upd H l (.lst [])) d (.dK [])):=(Same.upd a0).trans (Same.upd a5);have e1:upd (upd H l (.lst [])) d (.dK []) l=some (.lst []):=by rw [upd_ne U];exact z02
  have e2:upd (upd H l (.lst [])) d (.dK []) d=some (.dK []):=z02;generalize upd (upd H l (.lst [])) d (.dK [])=H2 at Z e1 e2⊢;have b8:=z04 al;refine ⟨_,rfl,.inr (.inl ⟨t,_,1,.ref te,rfl,rfl,Z.seqT st,z06 (j:=1) rfl,te,ys,rfl,Z.seqT se,?_⟩)⟩;refine zcx (K:=KX w.params) (a:=te) (xs:=ys) (λ i σ M=>∃c f g,M l=some (.lst f)/\All2 (RcAt (kx w) M) c f/\M d=some (.dK g)/\g.length<=i/\c.length<=i/\(∀h,valV g (.inl h)=(lastI h (c.map Rc.h)).map λ j=>V.int (j:Nat))/\dAll i c (C.drop i)=dAll 0 [] C/\dWf i c (C.drop i)/\Same H M/\∃x3 x4 x5 x6,σ=[some (.ref t),some (.ref l),some (.ref d),x3,x4,x5,x6])
   ⟨[],[],[],e1,.nil,e2,D0 _,D0 _,λ h=>rfl,by rw [P4],by rw [P4];exact wf,Z,_,_,_,_,rfl⟩ (λ i σ M h=>?_) ?_ ?_
  ·obtain ⟨c,f,g,_,_,_,_,_,_,_,_,s',_⟩:=h;exact s'.seqT se
  ·rintro i y σ H3 p hy ⟨c,f,g,el,ar,ed,hk,hr',hv,F,dw,s3,x3,x4,x5,x6,rfl⟩ hp;obtain ⟨e,he,ev⟩:=z0b al hy;obtain ⟨hi,ee⟩:=List.getElem?_eq_some_iff.mp he;have dr:C.drop i=e :: C.drop (i + 1):=by rw [Q5 hi,ee]
   rw [dr] at F dw;have s4:=s3.trans (Same.upd (o:=.tup [.int i,y]) hp);have L:=(Same.upd (o:=.tup [.int i,y]) hp) _ _ el;have W:=(Same.upd (o:=.tup [.int i,y]) hp) _ _ ed;have N:=z01 (λ a b z=>RcAt.tups (.of (Same.upd (o:=.tup [.int i,y]) hp)) z) ar;have b2:upd H3 p (.tup [.int i,y]) p=some (.tup [.int i,y]):=z02;generalize upd H3 p (.tup [.int i,y])=H4 at s4 L W N b2⊢;have b3:=EvAt.tups (.of s4) ev;refine ⟨p,_,rfl,SqT.of b2,rfl,.int i,_,rfl,y,_,rfl,rfl,?_⟩;have lz:f.length=c.length:=z04 N;have a9:100<=sizeLine:=by decide
   have a8:i < 100:=B1 hi hl;cases e with
   | beg h n v x=>
    obtain ⟨J,rfl,I⟩:=b3;refine ⟨_,rfl,.inr (.inl ⟨J,_,0,.str "begin",rfl,rfl,I,z06 (j:=0) rfl,rfl,_,rfl,iteP (decide_eq_true rfl) ?_⟩)⟩;refine ⟨_,rfl,.inl ⟨l,f,rfl,.inl (SqL.of L),⟨_,rfl,⟨_,rfl,.inr (.inl ⟨J,_,1,.int h,rfl,rfl,I,z06 (j:=1) rfl,d,_,rfl,DPut.k (k:=.inl h) W (T2 hk (B1 a8 a9)),?_⟩)⟩⟩⟩⟩;have b7:H d=none:=s0 a5;have t5:Tups (kx w) H4 (upd H4 d (.dK (putK g (.inl h) (.int (f.length:Nat))))):=Tups.dict W;have s5:=Same.keep (o:=.dK (putK g (.inl h) (.int (f.length:Nat)))) s4 b7;have a1:upd H4 d (.dK (putK g (.inl h) (.int (f.length:Nat)))) l=some (.lst f):=by rw [upd_ne U];exact L
    have b4:upd H4 d (.dK (putK g (.inl h) (.int (f.length:Nat)))) d=some (.dK (putK g (.inl h) (.int (f.length:Nat)))):=z02;generalize upd H4 d (.dK (putK g (.inl h) (.int (f.length:Nat))))=H5 at t5 s5 a1 b4⊢;have b6:=t5 _ _ I;have b9:=z01 (λ a b z=>RcAt.tups t5 z) N;refine ⟨_,rfl,.inl ⟨rfl,f,SqL.of a1⟩,⟨_,rfl,1,rfl,.inr (.inl ⟨J,_,rfl,b6,λ z=>absurd z.1 (show ¬ HT.sIx 5 0 (some 1)=0 by decide),λ G R=>?_⟩)⟩⟩;have c1:cutV [V.str "begin",.int h,n,v,x] (some 1) none=[.int h,n,v,x]:=rfl;rw [c1];refine ⟨_,rfl,w_3,λ D Y=>.inr (.inr (.inr ⟨G,D,_,_,rfl,rfl,(Same.upd Y).seqT (SqT.of z02),SqT.of z02,by simp,w_7,λ z=>(by cases z),λ _ u a2=>?_⟩))⟩;have B:Same H5 (upd (upd (upd H5 G (.tup [.int h,n,v,x])) D (.tup [.non,.int i,.non])) u (.tup ([.int h,n,v,x]++[.non,.int i,.non]))):=((Same.upd R).trans (Same.upd Y)).trans (Same.upd a2);have O:upd (upd (upd H5 G (.tup [.int h,n,v,x])) D (.tup [.non,.int i,.non])) u (.tup ([.int h,n,v,x]++[.non,.int i,.non])) u=some (.tup ([.int h,n,v,x]++[.non,.int i,.non])):=z02;generalize upd (upd (upd H5 G (.tup [.int h,n,v,x])) D (.tup [.non,.int i,.non])) u (.tup ([.int h,n,v,x]++[.non,.int i,.non]))=H6 at B O⊢;have S:=B _ _ a1;have a3:=B _ _ b4;have a4:=z01 (λ a b z=>RcAt.tups (.of B) z) b9;have X:Tups (kx w) H6 (upd H6 l (.lst (f++[.ref u]))):=Tups.lst S;refine ⟨l,f,_,rfl,rfl,S,T2 (S0 (x8 lz) hr') (B1 a8 a9),?_⟩;refine ⟨c++[⟨h,n,v,x,.non,i,none⟩],f++[.ref u],putK g (.inl h) (.int (f.length:Nat)),z02,?_,?_,?_,?_,?_,(show dAll (i + 1) (dstep i c (.beg h n v x)) _=_ from F),dw.2,Same.keep (s5.trans B) a0,_,_,_,_,rfl⟩
    ·exact z0o (z01 (λ a b z=>RcAt.tups X z) a4) ⟨u,rfl,X _ _ (SqT.of O)⟩
    ·rw [upd_ne U.symm];exact a3
    ·exact S0 zbd (by omega)
    ·rw [N0];show c.length + 1<=i + 1;omega
    ·intro k;rw [zb8,N3];show _=Option.map _ (lastI k (c.map Rc.h++[h]));rw [z2e,hv k,O0,lz];by_cases z:h=k
     ·rw [if_pos z,if_pos (by rw [z])];rfl
     ·rw [if_neg z,if_neg (λ y=>z (g7 y).symm)]
   | fin h a=>
    obtain ⟨J,rfl,I⟩:=b3;obtain ⟨j,hj⟩:=Option.isSome_iff_exists.mp (dw.1 h a rfl);have c0:valV g (.inl h)=some (.int (j:Nat)):=by rw [hv h,hj];rfl
    have b1:j < c.length:=by have:=z75 hj;rwa [O0] at this
    have b0:c[j]? = some c[j]:=M0 b1;obtain ⟨yj,b5,pj,rfl,sj⟩:=z4h N b0;have c2:DGet H4 d (.int h) (some (.int (j:Nat))):=c0 ▸ DGet.k (k:=.inl h) W;refine ⟨_,rfl,.inr (.inl ⟨J,_,0,.str "end",rfl,rfl,I,z06 (j:=0) rfl,rfl,_,rfl,iteK ?_⟩)⟩;refine ⟨_,rfl,⟨_,rfl,.inr (.inl ⟨J,_,1,.int h,rfl,rfl,I,z06 (j:=1) rfl,d,_,rfl,c2,?_⟩)⟩⟩;refine ⟨_,rfl,_,rfl,.inl ⟨l,f,j,.ref pj,rfl,rfl,SqL.of L,z06 b5,?_⟩⟩;refine ⟨_,rfl,4,rfl,.inr (.inl ⟨pj,_,rfl,sj,λ z=>absurd z.2 (show ¬ HT.sIx 7 7 (some 4)=7 by decide),λ G R=>?_⟩)⟩;have c1:cutV [.int c[j].h,c[j].n,c[j].v,c[j].x,c[j].a,.int c[j].b,endV c[j].e] none (some 4)=[.int c[j].h,c[j].n,c[j].v,c[j].x]:=rfl;rw [c1];refine ⟨_,rfl,.inr (.inl ⟨J,_,2,a,rfl,rfl,(Same.upd R).seqT I,z06 (j:=2) rfl,?_⟩)⟩;refine ⟨_,rfl,.inr (.inl ⟨pj,_,5,.int c[j].b,rfl,rfl,(Same.upd R).seqT sj,z06 (j:=5) rfl,?_⟩)⟩;refine ⟨_,rfl,w_3,λ D Y=>.inr (.inr (.inr ⟨G,D,_,_,rfl,rfl,(Same.upd Y).seqT (SqT.of z02),SqT.of z02,by simp,w_7,λ z=>(by cases z),λ _ u a2=>?_⟩))⟩;have B:Same H4 _:=((Same.upd R).trans (Same.upd Y)).trans (Same.upd (o:=.tup ([.int c[j].h,c[j].n,c[j].v,c[j].x]++[a,.int c[j].b,.int (i:Nat)])) a2);have O:upd (upd (upd H4 G (.tup [.int c[j].h,c[j].n,c[j].v,c[j].x])) D (.tup [a,.int c[j].b,.int (i:Nat)])) u (.tup ([.int c[j].h,c[j].n,c[j].v,c[j].x]++[a,.int c[j].b,.int (i:Nat)])) u=some (.tup ([.int c[j].h,c[j].n,c[j].v,c[j].x]++[a,.int c[j].b,.int (i:Nat)])):=z02;generalize upd (upd (upd H4 G (.tup [.int c[j].h,c[j].n,c[j].v,c[j].x])) D (.tup [a,.int c[j].b,.int (i:Nat)])) u (.tup ([.int c[j].h,c[j].n,c[j].v,c[j].x]++[a,.int c[j].b,.int (i:Nat)]))=H6 at B O⊢;have S:=B _ _ L;have a3:=B _ _ W;have a4:=z01 (λ a b z=>RcAt.tups (.of B) z) N;have X:Tups (kx w) H6 (upd H6 l (.lst (f.set j (.ref u)))):=Tups.lst S;refine ⟨_,rfl,_,rfl,l,f,j,j,rfl,rfl,S,zgk (show j < f.length by rw [lz];exact b1),?_⟩;have dd:dstep i c (.fin h a)=c.modify j (λ r=>{ r with a:=a,e:=some i }):=by unfold dstep;dsimp only;rw [hj]
    have a7:dAll (i + 1) (dstep i c (.fin h a)) (List.drop (i + 1) C)=_:=F;have a6:=dw.2;rw [dd] at a7 a6;have mh:(c.modify j (λ r=>{ r with a:=a,e:=some i })).map Rc.h=c.map Rc.h:=by
     apply K7;intro m;rw [U1,U1,O6];cases c[m]? with
     | none=>rfl
     | some r=>
      show some (if j=m then _ else r).h=some r.h;by_cases z:j=m
      ·rw [if_pos z]
      ·rw [if_neg z]
    refine ⟨_,f.set j (.ref u),g,z02,?_,?_,?_,?_,?_,a7,a6,Same.keep (s4.trans B) a0,_,_,_,_,rfl⟩
    ·exact z4i (z01 (λ a b z=>RcAt.tups X z) a4) b0 ⟨u,rfl,X _ _ (SqT.of O)⟩
    ·rw [upd_ne U.symm];exact a3
    ·omega
    ·rw [List.length_modify];omega
    ·intro k;rw [mh];exact hv k
  ·rintro σ H3 ⟨c,f,g,el,ar,ed,hk,hr',hv,F,dw,s3,x3,x4,x5,x6,rfl⟩;have:C.drop ys.length=[]:=by rw [b8];exact List.drop_length
   rw [this] at F;have F:c=dAll 0 [] C:=F;rw [<-F] at q;exact ⟨_,rfl,q l f H3 s3 a0 el ar⟩
end
section
noncomputable def oStep (os:List Int):Ev->List Int
 | .beg h _ _ _=>os++[h]
 | .fin h _=>os.filter λ k=>decide (k≠h)
noncomputable def oOk (os:List Int):Ev->Prop
 | .beg h _ _ _=>h∉os
 | .fin h _=>h∈os
noncomputable def EWf:List Int->List Ev->Prop
 | _,[]=>True
 | os,e :: es=>oOk os e/\EWf (oStep os e) es
theorem EWf.snoc :∀{es:List Ev} {os:List Int} {e:Ev},EWf os es->oOk (es.foldl oStep os) e->EWf os (es++[e])
 | [],os,e,_,h=>⟨h,trivial⟩
 | x :: es,os,e,w,h=>⟨w.1,EWf.snoc w.2 h⟩
theorem ze0 {h:Int} (hs:List Int) :∀{j:Nat},lastI h hs=some j->hs[j]? = some h/\∀k,j < k->hs[k]?≠some h:=by
 suffices key :∀n (hs:List Int),hs.length=n->∀{j:Nat},lastI h hs=some j->hs[j]? = some h/\∀k,j < k->hs[k]?≠some h from λ {j} a=>key _ hs rfl a;intro n;induction n with
 | zero=>intro hs e j a;have:=z75 a;omega
 | succ n ih=>
  intro hs e j a;have d:hs≠[]:=λ z=>by rw [z] at e;cases e
  obtain ⟨b,t,rfl⟩ :∃b t,hs=b++[t]:=⟨hs.dropLast,hs.getLast d,(W9 d).symm⟩
  rw [N0] at e;have e:b.length=n:=by simpa using e
  rw [z2e] at a;by_cases z:t=h
  ·rw [if_pos z] at a;cases a;refine ⟨by simp [z],λ k c=>?_⟩;rw [Z3 (by rw [N0];show b.length + 1<=k;omega)];intro y;cases y
  ·rw [if_neg z] at a;obtain ⟨g,f⟩:=ih b e a;have lt:=z75 a;refine ⟨by rw [E3 lt];exact g,λ k c=>?_⟩;by_cases y:k < b.length
   ·rw [E3 y];exact f k c
   ·by_cases y2:k=b.length
    ·subst y2;rw [A3 (D0 _)];simp;exact z
    ·rw [Z3 (by rw [N0];show b.length + 1<=k;omega)];intro y;cases y
theorem zc8 {h:Int} (hs:List Int) (hm:h∈hs):(lastI h hs).isSome=true:=by
 suffices key :∀n (hs:List Int),hs.length=n->h∈hs->(lastI h hs).isSome=true from key _ hs rfl hm;intro n;induction n with
 | zero=>intro hs e hm;rw [List.length_eq_zero_iff.mp e] at hm;cases hm
 | succ n ih=>
  intro hs e hm;have b:hs≠[]:=λ z=>by rw [z] at e;cases e
  obtain ⟨a,t,rfl⟩ :∃a t,hs=a++[t]:=⟨hs.dropLast,hs.getLast b,(W9 b).symm⟩
  rw [N0] at e;rw [z2e];by_cases z:t=h
  ·rw [if_pos z];rfl
  ·rw [if_neg z];refine ih a (by simpa using e) ?_;rcases List.mem_append.mp hm with y|y
   ·exact y
   ·exact absurd (List.mem_singleton.mp y).symm z
structure DInv (i:Nat) (rs:List Rc) (os:List Int):Prop where
 b :∀r∈rs,r.b < i
 e :∀r∈rs,∀e,r.e=some e->e < i
 p :∀(x y:Nat) (r q:Rc),x < y->rs[x]? = some r->rs[y]? = some q->r.b < q.b/\(r.h=q.h->∃e,r.e=some e/\e < q.b)
 o :∀r∈rs,r.h∉os->r.e.isSome=true
 m :∀h∈os,h∈rs.map Rc.h
theorem DInv.nil:DInv 0 [] []:=⟨λ _ h=>(by cases h),λ _ h=>(by cases h),λ x y r q _ h=>(by simp at h),λ _ h=>(by cases h),λ _ h=>(by cases h)⟩
theorem zfg {rs:List Rc} {j:Nat} {f:Rc->Rc} (hf :∀r,(f r).h=r.h):(rs.modify j f).map Rc.h=rs.map Rc.h:=by
 apply K7;intro m;rw [U1,U1,O6];cases rs[m]? with
 | none=>rfl
 | some r=>
  show some (if j=m then f r else r).h=some r.h;by_cases z:j=m
  ·rw [if_pos z,hf]
  ·rw [if_neg z]
theorem DInv.step {i:Nat} {rs:List Rc} {os:List Int} (I:DInv i rs os) {e:Ev} (ok:oOk os e):DInv (i + 1) (dstep i rs e) (oStep os e)/\∀h a,e=.fin h a->(lastI h (rs.map Rc.h)).isSome=true:=by
 cases e with
 | beg h n v x=>
  have ok:h∉os:=ok;refine ⟨⟨λ r d=>?_,λ r d e c=>?_,λ t g r q E N D=>?_,λ r d A=>?_,λ k M=>?_⟩,λ h a e=>by cases e⟩
  ·rcases List.mem_append.mp d with z|z
   ·have:=I.b r z;omega
   ·rw [List.mem_singleton.mp z];exact X2 i
  ·rcases List.mem_append.mp d with z|z
   ·have:=I.e r z e c;omega
   ·rw [List.mem_singleton.mp z] at c;cases c
  ·have a1:g < (dstep i rs (.beg h n v x)).length:=(List.getElem?_eq_some_iff.mp D).1;have hl:(dstep i rs (.beg h n v x)).length=rs.length + 1:=by show (rs++[_]).length=_;rw [N0];rfl
   have P:rs[t]? = some r:=by
    have:(rs++[_])[t]? = some r:=N
    rwa [E3 (by omega)] at this
   by_cases z:g < rs.length
   ·have a0:rs[g]? = some q:=by
     have:(rs++[_])[g]? = some q:=D
     rwa [E3 z] at this
    exact I.p t g r q E P a0
   ·have O:(rs++[_])[g]? = some q:=D;have ey:g=rs.length:=by omega
    subst ey;rw [A3 (D0 _)] at O;simp at O;have G:=I0 P;rw [<-O];refine ⟨I.b r G,λ B=>?_⟩;have:r.e.isSome=true:=I.o r G (by rw [B];exact ok);obtain ⟨e,c⟩:=Option.isSome_iff_exists.mp this;exact ⟨e,c,I.e r G e c⟩
  ·rcases List.mem_append.mp d with z|z
   ·exact I.o r z λ y=>A (List.mem_append.mpr (.inl y))
   ·rw [List.mem_singleton.mp z] at A;exact absurd (List.mem_append.mpr (.inr (List.mem_singleton.mpr rfl))) A
  ·show k∈(rs++[_]).map Rc.h;rw [N3];rcases List.mem_append.mp M with z|z
   ·exact List.mem_append.mpr (.inl (I.m k z))
   ·rw [List.mem_singleton.mp z];exact List.mem_append.mpr (.inr (List.mem_singleton.mpr rfl))
 | fin h a=>
  have ok:h∈os:=ok;obtain ⟨j,H⟩:=Option.isSome_iff_exists.mp (zc8 _ (I.m h ok));refine ⟨?_,λ h' a' e=>by cases e;rw [H];rfl⟩;obtain ⟨U,T⟩:=ze0 _ H;have hd:dstep i rs (.fin h a)=rs.modify j (λ r=>{ r with a:=a,e:=some i }):=by unfold dstep;dsimp only;rw [H]
  rw [hd];have hs:oStep os (.fin h a)=os.filter λ k=>decide (k≠h):=rfl;rw [hs];rw [U1] at U;obtain ⟨rj,W,Q⟩:=Option.map_eq_some_iff.mp U;have get :∀m q,(rs.modify j (λ r=>{ r with a:=a,e:=some i }))[m]? = some q->∃r,rs[m]? = some r/\q.h=r.h/\q.b=r.b/\(m=j->q.e=some i)/\(m≠j->q=r):=λ m q R=>by
   rw [O6] at R;obtain ⟨r,d,e⟩:=Option.map_eq_some_iff.mp R;refine ⟨r,d,?_⟩;by_cases z:j=m
   ·rw [if_pos z] at e;rw [<-e];exact ⟨rfl,rfl,λ _=>rfl,λ y=>absurd z.symm y⟩
   ·rw [if_neg z] at e;rw [<-e];exact ⟨rfl,rfl,λ y=>absurd y.symm z,λ _=>rfl⟩
  refine ⟨λ r d=>?_,λ r d e c=>?_,λ t g r q E N D=>?_,λ r d A=>?_,λ k M=>?_⟩
  ·obtain ⟨m,C⟩:=List.mem_iff_getElem?.mp d;obtain ⟨s,u,_,h3,_⟩:=get m r C;have:=I.b s (I0 u);omega
  ·obtain ⟨m,C⟩:=List.mem_iff_getElem?.mp d;obtain ⟨s,u,_,_,F,J⟩:=get m r C;by_cases z:m=j
   ·rw [F z] at c;cases c;exact X2 i
   ·rw [J z] at c;have:=I.e s (I0 u) e c;omega
  ·obtain ⟨s,L,Z,r3,r4,Y⟩:=get t r N;obtain ⟨V,X,S,q3,_⟩:=get g q D;obtain ⟨p1,K⟩:=I.p t g s V E L X;refine ⟨by omega,λ B=>?_⟩;by_cases z:t=j
   ·subst z;rw [W] at L;cases L;refine absurd ?_ (T g E);rw [U1,X];show some V.h=some h;rw [<-S,<-B,Z,Q]
   ·rw [Y z] at B⊢;rw [S] at B;obtain ⟨e,c,lt⟩:=K B;exact ⟨e,c,by omega⟩
  ·obtain ⟨m,C⟩:=List.mem_iff_getElem?.mp d;obtain ⟨s,u,h2,_,F,J⟩:=get m r C;by_cases z:m=j
   ·rw [F z];rfl
   ·rw [J z] at A⊢;by_cases y:s.h=h
    ·have lt:m < j:=by
      rcases Nat.lt_or_gt_of_ne z with l|l
      ·exact l
      ·exact absurd (by rw [U1,u];show some s.h=_;rw [y]) (T m l)
     obtain ⟨_,K⟩:=I.p m j s rj lt u W;obtain ⟨e,c,_⟩:=K (by rw [y,Q]);rw [c];rfl
    ·exact I.o s (I0 u) λ w=>A (List.mem_filter.mpr ⟨w,decide_eq_true y⟩)
  ·rw [zfg (f:=λ r=>{ r with a:=a,e:=some i }) (λ r=>rfl)];exact I.m k (List.mem_filter.mp M).1
theorem DInv.all :∀{es:List Ev} {i:Nat} {rs:List Rc} {os:List Int},DInv i rs os->EWf os es->dWf i rs es/\∃os',DInv (i + es.length) (dAll i rs es) os'
 | [],i,rs,os,I,_=>⟨trivial,os,I⟩
 | e :: es,i,rs,os,I,w=>by obtain ⟨a,c⟩:=I.step w.1;obtain ⟨d,os',b⟩:=DInv.all a w.2;refine ⟨⟨c,d⟩,os',?_⟩;rw [T0,show i + (es.length + 1)=i + 1 + es.length by omega];exact b
theorem z9k {kvs:List (Key×V)} {k:Key}:(valV kvs k).isSome=true↔k∈kvs.map (·.1):=by
 induction kvs with
 | nil=>simp [valV]
 | cons p r ih=>
  obtain ⟨a,pv⟩:=p;by_cases y:a=k
  ·subst y;rw [z0r rfl];simp
  ·rw [z0s y,ih,N1,g4];exact ⟨λ z=>.inr z,λ z=>z.resolve_left λ x=>y x.symm⟩
theorem z39 {kvs:List (Key×V)} {k:Key} {v:V} (h:k∉kvs.map (·.1)):putK kvs k v=kvs++[(k,v)]:=by unfold putK;rw [if_neg];intro z;obtain ⟨p,a,e⟩:=List.any_eq_true.mp z;exact h (List.mem_map.mpr ⟨p,a,of_decide_eq_true e⟩)
theorem z4p {α β:Type} {R:α->β->Prop} :∀{xs:List α} {ys:List β},ys.length=xs.length->(∀(k:Nat) a b,xs[k]? = some a->ys[k]? = some b->R a b)->All2 R xs ys
 | [],[],_,_=>.nil
 | [],y :: ys,h,_=>by cases h
 | x :: xs,[],h,_=>by cases h
 | x :: xs,y :: ys,h,f=>.cons (f 0 x y rfl rfl) (z4p (by simpa using h) λ k a b d c=>f (k + 1) a b (by rw [V2];exact d) (by rw [V2];exact c))
end
section
variable {P:Program} {w:W0} {mg:Str->Option Value} {base:Heap}
structure NameOk (z:Str):Prop where
 l1:1<=z.length
 l8:z.length<=8
 s :∀c∈z.cps.toList,97<=c/\c<=122
theorem NameOk.ascii {z:Str} (h:NameOk z):z.cps.all (· < 128)=true:=by rw [Array.all_eq_true_iff_forall_mem];intro c a;have:=h.s c (Array.mem_toList_iff.mpr a);exact decide_eq_true (by omega)
theorem zdn :∀k:Fin 26,(d7 ("abcdefghijklmnopqrstuvwxyz" : Str) ⟨#[97 + k.val]⟩ 0 ("abcdefghijklmnopqrstuvwxyz" : Str).length 1).isEmpty=false:=by decide +kernel
theorem zd1 {c:Nat} (h:97<=c/\c<=122):(d7 ("abcdefghijklmnopqrstuvwxyz" : Str) ⟨#[c]⟩ 0 ("abcdefghijklmnopqrstuvwxyz" : Str).length 1).isEmpty=false:=by have:=zdn ⟨c - 97,by omega⟩;rw [show 97 + (c - 97)=c by omega] at this;exact this
def z3j:Sp:=λ vs H Q _=>∃z:Str,vs=[.str z]/\NameOk z/\∀H',Same H H'->Q (.bl true) H'
theorem za6 (T:TX (kx w) mg):Fo P w mg base CX0 1 40 y0v ["value"] z3j:=by
 refine (z57 w.params).ok zar (λ j H Q E h=>?_) (λ J A G s H j Q E F h=>?_)
 ·obtain ⟨z,rfl,_⟩:=h;rfl
 ·obtain ⟨z,rfl,b,q⟩:=h;refine ⟨_,(z03 (ps_if (PW.pt (pw_or (pt_not (pt_val (z09 z0f rfl (T.no (z08 _)) V1 (z00 (pv 0) (z00 (z0w (v:=.ty "str") rfl (T.no (n_str _)) j24 rfl) pa_nil))) (λ _=>rfl))) (pw_or1 (pt_not (zfi op_le op_le pe_int (z09 z1e rfl (T.no (n_len _)) B5 (z00 (pv 0) pa_nil)) (z0h (v:=.int (8)) rfl (T.of (z4r _)) ⟨_,rfl⟩))))))
   (z05 (ps_ret pe_bl))
   z0g)
   (z05 (ps_ret (z09 (z29 rfl) rfl (T.no (n_all _)) j25 (z00 (pe_cg (xs:=["sign"]) (g:=gName 0) (fr:=[]) (pi_str (pv 0)) (λ _ _ _ _ _=>(pg_cn (N:=["sign"]) 0)) (λ _ _ _ _ _=>pf_nil) (λ _ _ _ _ _=>(z0x zcl (pv 0) (z0h (v:=.str "abcdefghijklmnopqrstuvwxyz") rfl (T.of (z44 _)) ⟨_,rfl⟩) (by with_unfolding_all rfl)))) pa_nil))))),?_⟩
  have I:=b.l1;have e:=b.l8;refine sq_if (t_or ?_);refine ⟨_,rfl,_,_,"str",rfl,rfl,by decide,_,rfl,iteN (by decide) ?_⟩;refine ⟨_,rfl,.inr ⟨z,rfl,S0 e (by decide),_,_,rfl,rfl,_,rfl,?_⟩⟩;refine iteP (decide_eq_true (by omega)) ?_;refine ⟨_,_,rfl,rfl,_,rfl,iteN (by rw [decide_eq_true (show (z.length:Int)<=8 by omega)];decide) ?_⟩;refine t_nx (sq_ret (e_cb1 ?_));refine tcompS (x:=z) (H1:=H) (λ _=>true) (λ _ y _=>y=.bl true) (λ _ _ _ _ _ z=>z) (λ R h=>⟨_,rfl,h⟩) b.ascii (S0 (m:=8) e (by decide)) ?_ ?_
  ·intro i B v H1 f u KT D r C;obtain ⟨c,p,rfl⟩:=u;have l:c∈z.cps.toList:=Array.mem_toList_iff.mpr (j1e p);refine ⟨[some (.str ⟨#[c]⟩)],rfl,rfl,iteT ?_⟩;refine ⟨_,rfl,_,_,rfl,rfl,?_⟩;rw [zd1 (b.s c l)];exact r rfl _ _ (Same.refl _) rfl
  intro k H1 bs f t n;have d :∀y∈bs,y=.bl true:=λ y a=>by obtain ⟨m,o⟩:=List.mem_iff_getElem?.mp a;obtain ⟨_,_,z⟩:=z0b n o;exact z
  refine ⟨k,bs,rfl,SqL.of z02,λ y a=>⟨true,d y a⟩,?_⟩;rw [List.all_eq_true.mpr (λ y a=>decide_eq_true (d y a))];exact q _ (f.trans (Same.upd t))
structure ThingOk (t:Str×Str):Prop where
 n:NameOk t.1
 k:kindB (.str t.2)=true
def ThV (H:Hp) (t:Str×Str) (y:V):Prop:=∃p,y=.ref p/\H p=some (.tup [.str t.1,.str t.2])
theorem ThV.same {H H':Hp} {t:Str×Str} {y:V} (s:Same H H') (h:ThV H t y):ThV H' t y:=h.elim λ p z=>⟨p,z.1,s _ _ z.2⟩
theorem z5r {H:Hp} {p:Addr} {xs:List V} (e:H p=some (.tup xs)):tupOf H (.ref p)=some xs:=by unfold tupOf;dsimp only;rw [e]
def z4o:Sp:=λ vs H Q _=>∃t y,vs=[y]/\ThV H t y/\ThingOk t/\∀H',Same H H'->Q (.bl true) H'
theorem z9i (T:TX (kx w) mg) (c0:Ca P w mg base "is_tuple_of" ["value","many"] 1 z0y) (c1:Ca P w mg base "is_name" ["value"] 1 z3j) (c2:Ca P w mg base "is_kind" ["kind"] 1 z3f):Fo P w mg base CX0 2 290 y0k ["thing"] z4o:=by
 refine (z3o w.params).ok z98 (λ d H Q E h=>?_) (λ f A g s H d Q E b h=>?_)
 ·obtain ⟨t,y,rfl,_⟩:=h;rfl
 ·obtain ⟨t,y,rfl,⟨p,rfl,a⟩,ok,q⟩:=h;refine ⟨_,(z05 (ps_ret (pe_and (pe_cal c0 (b.mono (by decide)) rfl (z00 (pv 0) (z00 pe_int pa_nil))) (pe_and (pe_cal c1 (b.mono (by decide)) rfl (z00 (pe_ix ix_seq (pv 0) pe_int (λ _ _=>rfl)) pa_nil)) (pe_one (pe_cal c2 (b.mono (by decide)) rfl (z00 (pe_ix ix_seq (pv 0) pe_int (λ _ _=>rfl)) pa_nil))))))),?_⟩;refine ⟨_,rfl,_,"tuple",2,rfl,.inr (.inl ⟨⟨_,a⟩,rfl⟩),?_⟩;rw [z5r a];refine ⟨_,rfl,iteP (by simp) ?_⟩;refine ⟨_,rfl,.inr (.inl ⟨p,_,0,.str t.1,rfl,rfl,SqT.of a,z06 (j:=0) rfl,t.1,rfl,ok.n,λ e c=>⟨true,rfl,iteP rfl ?_⟩⟩)⟩;refine ⟨_,rfl,.inr (.inl ⟨p,_,1,.str t.2,rfl,rfl,SqT.of (c _ _ a),z06 (j:=1) rfl,_,"str",rfl,rfl,?_⟩)⟩;rw [ok.k];exact q _ c
theorem zec {H:Hp} {ts:List (Str×Str)} {ys zs:List V}:All2 (ThV H) ts ys->(All2 (λ (i:Nat) z=>z=V.str ((ts[i]?.getD ("","")).1)) (A1 ys.length) zs)->zs=(ts.map (·.1)).map V.str:=λ e f=>by
 have d:ys.length=ts.length:=z04 e;rw [z0z f,d];apply C6
 ·simp
 ·intro i a b;have c:i < ts.length:=by simpa using a
  simp [M0 c]
theorem z6f :∀(us ns:List Str),us.Nodup->(∀u∈us,u∉ns)->(us.foldl addT ns).length=ns.length + us.length
 | [],ns,_,_=>rfl
 | u :: us,ns,nd,h=>by
  rw [V5] at nd;have e:addT ns u=ns++[u]:=by unfold addT;rw [if_neg (h u (.head _))]
  rw [W5,e,z6f us (ns++[u]) nd.2 λ v a z=>?_]
  ·simp only [N0,T0,C3];omega
  ·rcases List.mem_append.mp z with z|z
   ·exact h v (.tail _ a) z
   ·rw [List.mem_singleton.mp z] at a;exact nd.1 a
theorem zet {K:d0} {H:Hp} :∀{ts:List (Str×Str)} {ys:List V},All2 (ThV H) ts ys->All2 (λ y k=>∃(p:Addr) (r:List V),y=V.ref p/\SqT K H p (.str k :: r)) ys (ts.map (·.1))
 | _,_,.nil=>.nil
 | _,_,.cons a r=>.cons (a.elim λ p z=>⟨p,_,z.1,SqT.of z.2⟩) (zet r)
def z26 (K:d0):Sp:=λ vs H Q _=>∃a ys ts,vs=[.ref a]/\H a=some (.lst ys)/\All2 (ThV H) ts ys/\ts.length<=6/\(ts.map (·.1)).Nodup/\(∀t∈ts,ThingOk t)/\∀(p:List Nat) c H',Same H H'->H' c=some (.tup (p.map λ i=>ys.getD i .non))->p.Perm (A1 ys.length)->(p.map λ i=>(ts.map (·.1)).getD i ("" : Str)).Pairwise (λ x y=>ltS x y=true)->Q (.ref c) H'
theorem z5g (T:TX (kx w) mg) (c0:Ca P w mg base "is_thing" ["thing"] 2 z4o):Fo P w mg base CX0 3 283 y04 ["things"] (z26 (kx w)):=by
 refine (z1l w.params).ok z5n (λ Z H Q E h=>?_) (λ a6 A a5 s H Z Q E hr h=>?_)
 ·obtain ⟨a,d,b,rfl,_⟩:=h;rfl
 ·obtain ⟨a,d,b,rfl,F,x,l6,M,ok,q⟩:=h;refine ⟨_,(z03 (ps_if (PW.pt (pw_or (pt_not (pt_val (z09 z0f rfl (T.no (z08 _)) V1 (z00 (pv 0) (z00 (z0w (v:=.ty "list") rfl (T.no (n_list _)) boot_list rfl) pa_nil))) (λ _=>rfl))) (pw_or1 (pt_not (pt_val (z09 (z29 rfl) rfl (T.no (n_all _)) j25 (z00 (pe_cg (xs:=["thing"]) (g:=gName 0) (fr:=[]) (z0t (pv 0)) (λ _ _ _ _ _=>(pg_cn (N:=["thing"]) 0)) (λ _ _ _ _ _=>pf_nil) (λ _ _ _ _ _=>(pe_cal c0 (hr.mono (by decide)) rfl (z00 (pv 0) pa_nil)))) pa_nil)) (λ _=>rfl))))))
   (z05 z0q)
   z0g)
   (z03 (ps_if (z0c op_gt (z09 z1e rfl (T.no (n_len _)) B5 (z00 (pv 0) pa_nil)) (z0h (v:=.int (6)) rfl (T.of (z62 _)) ⟨_,rfl⟩) (nomark _))
   (z05 z0q)
   z0g)
   (z03 (ps_if (z0c op_lt (za9 rfl rfl (T.no (n_len _)) rfl (T.no (n_set _)) B5 boot_set (pe_cg (xs:=["thing"]) (g:=gName 0) (fr:=[]) (z0t (pv 0)) (λ _ _ _ _ _=>(pg_cn (N:=["thing"]) 0)) (λ _ _ _ _ _=>pf_nil) (λ _ _ _ _ _=>(pe_ix (z1v (K:=KX w.params) rfl) (pv 0) pe_int (λ _ _=>rfl))))) (z09 z1e rfl (T.no (n_len _)) B5 (z00 (pv 0) pa_nil)) (nomark _))
   (z05 z0q)
   z0g)
   (z05 (ps_ret (z1q z2u rfl (T.no (z6l _)) M9 (z00 (z09 z7i rfl (T.no (zcb _)) boot_sorted (z00 (pv 0) pa_nil)) pa_nil))))))),?_⟩
  have ly:d.length=b.length:=z04 x;refine sq_if (t_or ?_);refine ⟨_,rfl,_,_,"list",rfl,.inl ⟨⟨_,F⟩,rfl⟩,by decide,_,rfl,iteN (by decide) ?_⟩;refine tB_not (e_cb1 ?_);refine z13 (K:=KX w.params) (a:=a) (xs:=d) (H1:=H) (λ _=>true) (λ _ y _=>y=.bl true) (λ _ _ _ _ _ z=>z) (λ R h=>⟨_,rfl,h⟩) (SqL.of F) (S0 (m:=6) (by omega) (by decide)) ?_ ?_
  ·intro i Y v H1 D C KT KF u k2;obtain ⟨t,r,tv⟩:=z0b x C;refine ⟨[some v],rfl,rfl,iteT ?_⟩;exact ⟨_,rfl,t,v,rfl,tv.same D,ok t (I0 r),λ X f=>u rfl _ _ f rfl⟩
  intro O H1 bs D a3 a2;have U :∀y∈bs,y=.bl true:=λ y k=>by obtain ⟨m,hm⟩:=List.mem_iff_getElem?.mp k;obtain ⟨_,_,z⟩:=z0b a2 hm;exact z
  refine ⟨O,bs,rfl,SqL.of z02,λ y k=>⟨true,U y k⟩,?_⟩;rw [List.all_eq_true.mpr (λ y k=>decide_eq_true (U y k))];refine ⟨_,rfl,iteN (by decide) ?_⟩;have f:=D.trans (Same.upd (o:=.lst bs) a3);generalize upd H1 O (.lst bs)=X at f⊢;have I:=f _ _ F;have J:=z01 (λ _ _ z=>ThV.same f z) x;refine t_nx (sq_if ?_);refine ⟨_,rfl,.inl ⟨a,_,rfl,.inl (SqL.of I),_,_,rfl,rfl,_,rfl,iteN (λ e=>absurd (of_decide_eq_true e) (by omega)) ?_⟩⟩;refine t_nx (sq_if (t_test (zg8 ?_)));refine z13 (K:=KX w.params) (a:=a) (xs:=d) (H1:=X) (λ _=>true) (λ i y _=>y=.str ((b[i]?.getD ("","")).1)) (λ _ _ _ _ _ z=>z) (λ R h=>⟨_,rfl,h⟩) (SqL.of I) (S0 (m:=6) (by omega) (by decide)) ?_ ?_
  ·intro i Y v B G C KT KF u k2;obtain ⟨t,r,p,rfl,ep⟩:=z0b J C;refine ⟨[some (.ref p)],rfl,rfl,iteT ?_⟩;exact ⟨_,rfl,.inr (.inl ⟨p,_,0,.str t.1,rfl,rfl,SqT.of (G _ _ ep),z06 (j:=0) rfl,u rfl _ _ (Same.refl _) (by rw [r];rfl)⟩)⟩
  intro n B zs G a4 W;rw [List.filter_eq_self.mpr (λ _ _=>rfl)] at W;have ez:=zec J W;subst ez;have l:=G.trans (Same.upd (o:=.lst ((b.map (·.1)).map V.str)) a4);have L:upd B n (.lst ((b.map (·.1)).map V.str)) n=some (.lst ((b.map (·.1)).map V.str)):=z02;generalize upd B n (.lst ((b.map (·.1)).map V.str))=H4 at l L⊢;have S:=l _ _ I;have a0:=z01 (λ _ _ z=>ThV.same l z) J;refine ⟨n,b.map (·.1),rfl,SqL.of L,by rw [O0];omega,_,rfl,.inl ⟨a,_,rfl,.inl (SqL.of S),_,_,rfl,rfl,_,rfl,iteN (λ e=>absurd (of_decide_eq_true e) ?_) ?_⟩⟩
  ·rw [z6f _ [] M (λ _ _=>F0),C3,O0];omega
  refine t_nx (sq_ret ?_);refine ⟨_,rfl,a,d,b.map (·.1),rfl,SqL.of S,zet a0,by omega,M,λ l5 p a1 pp pw=>?_⟩;have s5:=l.trans (Same.upd (o:=.lst (p.map λ i=>d.getD i .non)) a1);refine ⟨l5,_,rfl,.inl ⟨SqL.of z02,λ c hc=>?_⟩⟩;exact q p c _ (f.trans (s5.trans (Same.upd hc))) z02 pp pw
def z6t:Sp:=λ vs H Q _=>∃h:Int,vs=[.int h]/\0<=h/\h<=5/\Q (.bl true) H
theorem zb4 (T:TX (kx w) mg) (c0:Ca P w mg base "is_whole" ["value"] 1 z1s):Fo P w mg base CX0 2 323 y0y ["hand"] z6t:=by
 refine (z5j w.params).ok zbk (λ c H Q E h=>?_) (λ f A g s H c Q E b h=>?_)
 ·obtain ⟨h,rfl,_⟩:=h;rfl
 ·obtain ⟨h,rfl,d,a,q⟩:=h;refine ⟨_,(z05 (ps_ret (pe_and (pe_cal c0 (b.mono (by decide)) rfl (z00 (pv 0) pa_nil)) (pe_one (z7k op_le op_le pe_int (pv 0) (z0h (v:=.int (5)) rfl (T.of (z9m _)) ⟨_,rfl⟩)))))),?_⟩;refine ⟨_,rfl,_,"int",rfl,rfl,_,rfl,iteP (by decide) ?_⟩;refine ⟨_,rfl,_,_,rfl,rfl,_,rfl,?_⟩;rw [decide_eq_true d];refine iteT ⟨_,_,rfl,rfl,?_⟩;have e:decide (h<=5)=true:=decide_eq_true a;show Q (.bl (decide (h<=5))) H;rw [e];exact q
def z2f:Sp:=λ vs H Q _=>∃(p:Addr) (xs:List V) (z wd:Str) (h m:Int),vs=[.ref p,.str wd,.int m]/\H p=some (.tup (.str z :: .int h :: xs))/\0<=h/\h<=5/\Q (.bl (decide (((xs.length + 2:Nat):Int)=m) && decide (z=wd))) H
theorem z9b (T:TX (kx w) mg) (c0:Ca P w mg base "is_tuple_of" ["value","many"] 1 z0y) (c1:Ca P w mg base "is_hand" ["hand"] 2 z6t):Fo P w mg base CX0 3 316 y0m ["event","word","many"] z2f:=by
 refine (z38 w.params).ok z9d (λ f H Q E h=>?_) (λ l A k s H f Q E b h=>?_)
 ·obtain ⟨p,d,z,c,h,m,rfl,_⟩:=h;rfl
 ·obtain ⟨p,d,z,c,h,m,rfl,a,g,i,q⟩:=h;refine ⟨_,(z05 (ps_ret (pe_and (pe_cal c0 (b.mono (by decide)) rfl (z00 (pv 0) (z00 (pv 2) pa_nil))) (pe_and (z09 z0f rfl (T.no (z08 _)) V1 (z00 (pe_ix ix_seq (pv 0) pe_int (λ _ _=>rfl)) (z00 (z0w (v:=.ty "str") rfl (T.no (n_str _)) j24 rfl) pa_nil))) (pe_and (z0x opEq (pe_ix ix_seq (pv 0) pe_int (λ _ _=>rfl)) (pv 1) (nomark _)) (pe_one (pe_cal c1 (b.mono (by decide)) rfl (z00 (pe_ix ix_seq (pv 0) pe_int (λ _ _=>rfl)) pa_nil)))))))),?_⟩;refine ⟨_,rfl,_,rfl,_,"tuple",m,rfl,.inr (.inl ⟨⟨_,a⟩,rfl⟩),?_⟩;rw [z5r a];refine ⟨_,rfl,?_⟩;by_cases hm:((d.length + 2:Nat):Int)=m;rotate_left
  ·rw [decide_eq_false hm,n6] at q;exact iteN (λ e=>hm (of_decide_eq_true e)) q
  rw [decide_eq_true hm,M7] at q;refine iteP (decide_eq_true hm) ?_;refine ⟨_,rfl,.inr (.inl ⟨p,_,0,.str z,rfl,rfl,SqT.of a,z06 (j:=0) rfl,_,_,"str",rfl,rfl,by decide,_,rfl,iteP (by decide) ?_⟩)⟩;refine ⟨_,rfl,.inr (.inl ⟨p,_,0,.str z,rfl,rfl,SqT.of a,z06 (j:=0) rfl,_,rfl,rfl,_,rfl,?_⟩)⟩;by_cases hz:z=c
  ·subst hz;refine iteP (decide_eq_true rfl) ?_;rw [decide_eq_true rfl] at q;exact ⟨_,rfl,.inr (.inl ⟨p,_,1,.int h,rfl,rfl,SqT.of a,z06 (j:=1) rfl,h,rfl,g,i,q⟩)⟩
  ·refine iteN (λ e=>hz (by have:=of_decide_eq_true e;injection this)) ?_;rw [decide_eq_false hz] at q;exact q
def AnsOk (a:V):Prop:=a=.str "ok"\/a=.str "none"\/∃i,a=.int i/\z0n (.int i) 1000000000000=true
theorem zbh {H:Hp}:SqT (kx w) H 271 [.str "ok",.str "none"]:=
 .inr ⟨⟨(.type "tuple"),none,(.seq #[(.str "ok" 606),(.str "none" 607)] 0),#[]⟩,#[(.str "ok" 606),(.str "none" 607)],0,by kernel_rfl,rfl,rfl,w_2,.cons ⟨_,rfl⟩ (.cons ⟨_,rfl⟩ .nil)⟩
def z3i:Sp:=λ vs H Q _=>∃a,vs=[a]/\AnsOk a/\Q (.bl true) H
theorem z7l (T:TX (kx w) mg) (c0:Ca P w mg base "is_within" ["value","greatest"] 2 z22):Fo P w mg base CX0 3 330 y0d ["answer"] z3i:=by
 refine (z2h w.params).ok z7j (λ c H Q E h=>?_) (λ d A e s H c Q E b h=>?_)
 ·obtain ⟨a,rfl,_⟩:=h;rfl
 ·obtain ⟨a,rfl,ok,q⟩:=h;refine ⟨_,(z03 (ps_if (pt_val (z09 z0f rfl (T.no (z08 _)) V1 (z00 (pv 0) (z00 (z0w (v:=.ty "str") rfl (T.no (n_str _)) j24 rfl) pa_nil))) (λ _=>rfl))
   (z05 (ps_ret (z0x z8g (pv 0) (z0h (v:=.ref 271) rfl (T.of (z4t _)) rfl) (by with_unfolding_all rfl))))
   z0g)
   (z05 (ps_ret (pe_cal c0 (b.mono (by decide)) rfl (z00 (pv 0) (z00 (z0h (v:=.int (1000000000000)) rfl (T.of (z2z _)) ⟨_,rfl⟩) pa_nil)))))),?_⟩
  refine sq_if ?_;rcases ok with rfl|rfl|⟨i,rfl,hi⟩
  ·refine ⟨_,rfl,_,_,"str",rfl,rfl,by decide,_,rfl,iteP (by decide) ?_⟩;exact ⟨_,rfl,271,_,rfl,.inr zbh,rfl,rfl,q⟩
  ·refine ⟨_,rfl,_,_,"str",rfl,rfl,by decide,_,rfl,iteP (by decide) ?_⟩;exact ⟨_,rfl,271,_,rfl,.inr zbh,rfl,rfl,q⟩
  ·refine ⟨_,rfl,_,_,"int",rfl,rfl,by decide,_,rfl,iteN (by decide) ?_⟩;refine t_nx (sq_ret ?_);refine ⟨_,rfl,_,"int",_,rfl,rfl,?_⟩;rw [hi];exact q
inductive XOk (H:Hp):Str->Str->V->Prop
 | none {k v:Str}:formOf k v=0->XOk H k v .non
 | one {k v:Str} {i:Int}:formOf k v=1->z0n (.int i) 1000000000=true->XOk H k v (.int i)
 | two {k v:Str} {i j:Int} {p:Addr}:formOf k v=2->H p=some (.tup [.int i,.int j])->z0n (.int i) 1000000000=true->z0n (.int j) 1000000000=true->XOk H k v (.ref p)
theorem XOk.same {H H':Hp} {k v:Str} {x:V} (s:Same H H') (h:XOk H k v x):XOk H' k v x:=by
 cases h with
 | none e=>exact .none e
 | one e h=>exact .one e h
 | two e h1 h2 h3=>exact .two e (s _ _ h1) h2 h3
theorem XOk.deed {H:Hp} {k v:Str} {x:V} (h:XOk H k v x):deedB H (.str k) (.str v) x=true/\(∃T,TagOf H x T)/\Flat H x:=by
 cases h with
 | none e=>refine ⟨?_,⟨"NoneType",rfl⟩,λ b z=>by cases z⟩;unfold deedB;dsimp only;rw [e,if_pos rfl];rfl
 | one e h=>refine ⟨?_,⟨"int",rfl⟩,λ b z=>by cases z⟩;unfold deedB;dsimp only;rw [e,if_neg (by decide),if_pos rfl];exact h
 | two e h1 h2 h3=>
  rename_i i j p;refine ⟨?_,⟨"tuple",.inr (.inl ⟨⟨_,h1⟩,rfl⟩)⟩,λ b z=>?_⟩
  ·unfold deedB;dsimp only;rw [e,if_neg (by decide),if_neg (by decide),if_pos rfl,z5r h1];show (decide ([V.int i,V.int j].length=2) && (z0n (.int i) 1000000000 && (z0n (.int j) 1000000000 && true)))=true;rw [h2,h3];rfl
  ·rw [z5r h1] at z;cases z;refine ⟨(show (2:Nat)<=1000 by decide),λ y a=>?_⟩;simp only [g4,F0,or_false] at a;rcases a with rfl|rfl<;>exact ⟨"int",rfl⟩
noncomputable def EvT (H:Hp) (ts:List (Str×Str)):Ev->V->Prop
 | .beg h n v x,y=>∃p nm k vb,y=.ref p/\H p=some (.tup [.str "begin",.int h,n,v,x])/\0<=h/\h<=5/\n=.str nm/\v=.str vb/\(nm,k)∈ts/\NameOk nm/\XOk H k vb x
 | .fin h a,y=>∃p,y=.ref p/\H p=some (.tup [.str "end",.int h,a])/\0<=h/\h<=5/\AnsOk a
theorem EvT.same {H H':Hp} {ts:List (Str×Str)} (s:Same H H') :∀{e:Ev} {y:V},EvT H ts e y->EvT H' ts e y
 | .beg h n v x,_,⟨p,nm,k,vb,h1,h2,h3,h4,h5,h6,h7,h8,h9⟩=>⟨p,nm,k,vb,h1,s _ _ h2,h3,h4,h5,h6,h7,h8,h9.same s⟩
 | .fin h a,_,⟨p,h1,h2,h3⟩=>⟨p,h1,s _ _ h2,h3⟩
def KdAt (H:Hp) (d:Addr) (ts:List (Str×Str)):Prop:=∃kvs:List (Key×V),H d=some (.dK kvs)/\∀nm k,(nm,k)∈ts->valV kvs (.inr nm)=some (.str k)
theorem KdAt.same {H H':Hp} {d:Addr} {ts:List (Str×Str)} (s:Same H H') (h:KdAt H d ts):KdAt H' d ts:=h.elim λ a z=>⟨a,s _ _ z.1,z.2⟩
noncomputable def isBeg:Ev->Bool
 | .beg _ _ _ _=>true
 | .fin _ _=>false
def z4j:Sp:=λ vs H Q _=>∃e y d ts,vs=[y,.ref d]/\EvT H ts e y/\KdAt H d ts/\∀H',Same H H'->Q (.bl (isBeg e)) H'
theorem z9j (T:TX (kx w) mg) (c0:Ca P w mg base "is_event" ["event","word","many"] 3 z2f) (c1:Ca P w mg base "is_name" ["value"] 1 z3j) (c2:Ca P w mg base "is_deed" ["kind","verb","worth"] 4 z6n):Fo P w mg base CX0 5 302 y0l ["event","kinds"] z4j:=by
 refine (z3k w.params).ok z9s (λ u H Q E h=>?_) (λ S A R s H u Q E c h=>?_)
 ·obtain ⟨e,y,d,O,rfl,_⟩:=h;rfl
 ·obtain ⟨e,y,d,O,rfl,o,⟨V,z,J⟩,q⟩:=h;refine ⟨_,(z03 (ps_if (PW.pt (pw_or (pt_not (pt_val (pe_cal c0 (c.mono (by decide)) rfl (z00 (pv 0) (z00 pe_str (z00 pe_int pa_nil)))) (λ _=>rfl))) (pw_or (pt_not (pt_val (pe_cal c1 (c.mono (by decide)) rfl (z00 (pe_ix ix_seq (pv 0) pe_int (λ _ _=>rfl)) pa_nil)) (λ _=>rfl))) (pw_or1 (pt_cmp (z89 (hu_of c) (pe_ix ix_seq (pv 0) pe_int (λ _ _=>rfl)) (pv 1)) (by with_unfolding_all rfl))))))
   (z05 (ps_ret pe_bl))
   z0g)
   (z05 (ps_ret (pe_cal c2 (c.mono (by decide)) rfl (z00 (zaj (hu_of c) (pv 1) (pe_ix ix_seq (pv 0) pe_int (λ _ _=>rfl)) (λ _ _=>rfl)) (z00 (pe_ix ix_seq (pv 0) pe_int (λ _ _=>rfl)) (z00 (pe_ix ix_seq (pv 0) pe_int (λ _ _=>rfl)) pa_nil))))))),?_⟩
  refine sq_if ?_;cases e with
  | fin h a=>obtain ⟨p,rfl,f,l,m,_⟩:=o;refine ⟨_,rfl,p,[a],"end","begin",h,5,rfl,f,l,m,_,rfl,iteP (by rw [show decide (("end" : Str) = "begin")=false by decide +kernel,y7];rfl) ?_⟩;exact iteP rfl (q _ (Same.refl _))
  | beg h n v x=>obtain ⟨p,b,k,t,rfl,f,l,m,rfl,rfl,D,B,M⟩:=o;refine ⟨_,rfl,p,_,"begin","begin",h,5,rfl,f,l,m,_,rfl,iteN (by rw [show decide (("begin" : Str) = "begin")=true by decide +kernel];show ¬ (!(decide (((3 + 2:Nat):Int)=5) && true))=true;decide) ?_⟩;refine ⟨_,rfl,.inr (.inl ⟨p,_,2,.str b,rfl,rfl,SqT.of f,z06 (j:=2) rfl,b,rfl,B,λ C g=>⟨true,rfl,iteN (by decide) ?_⟩⟩)⟩;have F:=g _ _ z;have i:=g _ _ f;have r:DGet C d (.str b) (some (.str k)):=(J b k D) ▸ DGet.k (k:=.inr b) F;refine ⟨_,rfl,.inr (.inl ⟨p,_,2,.str b,rfl,rfl,SqT.of i,z06 (j:=2) rfl,?_⟩)⟩;refine ⟨_,rfl,d,_,rfl,r,_,rfl,iteN (by show ¬ (!true)=true;decide) ?_⟩;refine t_nx (sq_ret ?_);obtain ⟨N,⟨L,K⟩,G⟩:=(M.same g).deed;refine ⟨_,rfl,_,rfl,.inr (.inl ⟨p,_,2,.str b,rfl,rfl,SqT.of i,z06 (j:=2) rfl,d,_,rfl,r,?_⟩)⟩;refine ⟨_,rfl,.inr (.inl ⟨p,_,3,.str t,rfl,rfl,SqT.of i,z06 (j:=3) rfl,?_⟩)⟩;refine ⟨_,rfl,.inr (.inl ⟨p,_,4,x,rfl,rfl,SqT.of i,z06 (j:=4) rfl,_,_,_,"str","str",L,rfl,rfl,rfl,K,G,λ U I=>?_⟩)⟩;rw [N];exact q _ (g.trans I)
def z8y:Sp:=λ vs H Q _=>∃h a y ts,vs=[y]/\EvT H ts (.fin h a) y/\Q (.bl true) H
theorem zdb (T:TX (kx w) mg) (c0:Ca P w mg base "is_event" ["event","word","many"] 3 z2f) (c1:Ca P w mg base "is_answer" ["answer"] 3 z3i):Fo P w mg base CX0 4 309 y18 ["event"] z8y:=by
 refine (z7n w.params).ok ze8 (λ e H Q E h=>?_) (λ k A l s H e Q E b h=>?_)
 ·obtain ⟨h,a,y,i,rfl,_⟩:=h;rfl
 ·obtain ⟨h,a,y,i,rfl,⟨p,rfl,c,g,d,f⟩,q⟩:=h;refine ⟨_,(z05 (ps_ret (pe_and (pe_cal c0 (b.mono (by decide)) rfl (z00 (pv 0) (z00 pe_str (z00 pe_int pa_nil)))) (pe_one (pe_cal c1 (b.mono (by decide)) rfl (z00 (pe_ix ix_seq (pv 0) pe_int (λ _ _=>rfl)) pa_nil)))))),?_⟩;refine ⟨_,rfl,p,[a],"end","end",h,3,rfl,c,g,d,_,rfl,iteP (by rw [show decide (("end" : Str) = "end")=true by decide +kernel];rfl) ?_⟩;exact ⟨_,rfl,.inr (.inl ⟨p,_,2,a,rfl,rfl,SqT.of c,z06 (j:=2) rfl,a,rfl,f,q⟩)⟩
def z24 (K:d0):Sp:=λ vs H Q _=>∃a ys ts es,vs=[.ref a]/\SqL K H a ys/\All2 (EvT H ts) es ys/\es.length<=1000/\EWf [] es/\∀H',Same H H'->Q (.bl true) H'
theorem z4v (T:TX (kx w) mg):Fo P w mg base CX0 1 337 y06 ["events"] (z24 (kx w)):=by
 refine (z1g w.params).ok sc_go_by_turns (λ I H Q E h=>?_) (λ a1 A a0 s H I Q E D h=>?_)
 ·obtain ⟨a,l,ts,f,rfl,_⟩:=h;rfl
 ·obtain ⟨a,l,ts,f,rfl,t,C,ln,R,q⟩:=h;refine ⟨_,(z03 (ps_set (i:=1) sc_go_by_turns.nd rfl (A2 rfl) zae)
   (z03 (ps_for F3 rfl (z0t (pv 0)) (z0p (i:=2) sc_go_by_turns.nd rfl (A2 rfl))
   (z03 (ps_set (i:=3) sc_go_by_turns.nd rfl (A2 rfl) (z0x opEq (pe_ix ix_seq (pv 2) pe_int (λ _ _=>rfl)) pe_str (nomark _)))
   (z03 (ps_if (z0c opEq (zf4 (hu_of D) (pv 1) (pe_ix ix_seq (pv 2) pe_int (λ _ _=>rfl)) pe_bl ⟨rfl,rfl,rfl,rfl⟩) (pv 3) (nomark _))
   (z05 (ps_ret pe_bl))
   z0g)
   (z05 (zao (hu_of D) (pv 1) (pe_ix ix_seq (pv 2) pe_int (λ _ _=>rfl)) (pv 3) rfl)))))
   (z05 (ps_ret pe_bl)))),?_⟩
  have ly:l.length=f.length:=z04 C;refine z0j ?_;intro d hd;refine g_name ?_;obtain ⟨H0,v_,r,X⟩:=newA (.dK []) hd;rw [<-v_];refine ⟨_,rfl,a,rfl,⟨_,r.seq t⟩,?_⟩;refine z1x (K:=KX w.params) (a:=a) (xs:=l) (λ i σ o=>Same H o/\(∃kvs os,o d=some (.dK kvs)/\kvs.length<=i/\EWf os (f.drop i)/\∀h:Int,(valV kvs (.inl h)).getD (.bl false)=.bl (decide (h∈os)))/\∃x2 x3,σ=[some (.ref a),some (.ref d),x2,x3])
   ⟨r,⟨[],[],X,D0 _,by rw [P4];exact R,λ h=>by rw [decide_eq_false F0];rfl⟩,_,_,rfl⟩ (λ _ σ o _ h=>h.1.seq t) ?_ ?_
  ·rintro i y σ B Z ⟨s1,⟨kvs,os,ed,lk,wf1,kv⟩,x2,x3,rfl⟩;obtain ⟨e,J,M⟩:=z0b C Z;obtain ⟨G,W⟩:=List.getElem?_eq_some_iff.mp J;have N:f.drop i=e :: f.drop (i + 1):=by rw [Q5 G,W]
   rw [N] at wf1;have F:=EvT.same s1 M;refine g_name ?_;obtain ⟨p,xs,z,h,b,g,c,L,O,S,U⟩ :∃(p:Addr) (xs:List V) (z:Str) (h:Int) (b:Bool),y=.ref p/\B p=some (.tup (.str z :: .int h :: xs))/\decide (z = "begin")=b/\decide (h∈os) = !b/\(∀k:Int,decide (k∈oStep os e)=if k=h then b else decide (k∈os))/\EWf (oStep os e) (f.drop (i + 1)):=by
    cases e with
    | beg h n v x=>
     obtain ⟨p,nm,k,vb,g,c,_⟩:=F;refine ⟨p,_,"begin",h,true,g,c,by decide +kernel,by rw [decide_eq_false (show h∉os from wf1.1)];rfl,λ k=>?_,wf1.2⟩;show decide (k∈os++[h])=_;by_cases z:k=h
     ·rw [if_pos z,decide_eq_true (List.mem_append.mpr (.inr (List.mem_singleton.mpr z)))]
     ·rw [if_neg z];by_cases y:k∈os
      ·rw [decide_eq_true y,decide_eq_true (List.mem_append.mpr (.inl y))]
      ·rw [decide_eq_false y,decide_eq_false (λ w=>(List.mem_append.mp w).elim y λ u=>z (List.mem_singleton.mp u))]
    | fin h a'=>
     obtain ⟨p,g,c,_⟩:=F;refine ⟨p,_,"end",h,false,g,c,by decide +kernel,by rw [decide_eq_true (show h∈os from wf1.1)];rfl,λ k=>?_,wf1.2⟩;show decide (k∈os.filter λ j=>decide (j≠h))=_;by_cases z:k=h
     ·rw [if_pos z,decide_eq_false (λ w=>(of_decide_eq_true (List.mem_filter.mp w).2) z)]
     ·rw [if_neg z];by_cases y:k∈os
      ·rw [decide_eq_true y,decide_eq_true (List.mem_filter.mpr ⟨y,decide_eq_true z⟩)]
      ·rw [decide_eq_false y,decide_eq_false (λ w=>y (List.mem_filter.mp w).1)]
   subst g;refine z0j ?_;refine ⟨_,rfl,.inr (.inl ⟨p,_,0,.str z,rfl,rfl,SqT.of c,z06 (j:=0) rfl,rfl,?_⟩)⟩;have Y:decide (V.str z=V.str "begin")=b:=by
    rw [<-L];by_cases y:z = "begin"
    ·rw [y,decide_eq_true rfl,decide_eq_true rfl]
    ·rw [decide_eq_false y,decide_eq_false (λ e=>y (by injection e))]
   rw [Y];refine g_name ?_;refine sq_if ?_;refine ⟨_,rfl,d,rfl,.inl ⟨_,.inl ed⟩,_,rfl,.inr (.inl ⟨p,_,1,.int h,rfl,rfl,SqT.of c,z06 (j:=1) rfl,_,DGet.k (k:=.inl h) ed,?_⟩)⟩;rw [kv h,O];refine ⟨_,rfl,rfl,_,rfl,iteN (by cases b<;>decide) ?_⟩;refine t_nx ?_;refine ⟨_,rfl,_,rfl,_,rfl,.inr (.inl ⟨p,_,1,.int h,rfl,rfl,SqT.of c,z06 (j:=1) rfl,d,_,rfl,DPut.k (k:=.inl h) ed (T2 (m:=1000) (by omega) (by decide)),?_⟩)⟩;refine ⟨Same.keep s1 hd,⟨_,oStep os e,z02,S0 zbd (by omega),U,λ k=>?_⟩,_,_,rfl⟩;rw [zb8,S k];by_cases z:k=h
   ·rw [if_pos (by rw [z]),if_pos z];rfl
   ·rw [if_neg (λ e=>z (g7 e)),if_neg z];exact kv k
  ·rintro σ B ⟨s1,_,x2,x3,rfl⟩;exact q _ s1
theorem zgu {H:Hp} {ts:List (Str×Str)} {e:Ev} {y:V} (h:EvT H ts e y) :∃(p:Addr) (z:Str) (r:List V),y=.ref p/\H p=some (.tup (.str z :: r))/\decide (z = "begin")=isBeg e:=by
 cases e with
 | beg h n v x=>obtain ⟨p,f,k,d,b,c,_⟩:=h;exact ⟨p,_,_,b,c,(show decide (("begin" : Str) = "begin")=true by decide +kernel)⟩
 | fin h a=>obtain ⟨p,b,c,_⟩:=h;exact ⟨p,_,_,b,c,(show decide (("end" : Str) = "begin")=false by decide +kernel)⟩
theorem z8i {z y:Str}:decide (V.str z=V.str y)=decide (z=y):=by
 by_cases e:z=y
 ·rw [e,decide_eq_true rfl,decide_eq_true rfl]
 ·rw [decide_eq_false e,decide_eq_false (λ x=>e (by injection x))]
def z28 (K:d0):Sp:=λ vs H Q _=>∃a d ys ts es,vs=[.ref a,.ref d]/\H a=some (.lst ys)/\KdAt H d ts/\All2 (EvT H ts) es ys/\es.length<=1000/\(es.filter isBeg).length<=24/\EWf [] es/\∀c H',Same H H'->H' c=some (.tup ys)->Q (.ref c) H'
theorem z4x (T:TX (kx w) mg) (c0:Ca P w mg base "is_begin" ["event","kinds"] 5 z4j) (c1:Ca P w mg base "is_end" ["event"] 4 z8y) (c2:Ca P w mg base "go_by_turns" ["events"] 1 (z24 (kx w))):Fo P w mg base CX0 6 295 y05 ["events","kinds"] (z28 (kx w)):=by
 refine (z1i w.params).ok z5o (λ vs H Q E h=>?_) (λ a9 A a8 s H vs Q E L h=>?_)
 ·obtain ⟨a,d,k,D,f,rfl,_⟩:=h;rfl
 ·obtain ⟨a,d,k,D,f,rfl,M,kd,I,ln,a7,wf,q⟩:=h;refine ⟨_,(z03 (ps_if (PW.pt (pw_or (pt_not (pt_val (z09 z0f rfl (T.no (z08 _)) V1 (z00 (pv 0) (z00 (z0w (v:=.ty "list") rfl (T.no (n_list _)) boot_list rfl) pa_nil))) (λ _=>rfl))) (pw_or1 (pt_not (pt_val (z09 (z29 rfl) rfl (T.no (n_all _)) j25 (z00 (pe_cg (xs:=["event"]) (g:=gName 0) (fr:=[(1,"kinds")]) (z0t (pv 0)) (λ _ _ _ _ _=>(pg_cn (N:=["event","kinds"]) 0)) (λ _ _ _ _ _=>pf_nil) (λ _ _ _ _ _=>(pe_or (pe_cal c0 (L.mono (by decide)) rfl (z00 (pv 0) (z00 (pv 1) pa_nil))) (pe_one (pe_cal c1 (L.mono (by decide)) rfl (z00 (pv 0) pa_nil)))))) pa_nil)) (λ _=>rfl))))))
   (z05 z0q)
   z0g)
   (z03 (ps_if (z0c op_gt (z09 z1e rfl (T.no (n_len _)) B5 (z00 (pe_cg (xs:=["event"]) (g:=gName 0) (fr:=[]) (z0t (pv 0)) (λ _ _ _ _ _=>(pg_cn (N:=["event"]) 0)) (λ _ _ _ _ _=>(pf_one (z0c opEq (pe_ix (z1v (K:=KX w.params) rfl) (pv 0) pe_int (λ _ _=>rfl)) pe_str (nomark _)))) (λ _ _ _ _ _=>(pv 0))) pa_nil)) (z0h (v:=.int (24)) rfl (T.of (z6c _)) ⟨_,rfl⟩) (nomark _))
   (z05 z0q)
   z0g)
   (z03 (ps_if (pt_not (pt_val (pe_cal c2 (L.mono (by decide)) rfl (z00 (pv 0) pa_nil)) (λ _=>rfl)))
   (z05 z0q)
   z0g)
   (z05 (ps_ret (z1q z2u rfl (T.no (z6l _)) M9 (z00 (pv 0) pa_nil))))))),?_⟩
  have ly:k.length=f.length:=z04 I;refine sq_if (t_or ?_);refine ⟨_,rfl,_,_,"list",rfl,.inl ⟨⟨_,M⟩,rfl⟩,by decide,_,rfl,iteN (by decide) ?_⟩;refine tB_not (e_cb1 ?_);refine z13 (K:=KX w.params) (a:=a) (xs:=k) (H1:=H) (λ _=>true) (λ _ y _=>y=.bl true) (λ _ _ _ _ _ z=>z) (λ R h=>⟨_,rfl,h⟩) (SqL.of M) (S0 (m:=1000) (by omega) (by decide)) ?_ ?_
  ·intro i hi v H1 B J KT KF l G;obtain ⟨e,U,F⟩:=z0b I J;have a0:=EvT.same B F;refine ⟨[some v],rfl,rfl,iteT ?_⟩;refine ⟨_,rfl,_,rfl,e,v,d,D,rfl,a0,kd.same B,λ H2 b=>⟨_,rfl,?_⟩⟩;cases e with
   | beg h n v' x=>exact iteP rfl (l rfl _ _ b rfl)
   | fin h a'=>exact iteN (λ z=>by cases z) ⟨_,rfl,h,a',v,D,rfl,EvT.same b a0,l rfl _ _ b rfl⟩
  intro S H1 bs B a4 a3;have W :∀y∈bs,y=.bl true:=λ y t=>by obtain ⟨m,hm⟩:=List.mem_iff_getElem?.mp t;obtain ⟨_,_,z⟩:=z0b a3 hm;exact z
  refine ⟨S,bs,rfl,SqL.of z02,λ y t=>⟨true,W y t⟩,?_⟩;rw [List.all_eq_true.mpr (λ y t=>decide_eq_true (W y t))];refine ⟨_,rfl,iteN (by decide) ?_⟩;have b:=B.trans (Same.upd (o:=.lst bs) a4);generalize upd H1 S (.lst bs)=H2 at b⊢;have a1:=b _ _ M;have Z:=z01 (λ _ _ z=>EvT.same b z) I;refine t_nx (sq_if (zf7 ?_));refine z13 (K:=KX w.params) (a:=a) (xs:=k) (H1:=H2) (λ i=>isBeg (f[i]?.getD (.fin 0 .non))) (λ _ y _=>True) (λ _ _ _ _ _ z=>z) (λ R h=>⟨_,rfl,h⟩) (SqL.of a1) (S0 (m:=1000) (by omega) (by decide)) ?_ ?_
  ·intro i hi v Y O J KT KF l G;obtain ⟨e,U,F⟩:=z0b Z J;rw [U] at l G;obtain ⟨p,z,r,rfl,ep,hz⟩:=zgu (EvT.same O F);refine ⟨[some (.ref p)],rfl,rfl,?_⟩;refine ⟨_,rfl,.inr (.inl ⟨p,_,0,.str z,rfl,rfl,SqT.of ep,z06 (j:=0) rfl,rfl,_,rfl,?_⟩)⟩;rw [z8i,hz];cases hbe:isBeg e with
   | true=>exact iteP rfl ⟨_,rfl,l hbe _ _ (Same.refl _) trivial⟩
   | false=>exact iteN (by decide) (G hbe _ (Same.refl _))
  intro l3 Y u O a5 a6;have lz:u.length<=24:=by rw [z04 a6,ly];have:=congrArg List.length (z11 isBeg (λ e=>e) (.fin 0 .non) f);rw [O0,O0] at this;rw [this];exact a7
  have C:=O.trans (Same.upd (o:=.lst u) a5);refine .inl ⟨l3,u,rfl,.inl (SqL.of z02),?_⟩;generalize upd Y l3 (.lst u)=H4 at C⊢;refine ⟨_,_,rfl,rfl,_,rfl,iteN (λ e=>absurd (of_decide_eq_true e) (by omega)) ?_⟩;refine t_nx (sq_if ?_);have V:=C _ _ a1;have a2:=z01 (λ _ _ z=>EvT.same C z) Z;refine ⟨_,rfl,a,k,D,f,rfl,SqL.of V,a2,ln,wf,λ H5 X=>⟨true,rfl,iteN (by decide) ?_⟩⟩;refine t_nx (sq_ret ?_);refine ⟨_,rfl,a,_,rfl,.inl ⟨SqL.of (X _ _ V),λ c hc=>?_⟩⟩;exact q c _ (((b.trans C).trans X).trans (Same.upd hc)) z02
theorem z4a :∀(more kvs:List (Key×V)),((kvs++more).map (·.1)).Nodup->mergeK kvs more=kvs++more
 | [],kvs,_=>(U2 _).symm
 | kv :: more,kvs,nd=>by
  have a:kv.1∉kvs.map (·.1):=λ z=>by rw [N3,List.nodup_append] at nd;exact nd.2.2 _ z _ (.head _) rfl
  show mergeK (putK kvs kv.1 kv.2) more=_;rw [z39 a,z4a more (kvs++[(kv.1,kv.2)]) (by rw [q9];exact nd),q9];rfl
theorem val_in :∀{kvs:List (Key×V)} {k:Key} {v:V},(kvs.map (·.1)).Nodup->(k,v)∈kvs->valV kvs k=some v
 | (k',v') :: kvs,k,v,nd,h=>by
  rw [N1,V5] at nd;rcases List.mem_cons.mp h with e|h
  ·cases e;exact z0r rfl
  ·rw [z0s (λ e=>nd.1 (by have e:k'=k:=e;subst e;exact List.mem_map.mpr ⟨_,h,rfl⟩))];exact val_in nd.2 h
def z16 (K:d0):Sp:=λ vs H Q _=>∃a b ys ts zs es,vs=[.ref a,.ref b]/\H a=some (.lst ys)/\All2 (ThV H) ts ys/\ts.length<=6/\(ts.map (·.1)).Nodup/\(∀t∈ts,ThingOk t)/\H b=some (.lst zs)/\All2 (EvT H ts) es zs/\es.length<=1000/\(es.filter isBeg).length<=24/\EWf [] es/\
 ∀(p:List Nat) t c e H',Same H H'->H' t=some (.tup [.ref c,.ref e])->H' c=some (.tup (p.map λ i=>ys.getD i .non))->H' e=some (.tup zs)->p.Perm (A1 ys.length)->(p.map λ i=>(ts.map (·.1)).getD i ("" : Str)).Pairwise (λ x y=>ltS x y=true)->Q (.ref t) H'
theorem z74 (T:TX (kx w) mg) (c0:Ca P w mg base "make_things" ["things"] 3 (z26 (kx w))) (c1:Ca P w mg base "make_events" ["events","kinds"] 6 (z28 (kx w))):Fo P w mg base CX0 7 278 y0c ["things","events"] (z16 (kx w)):=by
 refine (z2j w.params).ok sc_make_tale (λ W H Q E h=>?_) (λ a3 A a2 s H W Q E M h=>?_)
 ·obtain ⟨a,b,l,f,I,C,rfl,_⟩:=h;rfl
 ·obtain ⟨a,b,l,f,I,C,rfl,ea,v,l6,X,ok,u,av,Y,a0,wf,q⟩:=h;refine ⟨_,(z03 (ps_set (i:=2) sc_make_tale.nd rfl (A2 rfl) (pe_cal c0 (M.mono (by decide)) rfl (z00 (pv 0) pa_nil)))
   (z05 (ps_ret (pe_tup (z00 (pv 2) (z00 (pe_cal c1 (M.mono (by decide)) rfl (z00 (pv 1) (z00 (z1q (z96 rfl) rfl (T.no (n_dict _)) boot_dict (z00 (pv 2) pa_nil)) pa_nil))) pa_nil)))))),?_⟩
  have ly:l.length=f.length:=z04 v;refine z0j ?_;refine ⟨_,rfl,a,l,f,rfl,ea,v,l6,X,ok,λ p c m O J r G=>?_⟩;refine g_name ?_;have N :∀i∈p,i < f.length:=λ i g=>by have:=List.mem_range.mp (r.mem_iff.mp g);omega
  have a1 :∀p:List Nat,(∀i∈p,i < f.length)->All2 (λ (q:Key×V) y=>∃b,y=.ref b/\SqT (kx w) m b [kV q.1,q.2]) (p.map λ i=>((.inr (f.getD i ("","")).1,.str (f.getD i ("","")).2):Key×V)) (p.map λ i=>l.getD i .non):=by
   intro p;induction p with
   | nil=>intro _;exact .nil
   | cons i p ih=>
    intro L;have g:=L i (.head _);obtain ⟨y,hy,b,Z,u⟩:=z4h v (M0 g);refine .cons ⟨b,?_,?_⟩ (ih λ j hj=>L j (.tail _ hj))
    ·show l.getD i .non=_;rw [Y0,hy];exact Z
    ·show SqT (kx w) m b [.str (f.getD i ("","")).1,.str (f.getD i ("","")).2];rw [Y0,M0 g];exact SqT.of (O _ _ u)
  refine ⟨_,rfl,_,rfl,_,rfl,c,_,_,rfl,.inr J,a1 p N,λ d hd=>?_⟩;have D:((p.map λ i=>((.inr (f.getD i ("","")).1,.str (f.getD i ("","")).2):Key×V)).map (·.1)).Nodup:=by
   rw [J4];have F:(p.map λ i=>(f.map (·.1)).getD i ("" : Str)).Nodup:=G.imp λ {x y} z e=>by rw [e,z3p] at z;cases z
   have e1:(p.map λ i=>(f.map (·.1)).getD i ("" : Str))=p.map λ i=>(f.getD i ("","")).1:=List.map_congr_left λ i g=>by have g:=N i g;rw [Y0,Y0,U1,M0 g];rfl
   rw [e1] at F;have:(p.map ((·.1) ∘ λ i=>((.inr (f.getD i ("","")).1,.str (f.getD i ("","")).2):Key×V)))=(p.map λ i=>(f.getD i ("","")).1).map Sum.inr:=by rw [J4];rfl
   rw [this];exact L2.nodup_map_on (λ a _ b _ e=>j16 e) F
  have mg:mergeK [] (p.map λ i=>((.inr (f.getD i ("","")).1,.str (f.getD i ("","")).2):Key×V))=p.map λ i=>((.inr (f.getD i ("","")).1,.str (f.getD i ("","")).2):Key×V):=z4a _ [] D;rw [mg];have n:=O.trans (Same.upd (o:=.dK (p.map λ i=>((.inr (f.getD i ("","")).1,.str (f.getD i ("","")).2):Key×V))) hd);have K:KdAt (upd m d (.dK (p.map λ i=>((.inr (f.getD i ("","")).1,.str (f.getD i ("","")).2):Key×V)))) d f:=⟨_,z02,λ nm k hm=>by obtain ⟨i,g⟩:=List.mem_iff_getElem?.mp hm;refine val_in D (List.mem_map.mpr ⟨i,r.mem_iff.mpr (List.mem_range.mpr (by rw [ly];exact (List.getElem?_eq_some_iff.mp g).1)),?_⟩);rw [Y0,g];rfl⟩
  have S:=(Same.upd (o:=.dK (p.map λ i=>((.inr (f.getD i ("","")).1,.str (f.getD i ("","")).2):Key×V))) hd) _ _ J;generalize upd m d (.dK (p.map λ i=>((.inr (f.getD i ("","")).1,.str (f.getD i ("","")).2):Key×V)))=H2 at n K S⊢;refine ⟨b,d,I,f,C,rfl,n _ _ u,K,z01 (λ _ _ z=>EvT.same n z) av,Y,a0,wf,λ e H3 R ee=>⟨w_2,λ t U=>?_⟩⟩;have B:=Same.upd (o:=.tup [.ref c,.ref e]) U;exact q p t c e _ ((n.trans R).trans B) z02 (B _ _ (R _ _ S)) (B _ _ ee) r G
end
section
mutual
noncomputable def HPd (H:Hp):G6->V->Prop
 | .none,v=>v=.non
 | .bool b,v=>v=.bl b
 | .int i,v=>v=.int i
 | .str z,v=>v=.str z
 | .list ds,v=>∃a xs,v=.ref a/\H a=some (.lst xs)/\HPds H ds xs
 | .tuple ds,v=>∃a xs,v=.ref a/\H a=some (.tup xs)/\HPds H ds xs
 | .dict kvs,v=>kvs=[]/\∃a,v=.ref a/\H a=some (.dK [])
noncomputable def HPds (H:Hp):List G6->List V->Prop
 | [],xs=>xs=[]
 | d :: ds,xs=>∃x r,xs=x :: r/\HPd H d x/\HPds H ds r
end
noncomputable def dif (B H:Hp):Hp:=λ p=>if B p=none then H p else none
noncomputable def tDat (P:L2.St->Prop) (d:G6):TE:=λ σ H Q=>P σ/\∀v H',Same H H'->HPd (dif H H') d v->Q v H'
noncomputable def tDats (P:L2.St->Prop) (ds:List G6):TA:=λ σ H Q=>P σ/\∀xs H',Same H H'->HPds (dif H H') ds xs->Q xs H'
variable {X:Cx} {pos:Pos} {P:L2.St->Prop}
structure QD (X:Cx) (P:L2.St->Prop) (e:Expr) (d:G6):Prop where
 run:PE X e (tDat P d)
structure QDs (X:Cx) (P:L2.St->Prop) (es:List Expr) (ds:List G6):Prop where
 run:PA X es (tDats P ds)
end
section
theorem z3r {α:Type} {l:List α} {i:Nat} {x:α} (h:l[i]? = some x):i < l.length:=(List.getElem?_eq_some_iff.mp h).1
theorem z8s :∀{es:List Ev} {i:Nat} {rs:List Rc} {e:Ev},dAll i rs (es++[e])=dstep (i + es.length) (dAll i rs es) e
 | [],i,rs,e=>rfl
 | x :: es,i,rs,e=>by show dAll (i + 1) (dstep i rs x) (es++[e])=dstep (i + (es.length + 1)) (dAll (i + 1) (dstep i rs x) es) e;rw [z8s,show i + (es.length + 1)=i + 1 + es.length by omega]
noncomputable def isW (r:Rc):Bool:=decide (r.v=.str "write")
noncomputable def intV:V->Int
 | .int i=>i
 | _=>0
def RdG (r:Rc):Prop:=r.v=.str "read"/\r.x=.non/\∀e,r.e=some e->r.a=.int (intV r.a)
def WrG (_:Int) (r:Rc):Prop:=r.v=.str "write"/\True/\r.x=.int (intV r.x)/\∀e,r.e=some e->r.a=.str "ok"
theorem z1h:(V.str "read")≠.str "write":=by decide +kernel
theorem WrG.w {wr:Int} {r:Rc} (h:WrG wr r):isW r=true:=decide_eq_true h.1
theorem RdG.w {r:Rc} (h:RdG r):isW r=false:=decide_eq_false λ e=>z1h (h.1.symm.trans e)
theorem z8e {rs:List Rc} {i:Nat} {r:Rc} (h:rs[i]? = some r):rs.take (i + 1)=rs.take i++[r]:=by rw [k7,h];rfl
theorem z2c :∀(us ns:List Int),us.Nodup->(∀u∈us,u∉ns)->(us.foldl addI ns).length=ns.length + us.length
 | [],ns,_,_=>rfl
 | u :: us,ns,nd,h=>by
  rw [V5] at nd;have e:addI ns u=ns++[u]:=by unfold addI;rw [if_neg (h u (.head _))]
  rw [W5,e,z2c us (ns++[u]) nd.2 λ v a z=>?_]
  ·simp only [N0,T0,C3];omega
  ·rcases List.mem_append.mp z with z|z
   ·exact h v (.tail _ a) z
   ·rw [List.mem_singleton.mp z] at a;exact nd.1 a
structure TwG (es:List Ev):Prop where
 wf:dWf 0 [] es
 g :∀wr:Int,∀r∈dAll 0 [] es,RdG r\/WrG wr r
 nd:(((dAll 0 [] es).filter isW).map (λ r=>intV r.x)).Nodup
 n0:(0:Int)∉((dAll 0 [] es).filter isW).map (λ r=>intV r.x)
structure PosI (n:Nat) (rs:List Rc):Prop where
 b :∀r∈rs,r.b < n
 e :∀r∈rs,∀e,r.e=some e->e < n
 bb :∀(i j:Nat) (r q:Rc),rs[i]? = some r->rs[j]? = some q->r.b=q.b->i=j
 ee :∀(i j:Nat) (r q:Rc) (e:Nat),rs[i]? = some r->rs[j]? = some q->r.e=some e->q.e=some e->i=j
 be :∀r∈rs,∀q∈rs,∀e,q.e=some e->r.b≠e
theorem PosI.step {n:Nat} {rs:List Rc} (p:PosI n rs) (e:Ev):PosI (n + 1) (dstep n rs e):=by
 cases e with
 | beg h nm v x=>
  have f :∀{i:Nat} {r:Rc},(rs++[(⟨h,nm,v,x,.non,n,none⟩:Rc)])[i]? = some r->rs[i]? = some r\/(i=rs.length/\r=⟨h,nm,v,x,.non,n,none⟩):=λ {i r} q=>by
   rw [List.getElem?_append] at q;split at q
   ·exact .inl q
   ·rename_i z;obtain ⟨y,_⟩:=List.getElem?_eq_some_iff.mp q;rw [j2d] at y;have:i - rs.length=0:=by omega
    rw [this] at q;cases q;exact .inr ⟨by omega,rfl⟩
  show PosI (n + 1) (rs++[_]);refine ⟨λ r g=>?_,λ r g e c=>?_,λ i j r q k m z=>?_,λ i j r q e k m s o=>?_,λ r g q D e c=>?_⟩
  ·rcases List.mem_append.mp g with z|z
   ·exact P1 (p.b r z)
   ·rw [List.mem_singleton.mp z];exact X2 n
  ·rcases List.mem_append.mp g with z|z
   ·exact P1 (p.e r z e c)
   ·rw [List.mem_singleton.mp z] at c;cases c
  ·rcases f k with a|⟨a,rfl⟩
   ·rcases f m with b|⟨b,rfl⟩
    ·exact p.bb i j r q a b z
    ·have:=p.b r (I0 a);exact absurd z (U0 this)
   ·rcases f m with b|⟨b,rfl⟩
    ·have:=p.b q (I0 b);exact absurd z.symm (U0 this)
    ·omega
  ·rcases f k with a|⟨a,rfl⟩
   ·rcases f m with b|⟨b,rfl⟩
    ·exact p.ee i j r q e a b s o
    ·cases o
   ·cases s
  ·rcases List.mem_append.mp D with b|b
   ·rcases List.mem_append.mp g with a|a
    ·exact p.be r a q b e c
    ·rw [List.mem_singleton.mp a];exact O2 (p.e q b e c)
   ·rw [List.mem_singleton.mp b] at c;cases c
 | fin h a=>
  unfold dstep;dsimp only;cases lastI h (rs.map Rc.h) with
  | none=>exact ⟨λ r g=>P1 (p.b r g),λ r g e c=>P1 (p.e r g e c),p.bb,p.ee,p.be⟩
  | some j0=>
   dsimp only;have f :∀{i:Nat} {r:Rc},(rs.modify j0 λ r=>{ r with a:=a,e:=some n })[i]? = some r->∃d,rs[i]? = some d/\r.b=d.b/\((i=j0/\r.e=some n)\/r.e=d.e):=λ {i r} q=>by
    rw [O6] at q;cases z:rs[i]? with
    | none=>rw [z] at q;cases q
    | some d=>
     rw [z] at q;have q:some (if j0=i then { d with a:=a,e:=some n } else d)=some r:=q;by_cases y:j0=i
     ·rw [if_pos y] at q;cases q;exact ⟨d,rfl,rfl,.inl ⟨y.symm,rfl⟩⟩
     ·rw [if_neg y] at q;cases q;exact ⟨_,rfl,rfl,.inr rfl⟩
   have C :∀{r:Rc},r∈(rs.modify j0 λ r=>{ r with a:=a,e:=some n })->∃i,(rs.modify j0 λ r=>{ r with a:=a,e:=some n })[i]? = some r:=λ h=>List.mem_iff_getElem?.mp h;refine ⟨λ r g=>?_,λ r g e c=>?_,λ i j r q k m z=>?_,λ i j r q e k m s o=>?_,λ r g q D e c=>?_⟩
   ·obtain ⟨i,k⟩:=C g;obtain ⟨d,l,A,_⟩:=f k;rw [A];exact P1 (p.b d (I0 l))
   ·obtain ⟨i,k⟩:=C g;obtain ⟨d,l,_,⟨_,z⟩|z⟩:=f k
    ·rw [z] at c;cases c;exact X2 n
    ·rw [z] at c;exact P1 (p.e d (I0 l) e c)
   ·obtain ⟨d,l,A,_⟩:=f k;obtain ⟨u,t,H,_⟩:=f m;exact p.bb i j d u l t (by rw [<-A,<-H];exact z)
   ·obtain ⟨d,l,_,⟨G,F⟩|y⟩:=f k
    ·obtain ⟨u,t,_,⟨E,B⟩|w⟩:=f m
     ·rw [G,E]
     ·rw [F] at s;cases s;rw [w] at o;exact absurd (p.e u (I0 t) _ o) (D3 _)
    ·obtain ⟨u,t,_,⟨E,B⟩|w⟩:=f m
     ·rw [B] at o;cases o;rw [y] at s;exact absurd (p.e d (I0 l) _ s) (D3 _)
     ·exact p.ee i j d u e l t (by rw [<-y];exact s) (by rw [<-w];exact o)
   ·obtain ⟨i,k⟩:=C g;obtain ⟨j,m⟩:=C D;obtain ⟨d,l,A,_⟩:=f k;obtain ⟨u,t,_,⟨E,B⟩|w⟩:=f m
    ·rw [B] at c;cases c;rw [A];exact U0 (p.b d (I0 l))
    ·rw [A];exact p.be d (I0 l) u (I0 t) e (by rw [<-w];exact c)
theorem PosI.all :∀(es:List Ev) {n:Nat} {rs:List Rc},PosI n rs->PosI (n + es.length) (dAll n rs es)
 | [],_,_,p=>p
 | e :: es,n,rs,p=>by have:=PosI.all es (p.step e);rw [show n + (e :: es).length=n + 1 + es.length by rw [T0];omega];exact this
theorem PosI.nil:PosI 0 []:=⟨λ _ h=>absurd h F0,λ _ h=>absurd h F0,λ i j r q h=>by simp at h,λ i j r q e h=>by simp at h,λ _ h=>absurd h F0⟩
theorem z3h {α β:Type} {R:α->β->Prop} :∀{xs:List α} {x:α} {ys:List β},All2 R (xs++[x]) ys->∃ys' y,ys=ys'++[y]/\All2 R xs ys'/\R x y
 | [],x,_,.cons a .nil=>⟨[],_,rfl,.nil,a⟩
 | z :: xs,x,_,.cons a r=>by obtain ⟨ys',y,rfl,b,c⟩:=z3h r;exact ⟨_ :: ys',y,rfl,.cons a b,c⟩
theorem z5f {α β:Type} {S:α->β->Prop} {q:α->Bool} {es:List α} :∀(n:Nat),n<=es.length->∀{ws:List β},All2 (λ i y=>∀e,es[i]? = some e->S e y) ((A1 n).filter λ i=>(es[i]?.map q).getD false) ws->All2 S ((es.take n).filter q) ws
 | 0,_,ws,h=>by cases h;exact .nil
 | n + 1,hn,ws,h=>by
  have e:es[n]? = some es[n]:=M0 hn;rw [U9,N2] at h;rw [k7,e,N2];by_cases z:q es[n]=true
  ·rw [D1 (by rw [e];exact z)] at h;obtain ⟨c,y,rfl,a,b⟩:=z3h h;show All2 S (_++[es[n]].filter q) _;rw [D1 z];exact z0o (z5f n (by omega) a) (b _ e)
  ·rw [J1 (by rw [e];exact z)] at h;show All2 S (_++[es[n]].filter q) _;rw [J1 z,R6,U2];rw [R6,U2] at h;exact z5f n (by omega) h
end
section
def RgG (r:Rc):Prop:=((r.v=.str "read"/\r.x=.non)\/(r.v=.str "write"/\∃i,r.x=.int i))/\∀e,r.e=some e->(∃i,r.a=.int i)\/∃z,r.a=.str z
noncomputable def wsR (rs:List Rc):List Int:=(rs.filter isW).map (λ r=>intV r.x)
noncomputable def isIntV:V->Bool
 | .int _=>true
 | _=>false
noncomputable def ansB (r:Rc):Bool:=match r.e with
 | none=>true
 | some _=>if isW r=true then decide (r.a=.str "ok") else isIntV r.a
noncomputable def plainB (rs:List Rc):Bool:=!(decide ((0:Int)∈wsR rs)) && !(decide (((wsR rs).foldl addI []).length < (wsR rs).length)) && rs.all ansB
theorem zev :∀(l ns:List Int),(l.foldl addI ns).length<=ns.length + l.length
 | [],ns=>D0 _
 | x :: l,ns=>by
  have h:=zev l (addI ns x);have a:(addI ns x).length<=ns.length + 1:=by unfold addI;split<;>simp
  rw [W5,T0];omega
theorem z5c :∀(l ns:List Int),ns.length + l.length<=(l.foldl addI ns).length->l.Nodup/\∀x∈l,x∉ns
 | [],ns,_=>⟨.nil,λ _ h=>absurd h F0⟩
 | x :: l,ns,h=>by
  rw [W5,T0] at h;have le:=zev l (addI ns x);by_cases z:x∈ns
  ·have e:addI ns x=ns:=if_pos z;rw [e] at le h;omega
  ·have e:addI ns x=ns++[x]:=if_neg z;rw [e] at h;obtain ⟨c,b⟩:=z5c l (ns++[x]) (by rw [N0];show ns.length + 1 + l.length<=_;omega);refine ⟨List.nodup_cons.mpr ⟨λ y=>b x y (List.mem_append.mpr (.inr (List.mem_singleton.mpr rfl))),c⟩,λ y a=>?_⟩;rcases List.mem_cons.mp a with rfl|a
   ·exact z
   ·exact λ q=>b y a (List.mem_append.mpr (.inl q))
theorem zaa {rs:List Rc} (h:(0:Int)∈wsR rs):plainB rs=false:=by unfold plainB;rw [decide_eq_true h];rfl
theorem z8d {rs:List Rc} (h:¬ (wsR rs).Nodup):plainB rs=false:=by
 unfold plainB;have:((wsR rs).foldl addI []).length < (wsR rs).length:=by
  rcases j2b ((wsR rs).foldl addI []).length (wsR rs).length with z|z
  ·exact z
  ·exact absurd (z5c (wsR rs) [] (by rw [C3,o6];exact z)).1 h
 rw [decide_eq_true this,j15,y7];rfl
theorem zg5 {rs:List Rc} {r:Rc} (hr:r∈rs) (h:ansB r=false):plainB rs=false:=by unfold plainB;have:rs.all ansB=false:=List.all_eq_false.mpr ⟨r,hr,by rw [h];decide⟩;rw [this,y7]
end
section
variable {P:Program} {w:W0} {mg:Str->Option Value} {base:Heap}
def z2d (K:d0):Sp:=λ vs H Q _=>∃y r e,vs=[y]/\RcAt K H r y/\RgG r/\r.e=some e/\Q (.bl (ansB r)) H
theorem z51 (T:TX (kx w) mg) (c0:Ca P w mg base "is_whole" ["value"] 1 z1s):Fo P w mg base CX0 2 362 y07 ["deed"] (z2d (kx w)):=by
 refine (z1m w.params).ok z5e (λ m H Q E h=>?_) (λ u A t s H m Q E n h=>?_)
 ·obtain ⟨y,r,e,rfl,_⟩:=h;rfl
 ·obtain ⟨y,r,e,rfl,⟨p,rfl,c⟩,g,f,q⟩:=h;refine ⟨_,(z03 (ps_if (z0c opEq (pe_ix ix_seq (pv 0) pe_int (λ _ _=>rfl)) pe_str (nomark _))
   (z05 (ps_ret (z0x opEq (pe_ix ix_seq (pv 0) pe_int (λ _ _=>rfl)) pe_str (nomark _))))
   z0g)
   (z05 (ps_ret (pe_cal c0 (n.mono (by decide)) rfl (z00 (pe_ix ix_seq (pv 0) pe_int (λ _ _=>rfl)) pa_nil))))),?_⟩
  have an:=g.2 e f;rcases g.1 with ⟨d,o⟩|⟨d,o⟩
  ·have k:isW r=false:=decide_eq_false λ z=>z1h (d.symm.trans z);have l:ansB r=isIntV r.a:=by unfold ansB;rw [f,k];rfl
   rw [l] at q;refine ⟨_,rfl,.inr (.inl ⟨p,_,2,.str "read",rfl,rfl,c,by rw [d];exact z06 (j:=2) rfl,rfl,_,rfl,iteK ?_⟩)⟩;rcases an with ⟨i,b⟩|⟨z,b⟩
   ·rw [b] at q;exact ⟨_,rfl,.inr (.inl ⟨p,_,4,.int i,rfl,rfl,c,by rw [b];exact z06 (j:=4) rfl,_,"int",rfl,rfl,by rw [show decide (("int" : String) = "int")=true by decide];exact q⟩)⟩
   ·rw [b] at q;exact ⟨_,rfl,.inr (.inl ⟨p,_,4,.str z,rfl,rfl,c,by rw [b];exact z06 (j:=4) rfl,_,"str",rfl,rfl,by rw [show decide (("str" : String) = "int")=false by decide];exact q⟩)⟩
  ·have k:isW r=true:=decide_eq_true d;have l:ansB r=decide (r.a=.str "ok"):=by unfold ansB;rw [f,k];rfl
   rw [l] at q;refine ⟨_,rfl,.inr (.inl ⟨p,_,2,.str "write",rfl,rfl,c,by rw [d];exact z06 (j:=2) rfl,rfl,_,rfl,iteP (by decide +kernel) ?_⟩)⟩;rcases an with ⟨i,b⟩|⟨z,b⟩
   ·rw [b] at q;exact ⟨_,rfl,.inr (.inl ⟨p,_,4,.int i,rfl,rfl,c,by rw [b];exact z06 (j:=4) rfl,rfl,q⟩)⟩
   ·rw [b] at q;exact ⟨_,rfl,.inr (.inl ⟨p,_,4,.str z,rfl,rfl,c,by rw [b];exact z06 (j:=4) rfl,rfl,q⟩)⟩
structure ToldAt (K:d0) (H:Hp) (l:Addr) (wr:Int) (rs:List Rc) (zs:List V):Prop where
 l:H l=some (.lst zs)
 a:All2 (RcAt K H) rs zs
 g :∀r∈rs,RdG r\/WrG wr r
 n:rs.length<=63
theorem ToldAt.same {K:d0} {H H':Hp} {l:Addr} {wr:Int} {rs:List Rc} {zs:List V} (s:Same H H') (h:ToldAt K H l wr rs zs):ToldAt K H' l wr rs zs:=⟨s _ _ h.l,z01 (λ _ _ z=>RcAt.tups (.of s) z) h.a,h.g,h.n⟩
structure ToldG (K:d0) (H:Hp) (l:Addr) (rs:List Rc) (zs:List V):Prop where
 l:H l=some (.lst zs)
 a:All2 (RcAt K H) rs zs
 g :∀r∈rs,RgG r
 n:rs.length<=63
theorem ToldG.same {K:d0} {H H':Hp} {l:Addr} {rs:List Rc} {zs:List V} (s:Same H H') (h:ToldG K H l rs zs):ToldG K H' l rs zs:=⟨s _ _ h.l,z01 (λ _ _ z=>RcAt.tups (.of s) z) h.a,h.g,h.n⟩
theorem ToldAt.gen {K:d0} {H:Hp} {l:Addr} {wr:Int} {rs:List Rc} {zs:List V} (h:ToldAt K H l wr rs zs):ToldG K H l rs zs:=⟨h.l,h.a,λ r c=>by
 rcases h.g r c with g|g
 ·exact ⟨.inl ⟨g.1,g.2.1⟩,λ e b=>.inl ⟨_,g.2.2 e b⟩⟩
 ·exact ⟨.inr ⟨g.1,_,g.2.2.1⟩,λ e b=>.inr ⟨_,g.2.2.2 e b⟩⟩,h.n⟩
theorem zaw {wr:Int} {rs:List Rc} (g :∀r∈rs,RdG r\/WrG wr r) (nd:(wsR rs).Nodup) (n0:(0:Int)∉wsR rs):plainB rs=true:=by
 have a:rs.all ansB=true:=List.all_eq_true.mpr λ r b=>by
  unfold ansB;cases he:r.e with
  | none=>rfl
  | some e=>
   dsimp only;rcases g r b with g|g
   ·rw [if_neg (by rw [g.w];decide),g.2.2 e he];rfl
   ·rw [if_pos g.w];exact decide_eq_true (g.2.2.2 e he)
 unfold plainB;rw [a,decide_eq_false n0,decide_eq_false (by rw [z2c _ [] nd (λ _ _=>F0),C3];omega)];rfl
noncomputable def r00:Rc:=⟨0,.non,.non,.non,.non,0,none⟩
theorem getD_some {rs:List Rc} {i:Nat} {r:Rc} (h:rs[i]? = some r):rs[i]?.getD r00=r:=by rw [h];rfl
theorem z7q (x:Int) :∀ns:List Int,inV (.int x) (ns.map V.int)=decide (x∈ns)
 | []=>by rw [decide_eq_false F0];rfl
 | n :: r=>by
  show ((n == x) || inV (.int x) (r.map V.int))=_;rw [z7q x r];by_cases e:n=x
  ·rw [beq_iff_eq.mpr e,Bool.true_or,decide_eq_true (List.mem_cons.mpr (.inl e.symm))]
  ·rw [Bool.eq_false_iff.mpr (λ h=>e (beq_iff_eq.mp h)),Bool.false_or];by_cases m:x∈r
   ·rw [decide_eq_true m,decide_eq_true (List.mem_cons.mpr (.inr m))]
   ·rw [decide_eq_false m,decide_eq_false (λ h=>(List.mem_cons.mp h).elim (λ y=>e y.symm) m)]
theorem z8o :∀ns:List Int,(ns.map V.int).all flatV=true
 | []=>rfl
 | _ :: r=>by show (true && (r.map V.int).all flatV)=true;rw [z8o r];rfl
theorem zdw {f:Rc->V} {rs:List Rc} {zs ys:List V} (lz:zs.length=rs.length) (h:All2 (λ (i:Nat) y=>y=f (rs[i]?.getD r00)) ((A1 zs.length).filter λ i=>isW (rs[i]?.getD r00)) ys):ys=(rs.filter isW).map f:=by rw [lz] at h;rw [z0z h];exact z11 isW f r00 rs
theorem all_bl {cs:List V} {bs:List Bool} (h:All2 (λ (b:Bool) y=>y=V.bl b) bs cs):(∀y∈cs,∃b,y=V.bl b)/\(cs.all λ y=>decide (y=.bl true))=bs.all id:=by
 induction h with
 | nil=>exact ⟨(λ y a=>nomatch a),rfl⟩
 | cons e r ih=>
  subst e;refine ⟨λ y a=>?_,?_⟩
  ·rcases List.mem_cons.mp a with rfl|a
   ·exact ⟨_,rfl⟩
   ·exact ih.1 y a
  ·rw [Z8,Z8,ih.2];congr 1;simp
theorem zf6 {bs:List Bool} {cs:List V} {n:Nat} (hb:bs.length=n) (h:All2 (λ i y=>∀b,bs[i]? = some b->y=V.bl b) (A1 n) cs):All2 (λ (b:Bool) y=>y=V.bl b) bs cs:=by
 have g:=z04 h;rw [K4] at g;refine z4p (by omega) λ i b y a e=>?_;obtain ⟨j,c,d⟩:=z0b h e;have f:i < n:=by have:=(List.getElem?_eq_some_iff.mp a).1;omega
 rw [W8 f] at c;cases c;exact d b a
def z20 (K:d0):Sp:=λ vs H Q _=>∃l zs rs,vs=[.ref l]/\ToldG K H l rs zs/\∀H',Same H H'->Q (.bl (plainB rs)) H'
theorem z83 (T:TX (kx w) mg) (c0:Ca P w mg base "is_answered" ["deed"] 2 (z2d (kx w))):Fo P w mg base CX0 3 355 y0e ["told"] (z20 (kx w)):=by
 refine (z2l w.params).ok sc_are_plain (λ vs H Q E h=>?_) (λ a6 A a5 s H vs Q E hr h=>?_)
 ·obtain ⟨l,G,c,rfl,_⟩:=h;rfl
 ·obtain ⟨l,G,c,rfl,d,q⟩:=h;refine ⟨_,(z03 (zgs (i:=1) sc_are_plain.nd rfl (A2 rfl) (xs:=["deed"]) (g:=gName 0) (fr:=[]) rfl (z0t (pv 0)) (λ _ z=>absurd z F0) (ze2 rfl) (λ _ z=>absurd z F0) (by decide +kernel) rfl (by decide +kernel) (λ _ _ _ _ _=>(pg_cn (N:=["deed"]) 0)) (λ _ _ _ _ _=>(pf_one (z0c opEq (pe_ix (z1v (K:=KX w.params) rfl) (pv 0) pe_int (λ _ _=>rfl)) pe_str (nomark _)))) (λ _ _ _ _ _=>(pe_ix (z1v (K:=KX w.params) rfl) (pv 0) pe_int (λ _ _=>rfl))))
   (z03 (ps_if (PW.pt (pw_or (z0c z8g pe_int (pv 1) (by with_unfolding_all rfl)) (pw_or1 (z0c op_lt (zdq rfl rfl (T.no (n_len _)) rfl (T.no (n_set _)) B5 boot_set (pv 1)) (z09 z1e rfl (T.no (n_len _)) B5 (z00 (pv 1) pa_nil)) (nomark _)))))
   (z05 (ps_ret pe_bl))
   z0g)
   (z05 (ps_ret (z09 (z29 rfl) rfl (T.no (n_all _)) j25 (z00 (pe_cg (xs:=["deed"]) (g:=gName 0) (fr:=[]) (z0t (pv 0)) (λ _ _ _ _ _=>(pg_cn (N:=["deed"]) 0)) (λ _ _ _ _ _=>pf_nil) (λ _ _ _ _ _=>(pe_or (z0x op_isN (pe_ix (z1v (K:=KX w.params) rfl) (pv 0) pe_int (λ _ _=>rfl)) pe_non (nomark _)) (pe_one (pe_cal c0 (hr.mono (by decide)) rfl (z00 (pv 0) pa_nil)))))) pa_nil)))))),?_⟩
  have W:G.length=c.length:=z04 d.a;have a1:=d.n;refine z0j ?_;refine z13 (K:=KX w.params) (a:=l) (xs:=G) (H1:=H) (λ i=>isW (c[i]?.getD r00)) (λ i y _=>y=.int (intV (c[i]?.getD r00).x)) (λ _ _ _ _ _ z=>z) (λ R h=>⟨_,rfl,h⟩) (SqL.of d.l) (S0 (m:=63) (by omega) (by decide)) ?_ ?_
  ·intro i hi v H1 M J KT KF D U;obtain ⟨r,F,p,rfl,S⟩:=z0b d.a J;have k:=M.seqT S;rw [getD_some F] at D U;refine ⟨[some (.ref p)],rfl,rfl,?_⟩;rcases (d.g r (I0 F)).1 with ⟨B,L⟩|⟨B,i0,L⟩
   ·refine ⟨_,rfl,.inr (.inl ⟨p,_,2,.str "read",rfl,rfl,k,by rw [B];exact z06 (j:=2) rfl,rfl,_,rfl,iteK (U (decide_eq_false λ z=>z1h (B.symm.trans z)) _ (Same.refl _))⟩)⟩
   ·refine ⟨_,rfl,.inr (.inl ⟨p,_,2,.str "write",rfl,rfl,k,by rw [B];exact z06 (j:=2) rfl,rfl,_,rfl,iteP (by decide +kernel) ?_⟩)⟩;exact ⟨_,rfl,.inr (.inl ⟨p,_,3,.int i0,rfl,rfl,k,by rw [L];exact z06 (j:=3) rfl,D (decide_eq_true B) _ _ (Same.refl _) (by rw [L];rfl)⟩)⟩
  intro t H1 ys M a2 X;have ey:=zdw (f:=λ r=>V.int (intV r.x)) W X;have a4:ys=(wsR c).map V.int:=by rw [ey];unfold wsR;rw [J4];rfl
  have lu:(wsR c).length<=63:=by unfold wsR;rw [O0];exact S0 (m3 _ _) a1
  subst a4;generalize hus:wsR c=us at lu X⊢;have Z:=Same.upd (o:=.lst (us.map V.int)) a2;have I:upd H1 t (.lst (us.map V.int)) t=some (.lst (us.map V.int)):=z02;have C:=M.trans Z;generalize upd H1 t (.lst (us.map V.int))=H2 at Z I C⊢;refine g_name ?_;refine sq_if ?_;refine t_or ?_;refine ⟨_,rfl,t,_,rfl,.inl (SqL.of I),rfl,z8o _,_,rfl,?_⟩;by_cases n0:(0:Int)∈us
  ·rw [zaa (by rw [hus];exact n0)] at q;exact iteP (by show inV _ _=true;rw [z7q,decide_eq_true n0]) (iteP rfl (sq_ret (q _ C)))
  refine iteN (by show ¬ inV _ _=true;rw [z7q,decide_eq_false n0];decide) ?_;refine ⟨_,rfl,t,us,rfl,SqL.of I,by omega,_,rfl,.inl ⟨t,_,rfl,.inl (SqL.of I),_,_,rfl,rfl,_,rfl,?_⟩⟩;by_cases nd:us.Nodup;rotate_left
  ·rw [z8d (by rw [hus];exact nd)] at q;refine iteP (decide_eq_true ?_) (sq_ret (q _ C));rw [O0];rcases j2b (us.foldl addI []).length us.length with z|z
   ·omega
   ·exact absurd (z5c us [] (by rw [C3,o6];exact z)).1 nd
  refine iteN ?_ ?_
  ·rw [z2c us [] nd (λ _ _=>F0),C3,O0];exact λ e=>absurd (of_decide_eq_true e) (by omega)
  refine t_nx (sq_ret (e_cb1 ?_));have Y:=d.same C;have pe:plainB c=c.all ansB:=by unfold plainB;rw [hus,decide_eq_false n0,decide_eq_false (by rw [z2c us [] nd (λ _ _=>F0),C3];omega)];rfl
  refine z13 (K:=KX w.params) (a:=l) (xs:=G) (H1:=H2) (λ _=>true) (λ i y _=>∀b,(c.map ansB)[i]? = some b->y=.bl b) (λ _ _ _ _ _ z=>z) (λ R h=>⟨_,rfl,h⟩) (SqL.of Y.l) (S0 (m:=63) (by omega) (by decide)) ?_ ?_
  ·intro i hi v H3 O J KT KF D U;obtain ⟨r,F,p,rfl,S⟩:=z0b Y.a J;have k:=O.seqT S;have eb :∀b,(c.map ansB)[i]? = some b->b=ansB r:=λ b u=>by rw [U1,F] at u;exact (Q1 u).symm
   refine ⟨[some (.ref p)],rfl,rfl,iteT ?_⟩;cases he:r.e with
   | none=>exact ⟨_,rfl,.inr (.inl ⟨p,_,6,.non,rfl,rfl,k,by rw [he];exact z06 (j:=6) rfl,rfl,_,rfl,iteP (by decide) (D rfl _ _ (Same.refl _) λ b u=>by rw [eb b u];unfold ansB;rw [he])⟩)⟩
   | some e=>refine ⟨_,rfl,.inr (.inl ⟨p,_,6,.int e,rfl,rfl,k,by rw [he];exact z06 (j:=6) rfl,rfl,_,rfl,iteN (by simp) ?_⟩)⟩;exact ⟨_,rfl,_,r,e,rfl,⟨p,rfl,k⟩,d.g r (I0 F),he,D rfl _ _ (Same.refl _) λ b u=>by rw [eb b u]⟩
  intro l3 H3 bs O a3 a0;rw [List.filter_eq_self.mpr (λ _ _=>rfl)] at a0;obtain ⟨c1,c2⟩:=all_bl (zf6 (by rw [O0];exact W.symm) a0);refine ⟨l3,bs,rfl,SqL.of z02,c1,?_⟩;rw [c2,List.all_map,show (id ∘ ansB)=ansB from rfl,<-pe];exact q _ (C.trans (O.trans (Same.upd a3)))
structure TalR (K:d0) (H:Hp) (t:Addr) (nm:Str) (wr:Int) (es:List Ev) (ys:List V):Prop where
 t :∃pt te th,SqT K H t [.ref pt,.ref te]/\SqT K H pt [.ref th]/\SqT K H th [.str nm,.str "register"]/\SqT K H te ys
 ev:All2 (EvAt K H) es ys
 tw:TwG es
 ln:es.length<=62
theorem TalR.same {K:d0} {H H':Hp} {t:Addr} {nm:Str} {wr:Int} {es:List Ev} {ys:List V} (s:Same H H') (h:TalR K H t nm wr es ys):TalR K H' t nm wr es ys:=by obtain ⟨pt,e,f,a,b,c,d⟩:=h.t;exact ⟨⟨pt,e,f,s.seqT a,s.seqT b,s.seqT c,s.seqT d⟩,z01 (λ _ _ z=>EvAt.tups (.of s) z) h.ev,h.tw,h.ln⟩
theorem z3s :∀{es:List Ev} {i:Nat} {rs:List Rc},(dAll i rs es).length<=rs.length + es.length
 | [],_,_=>D0 _
 | e :: es,i,rs=>by
  have h:=z3s (es:=es) (i:=i + 1) (rs:=dstep i rs e);have b:(dstep i rs e).length<=rs.length + 1:=by
   cases e with
   | beg k n v x=>exact x8 (N0 ..)
   | fin k a=>
    unfold dstep;dsimp only;cases lastI k (rs.map Rc.h) with
    | none=>exact G5 _
    | some j=>dsimp only;rw [List.length_modify];exact G5 _
  show (dAll (i + 1) (dstep i rs e) es).length<=_;rw [T0];omega
def z18 (K:d0):Sp:=λ vs H Q _=>∃t nm wr es ys,vs=[.ref t]/\TalR K H t nm wr es ys/\∀l zs H',Same H H'->ToldAt K H' l wr (dAll 0 [] es) zs->Q (.ref l) H'
theorem z31:plainP (.list [.str "register"])=true:=by decide +kernel
theorem zeg:PyData.eqv (.list [.str "register"]) (.list [.str "register"])=true:=by decide +kernel
theorem z5m (T:TX (kx w) mg) (c0:Ca P w mg base "deeds" ["tale"] 1 (z7f (kx w))) (c1:Ca P w mg base "are_plain" ["told"] 3 (z20 (kx w))):Fo P w mg base CX0 4 350 y00 ["tale"] (z18 (kx w)):=by
 refine (z0u w.params).ok sc_plain_deeds (λ X H Q E h=>?_) (λ a5 A a3 s H X Q E u h=>?_)
 ·obtain ⟨t,S,e,b,I,rfl,_⟩:=h;rfl
 ·obtain ⟨t,S,e,b,I,rfl,f,q⟩:=h;refine ⟨_,(z03 (ps_set (i:=1) sc_plain_deeds.nd rfl (A2 rfl) (pe_cal c0 (u.mono (by decide)) rfl (z00 (pv 0) pa_nil)))
   (z03 (ps_if (PW.pt (pw_or (z0c (op_neP u) (pe_cg (xs:=["name","kind"]) (g:=gTup (kx w) 2 (gCons (gName 0) (gCons (gName 1) gNil))) (fr:=[]) (pi_tup (pe_ix ix_seq (pv 0) pe_int (λ _ _=>rfl))) (λ _ _ _ _ _=>(pg_tup rfl (z0i (pg_cn (N:=["name","kind"]) 0) (z0i (pg_cn (N:=["name","kind"]) 1) z1w)))) (λ _ _ _ _ _=>pf_nil) (λ _ _ _ _ _=>(pv 1))) (pe_lst (z00 pe_str pa_nil)) (nomark _)) (pw_or1 (pt_not (pt_val (pe_cal c1 (u.mono (by decide)) rfl (z00 (pv 1) pa_nil)) (λ _=>rfl))))))
   (z05 z0q)
   z0g)
   (z05 (ps_ret (pv 1))))),?_⟩
  obtain ⟨pt,te,x,G,sp,sh,se⟩:=f.t;have c:=f.tw;have wf:=c.wf;have a0:b.length<=63:=Nat.le_succ_of_le f.ln;have rn:(dAll 0 [] b).length<=63:=S0 z3s (by simpa using a0);refine z0j ?_;refine ⟨_,rfl,t,te,.ref pt,I,b,rfl,G,se,f.ev,by omega,wf,λ l n H1 m a4 Y al=>?_⟩;refine g_name ?_;have J:ToldAt (kx w) H1 l e (dAll 0 [] b) n:=⟨Y,al,c.g e,rn⟩
  refine sq_if (t_or (t_test ?_));refine z52 (K:=KX w.params) (a:=pt) (xs:=[.ref x]) (H1:=H1) (λ _=>true) (λ i y _=>y=.str "register") (λ _ _ _ _ _ z=>z) (λ R h=>⟨_,rfl,.inr (.inl ⟨t,_,0,.ref pt,rfl,rfl,m.seqT G,z06 (j:=0) rfl,h⟩)⟩) (m.seqT sp) w_1 ?_ ?_
  ·intro i hi v D p hv KT KF h1 h2;have:v=.ref x:=List.mem_singleton.mp (I0 hv);subst this;refine ⟨x,_,rfl,(m.trans p).seqT sh,rfl,_,_,rfl,_,_,rfl,rfl,[some (.str S),some (.str "register")],rfl,rfl,iteT ⟨_,rfl,h1 rfl _ _ (Same.refl _) rfl⟩⟩
  intro d D M p a2 C;have Z:M=[.str "register"]:=by
   replace C:All2 (λ (_:Nat) (y:V)=>y=.str "register") [0] M:=C;cases C with
   | cons a r=>cases r;rw [a]
  subst Z;have U:=Same.upd (o:=.lst [V.str "register"]) a2;have W:upd D d (.lst [V.str "register"]) d=some (.lst [V.str "register"]):=z02;have F:=p.trans U;generalize upd D d (.lst [V.str "register"])=H3 at U W F⊢;refine ⟨w_1,λ L a1=>?_⟩;have B:=Same.upd (o:=.lst [V.str "register"]) a1;refine ⟨.list [.str "register"],.list [.str "register"],⟨d,_,rfl,SqL.of (B _ _ W),⟨_,_,rfl,rfl,rfl⟩⟩,⟨L,_,rfl,SqL.of z02,⟨_,_,rfl,rfl,rfl⟩⟩,z31,z31,(show (1:Nat)<=60 by decide),_,rfl,iteN (by rw [zeg];decide) ?_⟩;have k:=F.trans B;generalize upd H3 L (.lst [V.str "register"])=H4 at B k⊢;refine ⟨_,rfl,l,n,_,rfl,(J.same k).gen,λ H5 O=>⟨_,rfl,?_⟩⟩;rw [zaw (c.g e) c.nd c.n0];refine iteN (by decide) ?_;exact ⟨_,rfl,q l n H5 (m.trans (k.trans O)) (J.same (k.trans O))⟩
noncomputable def fiveK:List Str:=["register","counter","queue","set","cell"]
theorem zcj :∀k∈fiveK,plainP (.str k)=true:=by decide +kernel
theorem z6y :∀ks:List Str,(∀k∈ks,k∈fiveK)->z1f (ks.map PyData.str)=true/\E9 (ks.map PyData.str)=0
 | [],_=>⟨rfl,rfl⟩
 | k :: ks,h=>by
  obtain ⟨a,c⟩:=z6y ks λ x b=>h x (Y1 _ b);refine ⟨?_,?_⟩
  ·show (plainP (.str k) && z1f (ks.map PyData.str))=true;rw [a,zcj k (h k F2)];rfl
  ·show max 0 (E9 (ks.map PyData.str))=0;rw [c];rfl
theorem zbl {K:d0} {H:Hp} :∀ks:List Str,IsPds K H (ks.map PyData.str) (ks.map V.str)
 | []=>rfl
 | k :: ks=>⟨_,_,rfl,rfl,zbl ks⟩
structure TalG (K:d0) (H:Hp) (t:Addr) (es:List Ev):Prop where
 t :∃pt te qs ys,∃tps:List (Str×Str),SqT K H t [.ref pt,.ref te]/\SqT K H pt qs/\All2 (λ (tp:Str×Str) y=>∃p,y=V.ref p/\SqT K H p [.str tp.1,.str tp.2]) tps qs/\tps.length<=2/\(∀tp∈tps,tp.2∈fiveK)/\SqT K H te ys/\All2 (EvAt K H) es ys/\(tps.map (λ x=>x.2)≠(["register"]:List Str)\/(tps.map (λ x=>x.2)=(["register"]:List Str)/\(∀r∈dAll 0 [] es,RgG r)/\plainB (dAll 0 [] es)=false))
 w:EWf [] es
 n:es.length<=63
def z0l (K:d0):Sp:=λ vs H Q E=>∃t es,vs=[.ref t]/\TalG K H t es/\∀H',Same H H'->E (.ref 142) none H'
theorem z47 (T:TX (kx w) mg) (c0:Ca P w mg base "deeds" ["tale"] 1 (z7f (kx w))) (c1:Ca P w mg base "are_plain" ["told"] 3 (z20 (kx w))):Fo P w mg base (CXE P w base) 4 350 y00 ["tale"] (z0l (kx w)):=by
 refine (z0u w.params).okE sc_plain_deeds (λ vs H Q E h=>?_) (λ b0 A a8 s H vs Q E I h=>?_)
 ·obtain ⟨t,q,rfl,_⟩:=h;rfl
 ·obtain ⟨t,q,rfl,G,qe⟩:=h;refine ⟨_,(z03 (ps_set (i:=1) sc_plain_deeds.nd rfl (A2 rfl) (pe_cal c0 (I.mono (by decide)) rfl (z00 (pv 0) pa_nil)))
   (z03 (ps_if (PW.pt (pw_or (z0c (op_neP I) (pe_cg (xs:=["name","kind"]) (g:=gTup (kx w) 2 (gCons (gName 0) (gCons (gName 1) gNil))) (fr:=[]) (pi_tup (pe_ix ix_seq (pv 0) pe_int (λ _ _=>rfl))) (λ _ _ _ _ _=>(pg_tup rfl (z0i (pg_cn (N:=["name","kind"]) 0) (z0i (pg_cn (N:=["name","kind"]) 1) z1w)))) (λ _ _ _ _ _=>pf_nil) (λ _ _ _ _ _=>(pv 1))) (pe_lst (z00 pe_str pa_nil)) (nomark _)) (pw_or1 (pt_not (pt_val (pe_cal c1 (I.mono (by decide)) rfl (z00 (pv 1) pa_nil)) (λ _=>rfl))))))
   (z05 (ze7 F.excBase_ValueError (T.of (z36 _)) (zbi _) rfl (z00 pe_str pa_nil)))
   z0g)
   (z05 (ps_ret (pv 1))))),?_⟩
  obtain ⟨pt,te,qs,ys,M,W,sp,U,d,a3,se,ev,B⟩:=G.t;have wf:=(DInv.nil.all G.w).1;have a1:=G.n;have rn:(dAll 0 [] q).length<=63:=S0 z3s (by simpa using a1);have lq:qs.length=M.length:=z04 U;obtain ⟨c,r⟩ :∃c:List Str,c=M.map (λ x=>x.2):=⟨_,rfl⟩
  rw [<-r] at B;refine z0j ?_;refine ⟨_,rfl,t,te,.ref pt,ys,q,rfl,W,se,ev,by omega,wf,λ l zs H1 f a9 el al=>?_⟩;refine g_name ?_;refine sq_if (t_or (t_test ?_));refine z52 (K:=KX w.params) (a:=pt) (xs:=qs) (H1:=H1) (λ _=>true) (λ i y _=>y=.str (c[i]?.getD "")) (λ _ _ _ _ _ z=>z) (λ R h=>⟨_,rfl,.inr (.inl ⟨t,_,0,.ref pt,rfl,rfl,f.seqT W,z06 (j:=0) rfl,h⟩)⟩) (f.seqT sp) (S0 (m:=2) (by omega) (by decide)) ?_ ?_
  ·intro i X v O D hv KT KF L h2;obtain ⟨tp,a6,p,rfl,a5⟩:=z0b U hv;refine ⟨p,_,rfl,(f.trans D).seqT a5,rfl,_,_,rfl,_,_,rfl,rfl,[some (.str tp.1),some (.str tp.2)],rfl,rfl,iteT ⟨_,rfl,L rfl _ _ (Same.refl _) ?_⟩⟩;rw [r,U1,a6];rfl
  intro d O ks D a4 a0;have C:ks=c.map V.str:=by
   rw [List.filter_eq_self.mpr (λ _ _=>rfl)] at a0;rw [z0z a0,lq,r];apply C6
   ·simp
   ·intro i a b;have X:i < M.length:=by simpa using a
    simp [M0 X]
  subst C;obtain ⟨Y,b1⟩:=z6y c λ k hk=>by rw [r] at hk;obtain ⟨tp,L,rfl⟩:=List.mem_map.mp hk;exact a3 tp L
  have s3:=Same.upd (o:=.lst (c.map V.str)) a4;have e3:upd O d (.lst (c.map V.str)) d=some (.lst (c.map V.str)):=z02;have S:=D.trans s3;generalize upd O d (.lst (c.map V.str))=H3 at s3 e3 S⊢;refine ⟨w_1,λ Z a2=>?_⟩;have J:=Same.upd (o:=.lst [V.str "register"]) a2;have u:=S.trans J;refine ⟨.list (c.map PyData.str),.list [.str "register"],⟨d,_,rfl,SqL.of (J _ _ e3),zbl _⟩,⟨Z,_,rfl,SqL.of z02,⟨_,_,rfl,rfl,rfl⟩⟩,Y,z31,(by show E9 _ + 1<=60;omega),_,rfl,?_⟩;rcases B with nk|⟨C,evg,B⟩
  ·refine iteP ?_ (iteP rfl ⟨w_1,qe _ (f.trans u)⟩);rw [Bool.not_eq_true',<-U7,zen (.list (c.map PyData.str)) (.list [.str "register"]) Y z31];intro z;injection z with z;have z:c.map PyData.str=(["register"]:List Str).map PyData.str:=z;exact nk (List.map_inj_right (λ _ _ e=>by injection e) |>.mp z)
  ·rw [C];refine iteN (by rw [show (["register"]:List Str).map PyData.str=[.str "register"] from rfl,zeg];decide) ?_;generalize upd H3 Z (.lst [V.str "register"])=H4 at J u⊢;have tl:ToldG (kx w) H1 l (dAll 0 [] q) zs:=⟨el,al,evg,rn⟩
   refine ⟨_,rfl,l,zs,_,rfl,tl.same u,λ H5 s5=>⟨_,rfl,?_⟩⟩;have a7:=f.trans (u.trans s5);rw [B];exact iteP rfl ⟨w_1,qe _ a7⟩
structure Ent where
 x:Int
 b:Int
 e:Option Int
noncomputable def ent0:Ent:=⟨0,-2,some (-1)⟩
noncomputable def entW (r:Rc):Ent:=⟨intV r.x,r.b,r.e.map λ n=>(n:Int)⟩
noncomputable def ents (rs:List Rc):List Ent:=ent0 :: (rs.filter isW).map entW
theorem ents_mem {rs:List Rc} {t:Ent}:t∈ents rs↔t=ent0\/∃w∈rs,isW w=true/\t=entW w:=by
 unfold ents;rw [g4,List.mem_map];constructor
 ·rintro (h|⟨w,hw,e⟩)
  ·exact .inl h
  ·exact .inr ⟨w,(List.mem_filter.mp hw).1,(List.mem_filter.mp hw).2,e.symm⟩
 ·rintro (h|⟨w,hw,hi,e⟩)
  ·exact .inl h
  ·exact .inr ⟨w,List.mem_filter.mpr ⟨hw,hi⟩,e.symm⟩
theorem z8u (rs:List Rc) (r:Rc):ents (rs++[r])=ents rs++if isW r=true then [entW r] else []:=by
 unfold ents;rw [N2,N3,List.cons_append];by_cases z:isW r=true
 ·rw [if_pos z,D1 z];rfl
 ·rw [if_neg z,J1 z];rfl
noncomputable def endO:Option Int->V
 | none=>.non
 | some i=>.int i
theorem endV_O (o:Option Nat):endV o=endO (o.map λ n=>(n:Int)):=by cases o<;>rfl
def EntV (K:d0) (H:Hp) (t:Ent) (v:V):Prop:=∃p,v=.ref p/\SqT K H p [.int t.b,endO t.e]
def EntAt (K:d0) (H:Hp) (t:Ent) (kv:Key×V):Prop:=kv.1=.inl t.x/\EntV K H t kv.2
theorem EntV.tups {K:d0} {H H':Hp} {t:Ent} {v:V} (f :∀c xs,SqT K H c xs->SqT K H' c xs) (h:EntV K H t v):EntV K H' t v:=h.elim λ p z=>⟨p,z.1,f _ _ z.2⟩
theorem EntAt.tups {K:d0} {H H':Hp} {t:Ent} {kv:Key×V} (f :∀c xs,SqT K H c xs->SqT K H' c xs) (h:EntAt K H t kv):EntAt K H' t kv:=⟨h.1,h.2.tups f⟩
theorem z4s {K:d0} {H:Hp} :∀{ts:List Ent} {kvs:List (Key×V)},All2 (EntAt K H) ts kvs->kvs.map (·.1)=ts.map λ t=>Sum.inl t.x
 | _,_,.nil=>rfl
 | _,_,.cons a r=>by rw [N1,N1,z4s r,a.1]
theorem z7g (rs:List Rc):(ents rs).length<=rs.length + 1:=by unfold ents;rw [T0,O0];exact Nat.succ_le_succ (m3 _ _)
theorem zhd {rs:List Rc} {i:Nat} {r:Rc} (nd:((rs.filter isW).map (λ r=>intV r.x)).Nodup) (n0:(0:Int)∉(rs.filter isW).map (λ r=>intV r.x)) (h:rs[i]? = some r) (hw:isW r=true):(Sum.inl (intV r.x):Key)∉(ents (rs.take i)).map λ t=>(Sum.inl t.x:Key):=λ z=>by
 obtain ⟨t,b,e⟩:=List.mem_map.mp z;have e:=g7 e;rcases ents_mem.mp b with rfl|⟨w,hm,hi,rfl⟩
 ·exact n0 (List.mem_map.mpr ⟨r,List.mem_filter.mpr ⟨I0 h,hw⟩,e.symm⟩)
 ·have d:rs=rs.take i++r :: rs.drop (i + 1):=by obtain ⟨c,a⟩:=List.getElem?_eq_some_iff.mp h;rw [<-a,<-Q5 c,j2c]
  rw [d,N2,N3,List.nodup_append] at nd;exact nd.2.2 _ (List.mem_map.mpr ⟨w,List.mem_filter.mpr ⟨hm,hi⟩,rfl⟩) _ (List.mem_map.mpr ⟨r,List.mem_filter.mpr ⟨.head _,hw⟩,rfl⟩) e
theorem zf0 {H:Hp}:SqT (kx w) H 345 [.int (-2),.int (-1)]:=
 .inr ⟨⟨(.type "tuple"),none,(.seq #[(.int (-2) 701),(.int (-1) 703)] 0),#[]⟩,#[(.int (-2) 701),(.int (-1) 703)],0,by kernel_rfl,rfl,rfl,w_2,.cons ⟨_,rfl⟩ (.cons ⟨_,rfl⟩ .nil)⟩
def z3u (K:d0):Sp:=λ vs H Q _=>∃l zs rs wr,vs=[.ref l]/\ToldAt K H l wr rs zs/\((rs.filter isW).map (λ r=>intV r.x)).Nodup/\(0:Int)∉(rs.filter isW).map (λ r=>intV r.x)/\∀d kvs H',Same H H'->H d=none->H' d=some (.dK kvs)->All2 (EntAt K H') (ents rs) kvs->Q (.ref d) H'
theorem za3 (T:TX (kx w) mg):Fo P w mg base CX0 1 369 y0z ["told"] (z3u (kx w)):=by
 refine (z4w w.params).ok sc_writers (λ U H Q E h=>?_) (λ a2 A a1 s H U Q E Y h=>?_)
 ·obtain ⟨l,C,I,W,rfl,_⟩:=h;rfl
 ·obtain ⟨l,C,I,W,rfl,f,V,X,q⟩:=h;refine ⟨_,(z03 (ps_set (i:=1) sc_writers.nd rfl (A2 rfl) (zhc (zfl pe_int (z0h (v:=.ref 345) rfl (T.of (z6q _)) rfl) zgp) rfl rfl (by simp) (by decide)))
   (z03 (ps_for F3 rfl (z0t (pv 0)) (z0p (i:=2) sc_writers.nd rfl (A2 rfl))
   (z05 (ps_if (z0c opEq (pe_ix ix_seq (pv 2) pe_int (λ _ _=>rfl)) pe_str (nomark _))
   (z05 (zao (hu_of Y) (pv 1) (pe_ix ix_seq (pv 2) pe_int (λ _ _=>rfl)) (z50 slSeq (pv 2) (z8b pe_int) z8t) rfl))
   z0g)))
   (z05 (ps_ret (pv 1))))),?_⟩
  have S:C.length=I.length:=z04 f.a;have a0:=f.n;intro d hd;refine ⟨z02,[(.inl 0,.ref 345)],rfl,(show (1:Nat)<=15 by decide),?_⟩;have F:Same H (upd (upd H d (.dK [])) d (.dK (mergeK [] [(.inl 0,.ref 345)]))):=Same.keep (Same.upd hd) hd;have L:upd (upd H d (.dK [])) d (.dK (mergeK [] [(.inl 0,.ref 345)])) d=some (.dK [(.inl 0,.ref 345)]):=z02;generalize upd (upd H d (.dK [])) d (.dK (mergeK [] [(.inl 0,.ref 345)]))=H1 at F L⊢;refine ⟨_,rfl,l,rfl,⟨_,SqL.of (F _ _ f.l)⟩,?_⟩;refine z1x (K:=KX w.params) (a:=l) (xs:=C) (λ i σ u=>Same H u/\(∃kvs,u d=some (.dK kvs)/\All2 (EntAt (kx w) u) (ents (I.take i)) kvs)/\∃x2,σ=[some (.ref l),some (.ref d),x2])
   ⟨F,⟨_,L,.cons ⟨rfl,345,rfl,zf0⟩ .nil⟩,_,rfl⟩ (λ _ σ u _ h=>SqL.of (h.1 _ _ f.l)) ?_ ?_
  ·rintro i y σ O hy ⟨s2,⟨kvs,ed,wk⟩,x2,rfl⟩;obtain ⟨r,o,p,rfl,sp⟩:=z0b f.a hy;have hi:i < 63:=by have:=(List.getElem?_eq_some_iff.mp o).1;omega
   have lk:kvs.length<=64:=by rw [z04 wk];refine S0 (z7g _) ?_;rw [A4];omega
   have t:=s2.seqT sp;refine g_name ?_;rcases f.g r (I0 o) with g|g
   ·refine ⟨_,rfl,.inr (.inl ⟨p,_,2,.str "read",rfl,rfl,t,by rw [g.1];exact z06 (j:=2) rfl,rfl,_,rfl,iteK ?_⟩)⟩;refine ⟨s2,⟨kvs,ed,?_⟩,_,rfl⟩;rw [z8e o,z8u,if_neg (by rw [g.w];decide),U2];exact wk
   ·refine ⟨_,rfl,.inr (.inl ⟨p,_,2,.str "write",rfl,rfl,t,by rw [g.1];exact z06 (j:=2) rfl,rfl,_,rfl,iteP (by decide +kernel) ?_⟩)⟩;refine ⟨_,rfl,5,rfl,.inr (.inl ⟨p,_,rfl,t,λ z=>absurd z.1 (show ¬ HT.sIx 7 0 (some 5)=0 by decide),λ M R=>?_⟩)⟩;have c1:cutV [.int r.h,r.n,r.v,r.x,r.a,.int r.b,endV r.e] (some 5) none=[.int r.b,endV r.e]:=rfl;rw [c1];obtain ⟨N,v_,B,Z⟩:=newA (.tup [.int r.b,endV r.e]) R;rw [<-v_];have J:=B _ _ ed;refine ⟨_,rfl,_,rfl,.inr (.inl ⟨p,_,3,.int (intV r.x),rfl,rfl,B.seqT t,by rw [<-g.2.2.1];exact z06 (j:=3) rfl,d,_,rfl,DPut.k (k:=.inl (intV r.x)) J (T2 (m:=100) (by omega) (by decide)),?_⟩)⟩;have D:Tups (kx w) N (upd N d (.dK (putK kvs (.inl (intV r.x)) (.ref M)))):=Tups.dict J;have G:=zhd V X o g.w;rw [<-z4s wk] at G;refine ⟨Same.keep (s2.trans B) hd,⟨_,z02,?_⟩,_,rfl⟩;rw [z8e o,z8u,if_pos g.w,z39 G];rw [z39 G] at D;refine z0o (z01 (λ _ _ z=>EntAt.tups (λ c xs y=>D _ _ (B.seqT y)) z) wk) ⟨rfl,M,rfl,?_⟩;have:=D _ _ (SqT.of Z);rw [endV_O] at this;exact this
  ·rintro σ O ⟨s2,⟨kvs,ed,wk⟩,x2,rfl⟩;rw [S,M5] at wk;exact ⟨_,rfl,q d kvs O s2 hd ed wk⟩
def NumAt (H:Hp) (zs:List V) (i:Nat) (y:V):Prop:=∃p z,y=.ref p/\H p=some (.tup [.int (i:Nat),z])/\zs[i]? = some z
theorem NumAt.same {H H':Hp} {zs:List V} {i:Nat} {y:V} (s:Same H H') (h:NumAt H zs i y):NumAt H' zs i y:=by obtain ⟨p,z,b,c,a⟩:=h;exact ⟨p,z,b,s _ _ c,a⟩
noncomputable def isRE (r:Rc):Bool:=decide (r.v=.str "read") && r.e.isSome
def z1a (K:d0):Sp:=λ vs H Q _=>∃l zs rs wr,vs=[.ref l]/\ToldAt K H l wr rs zs/\∀a ws H',Same H H'->H' a=some (.lst ws)->All2 (NumAt H' zs) ((A1 rs.length).filter λ i=>isRE (rs[i]?.getD r00)) ws->Q (.ref a) H'
theorem z4u (T:TX (kx w) mg):Fo P w mg base CX0 1 374 y08 ["told"] (z1a (kx w)):=by
 refine (z1k w.params).ok z5a (λ I H Q E h=>?_) (λ a2 A a1 s H I Q E hr h=>?_)
 ·obtain ⟨l,c,k,L,rfl,_⟩:=h;rfl
 ·obtain ⟨l,c,k,L,rfl,b,q⟩:=h;refine ⟨_,(z05 (ps_ret (pe_cg (xs:=["number","deed"]) (g:=gTup (kx w) 2 (gCons (gName 0) (gCons (gName 1) gNil))) (fr:=[]) (zfc rfl (T.no (z4f _)) (z00 (pv 0) pa_nil)) (λ _ _ _ _ _=>(pg_tup rfl (z0i (pg_cn (N:=["number","deed"]) 0) (z0i (pg_cn (N:=["number","deed"]) 1) z1w)))) (λ _ _ _ _ _=>(pf_one (PW.pt (pw_and (z0c opEq (pe_ix (z1v (K:=KX w.params) rfl) (pv 1) pe_int (λ _ _=>rfl)) pe_str (nomark _)) (zeu (z0c za8 (pe_ix (z1v (K:=KX w.params) rfl) (pv 1) pe_int (λ _ _=>rfl)) pe_non (nomark _))))))) (λ _ _ _ _ _=>(pe_tup (z00 (pv 0) (z00 (pv 1) pa_nil))))))),?_⟩;have G:c.length=k.length:=z04 b.a;have a0:=b.n;refine sq_ret ?_;refine zde (K:=KX w.params) (a:=l) (xs:=c) (H1:=H) (λ i=>isRE (k[i]?.getD r00)) (λ i y S=>NumAt S c i y) (λ _ _ _ _ s z=>z.same s) (λ R h=>⟨_,rfl,h⟩) (SqL.of b.l) (S0 (m:=63) (by omega) (by decide)) ?_ ?_
  ·intro i Z v H1 f X KT KF D t;obtain ⟨x,U,C,rfl,V⟩:=X;obtain ⟨r,F,p,rfl,Y⟩:=z0b b.a C;have d:=f.seqT Y;rw [getD_some F] at D t;refine ⟨U,_,rfl,SqT.of V,rfl,_,_,rfl,_,_,rfl,rfl,[some (.int (i:Nat)),some (.ref p)],rfl,rfl,?_⟩;rcases b.g r (I0 F) with g|g
   ·refine ⟨_,rfl,.inr (.inl ⟨p,_,2,.str "read",rfl,rfl,d,by rw [g.1];exact z06 (j:=2) rfl,rfl,_,rfl,iteP (by decide +kernel) ?_⟩)⟩;cases he:r.e with
    | none=>exact ⟨_,rfl,.inr (.inl ⟨p,_,6,.non,rfl,rfl,d,by rw [he];exact z06 (j:=6) rfl,rfl,_,rfl,iteN (by decide) (t (by unfold isRE;rw [he];exact y7 _) _ (Same.refl _))⟩)⟩
    | some e=>refine ⟨_,rfl,.inr (.inl ⟨p,_,6,.int e,rfl,rfl,d,by rw [he];exact z06 (j:=6) rfl,rfl,_,rfl,iteP (by simp) ?_⟩)⟩;refine ⟨_,rfl,_,rfl,w_2,λ O W=>D (by unfold isRE;rw [he,decide_eq_true g.1];rfl) _ _ (Same.upd W) ⟨O,_,rfl,z02,C⟩⟩
   ·refine ⟨_,rfl,.inr (.inl ⟨p,_,2,.str "write",rfl,rfl,d,by rw [g.1];exact z06 (j:=2) rfl,rfl,_,rfl,iteK ?_⟩)⟩;refine iteN (by decide) (t ?_ _ (Same.refl _));unfold isRE;rw [decide_eq_false (λ e=>z1h (e.symm.trans g.1))];rfl
  intro J H1 ws f M u;rw [G] at u;have B:=Same.upd (o:=.lst ws) M;exact q J ws _ (f.trans B) z02 (z01 (λ _ _ z=>z.same B) u)
theorem ck_T (P:C1):CodeK (KX P) cdT tbT:=⟨⟨(.type "code"),none,(.fields #[(.str "zones" 739),(.str "zones" 740),(.str "/claim/cut.py" 741),(.int (166) 0),(.int (1) 0),(.int (0) 0),(.int (0) 0),(.int (3) 0),(.ref 375),(.bool true),(.int (181) 0),(.ref 376),.none,.none,.none,(.ref 377),(.int (742) 0),(.int (166) 0),(.str "/claim/cut.py" 743)]),#[]⟩,_,_,_,_,_,_,_,_,by kernel_rfl,rfl,rfl,rfl,rfl,rfl,rfl,rfl,rfl,by decide⟩
structure Zt where
 x:Int
 lo:Int
 hi:Int
 on:Bool
noncomputable def onS:Bool->Str
 | true=>"on"
 | false=>"in"
def ZtV (H:Hp) (z:Zt) (y:V):Prop:=∃p,y=.ref p/\H p=some (.tup [.int z.x,.int z.lo,.int z.hi,.str (onS z.on)])
theorem ZtV.same {H H':Hp} {z:Zt} {y:V} (s:Same H H') (h:ZtV H z y):ZtV H' z y:=h.elim λ p e=>⟨p,e.1,s _ _ e.2⟩
def MinI (l:Int) (ns:List Int):Prop:=l∈ns/\∀u∈ns,l<=u
def MaxI (l:Int) (ns:List Int):Prop:=l∈ns/\∀u∈ns,u<=l
noncomputable def zOf (x l g:Int):Zt:=if l < g then ⟨x,l,g,true⟩ else ⟨x,g,l,false⟩
def SpV (K:d0) (H:Hp) (s:Int×Option Int) (y:V):Prop:=∃p,y=.ref p/\SqT K H p [.int s.1,endO s.2]
theorem zbs :∀{n:Nat} {ss:List (Int×Option Int)} {ys:List V},n<=ss.length->All2 (λ (i:Nat) y=>∀s e,ss[i]? = some s->s.2=some e->y=V.int e) ((A1 n).filter λ i=>(ss[i]?.map λ s=>s.2.isSome).getD false) ys->ys=((ss.take n).filterMap (·.2)).map V.int
 | 0,ss,ys,_,h=>by cases h;rfl
 | n + 1,ss,ys,hn,h=>by
  have e:ss[n]? = some ss[n]:=M0 hn;rw [U9,N2] at h;rw [k7,e,List.filterMap_append,N3];cases z:ss[n].2 with
  | none=>rw [J1 (by rw [e];show ¬ ss[n].2.isSome=true;rw [z];decide),R6,U2] at h;rw [zbs (by omega) h];show _=_++([ss[n]].filterMap (·.2)).map V.int;rw [List.filterMap_cons_none z];exact (U2 _).symm
  | some v=>rw [D1 (by rw [e];show ss[n].2.isSome=true;rw [z];rfl),R6] at h;obtain ⟨c,y,rfl,a,b⟩:=z3h h;rw [zbs (by omega) a,b _ v e z];show _=_++([ss[n]].filterMap (·.2)).map V.int;rw [List.filterMap_cons_some z];rfl
def z3q (K:d0):Sp:=λ vs H Q _=>∃(x:Int) (l:Addr) (ys:List V) (ss:List (Int×Option Int)),vs=[.int x,.ref l]/\H l=some (.lst ys)/\All2 (SpV K H) ss ys/\ss.length<=100/\ss.filterMap (·.2)≠[]/\ss≠[]/\∀p lo g H',Same H H'->MinI lo (ss.filterMap (·.2))->MaxI g (ss.map (·.1))->ZtV H' (zOf x lo g) (.ref p)->Q (.ref p) H'
theorem zan (T:TX (kx w) mg):Fo P w mg base CX0 1 384 y11 ["worth","spans"] (z3q (kx w)):=by
 refine (z5t w.params).ok sc_zone_of (λ vs H Q E h=>?_) (λ a6 A a4 s H vs Q E hr h=>?_)
 ·obtain ⟨x,l,D,b,rfl,_⟩:=h;rfl
 ·obtain ⟨x,l,D,b,rfl,U,F,a5,a1,a0,q⟩:=h;have ly:=z04 F;refine ⟨_,(z03 (ps_set (i:=2) sc_zone_of.nd rfl (A2 rfl) (z09 (zdh rfl) rfl (T.no (n_min _)) boot_min (z00 (pe_cg (xs:=["begin","end"]) (g:=gTup (kx w) 2 (gCons (gName 0) (gCons (gName 1) gNil))) (fr:=[]) (z0t (pv 1)) (λ _ _ _ _ _=>(pg_tup rfl (z0i (pg_cn (N:=["begin","end"]) 0) (z0i (pg_cn (N:=["begin","end"]) 1) z1w)))) (λ _ _ _ _ _=>(pf_one (z0c za8 (pv 1) pe_non (nomark _)))) (λ _ _ _ _ _=>(pv 1))) pa_nil)))
   (z03 (ps_set (i:=3) sc_zone_of.nd rfl (A2 rfl) (z09 (zdz rfl) rfl (T.no (n_max _)) boot_max (z00 (pe_cg (xs:=["begin","end"]) (g:=gTup (kx w) 2 (gCons (gName 0) (gCons (gName 1) gNil))) (fr:=[]) (z0t (pv 1)) (λ _ _ _ _ _=>(pg_tup rfl (z0i (pg_cn (N:=["begin","end"]) 0) (z0i (pg_cn (N:=["begin","end"]) 1) z1w)))) (λ _ _ _ _ _=>pf_nil) (λ _ _ _ _ _=>(pv 0))) pa_nil)))
   (z03 (ps_if (z0c op_lt (pv 2) (pv 3) (nomark _))
   (z05 (ps_ret (pe_tup (z00 (pv 0) (z00 (pv 2) (z00 (pv 3) (z00 pe_str pa_nil)))))))
   z0g)
   (z05 (ps_ret (pe_tup (z00 (pv 0) (z00 (pv 3) (z00 (pv 2) (z00 pe_str pa_nil)))))))))),?_⟩
  refine z0j (e_cb1 ?_);refine z13 (K:=KX w.params) (a:=l) (xs:=D) (H1:=H) (λ i=>(b[i]?.map λ s=>s.2.isSome).getD false) (λ i y _=>∀s e,b[i]? = some s->s.2=some e->y=V.int e) (λ _ _ _ _ _ z=>z) (λ R h=>⟨_,rfl,h⟩) (SqL.of U) (S0 (m:=100) (by omega) (by decide)) (λ i hi v H1 k I KT KF f r=>?_) λ u H1 X k a2 n=>?_
  ·obtain ⟨c,J,p,rfl,O⟩:=z0b F I;rw [J] at f r;refine ⟨p,_,rfl,k.seqT O,rfl,_,_,rfl,_,_,rfl,rfl,[some (.int c.1),some (endO c.2)],rfl,rfl,?_⟩;cases z:c.2 with
   | none=>exact ⟨_,rfl,rfl,_,rfl,iteN (by decide) (r (by show c.2.isSome=false;rw [z];rfl) _ (Same.refl _))⟩
   | some e=>exact ⟨_,rfl,rfl,_,rfl,iteP (by simp [endO]) ⟨_,rfl,f (by show c.2.isSome=true;rw [z];rfl) _ _ (Same.refl _) λ S e' L C=>by cases L;rw [z] at C;cases C;rfl⟩⟩
  rw [ly] at n;have d:=zbs (D0 _) n;rw [M5] at d;subst d;have B:=k.trans (Same.upd (o:=.lst ((b.filterMap (·.2)).map V.int)) a2);have W:upd H1 u (.lst ((b.filterMap (·.2)).map V.int)) u=some (.lst ((b.filterMap (·.2)).map V.int)):=z02;generalize upd H1 u (.lst ((b.filterMap (·.2)).map V.int))=H2 at B W⊢;refine ⟨u,_,rfl,SqL.of W,a1,λ M f r=>g_name ?_⟩;refine z0j (e_cb1 ?_);refine z13 (K:=KX w.params) (a:=l) (xs:=D) (H1:=H2) (λ _=>true) (λ i y _=>y=V.int (b[i]?.getD (0,none)).1) (λ _ _ _ _ _ z=>z) (λ R h=>⟨_,rfl,h⟩) (SqL.of (B _ _ U)) (S0 (m:=100) (by omega) (by decide)) (λ i hi v H1 k I KT KF f r=>?_) λ t Y X s3 a3 n=>?_
  ·obtain ⟨c,J,p,rfl,O⟩:=z0b F I;exact ⟨p,_,rfl,(B.trans k).seqT O,rfl,_,_,rfl,_,_,rfl,rfl,[some (.int c.1),some (endO c.2)],rfl,rfl,iteT ⟨_,rfl,f rfl _ _ (Same.refl _) (by rw [J];rfl)⟩⟩
  rw [ly,List.filter_eq_self.mpr (λ _ _=>rfl)] at n;have d:=z0z n;have d:X=(b.map (·.1)).map V.int:=by
   rw [d];apply K7;intro m;rw [U1,U1,U1];by_cases z:m < b.length
   ·rw [W8 z,M0 z];show some (V.int (b[m]?.getD (0,none)).1)=_;rw [M0 z];rfl
   ·rw [Z3 (by rw [K4];omega),Z3 (by omega)];rfl
  subst d;have Z:=B.trans (s3.trans (Same.upd (o:=.lst ((b.map (·.1)).map V.int)) a3));have e3:upd Y t (.lst ((b.map (·.1)).map V.int)) t=some (.lst ((b.map (·.1)).map V.int)):=z02;generalize upd Y t (.lst ((b.map (·.1)).map V.int))=H4 at Z e3⊢;refine ⟨t,_,rfl,SqL.of e3,λ z=>a0 (List.map_eq_nil_iff.mp z),λ g L C=>g_name ?_⟩;have fin :∀(p:Addr) j,Same H4 j->ZtV j (zOf x M g) (.ref p)->Q (.ref p) j:=λ p j S z=>q p M g j (Z.trans S) ⟨f,r⟩ ⟨L,C⟩ z;refine sq_if ⟨_,rfl,_,rfl,_,_,rfl,rfl,_,rfl,ite2 (λ z=>?_) λ z=>t_nx ?_⟩
  ·have z:=of_decide_eq_true z;refine ⟨_,rfl,_,rfl,_,rfl,w_4,λ p G=>fin p _ (Same.upd G) ⟨p,rfl,?_⟩⟩;unfold zOf;rw [if_pos z];exact z02
  ·have z:¬ M < g:=λ y=>z (decide_eq_true y);refine ⟨_,rfl,_,rfl,_,rfl,w_4,λ p G=>fin p _ (Same.upd G) ⟨p,rfl,?_⟩⟩;unfold zOf;rw [if_neg z];exact z02
theorem slSeqK {X:Cx} {K:d0} (hK:X.K=K):SlR X (λ x lo hi H Q=>rSlL K x lo hi H Q\/rSlT K x lo hi H Q\/rSlS x lo hi H Q):=hK ▸ slSeq
theorem zh7 {K:d0} {tl te:TE} {tc:TT} {g:TG} {m:Nat} {fr:List (Nat×Str)} {σ:L2.St} {H:Hp} {Q:VK} (h:tl σ H λ x H1=>tCompG (iList K λ _ _ R=>R x H1) m fr g tc te σ H1 Q):tCompG (iList K tl) m fr g tc te σ H Q:=h
noncomputable def lamP:Pos:=⟨173,29,173,49⟩
noncomputable def lamQ:Str:=(("zones" : Str)++".<locals>.")++"<lambda>"
abbrev LamH:Hp->Prop:=LamT tbT lamP lamQ
theorem LamH.same {H H':Hp} (s:Same H H') (h:LamH H):LamH H':=by
 rcases h with z|⟨c',z,y⟩
 ·exact .inl (s _ _ z)
 ·exact .inr ⟨c',s _ _ z,s _ _ y⟩
noncomputable def rdsF (rs:List Rc) (x:Int):List Rc:=(rs.filter isRE).filter λ r=>decide (intV r.a=x)
noncomputable def spR (r:Rc):Int×Option Int:=((r.b:Int),r.e.map λ n=>(n:Int))
noncomputable def spans (rs:List Rc) (t:Ent):List (Int×Option Int):=(t.b,t.e) :: (rdsF rs t.x).map spR
noncomputable def cntB (rs:List Rc) (t:Ent):Bool:=decide ((spans rs t).filterMap (·.2)≠[])
def ZnR (rs:List Rc) (t:Ent) (z:Zt):Prop:=∃l g,MinI l ((spans rs t).filterMap (·.2))/\MaxI g ((spans rs t).map (·.1))/\z=zOf t.x l g
def ZonS (rs:List Rc) (zl:List Zt):Prop:=∃zl0,All2 (ZnR rs) ((ents rs).filter (cntB rs)) zl0/\zl.Perm zl0/\zl.Pairwise λ z z'=>z.lo<=z'.lo
theorem z5d {α β γ:Type} {f:α->β} {R:β->γ->Prop} :∀{xs:List α} {ys:List γ},All2 (λ x y=>R (f x) y) xs ys->All2 R (xs.map f) ys
 | _,_,.nil=>.nil
 | _,_,.cons a r=>.cons a (z5d r)
def RdN (K:d0) (H:Hp) (r:Rc) (y:V):Prop:=∃(p:Addr) (i:Int) (z:V),y=.ref p/\H p=some (.tup [.int i,z])/\RcAt K H r z
theorem rdn_of {K:d0} {H:Hp} {rs:List Rc} {zs ws:List V} (a:All2 (RcAt K H) rs zs) (h:All2 (NumAt H zs) ((A1 rs.length).filter λ i=>isRE (rs[i]?.getD r00)) ws):All2 (RdN K H) (rs.filter isRE) ws:=by have e:=z11 isRE id r00 rs;rw [List.map_id] at e;rw [<-e];refine z5d (z01 (λ i y z=>?_) h);obtain ⟨p,v,rfl,d,b⟩:=z;obtain ⟨r,c,q⟩:=z0b a b;exact ⟨p,i,v,rfl,d,by rw [c];exact q⟩
theorem key_zt {H:Hp} {zl:List Zt} {ys out:List V} (a:All2 (ZtV H) zl ys) (k:KeyOut (zl.map (·.lo)) ys out) :∃zl',zl'.Perm zl/\zl'.Pairwise (λ z z'=>z.lo<=z'.lo)/\All2 (ZtV H) zl' out:=by
 obtain ⟨n,d,rfl,f⟩:=k;have e:(zl.map (·.lo)).zip ys=(zl.zip ys).map λ p=>(p.1.lo,p.2):=by rw [List.zip_map_left];exact List.map_congr_left λ p _=>rfl
 obtain ⟨b,g,rfl⟩:=z90 d _ e;have l :∀{zl:List Zt} {ys:List V},All2 (ZtV H) zl ys->(∀q∈zl.zip ys,ZtV H q.1 q.2)/\(zl.zip ys).map j30=zl:=by
  intro zl ys a;induction a with
  | nil=>exact ⟨λ q c=>absurd c F0,rfl⟩
  | cons a r ih=>
   refine ⟨λ q c=>?_,?_⟩
   ·rcases List.mem_cons.mp c with rfl|c
    ·exact a
    ·exact ih.1 q c
   ·show _ :: (List.zip _ _).map j30=_;rw [ih.2]
 obtain ⟨i,m⟩:=l a;refine ⟨b.map j30,?_,?_,?_⟩
 ·rw [<-m];exact g.map _
 ·rw [j5] at f⊢;exact f
 ·rw [J4];have j :∀b:List (Zt×V),(∀q∈b,ZtV H q.1 q.2)->All2 (ZtV H) (b.map j30) (b.map (Prod.snd ∘ λ p=>(p.1.lo,p.2))):=by
   intro b;induction b with
   | nil=>exact λ _=>.nil
   | cons q b ih=>exact λ h=>.cons (h q (.head _)) (ih λ p d=>h p (.tail _ d))
  exact j b λ q c=>i q (g.mem_iff.mp c)
theorem sp_ne {rs:List Rc} {t:Ent} (h:rdsF rs t.x≠[]):(spans rs t).filterMap (·.2)≠[]:=by
 obtain ⟨r,d,e⟩:=List.exists_cons_of_ne_nil h;have b:r∈rdsF rs t.x:=by rw [e];exact .head _
 have a:=(List.mem_filter.mp (List.mem_filter.mp b).1).2;unfold isRE at a;rw [O8] at a;obtain ⟨k,c⟩:=Option.isSome_iff_exists.mp a.2;refine List.ne_nil_of_mem (List.mem_filterMap.mpr ⟨spR r,.tail _ (List.mem_map.mpr ⟨r,b,rfl⟩),(?_:_=some (k:Int))⟩);unfold spR;rw [c];rfl
theorem SameB.tups {T:Addr} {K:d0} {H H':Hp} (s:SameB T H H') (h :∃ps,H T=some (.tbl ps)):Tups K H H':=λ a b e=>by
 obtain ⟨ps,z⟩:=h;rcases e with (e|⟨o,e⟩)|e
 ·exact .inl (.inl (s _ _ (λ q=>by rw [q,z] at e;cases e) e))
 ·exact .inl (.inr ⟨o,s _ _ (λ q=>by rw [q,z] at e;cases e) e⟩)
 ·exact .inr e
theorem SameB.of {T:Addr} {H H':Hp} (s:Same H H'):SameB T H H':=λ b o _ e=>s b o e
theorem SameB.trans {T:Addr} {H H1 H2:Hp} (s:SameB T H H1) (r:SameB T H1 H2):SameB T H H2:=λ b o n e=>r b o n (s b o n e)
theorem ZtV.sb {H H':Hp} {z:Zt} {y:V} (s:SameB tbT H H') (h :∃ps,H tbT=some (.tbl ps)) (e:ZtV H z y):ZtV H' z y:=by obtain ⟨ps,b⟩:=h;obtain ⟨p,rfl,a⟩:=e;exact ⟨p,rfl,s _ _ (λ q=>by rw [q,b] at a;cases a) a⟩
def z7x (K:d0):Sp:=λ vs H Q _=>∃t nm wr es ys,vs=[.ref t]/\TalR K H t nm wr es ys/\LamH H/\∀D out zl H',SameB tbT H H'->LamH H'->H D=none->H' D=some (.lst out)->ZonS (dAll 0 [] es) zl->All2 (ZtV H') zl out->Q (.ref D) H'
theorem zfr (T:TX (kx w) mg) (B:BtMain base mg) (c0:Ca P w mg base "plain_deeds" ["tale"] 4 (z18 (kx w))) (c1:Ca P w mg base "writers" ["told"] 1 (z3u (kx w))) (c2:Ca P w mg base "ended_reads" ["told"] 1 (z1a (kx w))) (c3:Ca P w mg base "zone_of" ["worth","spans"] 1 (z3q (kx w))):Fo P w mg base CX0 6 379 y10 ["tale"] (z7x (kx w)):=by
 refine (z69 w.params).okC (c:=cdT) rfl sc_zones (λ vs H Q E h=>?_) (λ A f8 s H vs Q E J h=>?_)
 ·obtain ⟨t,nm,W,es,ys,rfl,_⟩:=h;rfl
 ·obtain ⟨t,nm,W,es,ys,rfl,ta,lm,q⟩:=h;refine ⟨_,(z03 (ps_set (i:=1) sc_zones.nd rfl (A2 rfl) (pe_cal c0 (J.mono (by decide)) rfl (z00 (pv 0) pa_nil)))
   (z03 (ps_set (i:=2) sc_zones.nd rfl (A2 rfl) (pe_lst pa_nil))
   (z03 (ps_for F3 rfl (zfv (pe_cal c1 (J.mono (by decide)) rfl (z00 (pv 1) pa_nil))) (pg_tup rfl (z0i (z0p (i:=3) sc_zones.nd rfl (X1 rfl)) (z0i (z0p (i:=4) sc_zones.nd rfl (A2 rfl)) z1w)))
   (z03 (ps_set (i:=5) sc_zones.nd rfl (A2 rfl) (pe_op opAdd (pe_lst (z00 (pv 4) pa_nil)) (pe_cg (xs:=["number","read"]) (g:=gTup (kx w) 2 (gCons (gName 0) (gCons (gName 1) gNil))) (fr:=[(3,"worth")]) (z0t (pe_cal c2 (J.mono (by decide)) rfl (z00 (pv 1) pa_nil))) (λ _ _ _ _ _=>(pg_tup rfl (z0i (pg_cn (N:=["number","read","worth"]) 0) (z0i (pg_cn (N:=["number","read","worth"]) 1) z1w)))) (λ _ _ _ _ _=>(pf_one (z0c opEq (pe_ix (z1v (K:=KX w.params) rfl) (pv 1) pe_int (λ _ _=>rfl)) (pv 2) (nomark _)))) (λ _ _ _ _ _=>(z50 (slSeqK (K:=KX w.params) rfl) (pv 1) (z8b pe_int) z8t)))))
   (z05 (ps_if (PW.pt (pw_or (z0c za8 (pe_ix ix_seq (pv 4) pe_int (λ _ _=>rfl)) pe_non (nomark _)) (pw_or1 (z0c op_gt (z09 z1e rfl (T.no (n_len _)) B5 (z00 (pv 5) pa_nil)) pe_int (nomark _)))))
   (z05 (z15 (z1r (pv 2) (z00 (pe_cal c3 (J.mono (by decide)) rfl (z00 (pv 3) (z00 (pv 5) pa_nil))) pa_nil))))
   z0g))))
   (z05 (ps_ret (zbb (k:=0) (N:=["zone"]) (px:="zone") B rfl (ck_T _) (J.mono (by decide)) rfl (T.no (zcb _)) (z00 (pv 2) pa_nil) ⟨rfl,rfl,rfl,by decide +kernel,rfl,by decide +kernel,by decide +kernel⟩ (λ _ _ _ _=>rfl) (λ _ _ _ _=>(pe_ix (z1v (K:=KX w.params) rfl) (pv 0) pe_int (λ _ _=>rfl))))))))),?_⟩
  refine z0j ⟨_,rfl,t,nm,W,es,ys,rfl,ta,λ l zs H1 s1 tl=>g_name ?_⟩;have nd:=ta.tw.nd;have c9:(dAll 0 [] es).length<=62:=S0 z3s (by simpa using ta.ln);have n0:=ta.tw.n0;generalize dAll 0 [] es=rs at tl nd n0 q c9;refine z0j ⟨w_0,λ F a3=>g_name ?_⟩;have u2:=s1.trans (Same.upd (o:=.lst []) a3);have ef:upd H1 F (.lst []) F=some (.lst []):=z02;have a0:=tl.same (Same.upd (o:=.lst []) a3);have nf:H F=none:=s1.free a3;have nl:l≠F:=λ z=>by have:=tl.l;rw [z,a3] at this;cases this
  generalize upd H1 F (.lst [])=H2 at u2 ef a0⊢;have f7:=a0.n;have le:=z7g rs;have f5:rs.length<=62:=c9;refine ⟨_,rfl,l,zs,rs,W,rfl,a0,nd,n0,λ d G S s3 b1 ed wk=>⟨d,G,rfl,ed,λ M=>?_⟩⟩;have d9:H d=none:=u2.free b1;have e8:F≠d:=λ z=>by rw [z,b1] at ef;cases ef
  have u4:Same H (upd S d (.frz M (.dK G))):=Same.keep (u2.trans s3) d9;have d1:=a0.same (Same.keep (o:=.frz M (.dK G)) s3 b1);have b6:All2 (EntAt (kx w) (upd S d (.frz M (.dK G)))) (ents rs) G:=z01 (λ _ _ z=>z.tups (Tups.dict ed)) wk;have c8:upd S d (.frz M (.dK G)) F=some (.lst []):=by rw [upd_ne e8];exact s3 _ _ ef
  have d3:upd S d (.frz M (.dK G)) d=some (.frz M (.dK G)):=z02;have lk:=z04 wk;generalize upd S d (.frz M (.dK G))=H4 at u4 d1 b6 c8 d3⊢;clear wk a0 ed s3 ef u2 tl;refine zd7 (λ i σ u=>Same H u/\u d=some (.frz M (.dK G))/\ToldAt (kx w) u l W rs zs/\All2 (EntAt (kx w) u) (ents rs) G/\(∃fs zl,u F=some (.lst fs)/\All2 (ZtV u) zl fs/\All2 (ZnR rs) (((ents rs).take i).filter (cntB rs)) zl)/\∃x3 x4 x5,σ=[some (.ref t),some (.ref l),some (.ref F),x3,x4,x5]) ⟨u4,d3,d1,b6,⟨[],[],c8,.nil,.nil⟩,_,_,_,rfl⟩ (λ i σ u h=>h.2.1) ?_ ?_
  ·rintro i k v σ H5 p hk ⟨u5,ed5,tl5,wk5,⟨fs,zl,ef5,az,an⟩,x3,x4,x5,rfl⟩ hp;obtain ⟨f,d2,e1,C,e2,sw⟩:=z0b wk5 hk;have e1:k=.inl f.x:=e1;have e2:v=.ref C:=e2;subst e1 e2;have hi:=z3r d2;have u6:=Same.upd (o:=.tup [kV (.inl f.x),.ref C]) hp;have e6:upd H5 p (.tup [kV (.inl f.x),.ref C]) p=some (.tup [.int f.x,.ref C]):=z02;generalize upd H5 p (.tup [kV (.inl f.x),.ref C])=H6 at u6 e6⊢;refine ⟨p,_,rfl,SqT.of e6,rfl,_,_,rfl,_,_,rfl,rfl,?_⟩;refine z0j ⟨_,rfl,w_1,λ l0 f2=>?_⟩;have u7:=u6.trans (Same.upd (o:=.lst [.ref C]) f2);have e7:upd H6 l0 (.lst [.ref C]) l0=some (.lst [.ref C]):=z02;generalize upd H6 l0 (.lst [.ref C])=H7 at u7 e7⊢;have d4:=tl5.same u7;refine zh7 ⟨_,rfl,l,zs,rs,W,rfl,d4,λ la ws H8 s8 d7 aw=>?_⟩;have aw:=rdn_of (d4.same s8).a aw;have lw:=z04 aw;have f4:(rs.filter isRE).length<=rs.length:=m3 _ _;refine z13 (K:=KX w.params) (a:=la) (xs:=ws) (H1:=H8) (λ j=>((rs.filter isRE)[j]?.map λ r=>decide (intV r.a=f.x)).getD false) (λ j y u=>∀r,(rs.filter isRE)[j]? = some r->SpV (kx w) u (spR r) y) (λ _ _ _ _ s z r J=>(z r J).elim λ p e=>⟨p,e.1,s.seqT e.2⟩) (λ R h=>h) (SqL.of d7) (S0 (m:=63) (by omega) (by decide)) (λ j hj v H9 s9 hv KT KF Y Z=>?_) λ l1 H9 I s9 b7 X=>?_
   ·obtain ⟨r,J,p',i',z,rfl,d8,O,rfl,a2⟩:=z0b aw hv;have hm:=List.mem_filter.mp (I0 J);have ra:r.a=.int (intV r.a):=by
     have a4:=hm.2;unfold isRE at a4;rw [O8] at a4;obtain ⟨e,he⟩:=Option.isSome_iff_exists.mp a4.2;rcases tl5.g r hm.1 with g|g
     ·exact g.2.2 e he
     ·exact absurd ((of_decide_eq_true a4.1).symm.trans g.1) z1h
    rw [J] at Y Z;have a2:=s9.seqT a2;refine ⟨p',_,rfl,SqT.of (s9 _ _ d8),rfl,_,_,rfl,_,_,rfl,rfl,[some (.int i'),some (.ref O)],rfl,rfl,?_⟩;refine ⟨_,rfl,.inr (.inl ⟨O,_,4,.int (intV r.a),rfl,rfl,a2,by rw [<-ra];exact z06 (j:=4) rfl,_,rfl,rfl,_,rfl,?_⟩)⟩;refine ite2 (λ z=>?_) λ z=>Z (decide_eq_false λ y=>z (decide_eq_true (by rw [y]))) _ (Same.refl _);have z:=of_decide_eq_true z;injection z with z;refine ⟨_,rfl,5,rfl,.inr (.inl ⟨O,_,rfl,a2,λ z=>absurd z.1 (show ¬ HT.sIx 7 0 (some 5)=0 by decide),λ p1 e3=>?_⟩)⟩;refine Y (decide_eq_true z) _ _ (Same.upd e3) λ r' e4=>?_;cases e4;refine ⟨p1,rfl,?_⟩;show SqT _ _ _ [.int (r.b:Int),endO (r.e.map λ n=>(n:Int))];rw [<-endV_O];exact SqT.of z02
   rw [lw] at X;have X:=z5f (q:=λ r:Rc=>decide (intV r.a=f.x)) _ (D0 _) X;rw [M5] at X;have f3:=z04 X;have f6:((rs.filter isRE).filter λ r=>decide (intV r.a=f.x)).length<=(rs.filter isRE).length:=m3 _ _;have u9:=s8.trans (s9.trans (Same.upd (o:=.lst I) b7));have e9:upd H9 l1 (.lst I) l1=some (.lst I):=z02;have a6:All2 (λ r y=>SpV (kx w) (upd H9 l1 (.lst I)) (spR r) y) (rdsF rs f.x) I:=z01 (λ _ _ z=>z.elim λ p e=>⟨p,e.1,(Same.upd (o:=.lst I) b7).seqT e.2⟩) X;generalize upd H9 l1 (.lst I)=H10 at u9 e9 a6⊢;refine .inr (.inr (.inl ⟨l0,l1,_,_,rfl,rfl,u9 _ _ e7,e9,S0 (m:=64) (by show 1 + I.length<=64;omega) (by decide),λ U e0=>g_name ?_⟩));have c7:=Same.upd (o:=.lst ([.ref C]++I)) e0;have L:=(u7.trans u9).trans c7;have b4:upd H10 U (.lst ([.ref C]++I)) U=some (.lst (.ref C :: I)):=z02;have b8:All2 (SpV (kx w) (upd H10 U (.lst ([.ref C]++I)))) (spans rs f) (.ref C :: I):=.cons ⟨C,rfl,L.seqT sw⟩ (z5d (z01 (λ _ _ z=>z.elim λ p e=>⟨p,e.1,c7.seqT e.2⟩) a6));generalize upd H10 U (.lst ([.ref C]++I))=H11 at L b4 b8⊢;have a8:=L _ _ ef5;have b5:(ents rs).take (i + 1)=(ents rs).take i++[f]:=by rw [k7,d2];rfl
   have skip:¬ (spans rs f).filterMap (·.2)≠[]->Same H H11/\H11 d=some (.frz M (.dK G))/\ToldAt (kx w) H11 l W rs zs/\All2 (EntAt (kx w) H11) (ents rs) G/\∃fs zl,H11 F=some (.lst fs)/\All2 (ZtV H11) zl fs/\All2 (ZnR rs) (((ents rs).take (i + 1)).filter (cntB rs)) zl:=λ z=>by refine ⟨u5.trans L,L _ _ ed5,tl5.same L,z01 (λ _ _ z=>z.tups (Tups.of L)) wk5,fs,zl,a8,z01 (λ _ _ z=>z.same L) az,?_⟩;rw [b5,N2,J1 (by unfold cntB;rw [decide_eq_false z];decide),R6,U2];exact an
   have go:(spans rs f).filterMap (·.2)≠[]->∀{N:Hp->Prop},(∀u,(Same H u/\u d=some (.frz M (.dK G))/\ToldAt (kx w) u l W rs zs/\All2 (EntAt (kx w) u) (ents rs) G/\∃fs zl,u F=some (.lst fs)/\All2 (ZtV u) zl fs/\All2 (ZnR rs) (((ents rs).take (i + 1)).filter (cntB rs)) zl)->N u)->z3q (kx w) [.int f.x,.ref U] H11 (λ y H2=>z6p (.ref F) [y] H2 λ _ S=>N S) E0:=λ a7 N hN=>by
    refine ⟨f.x,U,_,spans rs f,rfl,b4,b8,by show (((rs.filter isRE).filter λ r=>decide (intV r.a=f.x)).map spR).length + 1<=100;rw [O0];omega,a7,List.cons_ne_nil _ _,λ O lo g a9 d0 Y Z hz=>?_⟩;have b2:=d0 _ _ a8;have f1:=z04 an;have c6:=z04 az;have d5:(((ents rs).take i).filter (cntB rs)).length<=((ents rs).take i).length:=m3 _ _;rw [A4] at d5;refine ⟨F,_,_,rfl,rfl,b2,B1 (m:=100) (by omega) (by decide),hN _ ?_⟩;have a1:=L.trans d0;have b9:Tups (kx w) a9 (upd a9 F (.lst (fs++[.ref O]))):=Tups.lst b2;have zt :∀{z:Zt} {y:V},ZtV a9 z y->ZtV (upd a9 F (.lst (fs++[.ref O]))) z y:=λ ⟨p,e,ep⟩=>⟨p,e,by rw [upd_ne (ne_of ep b2 (by intro z;cases z))];exact ep⟩
    have a5:=tl5.same a1;refine ⟨Same.keep (u5.trans a1) nf,by rw [upd_ne (λ z=>by rw [z] at ed5;rw [ef5] at ed5;cases ed5)];exact a1 _ _ ed5,⟨by rw [upd_ne nl];exact a5.l,z01 (λ _ _ z=>RcAt.tups b9 z) a5.a,a5.g,a5.n⟩,z01 (λ _ _ z=>z.tups λ c xs e=>b9 _ _ (a1.seqT e)) wk5,fs++[.ref O],zl++[zOf f.x lo g],z02,z0o (z01 (λ _ _ z=>zt (z.same a1)) az) (zt hz),?_⟩;rw [b5,N2,D1 (by unfold cntB;exact decide_eq_true a7)];exact z0o an ⟨lo,g,Y,Z,rfl⟩
   refine z8k (t_or ⟨_,rfl,.inr (.inl ⟨C,_,1,endO f.e,rfl,rfl,L.seqT sw,z06 (j:=1) rfl,rfl,_,rfl,?_⟩)⟩);cases he:f.e with
   | some e=>exact iteP (by simp [endO]) (iteT ⟨_,rfl,.inl ⟨rfl,_,SqL.of a8⟩,_,rfl,_,rfl,go (by unfold spans;rw [he];exact List.cons_ne_nil _ _) λ u h=>⟨h.1,h.2.1,h.2.2.1,h.2.2.2.1,h.2.2.2.2,_,_,_,rfl⟩⟩)
   | none=>
    refine iteN (by decide) ⟨_,rfl,.inl ⟨U,_,rfl,.inl (SqL.of b4),_,_,rfl,rfl,_,rfl,ite2 (λ z=>?_) λ z=>?_⟩⟩
    ·have z:=of_decide_eq_true z;rw [T0] at z;have a7:rdsF rs f.x≠[]:=λ y=>by have:=z04 a6;rw [y] at this;rw [this] at z;exact absurd z (by decide)
     exact ⟨_,rfl,.inl ⟨rfl,_,SqL.of a8⟩,_,rfl,_,rfl,go (sp_ne a7) λ u h=>⟨h.1,h.2.1,h.2.2.1,h.2.2.2.1,h.2.2.2.2,_,_,_,rfl⟩⟩
    ·have e5:rdsF rs f.x=[]:=by
      cases y:rdsF rs f.x with
      | nil=>rfl
      | cons r rr=>exfalso;have:=z04 a6;rw [y,T0] at this;refine z (decide_eq_true ?_);rw [T0];omega
     have h:=skip (λ y=>y (by unfold spans;rw [e5,he];rfl));exact ⟨h.1,h.2.1,h.2.2.1,h.2.2.2.1,h.2.2.2.2,_,_,_,rfl⟩
  rintro σ H5 ⟨u5,ed5,tl5,wk5,⟨fs,zl,ef5,az,an⟩,x3,x4,x5,rfl⟩;rw [lk,M5] at an;have c6:=z04 az;have f1:=z04 an;have f9:((ents rs).filter (cntB rs)).length<=(ents rs).length:=m3 _ _;have b3:=LamH.same u5 lm;refine ⟨_,rfl,F,fs,zl.map (·.lo),rfl,SqL.of ef5,by rw [O0];exact c6.symm,by omega,b3,λ H7 sb c4=>⟨λ i y k hy hk=>?_,λ D c5 hD ko=>?_⟩⟩
  ·obtain ⟨z,hz,p,rfl,ep⟩:=z0b az hy;rw [U1,hz] at hk;cases hk;have b0:ZtV H7 z (.ref p):=ZtV.sb sb b3.tb ⟨p,rfl,ep⟩;obtain ⟨p',e',b0⟩:=b0;cases e';exact ⟨_,rfl,.inr (.inl ⟨p,_,1,_,rfl,rfl,SqT.of b0,z06 (j:=1) rfl,rfl,rfl⟩)⟩
  ·obtain ⟨d6,Y,Z,h3⟩:=key_zt (z01 (λ _ _ z=>ZtV.sb sb b3.tb z) az) ko;have f0:H D=none:=by
    cases y:H D with
    | none=>rfl
    | some o=>
     exfalso;by_cases z:D=tbT
     ·obtain ⟨ps,e⟩:=c4.tb;rw [z,e] at hD;cases hD
     ·rw [sb _ _ z (u5 _ _ y)] at hD;cases hD
   have v8:=Same.upd (o:=.lst c5) hD;exact q D c5 d6 _ (SameB.trans (SameB.of u5) (SameB.trans sb (SameB.of v8))) (LamH.same v8 c4) f0 z02 ⟨zl,an,Y,Z⟩ (z01 (λ _ _ z=>z.same v8) h3)
theorem t_and {t u:TT} {σ:L2.St} {H:Hp} {Q:Bool->Hp->Prop} (h:t σ H λ c H1=>if c=true then u σ H1 Q else Q false H1):tAnd t u σ H Q:=h
def DkAt (H:Hp) (r:Addr):Prop:=∃a b c:Int,H r=some (.lst [.int a,.int b,.int c])/\0<=c/\c < 2147483587
structure Dk (r:Addr) (H H':Hp):Prop where
 k:Kept r H H'
 d:DkAt H' r
theorem Same.kp {H0 H H':Hp} {r:Addr} (s:Same H0 H) (n:H0 r=none) (k:Kept r H H'):Same H0 H':=λ b o e=>k b o (λ z=>by rw [z,n] at e;cases e) (s b o e)
theorem DkAt.same {H H':Hp} {r:Addr} (s:Same H H') (h:DkAt H r):DkAt H' r:=by obtain ⟨a,b,c,e,h⟩:=h;exact ⟨a,b,c,s _ _ e,h⟩
def z4c:Sp:=λ vs H Q _=>∃c:Int,vs=[.int c]/\∀r o,H r=none->DkAt (upd H r o) r->Q (.ref r) (upd H r o)
theorem z9g (T:TX (kx w) mg):Fo P w mg base CX0 1 417 y0n ["cell"] z4c:=by
 refine (z3y w.params).ok z9e (λ b H Q E h=>?_) (λ d A e s H b Q E a h=>?_)
 ·obtain ⟨c,rfl,_⟩:=h;rfl
 ·obtain ⟨c,rfl,q⟩:=h;refine ⟨_,(z05 (ps_ret (pe_lst (z00 (pe_op z80 (pv 0) pe_int) (z00 (pe_op op_mod (pv 0) pe_int) (z00 (pe_op op_mod (pv 0) pe_int) pa_nil)))))),?_⟩;refine ⟨_,rfl,_,_,rfl,rfl,(show CDivB c 2 from ⟨by decide,by decide⟩),_,rfl,_,_,rfl,rfl,(show (0:Int) < 2 by decide),_,rfl,_,_,rfl,rfl,(show (0:Int) < 2147483587 by decide),w_3,λ r a=>?_⟩;exact q r _ a ⟨_,_,_,z02,C8 _ (by decide),D7 _ (by decide)⟩
def z1b:Sp:=λ vs H Q _=>∃(r:Addr) (m:Int),vs=[.ref r,.int m]/\DkAt H r/\0 < m/\m < 2 ^ 64/\∀t H',Dk r H H'->0<=t->t < m->Q (.int t) H'
theorem z7d (T:TX (kx w) mg):Fo P w mg base CX0 1 424 y0f ["row","many"] z1b:=by
 refine (z2g w.params).ok sc__law_take (λ j H Q E h=>?_) (λ z A y s H j Q E x h=>?_)
 ·obtain ⟨r,m,rfl,_⟩:=h;rfl
 ·obtain ⟨r,m,rfl,⟨a,b,c,e,k,t⟩,f,o,q⟩:=h;refine ⟨_,(z03 (ps_if (PW.pt (pw_and (z0c opEq (pe_ix ix_seq (pv 0) pe_int (λ _ _=>rfl)) pe_int (nomark _)) (zeu (z0c opNe (pe_ix ix_seq (pv 0) pe_int (λ _ _=>rfl)) pe_int (nomark _)))))
   (z03 (ps_set (i:=2) sc__law_take.nd rfl (A2 rfl) (pe_op op_mod (pe_ix ix_seq (pv 0) pe_int (λ _ _=>rfl)) (pv 1)))
   (z03 (ps_asg (pe_op z80 (pe_ix ix_seq (pv 0) pe_int (λ _ _=>rfl)) (pv 1)) (pg_sub (pv 0) pe_int z79))
   (z05 (ps_ret (pv 2)))))
   z0g)
   (z03 (ps_asg (pe_op op_mod (pe_op opAdd (pe_op opAdd (pe_op op_mul (pe_ix ix_seq (pv 0) pe_int (λ _ _=>rfl)) (pe_ix ix_seq (pv 0) pe_int (λ _ _=>rfl))) (pe_op op_mul pe_int (pe_ix ix_seq (pv 0) pe_int (λ _ _=>rfl)))) pe_int) pe_int) (pg_sub (pv 0) pe_int z79))
   (z05 (ps_ret (pe_op op_mod (pe_op z80 (pe_ix ix_seq (pv 0) pe_int (λ _ _=>rfl)) pe_int) (pv 1)))))),?_⟩
  have d:SqL (kx w) H r [.int a,.int b,.int c]:=SqL.of e;refine z25 (λ l p=>p=H/\l=[some (.ref r),some (.int m),none]) ?_ λ g=>?_
  ·rintro σ v ⟨rfl,rfl⟩;have n:0<=(c * c + 69621 * c + 12345) % 2147483587:=C8 _ (by decide);have u:(c * c + 69621 * c + 12345) % 2147483587 < 2147483587:=D7 _ (by decide);refine z0j ⟨_,rfl,.inl ⟨r,_,2,.int c,rfl,rfl,d,rfl,_,rfl,.inl ⟨r,_,2,.int c,rfl,rfl,d,rfl,_,_,rfl,rfl,.inl ⟨by omega,by omega⟩,_,rfl,.inl ⟨r,_,2,.int c,rfl,rfl,d,rfl,_,_,rfl,rfl,.inl ⟨by decide,by decide⟩,.inl ⟨_,_,rfl,rfl,.inl ⟨_,_,rfl,rfl,_,_,rfl,rfl,(show (0:Int) < 2147483587 by decide),?_⟩⟩⟩⟩⟩⟩;refine ⟨_,rfl,r,_,2,2,rfl,rfl,e,rfl,?_⟩;refine ⟨_,rfl,.inl ⟨r,_,2,.int _,rfl,rfl,SqL.of z02,rfl,?_⟩⟩;refine ⟨_,_,rfl,rfl,(show CDivB _ 8 from ⟨by decide,by decide⟩),_,rfl,_,_,rfl,rfl,f,?_⟩;exact q _ _ ⟨.set,a,b,_,z02,n,u⟩ (C8 _ (by omega)) (D7 _ f)
  ·refine z8k (t_and ⟨_,rfl,.inl ⟨r,_,1,.int b,rfl,rfl,d,rfl,rfl,_,rfl,?_⟩⟩);refine ite2 (λ _=>?_) λ _=>iteF (g _ _ ⟨rfl,rfl⟩);refine ⟨_,rfl,.inl ⟨r,_,0,.int a,rfl,rfl,d,rfl,rfl,_,rfl,ite2 (λ _=>?_) λ _=>g _ _ ⟨rfl,rfl⟩⟩⟩;refine z0j ⟨_,rfl,.inl ⟨r,_,0,.int a,rfl,rfl,d,rfl,_,rfl,_,_,rfl,rfl,f,g_name ?_⟩⟩;refine z0j ⟨_,rfl,.inl ⟨r,_,0,.int a,rfl,rfl,d,rfl,_,rfl,_,_,rfl,rfl,⟨f,o⟩,?_⟩⟩;refine ⟨_,rfl,r,_,0,0,rfl,rfl,e,rfl,?_⟩;exact ⟨_,rfl,q _ _ ⟨.set,_,_,c,z02,k,t⟩ (C8 _ (by omega)) (D7 _ f)⟩
theorem re_end {r:Rc} (h:isRE r=true):r.v=.str "read"/\r.e=some (r.e.getD 0):=by unfold isRE at h;rw [O8] at h;obtain ⟨k,a⟩:=Option.isSome_iff_exists.mp h.2;exact ⟨of_decide_eq_true h.1,by rw [a];rfl⟩
theorem zfy {a b:Int} {ns:List Int} (h:MinI a ns) (h':MinI b ns):a=b:=j06 (h.2 b h'.1) (h'.2 a h.1)
theorem z8l {rs:List Rc} (nd:((rs.filter isW).map (λ r=>intV r.x)).Nodup) (n0:(0:Int)∉(rs.filter isW).map (λ r=>intV r.x)):((ents rs).map λ t=>(Sum.inl t.x:Key)).Nodup:=by
 have e:(ents rs).map (λ t=>(Sum.inl t.x:Key))=((0:Int) :: (rs.filter isW).map (λ r=>intV r.x)).map Sum.inl:=by unfold ents;rw [N1,J4,N1,J4];rfl
 rw [e];unfold List.Nodup;rw [j5];exact (List.nodup_cons.mpr ⟨n0,nd⟩:List.Nodup _).imp λ h z=>h (g7 z)
end
section
def PosOf (rs:List Rc) (x p:Int):Prop:=(x=0/\p < 0)\/∃(i:Nat) (r:Rc),rs[i]? = some r/\(p=r.b\/∃e:Nat,r.e=some e/\p=(e:Int))/\((isW r=true/\intV r.x=x)\/(isRE r=true/\intV r.a=x))
theorem za4 {n:Nat} {rs:List Rc} (ps:PosI n rs) {x x' p:Int} (h:PosOf rs x p) (h':PosOf rs x' p):x=x':=by
 rcases h with ⟨rfl,h⟩|⟨i,r,hi,hp,hx⟩
 ·rcases h' with ⟨rfl,_⟩|⟨j,q,hj,hp',_⟩
  ·rfl
  ·rcases hp' with z|⟨e,_,z⟩<;>omega
 ·rcases h' with ⟨rfl,h'⟩|⟨j,q,hj,hp',hx'⟩
  ·rcases hp with z|⟨e,_,z⟩<;>omega
  ·have d:i=j:=by
    rcases hp with z|⟨e,he,z⟩
    ·rcases hp' with y|⟨f,hf,y⟩
     ·exact ps.bb i j r q hi hj (by omega)
     ·exact absurd (by omega) (ps.be r (I0 hi) q (I0 hj) f hf)
    ·rcases hp' with y|⟨f,hf,y⟩
     ·exact absurd (by omega) (ps.be q (I0 hj) r (I0 hi) e he)
     ·have:e=f:=by omega
      subst this;exact ps.ee i j r q e hi hj he hf
   subst d;rw [hi] at hj;cases hj;have c:¬ (isW r=true/\isRE r=true):=λ ⟨a,b⟩=>z1h ((re_end b).1.symm.trans (of_decide_eq_true a));rcases hx with ⟨a,rfl⟩|⟨a,rfl⟩
   ·rcases hx' with ⟨_,b⟩|⟨b,_⟩
    ·exact b
    ·exact absurd ⟨a,b⟩ c
   ·rcases hx' with ⟨b,_⟩|⟨_,b⟩
    ·exact absurd ⟨b,a⟩ c
    ·exact b
theorem zch {rs:List Rc} {t:Ent} (ht:t∈ents rs) {s:Int×Option Int} (hs:s∈spans rs t):PosOf rs t.x s.1/\∀e,s.2=some e->PosOf rs t.x e:=by
 rcases List.mem_cons.mp hs with rfl|hs
 ·rcases ents_mem.mp ht with rfl|⟨w,hw,hi,rfl⟩
  ·exact ⟨.inl ⟨rfl,by decide⟩,λ e a=>by cases a;exact .inl ⟨rfl,by decide⟩⟩
  ·obtain ⟨i,h⟩:=List.mem_iff_getElem?.mp hw;refine ⟨.inr ⟨i,w,h,.inl rfl,.inl ⟨hi,rfl⟩⟩,λ e a=>?_⟩;unfold entW at a;cases hk:w.e with
   | none=>rw [hk] at a;cases a
   | some k=>rw [hk] at a;cases a;exact .inr ⟨i,w,h,.inr ⟨k,hk,rfl⟩,.inl ⟨hi,rfl⟩⟩
 ·obtain ⟨r,f,rfl⟩:=List.mem_map.mp hs;obtain ⟨g,b⟩:=List.mem_filter.mp f;obtain ⟨d,c⟩:=List.mem_filter.mp g;have b:=of_decide_eq_true b;obtain ⟨i,h⟩:=List.mem_iff_getElem?.mp d;refine ⟨.inr ⟨i,r,h,.inl rfl,.inr ⟨c,b⟩⟩,λ e a=>?_⟩;unfold spR at a;cases hk:r.e with
  | none=>rw [hk] at a;cases a
  | some k=>rw [hk] at a;cases a;exact .inr ⟨i,r,h,.inr ⟨k,hk,rfl⟩,.inr ⟨c,b⟩⟩
theorem zn_pos {rs:List Rc} {t:Ent} {z:Zt} (ht:t∈ents rs) (h:ZnR rs t z):PosOf rs t.x z.lo:=by
 obtain ⟨l,g,b,c,rfl⟩:=h;unfold zOf;split
 ·obtain ⟨s,a,e⟩:=List.mem_filterMap.mp b.1;exact (zch ht a).2 l e
 ·obtain ⟨s,a,e⟩:=List.mem_map.mp c.1;rw [<-e];exact (zch ht a).1
theorem zf3 {a b:Int} {ns:List Int} (h:MaxI a ns) (h':MaxI b ns):a=b:=j06 (h'.2 a h.1) (h.2 b h'.1)
theorem zby {rs:List Rc} {t:Ent} {z z':Zt} (h:ZnR rs t z) (h':ZnR rs t z'):z=z':=by obtain ⟨l,g,c,d,rfl⟩:=h;obtain ⟨e,f,a,b,rfl⟩:=h';rw [zfy c a,zf3 d b]
theorem z8v {α β:Type} {R:α->β->Prop} (h :∀a b b',R a b->R a b'->b=b') :∀{xs:List α} {ys zs:List β},All2 R xs ys->All2 R xs zs->ys=zs
 | _,_,_,.nil,.nil=>rfl
 | _,_,_,.cons a r,.cons b s=>by rw [h _ _ _ a b,z8v h r s]
theorem ents_x {rs:List Rc} (nd:((ents rs).map λ t=>(Sum.inl t.x:Key)).Nodup) {t t':Ent} (h:t∈ents rs) (h':t'∈ents rs) (e:t.x=t'.x):t=t':=by
 obtain ⟨i,d⟩:=List.mem_iff_getElem?.mp h;obtain ⟨j,a⟩:=List.mem_iff_getElem?.mp h';obtain ⟨g,k⟩:=List.getElem?_eq_some_iff.mp d;obtain ⟨f,c⟩:=List.getElem?_eq_some_iff.mp a;have b:=List.pairwise_iff_getElem.mp nd;rcases r6 i j with z|z|z
 ·refine absurd ?_ (b i j (by rw [O0];exact g) (by rw [O0];exact f) z);rw [O4,O4,k,c,e]
 ·subst z;rw [d] at a;exact Q1 a
 ·refine absurd ?_ (b j i (by rw [O0];exact f) (by rw [O0];exact g) z);rw [O4,O4,k,c,e]
theorem z70 {α β:Type} {R:α->β->Prop} :∀{xs:List α} {ys:List β},All2 R xs ys->∀y∈ys,∃x∈xs,R x y
 | _,_,.cons a r,y,h=>by
  rcases List.mem_cons.mp h with rfl|h
  ·exact ⟨_,.head _,a⟩
  ·obtain ⟨x,b,c⟩:=z70 r y h;exact ⟨x,.tail _ b,c⟩
theorem zfu {n:Nat} {rs:List Rc} (ps:PosI n rs) (nd:((rs.filter isW).map (λ r=>intV r.x)).Nodup) (n0:(0:Int)∉(rs.filter isW).map (λ r=>intV r.x)) {zl zl':List Zt} (h:ZonS rs zl) (h':ZonS rs zl'):zl=zl':=by obtain ⟨a,d,e,y⟩:=h;obtain ⟨b,q,i,w⟩:=h';have:=z8v (R:=ZnR rs) (λ _ _ _ h h'=>zby h h') d q;subst this;refine List.Perm.eq_of_pairwise (le:=λ z c:Zt=>z.lo<=c.lo) (λ z c v s u A=>?_) y w (e.trans i.symm);obtain ⟨t,m,k⟩:=z70 d z (e.mem_iff.mp v);obtain ⟨B,o,f⟩:=z70 d c (i.mem_iff.mp s);have g:=(List.mem_filter.mp m).1;have l:=(List.mem_filter.mp o).1;have j:=zn_pos g k;have p:=zn_pos l f;rw [j06 u A] at j;have:=ents_x (z8l nd n0) g l (za4 ps j p);subst this;exact zby k f
end
section
def onP (z z':Zt):Prop:=z.on=true/\z'.on=true/\z.lo < z'.lo/\z'.lo < z.hi
def inP (z z':Zt):Prop:=z.on=false/\z'.on=true/\z'.lo < z.lo/\z.hi < z'.hi
noncomputable def kdP:Bool->Zt->Zt->Prop
 | true=>onP
 | false=>inP
def FstP (P:Zt->Zt->Prop) (zl:List Zt) (z z':Zt):Prop:=z∈zl/\z'∈zl/\P z z'/\∀y y',y∈zl->y'∈zl->P y y'->z.lo < y.lo\/(z.lo=y.lo/\z'.lo<=y'.lo)
def NoP (P:Zt->Zt->Prop) (zl:List Zt):Prop:=∀y y',y∈zl->y'∈zl->¬ P y y'
inductive Oc
 | lost (n:Nat)
 | pr (k:Bool) (x y:Int)
 | non
def LosB (rs:List Rc) (r:Rc):Prop:=isRE r=true/\∀t∈ents rs,t.x=intV r.a->((r.e.getD 0:Nat):Int) < t.b
def FstL (rs:List Rc) (n:Nat):Prop:=∃r,rs[n]? = some r/\LosB rs r/\∀(m:Nat) (q:Rc),m < n->rs[m]? = some q->¬ LosB rs q
def NoL (rs:List Rc):Prop:=∀r∈rs,¬ LosB rs r
noncomputable def PrOk (zl:List Zt):Oc->Prop
 | .lost _=>False
 | .pr true x y=>∃z z',FstP onP zl z z'/\x=z.x/\y=z'.x
 | .pr false x y=>NoP onP zl/\∃z z',FstP inP zl z z'/\x=z.x/\y=z'.x
 | .non=>NoP onP zl/\NoP inP zl
noncomputable def OcOk (rs:List Rc):Oc->Prop
 | .lost n=>FstL rs n
 | o=>NoL rs/\∃zl,ZonS rs zl/\PrOk zl o
noncomputable def OcV (H:Hp):Oc->V->Prop
 | .lost n,v=>∃p,v=.ref p/\H p=some (.tup [.str "lost",.int (n:Nat)])
 | .pr k x y,v=>∃p,v=.ref p/\H p=some (.tup [.str (onS k),.int x,.int y])
 | .non,v=>v=.non
theorem zon_lo {n:Nat} {rs:List Rc} (ps:PosI n rs) (nd:((rs.filter isW).map (λ r=>intV r.x)).Nodup) (n0:(0:Int)∉(rs.filter isW).map (λ r=>intV r.x)) {zl:List Zt} (h:ZonS rs zl) :∀z∈zl,∀z'∈zl,z.lo=z'.lo->z=z':=λ z k z' o e=>by obtain ⟨a,d,b,q⟩:=h;obtain ⟨t,m,c⟩:=z70 d z (b.mem_iff.mp k);obtain ⟨s,p,g⟩:=z70 d z' (b.mem_iff.mp o);have i:=(List.mem_filter.mp m).1;have f:=(List.mem_filter.mp p).1;have j:=zn_pos i c;have l:=zn_pos f g;rw [e] at j;have:=ents_x (z8l nd n0) i f (za4 ps j l);subst this;exact zby c g
theorem zb1 {P:Zt->Zt->Prop} {zl:List Zt} (dl :∀z∈zl,∀z'∈zl,z.lo=z'.lo->z=z') {z z' y y':Zt} (h:FstP P zl z z') (h':FstP P zl y y'):z=y/\z'=y':=by obtain ⟨b,a,i,e⟩:=h;obtain ⟨c,d,g,f⟩:=h';have k:=e y y' c d g;have j:=f z z' b a i;exact ⟨dl z b y c (by omega),dl z' a y' d (by omega)⟩
theorem zdk {rs:List Rc} {n m:Nat} (h:FstL rs n) (h':FstL rs m):n=m:=by
 obtain ⟨r,d,f,a⟩:=h;obtain ⟨q,b,e,c⟩:=h';rcases r6 n m with z|z|z
 ·exact absurd f (c n r z d)
 ·exact z
 ·exact absurd e (a m q z b)
theorem z8a {rs:List Rc} {n:Nat} (h:FstL rs n) (h':NoL rs):False:=by obtain ⟨r,a,b,c⟩:=h;exact h' r (I0 a) b
theorem fst_no {P:Zt->Zt->Prop} {zl:List Zt} {z z':Zt} (h:FstP P zl z z') (h':NoP P zl):False:=h' z z' h.1 h.2.1 h.2.2.1
theorem zhf {zl:List Zt} (dl :∀z∈zl,∀z'∈zl,z.lo=z'.lo->z=z') {o o':Oc} (h:PrOk zl o) (h':PrOk zl o'):o=o':=by
 match o,o',h,h' with
 | .pr true x y,.pr true x' y',h,h'=>obtain ⟨z,z',f,rfl,rfl⟩:=h;obtain ⟨u,a,g,rfl,rfl⟩:=h';obtain ⟨rfl,rfl⟩:=zb1 dl f g;rfl
 | .pr true x y,.pr false x' y',⟨z,z',f,_,_⟩,⟨g,_⟩=>exact (fst_no f g).elim
 | .pr true x y,.non,⟨z,z',f,_,_⟩,⟨g,_⟩=>exact (fst_no f g).elim
 | .pr false x y,.pr true x' y',⟨g,_⟩,⟨z,z',f,_,_⟩=>exact (fst_no f g).elim
 | .pr false x y,.pr false x' y',h,h'=>obtain ⟨_,z,z',f,rfl,rfl⟩:=h;obtain ⟨_,u,a,g,rfl,rfl⟩:=h';obtain ⟨rfl,rfl⟩:=zb1 dl f g;rfl
 | .pr false x y,.non,⟨_,z,z',f,_,_⟩,⟨_,g⟩=>exact (fst_no f g).elim
 | .non,.pr true x' y',⟨g,_⟩,⟨z,z',f,_,_⟩=>exact (fst_no f g).elim
 | .non,.pr false x' y',⟨_,g⟩,⟨_,z,z',f,_,_⟩=>exact (fst_no f g).elim
 | .non,.non,_,_=>rfl
theorem zge {n:Nat} {rs:List Rc} (ps:PosI n rs) (nd:((rs.filter isW).map (λ r=>intV r.x)).Nodup) (n0:(0:Int)∉(rs.filter isW).map (λ r=>intV r.x)) {o o':Oc} (h:OcOk rs o) (h':OcOk rs o'):o=o':=by
 have c :∀{o o':Oc},(NoL rs/\∃zl,ZonS rs zl/\PrOk zl o)->(NoL rs/\∃zl,ZonS rs zl/\PrOk zl o')->o=o':=λ ⟨_,zl,z1,p1⟩ ⟨_,zl',z2,p2⟩=>by cases zfu ps nd n0 z1 z2;exact zhf (zon_lo ps nd n0 z1) p1 p2
 match o,o',h,h' with
 | .lost a,.lost b,f,g=>rw [zdk f g]
 | .lost a,.pr k x y,f,g=>exact (z8a f g.1).elim
 | .lost a,.non,f,g=>exact (z8a f g.1).elim
 | .pr k x y,.lost b,f,g=>exact (z8a g f.1).elim
 | .non,.lost b,f,g=>exact (z8a g f.1).elim
 | .pr k x y,.pr k' x' y',f,g=>exact c f g
 | .pr k x y,.non,f,g=>exact c f g
 | .non,.pr k x y,f,g=>exact c f g
 | .non,.non,_,_=>rfl
end
section
variable {P:Program} {w:W0} {mg:Str->Option Value} {base:Heap}
noncomputable def colB (z z':Zt):Bool:=if z.on=true then decide (z.lo < z'.lo) && decide (z'.lo < z.hi) else decide (z'.lo < z.lo) && decide (z.hi < z'.hi)
def z5x (K:d0):Sp:=λ vs H Q _=>∃z z' y y',vs=[y,y']/\ZtV H z y/\ZtV H z' y'/\Q (.bl (colB z z')) H
theorem zb5 (T:TX (kx w) mg):Fo P w mg base CX0 1 410 y13 ["zone","other"] (z5x (kx w)):=by
 refine (z5h w.params).ok zap (λ i H Q E h=>?_) (λ m A l s H i Q E k h=>?_)
 ·obtain ⟨z,b,y,g,rfl,_⟩:=h;rfl
 ·obtain ⟨z,b,y,g,rfl,⟨p,rfl,c⟩,⟨f,rfl,d⟩,q⟩:=h;refine ⟨_,(z03 (ps_if (z0c opEq (pe_ix ix_seq (pv 0) pe_int (λ _ _=>rfl)) pe_str (nomark _))
   (z05 (ps_ret (pe_and (z0x op_lt (pe_ix ix_seq (pv 1) pe_int (λ _ _=>rfl)) (pe_ix ix_seq (pv 0) pe_int (λ _ _=>rfl)) (nomark _)) (pe_one (z0x op_lt (pe_ix ix_seq (pv 0) pe_int (λ _ _=>rfl)) (pe_ix ix_seq (pv 1) pe_int (λ _ _=>rfl)) (nomark _))))))
   z0g)
   (z05 (ps_ret (z7k op_lt op_lt (pe_ix ix_seq (pv 0) pe_int (λ _ _=>rfl)) (pe_ix ix_seq (pv 1) pe_int (λ _ _=>rfl)) (pe_ix ix_seq (pv 0) pe_int (λ _ _=>rfl)))))),?_⟩
  have c:=SqT.of (K:=KX w.params) c;have d:=SqT.of (K:=KX w.params) d;refine sq_if ⟨_,rfl,.inr (.inl ⟨p,_,3,.str (onS z.on),rfl,rfl,c,z06 (j:=3) rfl,rfl,_,rfl,?_⟩)⟩;cases hz:z.on with
  | true=>
   refine iteK (t_nx ?_);refine ⟨_,rfl,.inr (.inl ⟨p,_,1,.int z.lo,rfl,rfl,c,z06 (j:=1) rfl,_,rfl,.inr (.inl ⟨f,_,1,.int b.lo,rfl,rfl,d,z06 (j:=1) rfl,_,_,rfl,rfl,_,rfl,ite2 (λ a=>?_) λ a=>?_⟩)⟩)⟩
   ·have e:colB z b=decide (b.lo < z.hi):=by unfold colB;rw [hz,if_pos rfl,a,M7]
    rw [e] at q;exact ⟨_,rfl,.inr (.inl ⟨p,_,2,.int z.hi,rfl,rfl,c,z06 (j:=2) rfl,_,_,rfl,rfl,q⟩)⟩
   ·have e:colB z b=false:=by unfold colB;rw [hz,if_pos rfl,Bool.eq_false_iff.mpr a,n6]
    rw [e] at q;exact q
  | false=>
   refine iteP (by decide +kernel) ?_;refine ⟨_,rfl,.inr (.inl ⟨f,_,1,.int b.lo,rfl,rfl,d,z06 (j:=1) rfl,_,rfl,.inr (.inl ⟨p,_,1,.int z.lo,rfl,rfl,c,z06 (j:=1) rfl,_,_,rfl,rfl,_,rfl,ite2 (λ a=>?_) λ a=>?_⟩)⟩)⟩
   ·have e:colB z b=decide (z.hi < b.hi):=by unfold colB;rw [hz,if_neg (by decide),a,M7]
    rw [e] at q;exact ⟨_,rfl,.inr (.inl ⟨p,_,2,.int z.hi,rfl,rfl,c,z06 (j:=2) rfl,_,rfl,.inr (.inl ⟨f,_,2,.int b.hi,rfl,rfl,d,z06 (j:=2) rfl,_,_,rfl,rfl,q⟩)⟩)⟩
   ·have e:colB z b=false:=by unfold colB;rw [hz,if_neg (by decide),Bool.eq_false_iff.mpr a,n6]
    rw [e] at q;exact q
def z6w (K:d0):Sp:=λ vs H Q _=>∃l zl ys b,vs=[.ref l,.str (onS b)]/\H l=some (.lst ys)/\All2 (ZtV H) zl ys/\zl.length<=100/\∀a ws H',Same H H'->H' a=some (.lst ws)->All2 (ZtV H') (zl.filter λ z=>z.on == b) ws->Q (.ref a) H'
theorem on_eq (b c:Bool):decide (V.str (onS b)=V.str (onS c))=(b == c):=by cases b<;>cases c<;>decide +kernel
theorem zc7 (T:TX (kx w) mg):Fo P w mg base CX0 1 403 y12 ["found","kind"] (z6w (kx w)):=by
 refine (z4q w.params).ok zb9 (λ C H Q E h=>?_) (λ Z A X s H C Q E n h=>?_)
 ·obtain ⟨l,e,f,b,rfl,_⟩:=h;rfl
 ·obtain ⟨l,e,f,b,rfl,F,t,Y,q⟩:=h;refine ⟨_,(z05 (ps_ret (pe_cg (xs:=["zone"]) (g:=gName 0) (fr:=[(1,"kind")]) (z0t (pv 0)) (λ _ _ _ _ _=>(pg_cn (N:=["zone","kind"]) 0)) (λ _ _ _ _ _=>(pf_one (z0c opEq (pe_ix (z1v (K:=KX w.params) rfl) (pv 0) pe_int (λ _ _=>rfl)) (pv 1) (nomark _)))) (λ _ _ _ _ _=>(pv 0))))),?_⟩;have L:=z04 t;refine sq_ret ?_;refine z13 (K:=KX w.params) (a:=l) (xs:=f) (H1:=H) (λ i=>(e[i]?.map λ z=>z.on == b).getD false) (λ i y I=>∀z,e[i]? = some z->ZtV I z y) (λ _ _ _ _ s z r n=>(z r n).same s) (λ R h=>⟨_,rfl,h⟩) (SqL.of F) (S0 (m:=100) (by omega) (by decide)) (λ i V v H1 d S KT W u B=>?_) λ D H1 ws d G c=>?_
  ·obtain ⟨z,M,p,rfl,O⟩:=z0b t S;have x:=d _ _ O;rw [M] at u B;refine ⟨[some (.ref p)],rfl,rfl,⟨_,rfl,.inr (.inl ⟨p,_,3,.str (onS z.on),rfl,rfl,SqT.of x,z06 (j:=3) rfl,_,rfl,rfl,_,rfl,?_⟩)⟩⟩;refine ite2 (λ y=>⟨_,rfl,u ((on_eq _ _).symm.trans y) _ _ (Same.refl _) λ U J=>by cases J;exact ⟨p,rfl,x⟩⟩) λ y=>B ((on_eq _ _).symm.trans (Bool.eq_false_iff.mpr y)) _ (Same.refl _)
  rw [L] at c;have c:=z5f (q:=λ z:Zt=>z.on == b) _ (D0 _) c;rw [M5] at c;have k:=Same.upd (o:=.lst ws) G;exact q D ws _ (d.trans k) z02 (z01 (λ _ _ z=>z.same k) c)
theorem zn_x {rs:List Rc} {t:Ent} {z:Zt} (h:ZnR rs t z):z.x=t.x:=by obtain ⟨l,g,_,_,rfl⟩:=h;unfold zOf;split<;>rfl
theorem zon_lt {n:Nat} {rs:List Rc} (ps:PosI n rs) (nd:((rs.filter isW).map (λ r=>intV r.x)).Nodup) (n0:(0:Int)∉(rs.filter isW).map (λ r=>intV r.x)) {zl:List Zt} (h:ZonS rs zl):zl.Pairwise λ z z'=>z.lo < z'.lo:=by
 have u:=zon_lo ps nd n0 h;obtain ⟨a,q,k,s⟩:=h;have e :∀{d:List Ent} {a:List Zt},All2 (ZnR rs) d a->(a.map λ z=>(Sum.inl z.x:Key))=d.map λ t=>(Sum.inl t.x:Key):=by
  intro d a h;induction h with
  | nil=>rfl
  | cons a r ih=>rw [N1,N1,ih,zn_x a]
 have m:(a.map λ z=>(Sum.inl z.x:Key)).Nodup:=by rw [e q];exact (z8l nd n0).sublist ((List.filter_sublist).map _)
 have l:(zl.map λ z=>(Sum.inl z.x:Key)).Nodup:=(k.map _).nodup_iff.mpr m;have o:=List.pairwise_iff_getElem.mp l;have p:=List.pairwise_iff_getElem.mp s;rw [List.pairwise_iff_getElem];intro i j b c f;have g:=o i j (by rw [O0];exact b) (by rw [O0];exact c) f;rw [O4,O4] at g;have v:=p i j b c f;have w:zl[i].lo≠zl[j].lo:=λ z=>g (by rw [u _ (N5 b) _ (N5 c) z]);omega
theorem pw_lo {xs:List Zt} (pw:xs.Pairwise λ z z'=>z.lo < z'.lo) {i j:Nat} {z y:Zt} (hi:xs[i]? = some z) (hj:xs[j]? = some y) (h:i < j):z.lo < y.lo:=by
 obtain ⟨a,c⟩:=List.getElem?_eq_some_iff.mp hi;obtain ⟨b,d⟩:=List.getElem?_eq_some_iff.mp hj;have:=List.pairwise_iff_getElem.mp pw i j a b h
 rwa [c,d] at this
theorem kd_on {b:Bool} {z z':Zt} (h:kdP b z z'):z.on=b/\z'.on=true:=by
 cases b with
 | true=>exact ⟨h.1,h.2.1⟩
 | false=>exact ⟨h.1,h.2.1⟩
theorem zh5 {b:Bool} {z z':Zt} (h:z.on=b) (h':z'.on=true):colB z z'=true↔kdP b z z':=by
 unfold colB;subst h;cases hz:z.on with
 | true=>rw [if_pos rfl,W2,decide_eq_true_iff,decide_eq_true_iff];exact ⟨λ ⟨a,b⟩=>⟨hz,h',a,b⟩,λ ⟨_,_,a,b⟩=>⟨a,b⟩⟩
 | false=>rw [if_neg (by decide),W2,decide_eq_true_iff,decide_eq_true_iff];exact ⟨λ ⟨a,b⟩=>⟨hz,h',a,b⟩,λ ⟨_,_,a,b⟩=>⟨a,b⟩⟩
theorem mem_kd {b:Bool} {zl:List Zt} {y:Zt} (h:y∈zl) (e:y.on=b) :∃i:Nat,(zl.filter λ z=>z.on == b)[i]? = some y:=List.mem_iff_getElem?.mp (List.mem_filter.mpr ⟨h,beq_iff_eq.mpr e⟩)
def z2p (K:d0):Sp:=λ vs H Q _=>∃l zl ys,vs=[.ref l]/\H l=some (.lst ys)/\All2 (ZtV H) zl ys/\zl.length<=100/\(zl.Pairwise λ z z'=>z.lo < z'.lo)/\∀o v H',Same H H'->PrOk zl o->OcV H' o v->Q v H'
theorem z65 (T:TX (kx w) mg) (c0:Ca P w mg base "of_kind" ["found","kind"] 1 (z6w (kx w))) (c1:Ca P w mg base "collide" ["zone","other"] 1 (z5x (kx w))):Fo P w mg base CX0 2 398 y09 ["found"] (z2p (kx w)):=by
 refine (z21 w.params).ok sc_first_pair (λ vs H Q E h=>?_) (λ b5 A b6 s H vs Q E I h=>?_)
 ·obtain ⟨l,e,J,rfl,_⟩:=h;rfl
 ·obtain ⟨l,e,J,rfl,el,az,X,pw,q⟩:=h;refine ⟨_,(z03 (ps_for F3 rfl (pi_tup (pe_tup (z00 pe_str (z00 pe_str pa_nil)))) (z0p (i:=1) sc_first_pair.nd rfl (A2 rfl))
   (z05 (ps_for F3 rfl (z0t (pe_cal c0 (I.mono (by decide)) rfl (z00 (pv 0) (z00 (pv 1) pa_nil)))) (z0p (i:=2) sc_first_pair.nd rfl (A2 rfl))
   (z05 (ps_for F3 rfl (z0t (pe_cal c0 (I.mono (by decide)) rfl (z00 (pv 0) (z00 pe_str pa_nil)))) (z0p (i:=3) sc_first_pair.nd rfl (A2 rfl))
   (z05 (ps_if (pt_val (pe_cal c1 (I.mono (by decide)) rfl (z00 (pv 2) (z00 (pv 3) pa_nil))) (λ _=>rfl))
   (z05 (ps_ret (pe_tup (z00 (pv 1) (z00 (pe_ix ix_seq (pv 2) pe_int (λ _ _=>rfl)) (z00 (pe_ix ix_seq (pv 3) pe_int (λ _ _=>rfl)) pa_nil))))))
   z0g)))))))
   (z05 (ps_ret pe_non))),?_⟩
  refine ⟨w_2,λ tb b3=>?_⟩;obtain ⟨H1,v_,u1,S⟩:=newA (.tup [.str "on",.str "in"]) b3;rw [<-v_];refine ⟨tb,rfl,⟨_,SqT.of S⟩,?_⟩;refine zgw (K:=KX w.params) (a:=tb) (xs:=[.str "on",.str "in"]) (λ i σ f=>Same H1 f/\(1<=i->NoP onP e)/\(2<=i->NoP inP e)/\∃x1 x2 x3,σ=[some (.ref l),x1,x2,x3]) ⟨Same.refl _,λ z=>absurd z (by decide),λ z=>absurd z (by decide),_,_,_,rfl⟩ (λ _ σ f _ h=>SqT.of (h.1 _ _ S)) ?_ ?_;rotate_left
  ·rintro σ H2 ⟨s2,n1,n2,x1,x2,x3,rfl⟩;exact q .non .non _ (u1.trans s2) ⟨n1 (by decide),n2 (by decide)⟩ rfl
  rintro i y σ H2 d ⟨s2,n1,n2,x1,x2,x3,rfl⟩;obtain ⟨b,rfl,a9,a4⟩ :∃b,y=V.str (onS b)/\(b=true->i=0)/\(b=false->i=1):=by
   match i,d with
   | 0,d=>cases d;exact ⟨true,rfl,λ _=>rfl,(λ z=>by cases z)⟩
   | 1,d=>cases d;exact ⟨false,rfl,(λ z=>by cases z),λ _=>rfl⟩
  have M:=u1.trans s2;refine g_name ?_;refine ⟨_,rfl,_,rfl,l,e,J,b,rfl,M _ _ el,z01 (λ _ _ z=>z.same M) az,X,λ a ws H3 s3 W Z=>⟨a,rfl,⟨_,SqL.of W⟩,?_⟩⟩;have u3:=M.trans s3;have a8:(e.filter λ z=>z.on == b).Pairwise λ z z'=>z.lo < z'.lo:=pw.filter _;have b1:(e.filter λ z=>z.on == true).Pairwise λ z z'=>z.lo < z'.lo:=pw.filter _;refine z1x (K:=KX w.params) (a:=a) (xs:=ws) (λ j σ f=>Same H3 f/\(∀(o:Nat) (z:Zt),o < j->(e.filter λ z=>z.on == b)[o]? = some z->∀z'∈e,¬ kdP b z z')/\∃x2 x3,σ=[some (.ref l),some (.str (onS b)),x2,x3]) ⟨Same.refl _,λ o z h=>absurd h (B8 _),_,_,rfl⟩ (λ _ σ f _ h=>SqL.of (h.1 _ _ W)) ?_ ?_;rotate_left
  ·rintro σ H4 ⟨s4,nb,x2,x3,rfl⟩;have no:NoP (kdP b) e:=λ y D d B k=>by obtain ⟨j,U⟩:=mem_kd d (kd_on k).1;exact nb j y (by rw [z04 Z];exact z3r U) U D B k
   refine ⟨s2.trans (s3.trans s4),λ h=>?_,λ h=>?_,_,_,_,rfl⟩
   ·cases b with
    | true=>exact no
    | false=>exact n1 (by rw [a4 rfl];decide)
   ·cases b with
    | true=>have:=a9 rfl;omega
    | false=>exact no
  rintro j v σ H4 hv ⟨s4,nb,x2,x3,rfl⟩;obtain ⟨z,u,zv⟩:=z0b Z hv;have a5:=List.mem_filter.mp (I0 u);have N:=u3.trans s4;refine g_name ?_;refine ⟨_,rfl,l,e,J,true,rfl,N _ _ el,z01 (λ _ _ z=>z.same N) az,X,λ a2 b4 H5 L a6 a1=>⟨a2,rfl,⟨_,SqL.of a6⟩,?_⟩⟩;refine z1x (K:=KX w.params) (a:=a2) (xs:=b4) (λ k σ f=>Same H5 f/\(∀(r:Nat) (z':Zt),r < k->(e.filter λ z=>z.on == true)[r]? = some z'->¬ kdP b z z')/\∃x3,σ=[some (.ref l),some (.str (onS b)),some v,x3]) ⟨Same.refl _,λ r z' h=>absurd h (B8 _),_,rfl⟩ (λ _ σ f _ h=>SqL.of (h.1 _ _ a6)) ?_ ?_;rotate_left
  ·rintro σ H6 ⟨s6,nk,x3,rfl⟩;refine ⟨s4.trans (L.trans s6),λ o y h d z' n k=>?_,_,_,rfl⟩;rcases Nat.lt_succ_iff_lt_or_eq.mp h with h|rfl
   ·exact nb o y h d z' n k
   ·rw [u] at d;cases d;obtain ⟨m,g⟩:=mem_kd n (kd_on k).2;exact nk m z' (by rw [z04 a1];exact z3r g) g k
  rintro k v' σ H6 b0 ⟨s6,nk,x3,rfl⟩;obtain ⟨z',n,b2⟩:=z0b a1 b0;have Y:=List.mem_filter.mp (I0 n);have a0:=zv.same (s4.trans (L.trans s6));have a3:=b2.same s6;have R:=zh5 (b:=b) (z:=z) (z':=z') (beq_iff_eq.mp a5.2) (beq_iff_eq.mp Y.2);refine g_name ?_;refine z8k ⟨_,rfl,_,rfl,z,z',v,v',rfl,a0,a3,_,rfl,ite2 (λ c=>?_) λ c=>?_⟩
  ·have F:=R.mp c;have fp:FstP (kdP b) e z z':=⟨a5.1,Y.1,F,λ y D d B G=>by
    obtain ⟨m,g⟩:=mem_kd d (kd_on G).1;rcases r6 m j with t|t|t
    ·exact absurd G (nb m y t g D B)
    ·subst t;rw [u] at g;cases g;refine .inr ⟨rfl,?_⟩;obtain ⟨O,C⟩:=mem_kd B (kd_on G).2;rcases r6 O k with t|t|t
     ·exact absurd G (nk O D t C)
     ·subst t;rw [n] at C;cases C;exact X9 _
     ·exact Int.le_of_lt (pw_lo b1 n C t)
    ·exact .inl (pw_lo a8 u g t)⟩
   obtain ⟨p,rfl,ep⟩:=a0;obtain ⟨p',rfl,a7⟩:=a3;refine ⟨_,rfl,_,rfl,.inr (.inl ⟨p,_,0,.int z.x,rfl,rfl,SqT.of ep,z06 (j:=0) rfl,_,rfl,.inr (.inl ⟨p',_,0,.int z'.x,rfl,rfl,SqT.of a7,z06 (j:=0) rfl,w_3,λ t ht=>?_⟩)⟩)⟩;refine q (.pr b z.x z'.x) (.ref t) _ (N.trans (L.trans (s6.trans (Same.upd ht)))) ?_ ⟨t,rfl,z02⟩;cases b with
   | true=>exact ⟨z,z',fp,rfl,rfl⟩
   | false=>exact ⟨n1 (by rw [a4 rfl];decide),z,z',fp,rfl,rfl⟩
  ·refine ⟨s6,λ r y h d F=>?_,_,rfl⟩;rcases Nat.lt_succ_iff_lt_or_eq.mp h with h|rfl
   ·exact nk r y h d F
   ·rw [n] at d;cases d;exact c (R.mpr F)
theorem zha {K:d0} {H:Hp} {rs:List Rc} {kvs:List (Key×V)} (wk:All2 (EntAt K H) (ents rs) kvs) (nd:((ents rs).map λ t=>(Sum.inl t.x:Key)).Nodup) (x:Int):(valV kvs (.inl x)=none/\∀t∈ents rs,t.x≠x)\/∃t pw,t∈ents rs/\t.x=x/\valV kvs (.inl x)=some (.ref pw)/\SqT K H pw [.int t.b,endO t.e]:=by
 by_cases h :∃t∈ents rs,t.x=x
 ·obtain ⟨t,a,rfl⟩:=h;obtain ⟨i,g⟩:=List.mem_iff_getElem?.mp a;obtain ⟨j,l,c,pw,d,f⟩:=z4h wk g;obtain ⟨k,v⟩:=j;have c:k=.inl t.x:=c;have d:v=.ref pw:=d;subst c d;exact .inr ⟨t,pw,a,rfl,val_in (by rw [z4s wk];exact nd) (I0 l),f⟩
 ·refine .inl ⟨?_,λ t a e=>h ⟨t,a,e⟩⟩;cases z:valV kvs (.inl x) with
  | none=>rfl
  | some v=>have:=(z9k (kvs:=kvs) (k:=.inl x)).mp (by rw [z];rfl);rw [z4s wk] at this;obtain ⟨t,a,e⟩:=List.mem_map.mp this;exact absurd ⟨t,a,g7 e⟩ h
theorem zff {rs:List Rc} {r:Rc} (h:isRE r=true) (n :∀t∈ents rs,t.x≠intV r.a):LosB rs r:=⟨h,λ t b e=>absurd e (n t b)⟩
theorem zfw {rs:List Rc} {r:Rc} (nd:((ents rs).map λ t=>(Sum.inl t.x:Key)).Nodup) (h:isRE r=true) {t:Ent} (ht:t∈ents rs) (e:t.x=intV r.a):LosB rs r↔((r.e.getD 0:Nat):Int) < t.b:=⟨λ l=>l.2 t ht e,λ l=>⟨h,λ f c d=>by rw [ents_x nd c ht (d.trans e.symm)];exact l⟩⟩
theorem idx_lt {n k i m:Nat} {p:Nat->Bool} (h:((A1 n).filter p)[k]? = some i) (hm:m < i) (hp:p m=true) :∃k',k' < k/\((A1 n).filter p)[k']? = some m:=by
 have f:=List.mem_range.mp (List.mem_filter.mp (I0 h)).1;obtain ⟨k',c⟩:=List.mem_iff_getElem?.mp (List.mem_filter.mpr ⟨List.mem_range.mpr (w6 hm f),hp⟩);refine ⟨k',?_,c⟩;have d:=List.pairwise_iff_getElem.mp ((g6 (n:=n)).filter p);obtain ⟨g,a⟩:=List.getElem?_eq_some_iff.mp h;obtain ⟨e,b⟩:=List.getElem?_eq_some_iff.mp c;rcases r6 k' k with z|z|z
 ·exact z
 ·subst z;rw [a] at b;omega
 ·have:=d k k' g e z;rw [a,b] at this;omega
theorem oc_of {rs:List Rc} {zl:List Zt} {o:Oc} (n:NoL rs) (z:ZonS rs zl) (p:PrOk zl o):OcOk rs o:=by
 cases o with
 | lost _=>exact p.elim
 | pr k x y=>exact ⟨n,zl,z,p⟩
 | non=>exact ⟨n,zl,z,p⟩
theorem zhb {rs:List Rc} {zl:List Zt} (h:ZonS rs zl):zl.length<=rs.length + 1:=by obtain ⟨a,b,c,_⟩:=h;rw [c.length_eq,z04 b];exact S0 (m3 _ _) (z7g rs)
def z3b (K:d0):Sp:=λ vs H Q _=>∃t nm wr es ys,vs=[.ref t]/\TalR K H t nm wr es ys/\LamH H/\∀o v H',SameB tbT H H'->LamH H'->OcOk (dAll 0 [] es) o->OcV H' o v->Q v H'
theorem z7o (T:TX (kx w) mg) (c0:Ca P w mg base "plain_deeds" ["tale"] 4 (z18 (kx w))) (c1:Ca P w mg base "writers" ["told"] 1 (z3u (kx w))) (c2:Ca P w mg base "ended_reads" ["told"] 1 (z1a (kx w))) (c3:Ca P w mg base "zones" ["tale"] 6 (z7x (kx w))) (c4:Ca P w mg base "first_pair" ["found"] 2 (z2p (kx w))):Fo P w mg base CX0 7 391 y01 ["tale"] (z3b (kx w)):=by
 refine (z14 w.params).ok sc_collision (λ vs H Q E h=>?_) (λ b9 A c6 s H vs Q E c h=>?_)
 ·obtain ⟨t,nm,N,I,ys,rfl,_⟩:=h;rfl
 ·obtain ⟨t,nm,N,I,ys,rfl,O,lm,q⟩:=h;refine ⟨_,(z03 (ps_set (i:=1) sc_collision.nd rfl (A2 rfl) (pe_cal c0 (c.mono (by decide)) rfl (z00 (pv 0) pa_nil)))
   (z03 (ps_set (i:=2) sc_collision.nd rfl (A2 rfl) (pe_cal c1 (c.mono (by decide)) rfl (z00 (pv 1) pa_nil)))
   (z03 (ps_for F3 rfl (z0t (pe_cal c2 (c.mono (by decide)) rfl (z00 (pv 1) pa_nil))) (pg_tup rfl (z0i (z0p (i:=3) sc_collision.nd rfl (A2 rfl)) (z0i (z0p (i:=4) sc_collision.nd rfl (A2 rfl)) z1w)))
   (z05 (ps_if (PW.pt (pw_or (pt_cmp (z89 (hu_of c) (pe_ix ix_seq (pv 4) pe_int (λ _ _=>rfl)) (pv 2)) (by with_unfolding_all rfl)) (pw_or1 (z0c op_lt (pe_ix ix_seq (pv 4) pe_int (λ _ _=>rfl)) (pe_ix ix_seq (zaj (hu_of c) (pv 2) (pe_ix ix_seq (pv 4) pe_int (λ _ _=>rfl)) (λ _ _=>rfl)) pe_int (λ _ _=>rfl)) (nomark _)))))
   (z05 (ps_ret (pe_tup (z00 pe_str (z00 (pv 3) pa_nil)))))
   z0g)))
   (z05 (ps_ret (pe_cal c4 (c.mono (by decide)) rfl (z00 (pe_cal c3 (c.mono (by decide)) rfl (z00 (pv 0) pa_nil)) pa_nil))))))),?_⟩
  have ps:=PosI.all I PosI.nil;have U:=O.tw.nd;have W:=O.tw.n0;have b6:(dAll 0 [] I).length<=62:=S0 z3s (by simpa using O.ln);refine z0j ⟨_,rfl,t,nm,N,I,ys,rfl,O,λ l zs H1 s1 tl=>g_name ?_⟩;generalize hrs:dAll 0 [] I=rs at tl U W q b6 ps;have a9:=z8l U W;refine z0j ⟨_,rfl,l,zs,rs,N,rfl,tl,U,W,λ d a2 H2 s2 hd ed wk=>g_name ?_⟩;have u2:=s1.trans s2;have a6:=tl.same s2;refine ⟨_,rfl,l,zs,rs,N,rfl,a6,λ la ws H3 Y a3 aw=>⟨la,rfl,⟨_,SqL.of a3⟩,?_⟩⟩;have u3:=u2.trans Y;have a8:=a6.same Y;have b5:All2 (EntAt (kx w) H3) (ents rs) a2:=z01 (λ _ _ z=>z.tups (Tups.of Y)) wk;have b8:=Y _ _ ed;refine z1x (K:=KX w.params) (a:=la) (xs:=ws) (λ k σ B=>Same H3 B/\(∀(f i:Nat),f < k->((A1 rs.length).filter λ i=>isRE (rs[i]?.getD r00))[f]? = some i->¬ LosB rs (rs[i]?.getD r00))/\∃x3 x4,σ=[some (.ref t),some (.ref l),some (.ref d),x3,x4]) ⟨Same.refl _,λ f i h=>absurd h (B8 _),_,_,rfl⟩ (λ _ σ B _ h=>SqL.of (h.1 _ _ a3)) ?_ ?_;rotate_left
  ·rintro σ G ⟨s4,nl,x3,x4,rfl⟩;have no:NoL rs:=λ r c F=>by obtain ⟨i,C⟩:=List.mem_iff_getElem?.mp c;obtain ⟨k,J⟩:=List.mem_iff_getElem?.mp ((List.mem_filter (p:=λ i=>isRE (rs[i]?.getD r00))).mpr ⟨List.mem_range.mpr (z3r C),show isRE (rs[i]?.getD r00)=true by rw [getD_some C];exact F.1⟩);refine nl k i (by rw [z04 aw];exact z3r J) J ?_;rw [getD_some C];exact F
   have L:=u3.trans s4;refine ⟨_,rfl,t,nm,N,I,ys,rfl,O.same L,LamH.same L lm,λ D b4 zl H5 sb b7 nD eD R az=>?_⟩;rw [hrs] at R;have c5:=zhb R;refine ⟨D,zl,b4,rfl,eD,az,by omega,zon_lt ps U W R,λ o v H6 s6 pr ov=>q o v H6 (SameB.trans (SameB.of L) (SameB.trans sb (SameB.of s6))) (LamH.same s6 b7) (oc_of no R pr) ov⟩
  rintro k y σ G hy ⟨s4,nl,x3,x4,rfl⟩;obtain ⟨i,C,p,z,rfl,ep,hz⟩:=z0b aw hy;obtain ⟨r,c,Z,rfl,b2⟩:=z0b a8.a hz;have hm:=List.mem_filter.mp (I0 C);have a1:isRE r=true:=by have:=hm.2;rw [getD_some c] at this;exact this
  obtain ⟨rv,b0⟩:=re_end a1;have ra:r.a=.int (intV r.a):=by
   rcases a8.g r (I0 c) with g|g
   ·exact g.2.2 _ b0
   ·exact absurd (rv.symm.trans g.1) z1h
  have L:=u3.trans s4;have a0:=s4.seqT b2;have a7:=s4 _ _ b8;have a5:LosB rs r->∀B,Same G B->∀u,B u=none->Q (.ref u) (upd B u (.tup [.str "lost",.int (i:Nat)])):=λ F B s' u M=>by have v:=s'.trans (Same.upd (o:=.tup [.str "lost",.int (i:Nat)]) M);refine q (.lost i) (.ref u) _ (SameB.of (L.trans v)) (LamH.same (L.trans v) lm) ⟨r,c,F,λ m q' b3 hq lq=>?_⟩ ⟨u,rfl,z02⟩;obtain ⟨f,h1,h2⟩:=idx_lt C b3 (show isRE (rs[m]?.getD r00)=true by rw [getD_some hq];exact lq.1);refine nl f m h1 h2 ?_;rw [getD_some hq];exact lq
  have next:¬ LosB rs r->∀(f X:Nat),f < k + 1->((A1 rs.length).filter λ i=>isRE (rs[i]?.getD r00))[f]? = some X->¬ LosB rs (rs[X]?.getD r00):=λ nb f X h J=>by
   rcases Nat.lt_succ_iff_lt_or_eq.mp h with h|rfl
   ·exact nl f X h J
   ·rw [C] at J;cases J;rw [getD_some c];exact nb
  refine ⟨p,_,rfl,SqT.of (s4 _ _ ep),rfl,_,_,rfl,_,_,rfl,rfl,?_⟩;have b1:All2 (EntAt (kx w) G) (ents rs) a2:=z01 (λ _ _ z=>z.tups (Tups.of s4)) b5;have a4:atI [V.int r.h,r.n,r.v,r.x,r.a,.int r.b,endV r.e] 4=some (.int (intV r.a)):=by rw [<-ra];exact z06 (j:=4) rfl
  have e6:atI [V.int r.h,r.n,r.v,r.x,r.a,.int r.b,endV r.e] 6=some (.int ((r.e.getD 0:Nat):Int)):=by rw [b0];exact z06 (j:=6) rfl
  refine z8k (t_or ⟨_,rfl,.inr (.inl ⟨Z,_,4,.int (intV r.a),rfl,rfl,a0,a4,_,rfl,d,_,rfl,DGet.k (k:=.inl (intV r.a)) a7,_,rfl,?_⟩)⟩);rcases zha b1 a9 (intV r.a) with ⟨S,hn⟩|⟨te,pw,hte,hx,S,sw⟩
  ·rw [S];exact iteP rfl ⟨_,rfl,w_2,λ u M=>a5 (zff a1 hn) G (Same.refl _) u M⟩
  ·have dg:DGet G d (.int (intV r.a)) (some (.ref pw)):=.inl ⟨a2,.inl (intV r.a),.inl a7,rfl,S.symm⟩;have li:=zfw (r:=r) a9 a1 hte hx;rw [S];refine iteN (λ z=>R0 z) ⟨_,rfl,.inr (.inl ⟨Z,_,6,_,rfl,rfl,a0,e6,_,rfl,_,rfl,.inr (.inl ⟨Z,_,4,.int (intV r.a),rfl,rfl,a0,a4,d,_,rfl,dg,.inr (.inl ⟨pw,_,0,.int te.b,rfl,rfl,sw,z06 (j:=0) rfl,_,_,rfl,rfl,_,rfl,ite2 (λ z=>?_) λ z=>?_⟩)⟩)⟩)⟩
   ·exact ⟨_,rfl,w_2,λ u M=>a5 (li.mpr (of_decide_eq_true z)) G (Same.refl _) u M⟩
   ·exact ⟨s4,next λ F=>z (decide_eq_true (li.mp F)),_,_,rfl⟩
def z92 (K:d0):Sp:=z0l K
theorem zcn (T:TX (kx w) mg) (c0:CaE P w mg base "plain_deeds" ["tale"] 4 (z0l (kx w))):Fo P w mg base (CXE P w base) 6 379 y10 ["tale"] (z92 (kx w)):=by
 refine (z69 w.params).okE sc_zones (λ e H Q E h=>?_) (λ f A g s H e Q E d h=>?_)
 ·obtain ⟨t,a,rfl,_⟩:=h;rfl
 ·obtain ⟨t,a,rfl,b,c⟩:=h;refine ⟨_,(z03 (ps_set (i:=1) sc_zones.nd rfl (A2 rfl) (zek passE c0 (d.mono (by decide)) rfl (z00 (pv 0) pa_nil)))
   (z03 z0q (z03 z0q (z05 z0q)))),?_⟩
  exact ⟨_,rfl,t,a,rfl,b,c⟩
def z2q (K:d0):Sp:=z0l K
theorem z71 (T:TX (kx w) mg) (c0:CaE P w mg base "plain_deeds" ["tale"] 4 (z0l (kx w))):Fo P w mg base (CXE P w base) 7 391 y01 ["tale"] (z2q (kx w)):=by
 refine (z14 w.params).okE sc_collision (λ e H Q E h=>?_) (λ f A g s H e Q E d h=>?_)
 ·obtain ⟨t,a,rfl,_⟩:=h;rfl
 ·obtain ⟨t,a,rfl,b,c⟩:=h;refine ⟨_,(z03 (ps_set (i:=1) sc_collision.nd rfl (A2 rfl) (zek passE c0 (d.mono (by decide)) rfl (z00 (pv 0) pa_nil)))
   (z03 z0q (z03 z0q (z05 z0q)))),?_⟩
  exact ⟨_,rfl,t,a,rfl,b,c⟩
end
section
structure Tr where
 wr:Bool
 x:Int
 a:Option V
noncomputable def Tr.v (t:Tr):V:=.str (if t.wr=true then "write" else "read")
noncomputable def Tr.y (t:Tr):V:=if t.wr=true then .int t.x else .non
noncomputable def Tr.an (t:Tr):V:=t.a.getD .non
noncomputable def okV:V:=.str "ok"
noncomputable def noV:V:=.str "none"
noncomputable def ws (ts:List Tr):List Int:=(ts.filter (·.wr)).map (·.x)
structure Bs (n:Nat) (ts:List Tr):Prop where
 l:ts.length=n
 t :∀t∈ts,(t.wr=true/\5<=t.x/\t.x < 5 + n/\t.a=some okV)\/(t.wr=false/\t.x=0/\∃i:Int,t.a=some (.int i)/\0<=i/\i < 5 + n)
 d:(ws ts).Nodup
noncomputable def oddT:Nat->Tr
 | 0=>⟨true,0,some okV⟩
 | 1=>⟨true,99,some (.int 99)⟩
 | 2=>⟨true,99,some noV⟩
 | 3=>⟨false,0,some okV⟩
 | _=>⟨false,0,some noV⟩
def KdT (k:Nat) (ts:List Tr):Prop:=∃n ts0,n<=3/\Bs n ts0/\((k < 5/\ts.Perm (oddT k :: ts0))\/(k=5/\∃a,(a=none\/a=some okV)/\ts.Perm (⟨true,77,a⟩ :: ⟨true,77,some okV⟩ :: ts0))\/(k=6/\ts.Perm (⟨true,0,none⟩ :: ts0))\/(7<=k/\ts=ts0))
theorem Bs.snoc {n:Nat} {ts:List Tr} {t:Tr} (h:Bs n ts) (ht:(t.wr=true/\t.x=5 + n/\t.a=some okV)\/(t.wr=false/\t.x=0/\∃i:Int,t.a=some (.int i)/\0<=i/\i<=5 + n)):Bs (n + 1) (ts++[t]):=by
 have m :∀y∈ws ts,y < 5 + n:=λ y g=>by
  obtain ⟨u,f,rfl⟩:=List.mem_map.mp g;obtain ⟨o,j⟩:=List.mem_filter.mp f;rcases h.t u o with z|z
  ·exact z.2.2.1
  ·rw [z.1] at j;cases j
 refine ⟨by rw [N0,h.l];rfl,λ u f=>?_,?_⟩
 ·rcases List.mem_append.mp f with z|z
  ·rcases h.t u z with ⟨a,b,c,d⟩|⟨a,x0,i,b,c,d⟩
   ·exact .inl ⟨a,b,by omega,d⟩
   ·exact .inr ⟨a,x0,i,b,c,by omega⟩
  ·rw [List.mem_singleton.mp z];rcases ht with ⟨a,b,c⟩|⟨a,x0,i,b,c,d⟩
   ·exact .inl ⟨a,by omega,by omega,c⟩
   ·exact .inr ⟨a,x0,i,b,c,by omega⟩
 ·unfold ws;rw [N2,N3];rcases ht with ⟨a,b,c⟩|⟨a,x0,i,b,c,d⟩
  ·rw [D1 a];exact List.nodup_append.mpr ⟨h.d,List.nodup_cons.mpr ⟨F0,.nil⟩,λ y g z k e=>by have:=m y g;rw [List.mem_singleton.mp k] at e;have e:y=t.x:=e;omega⟩
  ·rw [J1 (by rw [a];decide)];exact (U2 (ws ts)).symm ▸ h.d
end
section
variable {P:Program} {w:W0} {mg:Str->Option Value} {base:Heap}
theorem z58 {R:Tr->V->Prop} {ts:List Tr} {ys:List V} {t:Tr} {y:V} (k:Nat) (h:All2 R ts ys) (r:R t y):All2 R (ts.take k++t :: ts.drop k) (ys.take k++y :: ys.drop k):=by
 induction h generalizing k with
 | nil=>rw [List.take_nil,List.take_nil,List.drop_nil,List.drop_nil];exact .cons r .nil
 | cons a s ih=>
  cases k with
  | zero=>exact .cons r (.cons a s)
  | succ k=>exact .cons a (ih k)
theorem z5i (ts:List Tr) (t:Tr) (k:Nat):(ts.take k++t :: ts.drop k).Perm (t :: ts):=by
 have:=(List.perm_middle (a:=t) (l₁:=ts.take k) (l₂:=ts.drop k))
 rwa [j2c] at this
def TrL (H:Hp) (l r:Addr) (t:Tr) (y:V):Prop:=∃p,y=.ref p/\p≠l/\p≠r/\H p=some (.lst [t.v,t.y,t.an])
theorem TrL.same {H H':Hp} {l r:Addr} {t:Tr} {y:V} (s:Same H H') (h:TrL H l r t y):TrL H' l r t y:=by obtain ⟨p,c,d,a,b⟩:=h;exact ⟨p,c,d,a,s _ _ b⟩
theorem TrL.dk {H H':Hp} {l r:Addr} {t:Tr} {y:V} (d:Dk r H H') (h:TrL H l r t y):TrL H' l r t y:=by obtain ⟨p,c,e,a,b⟩:=h;exact ⟨p,c,e,a,d.k _ _ a b⟩
theorem TrL.put {H:Hp} {l r:Addr} {t:Tr} {y:V} {o:HO} (h:TrL H l r t y):TrL (upd H l o) l r t y:=by obtain ⟨p,d,a,b,c⟩:=h;exact ⟨p,d,a,b,by rw [upd_ne a];exact c⟩
structure TrI (H0 H:Hp) (r l:Addr) (ts:List Tr) (ys:List V):Prop where
 s:Same H0 H
 n0:H0 r=none
 d:DkAt H r
 fl:H0 l=none
 nl:l≠r
 a:All2 (TrL H l r) ts ys
 l:H l=some (.lst ys)
theorem TrI.same {H0 H H':Hp} {r l:Addr} {ts:List Tr} {ys:List V} (i:TrI H0 H r l ts ys) (s:Same H H'):TrI H0 H' r l ts ys:=⟨i.s.trans s,i.n0,i.d.same s,i.fl,i.nl,z01 (λ _ _ z=>z.same s) i.a,s _ _ i.l⟩
theorem TrI.dk {H0 H H':Hp} {r l:Addr} {ts:List Tr} {ys:List V} (i:TrI H0 H r l ts ys) (d:Dk r H H'):TrI H0 H' r l ts ys:=⟨Same.kp i.s i.n0 d.k,i.n0,d.d,i.fl,i.nl,z01 (λ _ _ z=>z.dk d) i.a,d.k _ _ i.nl i.l⟩
theorem TrI.put {H0 H:Hp} {r l:Addr} {ts ts':List Tr} {ys ys':List V} (i:TrI H0 H r l ts ys) (a:All2 (TrL H l r) ts' ys'):TrI H0 (upd H l (.lst ys')) r l ts' ys':=by obtain ⟨x,b,c,e,z⟩:=i.d;exact ⟨Same.keep i.s i.fl,i.n0,⟨x,b,c,by rw [upd_ne (c4 i.nl)];exact e,z⟩,i.fl,i.nl,z01 (λ _ _ z=>z.put) a,z02⟩
theorem TrI.mk' {H0 H:Hp} {r l p:Addr} {ts:List Tr} {ys:List V} (i:TrI H0 H r l ts ys) (hp:H p=none) (t:Tr) (xs:List V) (hx:xs=[t.v,t.y,t.an]):TrI H0 (upd H p (.lst xs)) r l ts ys/\TrL (upd H p (.lst xs)) l r t (.ref p)/\Same H (upd H p (.lst xs)):=by
 have u:=Same.upd (o:=.lst xs) hp;refine ⟨i.same u,⟨p,rfl,λ z=>?_,λ z=>?_,by rw [<-hx];exact z02⟩,u⟩
 ·rw [z,i.l] at hp;cases hp
 ·obtain ⟨_,_,_,e,_⟩:=i.d;rw [z,e] at hp;cases hp
theorem TrI.new {H0 H:Hp} {r l p:Addr} {ts:List Tr} {ys:List V} (i:TrI H0 H r l ts ys) (hp:H p=none):p≠l/\p≠r:=⟨(λ z=>by rw [z,i.l] at hp;cases hp),λ z=>by obtain ⟨_,_,_,e,_⟩:=i.d;rw [z,e] at hp;cases hp⟩
def z2n (K:d0):Sp:=λ vs H Q _=>∃(r:Addr) (k:Nat) (H0:Hp),vs=[.ref r,.int (k:Nat)]/\Same H0 H/\H0 r=none/\DkAt H r/\∀l ys ts H',TrI H0 H' r l ts ys->KdT k ts->Q (.ref l) H'
theorem z68 (T:TX (kx w) mg) (c0:Ca P w mg base "_law_take" ["row","many"] 1 z1b):Fo P w mg base CX0 2 431 y0a ["row","kind"] (z2n (kx w)):=by
 refine (z1y w.params).ok sc__law_deeds (λ vs H Q E h=>?_) (λ c6 A c7 s H vs Q E O h=>?_)
 ·obtain ⟨r,k,M,rfl,_⟩:=h;rfl
 ·obtain ⟨r,k,M,rfl,s0,n0,dk,q⟩:=h;refine q_of (z0v (QS.mk (ps_set (i:=2) sc__law_deeds.nd rfl (A2 rfl) (pe_lst pa_nil)))
   (z0v (QS.mk (ps_for F3 rfl (zck rfl (T.no (zg7 _)) (z00 (pe_cal c0 (O.mono (by decide)) rfl (z00 (pv 0) (z00 pe_int pa_nil))) pa_nil)) (z0p (i:=3) sc__law_deeds.nd rfl (A2 rfl))
   (z05 (z15 (z1r (pv 2) (z00 (pe_ix ix_seq (pe_lst (z00 (pe_lst (z00 pe_str (z00 (pe_op opAdd pe_int (pv 3)) (z00 pe_str pa_nil)))) (z00 (pe_lst (z00 pe_str (z00 pe_non (z00 (pe_op opAdd pe_int (pv 3)) pa_nil)))) (z00 (pe_lst (z00 pe_str (z00 pe_non (z00 pe_int pa_nil)))) pa_nil)))) (pe_cal c0 (O.mono (by decide)) rfl (z00 (pv 0) (z00 pe_int pa_nil))) (λ _ _=>rfl)) pa_nil))))))
   (z0v (qs_set (i:=4) sc__law_deeds.nd rfl (A2 rfl) (qe_lst (z0m (qe_lst (z0m (QE.mk pe_str) (z0m (QE.mk pe_int) (z0m (QE.mk pe_str) qa_nil)))) (z0m (qe_lst (z0m (QE.mk pe_str) (z0m (QE.mk pe_int) (z0m (QE.mk pe_int) qa_nil)))) (z0m (qe_lst (z0m (QE.mk pe_str) (z0m (QE.mk pe_int) (z0m (QE.mk pe_str) qa_nil)))) (z0m (qe_lst (z0m (QE.mk pe_str) (z0m (QE.mk pe_non) (z0m (QE.mk pe_str) qa_nil)))) (z0m (qe_lst (z0m (QE.mk pe_str) (z0m (QE.mk pe_non) (z0m (QE.mk pe_str) qa_nil)))) qa_nil)))))))
   (z0v (QS.mk (ps_if (z0c op_lt (pv 1) pe_int (nomark _))
   (z05 (z15 (z34 (pv 2) (z00 (pe_cal c0 (O.mono (by decide)) rfl (z00 (pv 0) (z00 (pe_op opAdd (z09 z1e rfl (T.no (n_len _)) B5 (z00 (pv 2) pa_nil)) pe_int) pa_nil))) (z00 (pe_ix ix_seq (pv 4) (pv 1) (λ _ _=>rfl)) pa_nil)))))
   z0g))
   (z0v (QS.mk (ps_if (z0c opEq (pv 1) pe_int (nomark _))
   (z03 (z15 (z34 (pv 2) (z00 (pe_cal c0 (O.mono (by decide)) rfl (z00 (pv 0) (z00 (pe_op opAdd (z09 z1e rfl (T.no (n_len _)) B5 (z00 (pv 2) pa_nil)) pe_int) pa_nil))) (z00 (pe_lst (z00 pe_str (z00 pe_int (z00 pe_str pa_nil)))) pa_nil))))
   (z05 (z15 (z34 (pv 2) (z00 (pe_cal c0 (O.mono (by decide)) rfl (z00 (pv 0) (z00 (pe_op opAdd (z09 z1e rfl (T.no (n_len _)) B5 (z00 (pv 2) pa_nil)) pe_int) pa_nil))) (z00 (pe_lst (z00 pe_str (z00 pe_int (z00 (pe_ix ix_seq (pe_lst (z00 pe_non (z00 pe_str pa_nil))) (pe_cal c0 (O.mono (by decide)) rfl (z00 (pv 0) (z00 pe_int pa_nil))) (λ _ _=>rfl)) pa_nil)))) pa_nil))))))
   z0g))
   (z0v (QS.mk (ps_if (z0c opEq (pv 1) pe_int (nomark _))
   (z05 (z15 (z34 (pv 2) (z00 (pe_cal c0 (O.mono (by decide)) rfl (z00 (pv 0) (z00 (pe_op opAdd (z09 z1e rfl (T.no (n_len _)) B5 (z00 (pv 2) pa_nil)) pe_int) pa_nil))) (z00 (pe_lst (z00 pe_str (z00 pe_int (z00 pe_non pa_nil)))) pa_nil)))))
   z0g))
   (zei (QS.mk (ps_ret (pv 2)))))))))) ?_
  refine z0j ⟨w_0,λ l hl=>g_name ?_⟩;have c5:l≠r:=λ z=>by obtain ⟨_,_,_,e,_⟩:=dk;rw [z,e] at hl;cases hl
  have i1:TrI M (upd H l (.lst [])) r l [] []:=⟨s0.trans (Same.upd hl),n0,dk.same (Same.upd hl),s0.free hl,c5,.nil,z02⟩
  generalize upd H l (.lst [])=H1 at i1⊢;refine z25 (λ σ F=>∃n ts ys,n<=3/\TrI M F r l ts ys/\Bs n ts/\∃x3,σ=[some (.ref r),some (.int (k:Nat)),some (.ref l),x3,none]) ?_ λ G=>?_;rotate_left
  ·refine ⟨_,rfl,r,4,rfl,i1.d,by decide,by decide,λ t H2 c4 I Y=>?_⟩;have i2:=i1.dk c4;obtain ⟨n,rfl⟩ :∃n:Nat,t=(n:Int):=⟨t.toNat,(Q4 I).symm⟩
   refine ⟨_,rfl,by omega,by omega,?_⟩;refine zdd (lo:=0) (n:=n) (λ i σ F=>∃ts ys,TrI M F r l ts ys/\Bs i ts/\∃x3,σ=[some (.ref r),some (.int (k:Nat)),some (.ref l),x3,none]) ⟨[],[],i2,⟨rfl,λ t h=>absurd h F0,.nil⟩,_,rfl⟩ ?_ ?_;rotate_left
   ·rintro σ H3 ⟨ts,ys,u,b3,x3,rfl⟩;exact G _ _ ⟨n,ts,ys,by omega,u,b3,_,rfl⟩
   rintro i σ H3 hi ⟨ts,ys,u,b3,x3,rfl⟩;rw [Int.zero_add];refine g_name ?_;have lt:=z04 u.a;have l3:=b3.l;refine ⟨_,rfl,.inl ⟨rfl,_,SqL.of u.l⟩,?_⟩;refine ⟨_,rfl,.inl ⟨_,_,rfl,rfl,w_3,λ b J=>?_⟩⟩;obtain ⟨B,t4,u4⟩:=u.mk' J ⟨true,5 + i,some okV⟩ [.str "write",.int (5 + i),.str "ok"] rfl;generalize upd H3 b (.lst [.str "write",.int (5 + i),.str "ok"])=H4 at B t4 u4⊢;refine ⟨_,rfl,.inl ⟨_,_,rfl,rfl,w_3,λ c S=>?_⟩⟩;obtain ⟨D,t5,u5⟩:=B.mk' S ⟨false,0,some (.int (5 + i))⟩ [.str "read",.non,.int (5 + i)] rfl;generalize upd H4 c (.lst [.str "read",.non,.int (5 + i)])=H5 at D t5 u5⊢;refine ⟨w_3,λ g a8=>?_⟩;obtain ⟨C,t6,u6⟩:=D.mk' a8 ⟨false,0,some (.int 0)⟩ [.str "read",.non,.int 0] rfl;generalize upd H5 g (.lst [.str "read",.non,.int 0])=N at C t6 u6⊢;refine ⟨w_3,λ la b6=>?_⟩;have Z:=Same.upd (o:=.lst [.ref b,.ref c,.ref g]) b6;have e7:upd N la (.lst [.ref b,.ref c,.ref g]) la=some (.lst [.ref b,.ref c,.ref g]):=z02;have c1:=C.new b6;have f:=C.same Z;generalize upd N la (.lst [.ref b,.ref c,.ref g])=H7 at Z e7 f⊢;refine ⟨_,rfl,r,3,rfl,f.d,by decide,by decide,λ t H8 a5 I Y=>?_⟩;have U:=f.dk a5;have fin :∀(K:Tr) (y:V) (j:Nat),t=(j:Int)->[V.ref b,.ref c,.ref g][j]? = some y->TrL H7 l r K y->((K.wr=true/\K.x=5 + i/\K.a=some okV)\/(K.wr=false/\K.x=0/\∃v:Int,K.a=some (.int v)/\0<=v/\v<=5 + i))->rIx (kx w) (.ref la) (.int t) H8 (λ x H9=>z6p (.ref l) [x] H9 λ _ F=>∃ts ys,TrI M F r l ts ys/\Bs (i + 1) ts/\∃x3,[some (V.ref r),some (.int (k:Nat)),some (.ref l),some (.int (i:Nat)),none]=[some (V.ref r),some (.int (k:Nat)),some (.ref l),x3,none]):=λ K y j ht hy c2 hb=>by subst ht;refine .inl ⟨la,_,j,y,rfl,rfl,SqL.of (a5.k _ _ c1.2 e7),z06 hy,l,ys,y,rfl,rfl,U.l,T2 (m:=100) (by omega) (by decide),?_⟩;exact ⟨ts++[K],ys++[y],U.put (z0o U.a (c2.dk a5)),b3.snoc hb,_,rfl⟩
   rcases (show t=0\/t=1\/t=2 by omega) with rfl|rfl|rfl
   ·exact fin _ _ 0 rfl rfl (((t4.same u5).same u6).same Z) (.inl ⟨rfl,rfl,rfl⟩)
   ·exact fin _ _ 1 rfl rfl ((t5.same u6).same Z) (.inr ⟨rfl,rfl,_,rfl,by omega,X9 _⟩)
   ·exact fin _ _ 2 rfl rfl (t6.same Z) (.inr ⟨rfl,rfl,_,rfl,X9 _,by omega⟩)
  rintro σ H2 ⟨n,ts,ys,hn,i2,b2,x3,rfl⟩;have l2:=z04 i2.a;have l3:=b2.l;refine z0j ⟨w_3,λ R b9=>?_⟩;obtain ⟨j0,a0,v0⟩:=i2.mk' b9 (oddT 0) [.str "write",.int 0,.str "ok"] rfl;generalize upd H2 R (.lst [.str "write",.int 0,.str "ok"])=G0 at j0 a0 v0⊢;refine ⟨w_3,λ b J=>?_⟩;obtain ⟨j1,a1,v1⟩:=j0.mk' J (oddT 1) [.str "write",.int 99,.int 99] rfl;generalize upd G0 b (.lst [.str "write",.int 99,.int 99])=G1 at j1 a1 v1⊢;refine ⟨w_3,λ c S=>?_⟩;obtain ⟨j2,a2,v2⟩:=j1.mk' S (oddT 2) [.str "write",.int 99,.str "none"] rfl;generalize upd G1 c (.lst [.str "write",.int 99,.str "none"])=G2 at j2 a2 v2⊢;refine ⟨w_3,λ g a8=>?_⟩;obtain ⟨j3,a3,v3⟩:=j2.mk' a8 (oddT 3) [.str "read",.non,.str "ok"] rfl;generalize upd G2 g (.lst [.str "read",.non,.str "ok"])=G3 at j3 a3 v3⊢;refine ⟨w_3,λ L b8=>?_⟩;obtain ⟨j4,a4,v4⟩:=j3.mk' b8 (oddT 4) [.str "read",.non,.str "none"] rfl;generalize upd G3 L (.lst [.str "read",.non,.str "none"])=G4 at j4 a4 v4⊢;refine ⟨w_5,λ lo b0=>g_name ?_⟩;have b5:=j4.new b0;have v5:=Same.upd (o:=.lst [.ref R,.ref b,.ref c,.ref g,.ref L]) b0;have a9:upd G4 lo (.lst [.ref R,.ref b,.ref c,.ref g,.ref L]) lo=some (.lst [.ref R,.ref b,.ref c,.ref g,.ref L]):=z02;have u:=j4.same v5;have w4:=v4.trans v5;have w3:=v3.trans w4;have w2:=v2.trans w3;have ao:All2 (TrL (upd G4 lo (.lst [.ref R,.ref b,.ref c,.ref g,.ref L])) l r) [oddT 0,oddT 1,oddT 2,oddT 3,oddT 4] [.ref R,.ref b,.ref c,.ref g,.ref L]:=.cons (a0.same (v1.trans w2)) (.cons (a1.same w2) (.cons (a2.same w3) (.cons (a3.same w4) (.cons (a4.same v5) .nil))));generalize hos:[V.ref R,.ref b,.ref c,.ref g,.ref L]=os at a9 u ao⊢;generalize upd G4 lo (.lst os)=H3 at a9 u ao⊢;clear j0 j1 j2 j3 j4 a0 a1 a2 a3 a4 v0 v1 v2 v3 v4 v5 w2 w3 w4 b9 J S a8 b8 b0 hos i2;refine z25 (λ σ F=>∃ts' ys',TrI M F r l ts' ys'/\((k < 5/\ts'.Perm (oddT k :: ts))\/(5<=k/\ts'=ts))/\σ=[some (.ref r),some (.int (k:Nat)),some (.ref l),x3,some (.ref lo)]) ?_ λ G=>?_;rotate_left
  ·refine ⟨_,rfl,_,_,rfl,rfl,_,rfl,ite2 (λ z=>?_) λ z=>G _ _ ⟨ts,ys,u,.inr ⟨?_,rfl⟩,rfl⟩⟩
   ·refine ⟨_,rfl,.inl ⟨rfl,_,SqL.of u.l⟩,?_⟩;refine ⟨_,rfl,_,rfl,.inl ⟨l,ys,rfl,.inl (SqL.of u.l),?_⟩⟩;refine .inl ⟨_,_,rfl,rfl,r,_,rfl,u.d,by omega,by omega,λ t H4 b1 I Y=>?_⟩;have B:=u.dk b1;obtain ⟨m,rfl⟩ :∃m:Nat,t=(m:Int):=⟨t.toNat,(Q4 I).symm⟩
    have W:k < 5:=by have:=of_decide_eq_true z;omega
    have ho :∃y,os[k]? = some y/\TrL H4 l r (oddT k) y:=by
     have e:[oddT 0,oddT 1,oddT 2,oddT 3,oddT 4][k]? = some (oddT k):=by
      match k,W with
      | 0,_=>rfl
      | 1,_=>rfl
      | 2,_=>rfl
      | 3,_=>rfl
      | 4,_=>rfl
     obtain ⟨y,hy,z⟩:=z4h ao e;exact ⟨y,hy,z.dk b1⟩
    obtain ⟨y,hy,tl⟩:=ho;exact ⟨_,rfl,_,rfl,.inl ⟨lo,os,k,y,rfl,rfl,SqL.of (b1.k _ _ b5.2 a9),z06 hy,l,ys,m,y,rfl,rfl,B.l,by omega,by omega,G _ _ ⟨_,_,B.put (z58 m B.a tl),.inl ⟨W,z5i ..⟩,rfl⟩⟩⟩
   ·have:=of_decide_eq_false (Bool.eq_false_iff.mpr z);omega
  rintro σ H4 ⟨ts4,ys4,B,k4,rfl⟩;clear u ao a9 b5;have l4:=z04 B.a;have m4:ts4.length<=4:=by
   rcases k4 with ⟨_,p⟩|⟨_,rfl⟩
   ·rw [p.length_eq,T0];omega
   ·omega
  refine z25 (λ σ F=>∃ts' ys',TrI M F r l ts' ys'/\((k=5/\∃a,(a=none\/a=some okV)/\ts'.Perm (⟨true,77,a⟩ :: ⟨true,77,some okV⟩ :: ts4))\/(k≠5/\ts'=ts4))/\σ=[some (.ref r),some (.int (k:Nat)),some (.ref l),x3,some (.ref lo)]) ?_ λ G=>?_;rotate_left
  ·refine ⟨_,rfl,rfl,_,rfl,ite2 (λ z=>?_) λ z=>G _ _ ⟨ts4,ys4,B,.inr ⟨?_,rfl⟩,rfl⟩⟩
   ·have W:k=5:=by have:=of_decide_eq_true z;injection this;omega
    refine ⟨_,rfl,.inl ⟨rfl,_,SqL.of B.l⟩,?_⟩;refine ⟨_,rfl,_,rfl,.inl ⟨l,ys4,rfl,.inl (SqL.of B.l),?_⟩⟩;refine .inl ⟨_,_,rfl,rfl,r,_,rfl,B.d,by omega,by omega,λ t H5 b7 I Y=>?_⟩;have D:=B.dk b7;obtain ⟨m,rfl⟩ :∃m:Nat,t=(m:Int):=⟨t.toNat,(Q4 I).symm⟩
    refine ⟨w_3,λ b J=>?_⟩;obtain ⟨C,a6,v6⟩:=D.mk' J ⟨true,77,some okV⟩ [.str "write",.int 77,.str "ok"] rfl;generalize upd H5 b (.lst [.str "write",.int 77,.str "ok"])=N at C a6 v6⊢;refine ⟨l,ys4,m,.ref b,rfl,rfl,C.l,by omega,by omega,?_⟩;have f:=C.put (z58 m C.a a6);have p7:=z5i ts4 ⟨true,77,some okV⟩ m;generalize ts4.take m++(⟨true,77,some okV⟩:Tr) :: ts4.drop m=ts7 at f p7;have l7:=z04 f.a;have m7:ts7.length<=5:=by rw [p7.length_eq,T0];omega
    generalize ys4.take m++V.ref b :: ys4.drop m=ys7 at f l7⊢;generalize upd N l (.lst ys7)=H7 at f⊢;clear C a6 v6 D J b7;refine ⟨_,rfl,.inl ⟨rfl,_,SqL.of f.l⟩,?_⟩;refine ⟨_,rfl,_,rfl,.inl ⟨l,ys7,rfl,.inl (SqL.of f.l),?_⟩⟩;refine .inl ⟨_,_,rfl,rfl,r,_,rfl,f.d,by omega,by omega,λ t H8 a5 I Y=>?_⟩;have U:=f.dk a5;obtain ⟨m,rfl⟩ :∃m:Nat,t=(m:Int):=⟨t.toNat,(Q4 I).symm⟩
    refine ⟨w_2,λ c S=>?_⟩;have n2:=U.new S;have i9:=U.same (Same.upd (o:=.lst [.non,.str "ok"]) S);have e9:upd H8 c (.lst [.non,.str "ok"]) c=some (.lst [.non,.str "ok"]):=z02;generalize upd H8 c (.lst [.non,.str "ok"])=H9 at i9 e9⊢;refine ⟨_,rfl,r,2,rfl,i9.d,by decide,by decide,λ t HA b4 u0 u1=>?_⟩;have iA:=i9.dk b4;have eA:=b4.k _ _ n2.2 e9;obtain ⟨a,j,rfl,hj,ha⟩ :∃(a:Option V) (j:Nat),t=(j:Int)/\[V.non,.str "ok"][j]? = some (a.getD .non)/\(a=none\/a=some okV):=by
     rcases (show t=0\/t=1 by omega) with rfl|rfl
     ·exact ⟨none,0,rfl,rfl,.inl rfl⟩
     ·exact ⟨some okV,1,rfl,rfl,.inr rfl⟩
    refine .inl ⟨c,_,j,_,rfl,rfl,SqL.of eA,z06 hj,w_3,λ p hp=>?_⟩;obtain ⟨iB,aB,_⟩:=iA.mk' hp ⟨true,77,a⟩ [.str "write",.int 77,a.getD .non] rfl;exact ⟨l,ys7,m,.ref p,rfl,rfl,iB.l,by omega,by omega,G _ _ ⟨_,_,iB.put (z58 m iB.a aB),.inl ⟨W,a,ha,(z5i ..).trans (p7.cons _)⟩,rfl⟩⟩
   ·rintro rfl;exact z rfl
  rintro σ H5 ⟨ts5,ys5,D,k5,rfl⟩;have l5:=z04 D.a;have m5:ts5.length<=6:=by
   rcases k5 with ⟨_,_,_,p⟩|⟨_,rfl⟩
   ·rw [p.length_eq,T0,T0];omega
   ·omega
  refine z25 (λ σ F=>∃ts' ys',TrI M F r l ts' ys'/\((k=6/\ts'.Perm (⟨true,0,none⟩ :: ts5))\/(k≠6/\ts'=ts5))/\σ=[some (.ref r),some (.int (k:Nat)),some (.ref l),x3,some (.ref lo)]) ?_ λ G=>?_;rotate_left
  ·refine ⟨_,rfl,rfl,_,rfl,ite2 (λ z=>?_) λ z=>G _ _ ⟨ts5,ys5,D,.inr ⟨?_,rfl⟩,rfl⟩⟩
   ·have W:k=6:=by have:=of_decide_eq_true z;injection this;omega
    refine ⟨_,rfl,.inl ⟨rfl,_,SqL.of D.l⟩,?_⟩;refine ⟨_,rfl,_,rfl,.inl ⟨l,ys5,rfl,.inl (SqL.of D.l),?_⟩⟩;refine .inl ⟨_,_,rfl,rfl,r,_,rfl,D.d,by omega,by omega,λ t N c3 I Y=>?_⟩;have C:=D.dk c3;obtain ⟨m,rfl⟩ :∃m:Nat,t=(m:Int):=⟨t.toNat,(Q4 I).symm⟩
    refine ⟨w_3,λ b J=>?_⟩;obtain ⟨f,a7,v7⟩:=C.mk' J ⟨true,0,none⟩ [.str "write",.int 0,.non] rfl;exact ⟨l,ys5,m,.ref b,rfl,rfl,f.l,by omega,by omega,G _ _ ⟨_,_,f.put (z58 m f.a a7),.inl ⟨W,z5i ..⟩,rfl⟩⟩
   ·rintro rfl;exact z rfl
  rintro σ N ⟨ts6,ys6,C,k6,rfl⟩;refine ⟨_,rfl,q l ys6 ts6 N C ⟨n,ts,hn,b2,?_⟩⟩;rcases k4 with ⟨h4,L⟩|⟨h4,rfl⟩
  ·rcases k5 with ⟨h5,_⟩|⟨h5,rfl⟩
   ·omega
   rcases k6 with ⟨X,_⟩|⟨X,rfl⟩
   ·omega
   exact .inl ⟨h4,L⟩
  rcases k5 with ⟨h5,a,ha,p5⟩|⟨h5,rfl⟩
  ·rcases k6 with ⟨X,_⟩|⟨X,rfl⟩
   ·omega
   exact .inr (.inl ⟨h5,a,ha,p5⟩)
  rcases k6 with ⟨X,p6⟩|⟨X,rfl⟩
  ·exact .inr (.inr (.inl ⟨X,p6⟩))
  exact .inr (.inr (.inr ⟨by omega,rfl⟩))
def RwT (t:Tr) (r:Rc):Prop:=r.v=t.v/\r.x=t.y/\((t.a=none/\r.e=none)\/∃a e,t.a=some a/\r.a=a/\r.e=some e)
structure TlI (ts:List Tr) (es:List Ev) (h:Nat):Prop where
 rw:All2 RwT ts (dAll 0 [] es)
 wf:EWf [] es
 op :∀o∈es.foldl oStep [],o < (h:Int)
 n:es.length<=2 * ts.length
 bg:(es.filter isBeg).length=ts.length
 h:h=(ts.filter λ t=>t.a.isNone).length
theorem z5w (es:List Ev) (e:Ev):dAll 0 [] (es++[e])=dstep es.length (dAll 0 [] es) e:=by
 have:=z8s (es:=es) (i:=0) (rs:=[]) (e:=e)
 rwa [o6] at this
theorem TlI.nil:TlI [] [] 0:=⟨.nil,trivial,λ o h=>absurd h F0,D0 _,rfl,rfl⟩
theorem z95 {α:Type} (l:List α) (x:α) (f:α->α):(l++[x]).modify l.length f=l++[f x]:=by
 induction l with
 | nil=>rfl
 | cons y l ih=>show y :: (l++[x]).modify l.length f=_;rw [ih];rfl
theorem TlI.beg {ts:List Tr} {es:List Ev} {h:Nat} (t:Tr) (i:TlI ts es h) (ha:t.a=none):TlI (ts++[t]) (es++[.beg (h:Nat) (.str "r") t.v t.y]) (h + 1):=by
 refine ⟨?_,i.wf.snoc λ m=>?_,λ o b=>?_,?_,?_,?_⟩
 ·rw [z5w];exact z0o i.rw ⟨rfl,rfl,.inl ⟨ha,rfl⟩⟩
 ·exact absurd (i.op _ m) (Int.lt_irrefl _)
 ·rw [J7] at b;rcases List.mem_append.mp (show o∈es.foldl oStep []++[((h:Nat):Int)] from b) with z|z
  ·have:=i.op o z;omega
  ·rw [List.mem_singleton.mp z];omega
 ·rw [N0,N0];have:=i.n;show es.length + 1<=2 * (ts.length + 1);omega
 ·rw [N2,N0,N0,i.bg];rfl
 ·rw [N2,N0,<-i.h,D1 (by rw [ha];rfl)];rfl
theorem TlI.fin {ts:List Tr} {es:List Ev} {h:Nat} {a:V} (t:Tr) (i:TlI ts es h) (ha:t.a=some a):TlI (ts++[t]) (es++[.beg (h:Nat) (.str "r") t.v t.y]++[.fin (h:Nat) a]) h:=by
 have f:EWf [] (es++[.beg (h:Nat) (.str "r") t.v t.y]):=i.wf.snoc λ m=>absurd (i.op _ m) (Int.lt_irrefl _);have c:(es++[Ev.beg (h:Nat) (.str "r") t.v t.y]).foldl oStep []=es.foldl oStep []++[((h:Nat):Int)]:=by rw [J7];rfl
 refine ⟨?_,f.snoc ?_,λ o b=>?_,?_,?_,?_⟩
 ·rw [z5w,z5w];show All2 RwT _ (dstep _ (dAll 0 [] es++[⟨(h:Nat),.str "r",t.v,t.y,.non,es.length,none⟩]) (.fin (h:Nat) a));have d:lastI ((h:Nat):Int) ((dAll 0 [] es++[(⟨(h:Nat),.str "r",t.v,t.y,.non,es.length,none⟩:Rc)]).map Rc.h)=some (dAll 0 [] es).length:=by rw [N3];show lastI _ (_++[((h:Nat):Int)])=_;rw [z2e,if_pos rfl,O0]
  unfold dstep;dsimp only;rw [d];dsimp only;rw [z95];exact z0o i.rw ⟨rfl,rfl,.inr ⟨a,_,ha,rfl,rfl⟩⟩
 ·rw [c];exact List.mem_append.mpr (.inr (.head _))
 ·rw [J7,c] at b;have b:o∈(es.foldl oStep []++[((h:Nat):Int)]).filter λ k=>decide (k≠((h:Nat):Int)):=b;obtain ⟨e,g⟩:=List.mem_filter.mp b;rcases List.mem_append.mp e with z|z
  ·exact i.op o z
  ·exact absurd (List.mem_singleton.mp z) (of_decide_eq_true g)
 ·rw [N0,N0,N0];have:=i.n;show es.length + 1 + 1<=2 * (ts.length + 1);omega
 ·rw [N2,N2,N0,N0,N0,i.bg];rfl
 ·rw [N2,N0,<-i.h,J1 (by rw [ha];exact λ z=>R0 z)];rfl
theorem RwT.iw {t:Tr} {r:Rc} (h:RwT t r):isW r=t.wr:=by
 unfold isW;rw [h.1];unfold Tr.v;cases t.wr with
 | true=>exact decide_eq_true rfl
 | false=>exact decide_eq_false z1h
theorem ws_of {ts:List Tr} {rs:List Rc} (h:All2 RwT ts rs):wsR rs=ws ts:=by
 induction h with
 | nil=>rfl
 | @cons t r ts rs a s ih=>
  unfold wsR ws at ih⊢;cases z:t.wr with
  | true=>rw [D1 (by rw [a.iw];exact z),D1 z,N1,N1,ih];congr 1;rw [a.2.1];unfold Tr.y;rw [z];rfl
  | false=>rw [J1 (by rw [a.iw,z];decide),J1 (by rw [z];decide),ih]
def OkT (t:Tr):Prop:=-1000000000<=t.x/\t.x<=1000000000/\(t.a=none\/t.a=some okV\/t.a=some noV\/∃i:Int,t.a=some (.int i)/\-1000000000000<=i/\i<=1000000000000)
theorem RwT.g {t:Tr} {r:Rc} (o:OkT t) (h:RwT t r):RgG r:=by
 refine ⟨?_,λ e b=>?_⟩
 ·rw [h.1,h.2.1];unfold Tr.v Tr.y;cases t.wr with
  | true=>exact .inr ⟨rfl,_,rfl⟩
  | false=>exact .inl ⟨rfl,rfl⟩
 ·rcases h.2.2 with ⟨_,z⟩|⟨a,e',ha,hra,_⟩
  ·rw [z] at b;cases b
  ·rw [hra];rcases o.2.2 with z|z|z|⟨i,z,_⟩
   ·rw [z] at ha;cases ha
   ·rw [z] at ha;cases ha;exact .inr ⟨_,rfl⟩
   ·rw [z] at ha;cases ha;exact .inr ⟨_,rfl⟩
   ·rw [z] at ha;cases ha;exact .inl ⟨_,rfl⟩
theorem Bs.ok {n:Nat} {ts:List Tr} (hn:n<=3) (b:Bs n ts):(∀t∈ts,OkT t)/\ts.filter (λ t=>t.a.isNone)=[]:=by
 refine ⟨λ t e=>?_,List.filter_eq_nil_iff.mpr λ t e=>?_⟩
 ·rcases b.t t e with ⟨_,d,f,c⟩|⟨_,x0,i,d,f,c⟩
  ·exact ⟨by omega,by omega,.inr (.inl c)⟩
  ·exact ⟨by omega,by omega,.inr (.inr (.inr ⟨i,d,by omega,by omega⟩))⟩
 ·rcases b.t t e with ⟨_,_,_,c⟩|⟨_,_,i,d,_⟩
  ·rw [c];exact λ z=>R0 z
  ·rw [d];exact λ z=>R0 z
theorem odd_ok :∀k,k < 5->OkT (oddT k)/\(oddT k).a.isNone=false:=λ k b=>by
 match k,b with
 | 0,_=>exact ⟨⟨by decide,by decide,.inr (.inl rfl)⟩,rfl⟩
 | 1,_=>exact ⟨⟨by decide,by decide,.inr (.inr (.inr ⟨99,rfl,by decide,by decide⟩))⟩,rfl⟩
 | 2,_=>exact ⟨⟨by decide,by decide,.inr (.inr (.inl rfl))⟩,rfl⟩
 | 3,_=>exact ⟨⟨by decide,by decide,.inr (.inl rfl)⟩,rfl⟩
 | 4,_=>exact ⟨⟨by decide,by decide,.inr (.inr (.inl rfl))⟩,rfl⟩
theorem KdT.ok {k:Nat} {ts:List Tr} (h:KdT k ts):(∀t∈ts,OkT t)/\ts.length<=5/\(ts.filter λ t=>t.a.isNone).length<=1:=by
 obtain ⟨n,j,i,b,h⟩:=h;obtain ⟨o,f⟩:=b.ok i;have q:=b.l;rcases h with ⟨d,p⟩|⟨_,a,ha,p⟩|⟨_,p⟩|⟨_,rfl⟩
 ·obtain ⟨g,m⟩:=odd_ok k d;refine ⟨λ t c=>?_,?_,?_⟩
  ·rcases List.mem_cons.mp (p.mem_iff.mp c) with rfl|z
   ·exact g
   ·exact o t z
  ·rw [p.length_eq,T0];omega
  ·rw [(p.filter _).length_eq,J1 (by rw [m];decide),f];exact Z1 _
 ·refine ⟨λ t c=>?_,?_,?_⟩
  ·rcases List.mem_cons.mp (p.mem_iff.mp c) with rfl|z
   ·exact ⟨(show (-1000000000:Int)<=77 by decide),(show (77:Int)<=1000000000 by decide),ha.elim .inl λ z=>.inr (.inl z)⟩
   ·rcases List.mem_cons.mp z with rfl|z
    ·exact ⟨(show (-1000000000:Int)<=77 by decide),(show (77:Int)<=1000000000 by decide),.inr (.inl rfl)⟩
    ·exact o t z
  ·rw [p.length_eq,T0,T0];omega
  ·rw [(p.filter _).length_eq];have e:((⟨true,77,some okV⟩:Tr) :: j).filter (λ t=>t.a.isNone)=[]:=by rw [J1 (by decide),f]
   rcases ha with rfl|rfl
   ·rw [D1 rfl,e];exact D0 _
   ·rw [J1 (by decide),e];exact Z1 _
 ·refine ⟨λ t c=>?_,?_,?_⟩
  ·rcases List.mem_cons.mp (p.mem_iff.mp c) with rfl|z
   ·exact ⟨(show (-1000000000:Int)<=0 by decide),(show (0:Int)<=1000000000 by decide),.inl rfl⟩
   ·exact o t z
  ·rw [p.length_eq,T0];omega
  ·rw [(p.filter _).length_eq,D1 rfl,f];exact D0 _
 ·exact ⟨o,by omega,by rw [f];exact Z1 _⟩
theorem rw_mem {ts:List Tr} {rs:List Rc} (h:All2 RwT ts rs) {t:Tr} (ht:t∈ts) :∃r∈rs,RwT t r:=by obtain ⟨i,b⟩:=List.mem_iff_getElem?.mp ht;obtain ⟨r,a,z⟩:=z4h h b;exact ⟨r,I0 a,z⟩
theorem zbe {ts us:List Tr} (p:ts.Perm us):(ws ts).Perm (ws us):=(p.filter _).map _
theorem zdv {k:Nat} {ts:List Tr} {rs:List Rc} (hk:k < 7) (h:KdT k ts) (a:All2 RwT ts rs):plainB rs=false:=by
 obtain ⟨n,s,q,b,h⟩:=h;have e:=ws_of a;have c :∀t,t∈ts->∀x,t.a=some x->(if t.wr=true then decide (x=.str "ok") else isIntV x)=false->plainB rs=false:=λ t m x i j=>by
  obtain ⟨r,l,z⟩:=rw_mem a m;refine zg5 l ?_;rcases z.2.2 with ⟨y,_⟩|⟨x',e',y,ra,re⟩
  ·rw [i] at y;cases y
  ·rw [i] at y;cases y;unfold ansB;rw [re];dsimp only;rw [z.iw,ra];exact j
 have g:(0:Int)∈ws ts->plainB rs=false:=λ z=>zaa (by rw [e];exact z);rcases h with ⟨o,p⟩|⟨_,x,_,p⟩|⟨_,p⟩|⟨h7,_⟩
 ·have d:oddT k∈ts:=p.mem_iff.mpr (.head _)
  match k,o with
  | 0,_=>exact g ((zbe p).mem_iff.mpr (.head _))
  | 1,_=>exact c _ d (.int 99) rfl (by decide +kernel)
  | 2,_=>exact c _ d noV rfl (by decide +kernel)
  | 3,_=>exact c _ d okV rfl (by decide +kernel)
  | 4,_=>exact c _ d noV rfl (by decide +kernel)
 ·refine z8d λ f=>?_;rw [e,(zbe p).nodup_iff] at f;exact (List.nodup_cons.mp f).1 (.head _)
 ·exact g ((zbe p).mem_iff.mpr (.head _))
 ·omega
theorem zbz {k h:Nat} {ts:List Tr} {es:List Ev} (hk:10<=k) (kd:KdT k ts) (i:TlI ts es h):TwG es:=by
 obtain ⟨n,A,B,b,kd⟩:=kd;have e:=ws_of i.rw;rcases kd with ⟨z,_⟩|⟨z,_⟩|⟨z,_⟩|⟨_,rfl⟩
 ·omega
 ·omega
 ·omega
 refine ⟨(DInv.nil.all i.wf).1,λ w r u=>?_,?_,?_⟩
 ·obtain ⟨j,s⟩:=List.mem_iff_getElem?.mp u;obtain ⟨t,f,z⟩:=z0b i.rw s;obtain ⟨p,m,l⟩:=z;rcases b.t t (I0 f) with ⟨a,_,_,g⟩|⟨a,_,v,g,_⟩
  ·refine .inr ⟨by rw [p];unfold Tr.v;rw [a];rfl,trivial,by rw [m];unfold Tr.y;rw [a];rfl,λ e c=>?_⟩;rcases l with ⟨_,y⟩|⟨x,e',y,y2,_⟩
   ·rw [y] at c;cases c
   ·rw [g] at y;cases y;exact y2
  ·refine .inl ⟨by rw [p];unfold Tr.v;rw [a];rfl,by rw [m];unfold Tr.y;rw [a];rfl,λ e c=>?_⟩;rcases l with ⟨_,y⟩|⟨x,e',y,y2,_⟩
   ·rw [y] at c;cases c
   ·rw [g] at y;cases y;rw [y2];rfl
 ·have:=b.d;rw [<-e] at this;exact this
 ·intro z;have z:(0:Int)∈wsR (dAll 0 [] es):=z;rw [e] at z;obtain ⟨t,f,C⟩:=List.mem_map.mp z;obtain ⟨q,o⟩:=List.mem_filter.mp f;rcases b.t t q with ⟨_,a,_⟩|⟨a,_⟩
  ·omega
  ·rw [a] at o;cases o
noncomputable def EvU (H:Hp):Ev->V->Prop
 | .beg h n v x,y=>∃p,y=.ref p/\H p=some (.tup [.str "begin",.int h,n,v,x])/\0<=h/\h<=5/\n=.str "r"/\((v=.str "read"/\x=.non)\/(v=.str "write"/\∃i:Int,x=.int i/\-1000000000<=i/\i<=1000000000))
 | .fin h a,y=>∃p,y=.ref p/\H p=some (.tup [.str "end",.int h,a])/\0<=h/\h<=5/\AnsOk a
theorem EvU.tp {H H':Hp} (s :∀a xs,H a=some (.tup xs)->H' a=some (.tup xs)) :∀{e:Ev} {y:V},EvU H e y->EvU H' e y
 | .beg _ _ _ _,_,⟨p,h1,h2,h3⟩=>⟨p,h1,s _ _ h2,h3⟩
 | .fin _ _,_,⟨p,h1,h2,h3⟩=>⟨p,h1,s _ _ h2,h3⟩
theorem nameR:NameOk "r":=⟨by decide +kernel,by decide +kernel,by decide +kernel⟩
theorem EvU.t {H:Hp} {ts:List (Str×Str)} {k:Str} (hk:k = "register"\/k = "cell") (hm:(("r" : Str),k)∈ts) :∀{e:Ev} {y:V},EvU H e y->EvT H ts e y
 | .beg h n v x,_,⟨p,h1,h2,h3,h4,h5,h6⟩=>by
  rcases h6 with ⟨rfl,rfl⟩|⟨rfl,i,rfl,i1,i2⟩
  ·refine ⟨p,"r",k,"read",h1,h2,h3,h4,h5,rfl,hm,nameR,.none ?_⟩;rcases hk with rfl|rfl<;>decide +kernel
  ·refine ⟨p,"r",k,"write",h1,h2,h3,h4,h5,rfl,hm,nameR,.one ?_ ?_⟩
   ·rcases hk with rfl|rfl<;>decide +kernel
   ·show (decide (-1000000000<=i) && decide (i<=1000000000))=true;rw [decide_eq_true i1,decide_eq_true i2];rfl
 | .fin h a,_,⟨p,h1,h2,h3⟩=>⟨p,h1,h2,h3⟩
theorem EvU.at {K:d0} {H:Hp} :∀{e:Ev} {y:V},EvU H e y->EvAt K H e y
 | .beg _ _ _ _,_,⟨p,h1,h2,_⟩=>⟨p,h1,SqT.of h2⟩
 | .fin _ _,_,⟨p,h1,h2,_⟩=>⟨p,h1,SqT.of h2⟩
theorem OkT.an {t:Tr} {a:V} (o:OkT t) (h:t.a=some a):AnsOk a:=by
 rcases o.2.2 with z|z|z|⟨i,z,i1,i2⟩
 ·rw [z] at h;cases h
 ·rw [z] at h;cases h;exact .inl rfl
 ·rw [z] at h;cases h;exact .inr (.inl rfl)
 ·rw [z] at h;cases h;exact .inr (.inr ⟨i,rfl,by show (decide (-1000000000000<=i) && decide (i<=1000000000000))=true;rw [decide_eq_true i1,decide_eq_true i2];rfl⟩)
theorem zc0 {α:Type} (d:α) (ts:List α):(A1 ts.length).map (λ i=>ts.getD i d)=ts:=by
 apply K7;intro i;by_cases h:i < ts.length
 ·rw [U1,W8 h,N6,Y0,M0 h];rfl
 ·rw [Z3 (by rw [O0,K4];omega),Z3 (by omega)]
theorem tps_of {H:Hp} {ths:List (Str×Str)} {ys:List V} {p:List Nat} (a:All2 (ThV H) ths ys) (hp:p.Perm (A1 ys.length)) :∃tps,All2 (ThV H) tps (p.map λ i=>ys.getD i .non)/\tps.Perm ths:=by
 refine ⟨p.map λ i=>ths.getD i ("",""),?_,?_⟩
 ·have h :∀i∈p,ThV H (ths.getD i ("","")) (ys.getD i .non):=λ i b=>by have b:i < ys.length:=List.mem_range.mp (hp.mem_iff.mp b);obtain ⟨t,c,z⟩:=z0b a (M0 b);rw [Y0,Y0,c,M0 b];exact z
  clear hp;induction p with
  | nil=>exact .nil
  | cons i p ih=>exact .cons (h i (.head _)) (ih λ j d=>h j (.tail _ d))
 ·have:=hp.map λ i=>ths.getD i ("","")
  rwa [z04 a,zc0] at this
theorem madeG {K:d0} {H:Hp} {la le:Addr} {ys zs:List V} {ths:List (Str×Str)} {es:List Ev} {N:VK} {E:XK} (ea:H la=some (.lst ys)) (at_:All2 (ThV H) ths ys) (l2:ths.length<=2) (nd:(ths.map (·.1)).Nodup) (ok :∀t∈ths,ThingOk t) (five :∀tp∈ths,tp.2∈fiveK) (el:H le=some (.lst zs)) (ev:All2 (EvU H) es zs) (mem:es=[]\/∃k:Str,(k = "register"\/k = "cell")/\(("r" : Str),k)∈ths) (n:es.length<=10) (bg:(es.filter isBeg).length<=24) (wf:EWf [] es)
  (bad:ths.map (λ x=>x.2)≠(["register"]:List Str)\/(ths.map (λ x=>x.2)=(["register"]:List Str)/\(∀r∈dAll 0 [] es,RgG r)/\plainB (dAll 0 [] es)=false)) (q :∀t H',Same H H'->TalG K H' t es->N (.ref t) H'):z16 K [.ref la,.ref le] H N E:=by
 refine ⟨la,le,ys,ths,zs,es,rfl,ea,at_,by omega,nd,ok,el,?_,by omega,bg,wf,λ p t c e H' s i j g f _=>q _ _ s ⟨?_,wf,by omega⟩⟩
 ·rcases mem with rfl|⟨k,hk,hm⟩
  ·cases ev;exact .nil
  ·exact z01 (λ _ _ z=>z.t hk hm) ev
 ·obtain ⟨l,a,d⟩:=tps_of (z01 (λ _ _ (z:ThV H _ _)=>z.elim λ p z=>(⟨p,z.1,s _ _ z.2⟩:ThV H' _ _)) at_) f;refine ⟨c,e,_,zs,l,SqT.of i,SqT.of j,z01 (λ _ _ z=>z.elim λ p z=>⟨p,z.1,SqT.of z.2⟩) a,by rw [d.length_eq];exact l2,λ tp h=>five tp (d.mem_iff.mp h),SqT.of g,z01 (λ _ _ z=>(z.tp λ _ _ h=>s _ _ h).at) ev,?_⟩;have b:=d.map λ x=>x.2;rcases bad with z|⟨z,z2⟩
  ·exact .inl λ e=>z (List.perm_singleton.mp (by rw [e] at b;exact b.symm))
  ·exact .inr ⟨List.perm_singleton.mp (by rw [z] at b;exact b),z2⟩
theorem madeR {K:d0} {H:Hp} {la le:Addr} {ys zs:List V} {es:List Ev} {N:VK} {E:XK} (ea:H la=some (.lst ys)) (at_:All2 (ThV H) [("r","register")] ys) (el:H le=some (.lst zs)) (ev:All2 (EvU H) es zs) (n:es.length<=10) (bg:(es.filter isBeg).length<=24) (wf:EWf [] es) (tw:TwG es) (q :∀t H',Same H H'->TalR K H' t "r" 0 es zs->N (.ref t) H'):z16 K [.ref la,.ref le] H N E:=by
 refine ⟨la,le,ys,_,zs,es,rfl,ea,at_,by decide,List.nodup_cons.mpr ⟨F0,.nil⟩,λ t l=>?_,el,z01 (λ _ _ z=>z.t (.inl rfl) (.head _)) ev,by omega,bg,wf,λ p t c e H' s k d j g _=>q _ _ s ⟨?_,z01 (λ _ _ z=>(z.tp λ _ _ h=>s _ _ h).at) ev,tw,by omega⟩⟩
 ·cases List.mem_singleton.mp l;exact ⟨nameR,by decide +kernel⟩
 ·obtain ⟨o,a,m⟩:=tps_of (z01 (λ _ _ (z:ThV H _ _)=>z.elim λ p z=>(⟨p,z.1,s _ _ z.2⟩:ThV H' _ _)) at_) g;cases List.perm_singleton.mp m;generalize (p.map λ i=>ys.getD i .non)=us at a d;cases a with
  | cons x r=>cases r;obtain ⟨b,rfl,f⟩:=x;exact ⟨c,e,b,SqT.of k,SqT.of d,SqT.of f,SqT.of j⟩
theorem OkT.beg {H:Hp} {p:Addr} {h:Nat} {t:Tr} (o:OkT t) (hh:h<=1) (e:H p=some (.tup [.str "begin",.int (h:Nat),.str "r",t.v,t.y])):EvU H (.beg (h:Nat) (.str "r") t.v t.y) (.ref p):=by
 refine ⟨p,rfl,e,by omega,by omega,rfl,?_⟩;unfold Tr.v Tr.y;cases t.wr with
 | true=>exact .inr ⟨rfl,t.x,rfl,o.1,o.2.1⟩
 | false=>exact .inl ⟨rfl,rfl⟩
theorem OkT.non {t:Tr} {a:V} (o:OkT t) (h:t.a=some a):a≠.non:=by rcases o.an h with rfl|rfl|⟨i,rfl,_⟩<;>exact λ z=>by cases z
theorem EvU.up {H:Hp} {l p:Addr} {xs ys zs:List V} (hp:H p=none) (e:H l=some (.lst ys)) :∀a us,H a=some (.tup us)->upd (upd H p (.tup xs)) l (.lst zs) a=some (.tup us):=λ a us b=>by rw [upd_ne (λ z=>by rw [z,e] at b;cases b)];exact Same.upd hp _ _ b
noncomputable def bar (r:Addr) (H:Hp):Hp:=λ p=>if p=r then none else H p
theorem zb3 {H:Hp} {r:Addr}:Same (bar r H) H:=λ p o e=>by
 unfold bar at e;split at e
 ·cases e
 ·exact e
theorem z7b {H:Hp} {r:Addr}:bar r H r=none:=by unfold bar;rw [if_pos rfl]
theorem bar_at {H:Hp} {r p:Addr} {o:HO} (n:p≠r) (e:H p=some o):bar r H p=some o:=by unfold bar;rw [if_neg n];exact e
theorem Same.bar {H0 H:Hp} {r:Addr} (s:Same H0 H) (n:H0 r=none):Same H0 (bar r H):=λ p o e=>bar_at (λ z=>by rw [z,n] at e;cases e) (s _ _ e)
def z3w (K:d0):Sp:=λ vs H Q _=>∃(r:Addr) (k:Nat) (H0:Hp),vs=[.ref r,.int (k:Nat)]/\Same H0 H/\H0 r=none/\DkAt H r/\∀t H',Same H0 H'->((k < 10/\∃es,TalG K H' t es)\/(10<=k/\∃es ys,TalR K H' t "r" 0 es ys))->Q (.ref t) H'
theorem z7e (T:TX (kx w) mg) (c0:Ca P w mg base "_law_take" ["row","many"] 1 z1b) (c1:Ca P w mg base "_law_deeds" ["row","kind"] 2 (z2n (kx w))) (c2:Ca P w mg base "make_tale" ["things","events"] 7 (z16 (kx w))):Fo P w mg base CX0 8 438 y0g ["row","kind"] (z3w (kx w)):=by
 refine (z2m w.params).ok sc__law_tale (λ vs H Q E h=>?_) (λ b9 A c5 s H vs Q E L h=>?_)
 ·obtain ⟨r,k,H0,rfl,_⟩:=h;rfl
 ·obtain ⟨r,k,H0,rfl,s0,n0,dk,q⟩:=h;refine q_of (z0v (QS.mk (ps_set (i:=2) sc__law_tale.nd rfl (A2 rfl) (pe_lst pa_nil)))
   (z0v (QS.mk (ps_set (i:=3) sc__law_tale.nd rfl (A2 rfl) pe_int))
   (z0v (QS.mk (ps_for F3 rfl (z0t (pe_cal c1 (L.mono (by decide)) rfl (z00 (pv 0) (z00 (pv 1) pa_nil)))) (pg_lst rfl (z0i (z0p (i:=4) sc__law_tale.nd rfl (A2 rfl)) (z0i (z0p (i:=5) sc__law_tale.nd rfl (A2 rfl)) (z0i (z0p (i:=6) sc__law_tale.nd rfl (A2 rfl)) z1w))))
   (z03 (z15 (z1r (pv 2) (z00 (pe_tup (z00 pe_str (z00 (pv 3) (z00 pe_str (z00 (pv 4) (z00 (pv 5) pa_nil)))))) pa_nil)))
   (z05 (ps_if (z0c op_isN (pv 6) pe_non (nomark _))
   (z05 (ps_aug (i:=3) sc__law_tale.nd rfl (A2 rfl) pe_int ip_add))
   (z05 (z15 (z1r (pv 2) (z00 (pe_tup (z00 pe_str (z00 (pv 3) (z00 (pv 6) pa_nil)))) pa_nil)))))))))
   (z0v (QS.mk (ps_if (z0c opEq (pv 1) pe_int (nomark _))
   (z05 (ps_ret (pe_cal c2 (L.mono (by decide)) rfl (z00 (pe_lst pa_nil) (z00 (pe_lst pa_nil) pa_nil)))))
   z0g))
   (z0v (QS.mk (ps_if (z0c opEq (pv 1) pe_int (nomark _))
   (z05 (ps_ret (pe_cal c2 (L.mono (by decide)) rfl (z00 (pe_lst (z00 (pe_tup (z00 pe_str (z00 pe_str pa_nil))) (z00 (pe_tup (z00 pe_str (z00 (pe_ix ix_seq (pe_lst (z00 pe_str (z00 pe_str pa_nil))) (pe_cal c0 (L.mono (by decide)) rfl (z00 (pv 0) (z00 pe_int pa_nil))) (λ _ _=>rfl)) pa_nil))) pa_nil))) (z00 (pv 2) pa_nil)))))
   z0g))
   (z0v (QS.mk (ps_if (z0c opEq (pv 1) pe_int (nomark _))
   (z05 (ps_ret (pe_cal c2 (L.mono (by decide)) rfl (z00 (pe_lst (z00 (pe_tup (z00 pe_str (z00 pe_str pa_nil))) pa_nil)) (z00 (pv 2) pa_nil)))))
   z0g))
   (zei (QS.mk (ps_ret (pe_cal c2 (L.mono (by decide)) rfl (z00 (pe_lst (z00 (pe_tup (z00 pe_str (z00 pe_str pa_nil))) pa_nil)) (z00 (pv 2) pa_nil)))))))))))) ?_
  refine z0j ⟨w_0,λ le a2=>g_name ?_⟩;have a4:le≠r:=λ z=>by obtain ⟨_,_,_,e,_⟩:=dk;rw [z,e] at a2;cases a2
  have b6:=s0.free a2;have u1:=Same.upd (o:=.lst []) a2;have e1:upd H le (.lst []) le=some (.lst []):=z02;have s1:=s0.trans u1;have b3:=dk.same u1;generalize upd H le (.lst [])=H1 at u1 e1 s1 b3⊢;refine z0j (g_name ?_);refine z25 (λ σ u=>∃I es ys h x4 x5 x6,Same H0 u/\DkAt u r/\KdT k I/\u le=some (.lst ys)/\All2 (EvU u) es ys/\TlI I es h/\σ=[some (.ref r),some (.int (k:Nat)),some (.ref le),some (.int (h:Nat)),x4,x5,x6]) ?_ λ go=>?_;rotate_left
  ·refine ⟨_,rfl,_,rfl,r,k,bar r H1,rfl,zb3,z7b,b3,λ ld zs I H2 M W=>?_⟩;refine ⟨ld,rfl,⟨_,SqL.of M.l⟩,?_⟩;have e2:=M.s _ _ (bar_at a4 e1);have s2:Same H0 H2:=(Same.bar s1 n0).trans M.s;have b8:ld≠le:=λ z=>by have:=M.fl;rw [z,bar_at a4 e1] at this;cases this
   obtain ⟨ok,l5,lh⟩:=W.ok;have lz:=z04 M.a;have kp :∀{u:Hp} {p:Addr} {o:HO},Same (bar le H2) u->p≠le->H2 p=some o->u p=some o:=λ s n e=>s _ _ (bar_at n e);refine z1x (K:=KX w.params) (a:=ld) (xs:=zs) (λ i σ u=>∃es ys h x4 x5 x6,Same (bar le H2) u/\u le=some (.lst ys)/\All2 (EvU u) es ys/\TlI (I.take i) es h/\σ=[some (.ref r),some (.int (k:Nat)),some (.ref le),some (.int (h:Nat)),x4,x5,x6]) ⟨[],[],0,_,_,_,zb3,e2,.nil,TlI.nil,rfl⟩ (λ i σ u _ h=>?_) ?_ ?_
   ·obtain ⟨_,_,_,_,_,_,s,_⟩:=h;exact SqL.of (kp s b8 M.l)
   ·rintro i y σ G hy ⟨es,ys,h,x4,x5,x6,s3,e3,ev,ti,rfl⟩;obtain ⟨t,f,p,rfl,c3,c6,ep⟩:=z0b M.a hy;have b7:p≠le:=λ z=>by rw [z,e2] at ep;cases ep
    have tk:I.take (i + 1)=I.take i++[t]:=by rw [k7,f];rfl
    have hh:h<=1:=by rw [ti.h];exact S0 ((p9 i I).filter _).length_le lh
    have X:es.length<=10:=by have:=ti.n;rw [A4] at this;omega
    have ly:=z04 ev;have a6:=ok t (I0 f);refine ⟨p,_,rfl,SqL.of (kp s3 b7 ep),rfl,_,_,rfl,_,_,rfl,_,_,rfl,rfl,?_⟩;refine ⟨_,rfl,.inl ⟨rfl,_,SqL.of e3⟩,?_⟩;refine ⟨_,rfl,_,rfl,_,rfl,w_5,λ B R=>?_⟩;have w1:=Same.upd (o:=.tup [.str "begin",.int (h:Nat),.str "r",t.v,t.y]) R;have b2:upd G B (.tup [.str "begin",.int (h:Nat),.str "r",t.v,t.y]) B=some (.tup [.str "begin",.int (h:Nat),.str "r",t.v,t.y]):=z02;have n1:B≠le:=λ z=>by rw [z,e3] at R;cases R
    refine ⟨le,ys,.ref B,rfl,rfl,w1 _ _ e3,T2 (m:=10) (by omega) (by decide),?_⟩;have s4:=Same.keep (o:=.lst (ys++[.ref B])) (s3.trans w1) z7b;have U:upd (upd G B (.tup [.str "begin",.int (h:Nat),.str "r",t.v,t.y])) le (.lst (ys++[.ref B])) le=some (.lst (ys++[.ref B])):=z02;have a9:=z0o (z01 (λ _ _ z=>EvU.tp (EvU.up (zs:=ys++[.ref B]) R e3) z) ev) (a6.beg hh (by rw [upd_ne n1];exact b2));generalize upd (upd G B (.tup [.str "begin",.int (h:Nat),.str "r",t.v,t.y])) le (.lst (ys++[.ref B]))=H4 at s4 U a9⊢;have l4:(ys++[V.ref B]).length<=11:=by rw [N0];show ys.length + 1<=11;omega
    clear w1 b2 n1 R;cases C:t.a with
    | none=>
     have a5:t.an=.non:=by unfold Tr.an;rw [C];rfl
     rw [a5];exact ⟨_,rfl,rfl,_,rfl,iteP rfl ⟨_,rfl,_,_,rfl,rfl,_,_,h + 1,_,_,_,s4,U,a9,by rw [tk];exact ti.beg t C,rfl⟩⟩
    | some a=>
     have a5:t.an=a:=by unfold Tr.an;rw [C];rfl
     rw [a5];refine ⟨_,rfl,rfl,_,rfl,iteN (λ z=>a6.non C (of_decide_eq_true z)) ?_⟩;refine ⟨_,rfl,.inl ⟨rfl,_,SqL.of U⟩,?_⟩;refine ⟨_,rfl,_,rfl,w_3,λ N a3=>?_⟩;have w2:=Same.upd (o:=.tup [.str "end",.int (h:Nat),a]) a3;have n2:N≠le:=λ z=>by rw [z,U] at a3;cases a3
     refine ⟨le,_,.ref N,rfl,rfl,w2 _ _ U,T2 (m:=11) l4 (by decide),?_⟩;have s5:=Same.keep (o:=.lst (ys++[.ref B]++[.ref N])) (s4.trans w2) z7b;have ef:EvU (upd (upd H4 N (.tup [.str "end",.int (h:Nat),a])) le (.lst (ys++[.ref B]++[.ref N]))) (.fin (h:Nat) a) (.ref N):=⟨N,rfl,by rw [upd_ne n2];exact z02,by omega,by omega,a6.an C⟩
     exact ⟨_,_,h,_,_,_,s5,z02,z0o (z01 (λ _ _ z=>EvU.tp (EvU.up a3 U) z) a9) ef,by rw [tk];exact ti.fin t C,rfl⟩
   ·rintro σ G ⟨es,ys,h,x4,x5,x6,s3,e3,ev,ti,rfl⟩;rw [lz,M5] at ti;obtain ⟨x,b,c,er,z⟩:=M.d;exact go _ _ ⟨I,es,ys,h,_,_,_,(Same.bar s2 b6).trans s3,⟨x,b,c,kp s3 (c4 a4) er,z⟩,W,e3,ev,ti,rfl⟩
  rintro σ G ⟨I,es,ys,h,x4,x5,x6,s3,dk3,W,e3,ev,ti,rfl⟩;obtain ⟨ok,l5,lh⟩:=W.ok;have X:es.length<=10:=by have:=ti.n;omega
  have bg:(es.filter isBeg).length<=24:=by rw [ti.bg];omega
  refine sq_if ⟨_,rfl,rfl,_,rfl,ite2 (λ z=>?_) λ z7=>t_nx ?_⟩
  ·have hk:k=7:=by have:=of_decide_eq_true z;injection this;omega
   refine ⟨w_0,λ a C=>⟨w_0,λ b hb=>?_⟩⟩;have ua:=Same.upd (o:=.lst []) C;have ub:=Same.upd (o:=.lst []) hb;exact madeG (E:=E0) (ths:=[]) (es:=[]) (ub _ _ z02) .nil (Z1 _) .nil (λ _ h=>absurd h F0) (λ _ h=>absurd h F0) z02 .nil (.inl rfl) (Z1 _) (Z1 _) trivial (.inl λ z=>by cases z) λ t u s O=>q _ _ ((s3.trans (ua.trans ub)).trans s) (.inl ⟨by omega,_,O⟩)
  refine sq_if ⟨_,rfl,rfl,_,rfl,ite2 (λ z=>?_) λ z8=>t_nx ?_⟩
  ·have hk:k=8:=by have:=of_decide_eq_true z;injection this;omega
   refine ⟨w_2,λ F a0=>⟨w_2,λ Z a7=>?_⟩⟩;have u4:=Same.upd (o:=.tup [.str "r",.str "register"]) a0;have v4:=Same.upd (o:=.lst [.str "queue",.str "register"]) a7;have e0:=v4 _ _ (z02 (H:=G) (a:=F) (o:=.tup [.str "r",.str "register"]));have eq:upd (upd G F (.tup [.str "r",.str "register"])) Z (.lst [.str "queue",.str "register"]) Z=some (.lst [.str "queue",.str "register"]):=z02;have w4:=u4.trans v4;have a8:=dk3.same w4;have nq:Z≠r:=λ z=>by obtain ⟨_,_,_,e,_⟩:=dk3.same u4;rw [z,e] at a7;cases a7
   generalize upd (upd G F (.tup [.str "r",.str "register"])) Z (.lst [.str "queue",.str "register"])=H4 at e0 eq w4 a8⊢;refine ⟨_,rfl,r,2,rfl,a8,by decide,by decide,λ t H5 a1 t0 t1=>?_⟩;have tu :∀a us,H4 a=some (.tup us)->H5 a=some (.tup us):=λ a us ea=>a1.k _ _ (λ z=>by obtain ⟨_,_,_,e,_⟩:=a8;rw [z,e] at ea;cases ea) ea;have e5:=a1.k _ _ a4 (w4 _ _ e3);have b5:=a1.k _ _ nq eq;have s5:=Same.kp (s3.trans w4) n0 a1.k;have b4:=z01 (λ _ _ z=>EvU.tp tu (EvU.tp (λ _ _ e=>w4 _ _ e) z)) ev;obtain ⟨S,j,rfl,hj,hq⟩ :∃(S:Str) (j:Nat),t=(j:Int)/\[V.str "queue",.str "register"][j]? = some (.str S)/\(S = "queue"\/S = "register"):=by
    rcases (show t=0\/t=1 by omega) with rfl|rfl
    ·exact ⟨"queue",0,rfl,rfl,.inl rfl⟩
    ·exact ⟨"register",1,rfl,rfl,.inr rfl⟩
   refine .inl ⟨Z,_,j,_,rfl,rfl,SqL.of b5,z06 hj,w_2,λ B R=>⟨w_2,λ a C=>⟨_,rfl,?_⟩⟩⟩;have Y:=Same.upd (o:=.tup [.str "q",.str S]) R;have J:=Same.upd (o:=.lst [.ref F,.ref B]) C;have D:=Y.trans J;refine madeG (E:=E0) (ths:=[("r","register"),("q",S)]) z02 (.cons ⟨F,rfl,D _ _ (tu _ _ e0)⟩ (.cons ⟨B,rfl,J _ _ z02⟩ .nil)) (D0 _) (show (["r","q"]:List Str).Nodup by decide +kernel) (λ t f=>?_) (λ t f=>?_) (D _ _ e5) (z01 (λ _ _ z=>EvU.tp (λ _ _ e=>D _ _ e) z) b4) (.inr ⟨"register",.inl rfl,.head _⟩) X bg ti.wf (.inl λ z=>by injection z with _ z;cases z) λ t u s O=>q _ _ ((s5.trans D).trans s) (.inl ⟨by omega,_,O⟩)
   ·rcases List.mem_cons.mp f with rfl|f
    ·exact ⟨nameR,by decide +kernel⟩
    ·cases List.mem_singleton.mp f;rcases hq with rfl|rfl<;>exact ⟨⟨by decide +kernel,by decide +kernel,by decide +kernel⟩,by decide +kernel⟩
   ·rcases List.mem_cons.mp f with rfl|f
    ·decide +kernel
    ·cases List.mem_singleton.mp f;rcases hq with rfl|rfl<;>decide +kernel
  refine sq_if ⟨_,rfl,rfl,_,rfl,ite2 (λ z=>?_) λ z9=>t_nx ?_⟩
  ·have hk:k=9:=by have:=of_decide_eq_true z;injection this;omega
   refine ⟨w_2,λ F a0=>⟨w_1,λ a C=>?_⟩⟩;have Y:=Same.upd (o:=.tup [.str "r",.str "cell"]) a0;have J:=Same.upd (o:=.lst [.ref F]) C;have D:=Y.trans J;exact ⟨_,rfl,madeG (E:=E0) (ths:=[("r","cell")]) z02 (.cons ⟨F,rfl,J _ _ z02⟩ .nil) (by decide) (List.nodup_cons.mpr ⟨F0,.nil⟩) (λ t f=>by cases List.mem_singleton.mp f;exact ⟨nameR,by decide +kernel⟩) (λ t f=>by cases List.mem_singleton.mp f;decide +kernel) (D _ _ e3) (z01 (λ _ _ z=>EvU.tp (λ _ _ e=>D _ _ e) z) ev) (.inr ⟨"cell",.inr rfl,.head _⟩) X bg ti.wf (.inl (by decide +kernel)) λ t u s O=>q _ _ ((s3.trans D).trans s) (.inl ⟨by omega,_,O⟩)⟩
  refine ⟨w_2,λ F a0=>⟨w_1,λ a C=>?_⟩⟩;have n7:k≠7:=λ z=>z7 (decide_eq_true (by rw [z];rfl));have n8:k≠8:=λ z=>z8 (decide_eq_true (by rw [z];rfl));have n9:k≠9:=λ z=>z9 (decide_eq_true (by rw [z];rfl));have Y:=Same.upd (o:=.tup [.str "r",.str "register"]) a0;have J:=Same.upd (o:=.lst [.ref F]) C;have D:=Y.trans J;have b0:=z01 (λ _ _ z=>EvU.tp (λ _ _ e=>D _ _ e) z) ev;have b1:All2 (ThV (upd (upd G F (.tup [.str "r",.str "register"])) a (.lst [.ref F]))) [("r","register")] [.ref F]:=.cons ⟨F,rfl,J _ _ z02⟩ .nil;rcases j2b k 10 with lt|ge
  ·have rg :∀r∈dAll 0 [] es,RgG r:=λ r L=>by obtain ⟨j,hj⟩:=List.mem_iff_getElem?.mp L;obtain ⟨t,f,z⟩:=z0b ti.rw hj;exact RwT.g (ok t (I0 f)) z
   exact ⟨_,rfl,madeG (E:=E0) z02 b1 (by decide) (List.nodup_cons.mpr ⟨F0,.nil⟩) (λ t f=>by cases List.mem_singleton.mp f;exact ⟨nameR,by decide +kernel⟩) (λ t f=>by cases List.mem_singleton.mp f;decide +kernel) (D _ _ e3) b0 (.inr ⟨"register",.inl rfl,.head _⟩) X bg ti.wf (.inr ⟨rfl,rg,zdv (by omega) W ti.rw⟩) λ t u s O=>q _ _ ((s3.trans D).trans s) (.inl ⟨lt,_,O⟩)⟩
  ·exact ⟨_,rfl,madeR (E:=E0) z02 b1 (D _ _ e3) b0 X bg ti.wf (zbz ge W ti) λ t u s tr=>q _ _ ((s3.trans D).trans s) (.inr ⟨ge,_,_,tr⟩)⟩
theorem z3n:Gn "ValueError":=λ _=>by kernel_rfl
theorem z1u:D4 "ValueError" = some (.type "ValueError"):=by kernel_rfl
theorem try_as {K:d0} {c:Value} {i:Nat} {tb:(L2.St->XK)->TS} {th:TS} {D:Ends} {σ:L2.St} {H:Hp} (h :∀E,tb E D σ H):tTryAs K c i tb th D σ H:=h _
theorem zgj {K:d0} {c cls:Value} {i:Nat} {tb:(L2.St->XK)->TS} {th:TS} {D:Ends} {σ:L2.St} {H:Hp} (R:Hp->Prop) (exm:O9 K cls c=some true) (hn :∀H1 ea,R H1->H1 ea=none->th { nx:=λ σ2 H2=>D.nx (σ2.set i none) H2,rt:=D.rt,bk:=λ σ2 H2=>D.bk (σ2.set i none) H2,ct:=λ σ2 H2=>D.ct (σ2.set i none) H2 } (σ.set i (some (.ref ea))) (upd H1 ea (ExcO ea cls)))
  (h :∀E:L2.St->XK,(∀H1,R H1->E σ cls none H1)->tb E D σ H):tTryAs K c i tb th D σ H:=h _ λ H1 r=>⟨exm,λ ea a=>hn H1 ea r a⟩
theorem TalR.tp {K:d0} {H H':Hp} {t:Addr} {nm:Str} {wr:Int} {es:List Ev} {ys:List V} (s:Tups K H H') (h:TalR K H t nm wr es ys):TalR K H' t nm wr es ys:=by obtain ⟨pt,e,f,a,b,c,d⟩:=h.t;exact ⟨⟨pt,e,f,s _ _ a,s _ _ b,s _ _ c,s _ _ d⟩,z01 (λ _ _ z=>EvAt.tups s z) h.ev,h.tw,h.ln⟩
theorem TalG.tp {K:d0} {H H':Hp} {t:Addr} {es:List Ev} (s:Tups K H H') (h:TalG K H t es):TalG K H' t es:=by obtain ⟨pt,j,m,k,l,a,b,c,d,e,f,g,i⟩:=h.t;exact ⟨⟨pt,j,m,k,l,s _ _ a,s _ _ b,z01 (λ _ _ z=>z.elim λ p z=>⟨p,z.1,s _ _ z.2⟩) c,d,e,s _ _ f,z01 (λ _ _ z=>EvAt.tups s z) g,i⟩,h.w,h.n⟩
noncomputable def dueS (b:Bool):Str:=if b=true then "NotPlain" else "told"
noncomputable def TalB (K:d0) (H:Hp) (t:Addr):Bool->Prop
 | true=>∃es,TalG K H t es
 | false=>∃es ys,TalR K H t "r" 0 es ys
theorem TalB.tp {K:d0} {H H':Hp} {t:Addr} (s:Tups K H H') :∀{b:Bool},TalB K H t b->TalB K H' t b
 | true,⟨es,h⟩=>⟨es,h.tp s⟩
 | false,⟨es,ys,h⟩=>⟨es,ys,h.tp s⟩
def z1t (K:d0):Sp:=λ vs H Q _=>∃(t:Addr) (m:Int) (b:Bool),vs=[.ref t,.int m]/\TalB K H t b/\LamH H/\∀H',SameB tbT H H'->LamH H'->Q (.str (dueS b)) H'
theorem z45 (T:TX (kx w) mg) (c0:Ca P w mg base "zones" ["tale"] 6 (z7x (kx w))) (c1:Ca P w mg base "collision" ["tale"] 7 (z3b (kx w))) (c2:CaE P w mg base "zones" ["tale"] 6 (z92 (kx w))) (c3:CaE P w mg base "collision" ["tale"] 7 (z2q (kx w))):Fo P w mg base CX0 8 445 y02 ["tale","way"] (z1t (kx w)):=by
 refine (z17 w.params).ok sc__law_refused (λ vs H Q E h=>?_) (λ b1 A b3 s H vs Q E x h=>?_)
 ·obtain ⟨t,m,b,rfl,_⟩:=h;rfl
 ·obtain ⟨t,m,b,rfl,h,lm,q⟩:=h;cases b with
  | false=>
   obtain ⟨y,V,Y⟩:=h;refine ⟨_,(z03 (ps_set (i:=2) sc__law_refused.nd rfl (A2 rfl) pe_bl)
   (z03 (ps_set (i:=3) sc__law_refused.nd rfl (A2 rfl) (pe_lst pa_nil))
   (z03 (zbq (i:=4) rfl rfl rfl (T.of (z4e _)) sc__law_refused.nd rfl rfl (λ _ _=>(z05 (ps_if (z0c opEq (pv 1) pe_int (nomark _))
   (z05 (ps_set (i:=2) sc__law_refused.nd rfl (A2 rfl) (z09 z0f rfl (T.no (z08 _)) V1 (z00 (pe_cal c0 (x.mono (by decide)) rfl (z00 (pv 0) pa_nil)) (z00 (z0w (v:=.ty "list") rfl (T.no (n_list _)) boot_list rfl) pa_nil)))))
   (z05 (ps_set (i:=2) sc__law_refused.nd rfl (A2 rfl) (pe_or (z0x op_isN (pe_cal c1 (x.mono (by decide)) rfl (z00 (pv 0) pa_nil)) pe_non (nomark _)) (pe_one (z09 z0f rfl (T.no (z08 _)) V1 (z00 (pe_cal c1 (x.mono (by decide)) rfl (z00 (pv 0) pa_nil)) (z00 (z0w (v:=.ty "tuple") rfl (T.no (z6l _)) M9 rfl) pa_nil)))))))))) (λ _=>(z03 (ps_set (i:=3) sc__law_refused.nd rfl (A2 rfl) (pe_lst (z00 (z09 (z19 (kx w)) rfl (T.no (z08 _)) V1 (z00 (pv 4) (z00 (z0h (v:=.ref 142) rfl (T.of (z36 _)) rfl) pa_nil))) (z00 (z09 (z19 (kx w)) rfl (T.no (z08 _)) V1 (z00 (pv 4) (z00 (z0w (v:=.ty "ValueError") rfl (T.no (z3n _)) z1u rfl) pa_nil))) pa_nil))))
   (z03 (z15 (z27 (K:=KX w.params) rfl (pv 3) (z00 (z09 (z12 (kx w)) rfl (T.no (z08 _)) V1 (z00 (pv 4) (z00 (pe_tup (z00 (z0h (v:=.ref 166) rfl (T.of (z3d _)) rfl) (z00 (z0h (v:=.ref 70) rfl (T.of (zat _)) rfl) (z00 (z0h (v:=.ref 130) rfl (T.of (zab _)) rfl) (z00 (z0h (v:=.ref 118) rfl (T.of (z8z _)) rfl) pa_nil))))) pa_nil))) pa_nil)))
   (z05 (z15 (z27 (K:=KX w.params) rfl (pv 3) (z00 (z09 (z12 (kx w)) rfl (T.no (z08 _)) V1 (z00 (pv 4) (z00 (pe_tup (z00 (z0h (v:=.ref 154) rfl (T.of (zbv _)) rfl) (z00 (z0h (v:=.ref 178) rfl (T.of (zem _)) rfl) (z00 (z0h (v:=.ref 94) rfl (T.of (z2a _)) rfl) (z00 (z0h (v:=.ref 82) rfl (T.of (zci _)) rfl) (z00 (z0h (v:=.ref 106) rfl (T.of (z86 _)) rfl) pa_nil)))))) pa_nil))) pa_nil))))))))
   (z03 (ps_if (pt_val (pv 2) (λ _=>rfl))
   (z05 (ps_ret pe_str))
   z0g)
   (z05 (ps_ret (pe_ix ix_seq (pe_lst (z00 pe_str (z00 pe_str pa_nil))) (z1q z7u rfl (T.no (n_int _)) boot_int (z00 (z0x (op_eqC x) (pv 3) (pe_lst (z00 pe_bl (z00 pe_bl (z00 pe_bl (z00 pe_bl pa_nil))))) (nomark _)) pa_nil)) (λ _ _=>rfl)))))))),?_⟩
   refine z0j (g_name ?_);refine z0j ⟨w_0,λ N X=>g_name ?_⟩;have l:=Same.upd (o:=.lst []) X;have g:=Y.tp (Tups.of l);have M:=LamH.same l lm;generalize upd H N (.lst [])=H0 at l g M⊢;refine z25 (λ I d=>SameB tbT H0 d/\LamH d/\∃x4,I=[some (.ref t),some (.int m),some (.bl true),some (.ref N),x4]) ?_ (λ G=>?_);rotate_left
   ·refine try_as λ E=>?_;refine ⟨_,rfl,rfl,_,rfl,ite2 (λ _=>?_) λ _=>?_⟩
    ·exact ⟨_,rfl,t,"r",0,y,V,rfl,g,M,λ D b2 zl d sb F _ eD _ _=>⟨_,_,"list",rfl,.inl ⟨⟨_,eD⟩,rfl⟩,by decide,G _ _ ⟨sb,F,_,rfl⟩⟩⟩
    ·refine ⟨_,rfl,t,"r",0,y,V,rfl,g,M,λ o v d sb F oc ov=>⟨rfl,_,rfl,?_⟩⟩;have a3:=g.tp (SameB.tups sb M.tb);by_cases hv:v=.non
     ·rw [decide_eq_true hv];exact iteP rfl (G _ _ ⟨sb,F,_,rfl⟩)
     ·rw [decide_eq_false hv];refine iteN R0 ?_;refine ⟨_,rfl,t,"r",0,y,V,rfl,a3,F,λ o' v' R a7 b0 a9 a0=>?_⟩;cases zge (PosI.all y PosI.nil) g.tw.nd g.tw.n0 oc a9;have tg:TagOf R v' "tuple":=by
       cases o with
       | non=>exact absurd ov hv
       | lost n=>obtain ⟨p,rfl,e⟩:=a0;exact .inr (.inl ⟨⟨_,e⟩,rfl⟩)
       | pr k a b=>obtain ⟨p,rfl,e⟩:=a0;exact .inr (.inl ⟨⟨_,e⟩,rfl⟩)
      exact ⟨_,_,"tuple",rfl,tg,by decide,G _ _ ⟨SameB.trans sb a7,b0,_,rfl⟩⟩
   rintro I d ⟨sb,F,x4,rfl⟩;exact sq_if ⟨_,rfl,_,rfl,iteP rfl (q _ (SameB.trans (SameB.of l) sb) F)⟩
  | true=>
   obtain ⟨y,Y⟩:=h;have c0:=c2;have c1:=c3;refine ⟨_,(z03 (ps_set (i:=2) sc__law_refused.nd rfl (A2 rfl) pe_bl)
   (z03 (ps_set (i:=3) sc__law_refused.nd rfl (A2 rfl) (pe_lst pa_nil))
   (z03 (zbq (i:=4) rfl rfl rfl (T.of (z4e _)) sc__law_refused.nd rfl rfl (λ _ _=>(z05 (ps_if (z0c opEq (pv 1) pe_int (nomark _))
   (z05 (ps_set (i:=2) sc__law_refused.nd rfl (A2 rfl) (z09 z0f rfl (T.no (z08 _)) V1 (z00 (zam passX c0 (x.mono (by decide)) rfl (z00 (pv 0) pa_nil)) (z00 (z0w (v:=.ty "list") rfl (T.no (n_list _)) boot_list rfl) pa_nil)))))
   (z05 (ps_set (i:=2) sc__law_refused.nd rfl (A2 rfl) (pe_or (z0x op_isN (zam passX c1 (x.mono (by decide)) rfl (z00 (pv 0) pa_nil)) pe_non (nomark _)) (pe_one (z09 z0f rfl (T.no (z08 _)) V1 (z00 (zam passX c1 (x.mono (by decide)) rfl (z00 (pv 0) pa_nil)) (z00 (z0w (v:=.ty "tuple") rfl (T.no (z6l _)) M9 rfl) pa_nil)))))))))) (λ _=>(z03 (ps_set (i:=3) sc__law_refused.nd rfl (A2 rfl) (pe_lst (z00 (z09 (z19 (kx w)) rfl (T.no (z08 _)) V1 (z00 (pv 4) (z00 (z0h (v:=.ref 142) rfl (T.of (z36 _)) rfl) pa_nil))) (z00 (z09 (z19 (kx w)) rfl (T.no (z08 _)) V1 (z00 (pv 4) (z00 (z0w (v:=.ty "ValueError") rfl (T.no (z3n _)) z1u rfl) pa_nil))) pa_nil))))
   (z03 (z15 (z27 (K:=KX w.params) rfl (pv 3) (z00 (z09 (z12 (kx w)) rfl (T.no (z08 _)) V1 (z00 (pv 4) (z00 (pe_tup (z00 (z0h (v:=.ref 166) rfl (T.of (z3d _)) rfl) (z00 (z0h (v:=.ref 70) rfl (T.of (zat _)) rfl) (z00 (z0h (v:=.ref 130) rfl (T.of (zab _)) rfl) (z00 (z0h (v:=.ref 118) rfl (T.of (z8z _)) rfl) pa_nil))))) pa_nil))) pa_nil)))
   (z05 (z15 (z27 (K:=KX w.params) rfl (pv 3) (z00 (z09 (z12 (kx w)) rfl (T.no (z08 _)) V1 (z00 (pv 4) (z00 (pe_tup (z00 (z0h (v:=.ref 154) rfl (T.of (zbv _)) rfl) (z00 (z0h (v:=.ref 178) rfl (T.of (zem _)) rfl) (z00 (z0h (v:=.ref 94) rfl (T.of (z2a _)) rfl) (z00 (z0h (v:=.ref 82) rfl (T.of (zci _)) rfl) (z00 (z0h (v:=.ref 106) rfl (T.of (z86 _)) rfl) pa_nil)))))) pa_nil))) pa_nil))))))))
   (z03 (ps_if (pt_val (pv 2) (λ _=>rfl))
   (z05 (ps_ret pe_str))
   z0g)
   (z05 (ps_ret (pe_ix ix_seq (pe_lst (z00 pe_str (z00 pe_str pa_nil))) (z1q z7u rfl (T.no (n_int _)) boot_int (z00 (z0x (op_eqC x) (pv 3) (pe_lst (z00 pe_bl (z00 pe_bl (z00 pe_bl (z00 pe_bl pa_nil))))) (nomark _)) pa_nil)) (λ _ _=>rfl)))))))),?_⟩
   have a4:O9 (kx w) (.ref 142) (.ref 57)=some true:=by kernel_rfl
   refine z0j (g_name ?_);refine z0j ⟨w_0,λ N X=>g_name ?_⟩;have l:=Same.upd (o:=.lst []) X;have g:=Y.tp (Tups.of l);generalize upd H N (.lst [])=H0 at l g⊢;refine z25 (λ I d=>∃lk x4,Same H d/\d lk=some (.lst [.bl true,.bl true,.bl false,.bl false])/\I=[some (.ref t),some (.int m),some (.bl false),some (.ref lk),x4]) ?_ (λ G=>?_);rotate_left
   ·refine zgj (cls:=.ref 142) (λ d=>Same H0 d) a4 (λ Ha c sa a6=>?_) λ E hE=>?_
    ·have J:=sa.trans (Same.upd (o:=ExcO c (.ref 142)) a6);have u:upd Ha c (ExcO c (.ref 142)) c=some (ExcO c (.ref 142)):=z02;generalize upd Ha c (ExcO c (.ref 142))=d at J u⊢;refine ⟨_,rfl,c,142,.ref 142,.ref 142,true,rfl,u,z1p _,rfl,λ _ h=>h,by kernel_rfl,?_⟩;refine ⟨_,rfl,c,142,.ty "ValueError",.type "ValueError",true,rfl,u,z1p _,rfl,λ _ h=>h,by kernel_rfl,w_2,λ f O=>?_⟩;have L:=Same.upd (o:=.lst [.bl true,.bl true]) O;have W:upd d f (.lst [.bl true,.bl true]) f=some (.lst [.bl true,.bl true]):=z02;have n2:c≠f:=λ z=>by rw [<-z,u] at O;cases O
     have f2:H f=none:=(l.trans J).free O;generalize upd d f (.lst [.bl true,.bl true])=R at L W⊢;refine ⟨_,rfl,.inl ⟨rfl,_,SqL.of W⟩,?_⟩;refine ⟨_,rfl,w_4,λ p3 a2=>?_⟩;refine ⟨c,142,p3,[166,70,130,118],false,rfl,(Same.upd a2) _ _ (L _ _ u),z1p _,z02,by kernel_rfl,?_⟩;have B:=Same.upd (o:=.tup [.ref 166,.ref 70,.ref 130,.ref 118]) a2;have e3:=B _ _ (L _ _ u);generalize upd R p3 (.tup [.ref 166,.ref 70,.ref 130,.ref 118])=C at B e3⊢;refine ⟨f,_,_,rfl,rfl,B _ _ W,(show (2:Nat) < sizeLine by decide),?_⟩;have s4:=Same.keep (o:=.lst ([.bl true,.bl true]++[.bl false])) (((l.trans J).trans L).trans B) f2;have S:upd C f (.lst ([.bl true,.bl true]++[.bl false])) f=some (.lst [.bl true,.bl true,.bl false]):=z02;have e4:upd C f (.lst ([.bl true,.bl true]++[.bl false])) c=some (ExcO c (.ref 142)):=by rw [upd_ne n2];exact e3
     generalize upd C f (.lst ([.bl true,.bl true]++[.bl false]))=H4 at s4 S e4⊢;refine ⟨_,rfl,.inl ⟨rfl,_,SqL.of S⟩,?_⟩;refine ⟨_,rfl,w_5,λ p5 a1=>?_⟩;refine ⟨c,142,p5,[154,178,94,82,106],false,rfl,(Same.upd a1) _ _ e4,z1p _,z02,by kernel_rfl,?_⟩;have s5:=Same.upd (o:=.tup [.ref 154,.ref 178,.ref 94,.ref 82,.ref 106]) a1;refine ⟨f,_,_,rfl,rfl,s5 _ _ S,(show (3:Nat) < sizeLine by decide),G _ _ ⟨f,_,Same.keep (s4.trans s5) f2,z02,rfl⟩⟩
    ·rcases (show m=0\/m≠0 by omega) with rfl|hm
     ·exact ⟨_,rfl,rfl,_,rfl,iteP rfl ⟨_,rfl,t,y,rfl,g,hE⟩⟩
     ·exact ⟨_,rfl,rfl,_,rfl,iteN (λ z=>hm (by injection (of_decide_eq_true z))) ⟨_,rfl,t,y,rfl,g,hE⟩⟩
   rintro I d ⟨lk,x4,J,u,rfl⟩;refine sq_if ⟨_,rfl,_,rfl,iteN R0 (t_nx ?_)⟩;refine ⟨w_2,λ la a8=>?_⟩;obtain ⟨R,Z,w2,c⟩:=newA (.lst [.str "",.str "NotPlain"]) a8;rw [<-Z];refine ⟨_,rfl,w_4,λ lb a5=>?_⟩;obtain ⟨C,Z,U,eb⟩:=newA (.lst [.bl true,.bl true,.bl false,.bl false]) a5;rw [<-Z];have pd :∀{p:Addr},C p=some (.lst [.bl true,.bl true,.bl false,.bl false])->IsPd (kx w) C (.list [.bool true,.bool true,.bool false,.bool false]) (.ref p):=λ e=>⟨_,_,rfl,SqL.of e,_,_,rfl,rfl,_,_,rfl,rfl,_,_,rfl,rfl,_,_,rfl,rfl,rfl⟩
   have B:=(J.trans w2).trans U;exact ⟨_,_,pd (U _ _ (w2 _ _ u)),pd eb,by decide +kernel,by decide +kernel,by decide +kernel,.inl (.inr ⟨true,by rw [show PyData.eqv (.list [.bool true,.bool true,.bool false,.bool false]) (.list [.bool true,.bool true,.bool false,.bool false])=true by decide +kernel],.inl ⟨la,_,1,.str "NotPlain",rfl,rfl,SqL.of (U _ _ c),z06 (j:=1) rfl,q _ (SameB.of B) (LamH.same B lm)⟩⟩)⟩
def sp_law (K:d0):Sp:=λ vs H Q _=>∃(sc:Addr) (ns:List Int),vs=[.ref sc]/\SqL K H sc (ns.map V.int)/\ns.length<=63/\H tbT=some (.tbl #[])/\∀H',Q (.bl true) H'
theorem ok_law (T:TX (kx w) mg) (c0:Ca P w mg base "_law_row" ["cell"] 1 z4c) (c1:Ca P w mg base "_law_take" ["row","many"] 1 z1b) (c2:Ca P w mg base "_law_tale" ["row","kind"] 8 (z3w (kx w))) (c3:Ca P w mg base "_law_refused" ["tale","way"] 8 (z1t (kx w))):Fo P w mg base CX0 9 452 fd_law ["script"] (sp_law (kx w)):=by
 refine (F_law w.params).ok sc_law (λ R H Q E h=>?_) (λ a5 A a4 s H R Q E f h=>?_)
 ·obtain ⟨g,F,rfl,_⟩:=h;rfl
 ·obtain ⟨g,F,rfl,N,hn,Z,q⟩:=h;refine ⟨_,(z03 (ps_for F3 rfl (z0t (pv 0)) (z0p (i:=1) sc_law.nd rfl (A2 rfl))
   (z03 (ps_set (i:=2) sc_law.nd rfl (A2 rfl) (pe_cal c0 (f.mono (by decide)) rfl (z00 (pv 1) pa_nil)))
   (z03 (ps_set (i:=3) sc_law.nd rfl (A2 rfl) (pe_cal c1 (f.mono (by decide)) rfl (z00 (pv 2) (z00 pe_int pa_nil))))
   (z03 (ps_set (i:=4) sc_law.nd rfl (A2 rfl) (pe_cal c2 (f.mono (by decide)) rfl (z00 (pv 2) (z00 (pv 3) pa_nil))))
   (z03 (ps_set (i:=5) sc_law.nd rfl (A2 rfl) (pe_ix ix_seq (pe_lst (z00 pe_str (z00 pe_str pa_nil))) (z1q z7u rfl (T.no (n_int _)) boot_int (z00 (z0x op_lt (pv 3) pe_int (nomark _)) pa_nil)) (λ _ _=>rfl)))
   (z05 (ps_if (PW.pt (pw_or (z0c opNe (pe_cal c3 (f.mono (by decide)) rfl (z00 (pv 4) (z00 pe_int pa_nil))) (pv 5) (nomark _)) (pw_or1 (z0c opNe (pe_cal c3 (f.mono (by decide)) rfl (z00 (pv 4) (z00 pe_int pa_nil))) (pv 5) (nomark _)))))
   (z05 (ps_ret pe_bl))
   z0g)))))))
   (z05 (ps_ret pe_bl))),?_⟩
  have L:LamH H:=.inl Z;refine z25 (λ σ e=>True) (λ _ _ _=>q _) λ X=>?_;refine ⟨_,rfl,g,rfl,⟨_,N⟩,?_⟩;refine z1x (K:=KX w.params) (a:=g) (xs:=F.map V.int) (λ i σ e=>SameB tbT H e/\LamH e/\∃x1 x2 x3 x4 x5,σ=[some (.ref g),x1,x2,x3,x4,x5]) ⟨λ _ _ _ h=>h,L,_,_,_,_,_,rfl⟩ (λ i σ e _ h=>SameB.seqL h.1 L.tb N) ?_ (λ σ e h=>X σ e trivial);rintro i y σ B hy ⟨sb,lm1,x1,x2,x3,x4,x5,rfl⟩;obtain ⟨c,_,rfl⟩:=List.mem_map.mp (I0 hy);refine g_name ?_;refine z0j ⟨_,rfl,c,rfl,λ r o u dk=>g_name ?_⟩;have C:=Same.upd (o:=o) u;generalize upd B r o=H2 at C dk⊢;refine z0j ⟨_,rfl,r,14,rfl,dk,by decide,by decide,λ t H3 x t0 t1=>g_name ?_⟩;have s3:=Same.kp C u x.k;obtain ⟨k,rfl⟩ :∃k:Nat,t=(k:Int):=⟨t.toNat,(Q4 t0).symm⟩
  refine z0j ⟨_,rfl,_,rfl,r,k,B,rfl,s3,u,x.d,λ p n G tg=>g_name ?_⟩;have W:TalB (kx w) n p (decide (k < 10)):=by
   rcases tg with ⟨h,z⟩|⟨h,z⟩
   ·rw [decide_eq_true h];exact z
   ·rw [decide_eq_false (by omega)];exact z
  have S:=LamH.same G lm1;have U:=SameB.trans sb (SameB.of G);refine z0j ⟨w_2,λ l a0=>?_⟩;have m:=Same.upd (o:=.lst [.str "told",.str "NotPlain"]) a0;have I:upd n l (.lst [.str "told",.str "NotPlain"]) l=some (.lst [.str "told",.str "NotPlain"]):=z02;have j:=W.tp (Tups.of m);have v:=LamH.same m S;have J:=SameB.trans U (SameB.of m);generalize upd n l (.lst [.str "told",.str "NotPlain"])=H5 at m I j v J⊢;have a2:[V.str "told",.str "NotPlain"][if decide (k < 10)=true then 1 else 0]? = some (.str (dueS (decide (k < 10)))):=by cases decide (k < 10)<;>rfl
  have O:(if decide ((k:Int) < 10)=true then (1:Int) else 0)=((if decide (k < 10)=true then 1 else 0:Nat):Int):=by
   by_cases z:k < 10
   ·rw [decide_eq_true z,decide_eq_true (by omega)];rfl
   ·rw [decide_eq_false z,decide_eq_false (by omega)];rfl
  refine ⟨_,rfl,_,_,rfl,rfl,.inl (.inr ⟨_,rfl,?_⟩)⟩;rw [O];refine .inl ⟨l,_,_,_,rfl,rfl,SqL.of I,z06 a2,g_name ?_⟩;generalize decide (k < 10)=b at j⊢;refine ⟨_,rfl,p,0,b,rfl,j,v,λ H6 M Y=>⟨_,rfl,?_⟩⟩;have D:¬ (!decide (V.str (dueS b)=V.str (dueS b)))=true:=by rw [decide_eq_true rfl];exact λ z=>R0 z
  refine ⟨rfl,_,rfl,iteN D ?_⟩;refine ⟨_,rfl,p,1,b,rfl,j.tp (SameB.tups M v.tb),Y,λ H7 a1 a3=>⟨_,rfl,rfl,_,rfl,iteN D ?_⟩⟩;exact ⟨SameB.trans J (SameB.trans M a1),a3,_,_,_,_,_,rfl⟩
end
theorem ky_in {w:W0} {h:Heap} (Y:(KY w.params).In h):(kx w).In h/\h.get? tbT=some (m8 #[]):=by
 have a:Q9 tbT (kx w)=none:=by kernel_rfl
 refine ⟨λ b o e=>Y b o ?_,Y tbT _ ?_⟩
 ·have e:Q9 b (kx w)=some o:=e;show Q9 b ((tbT,_) :: KX w.params)=some o;rw [d4,beq_eq_false_iff_ne.mpr λ z=>by rw [z,a] at e;cases e];exact e
 ·show Q9 tbT ((tbT,_) :: KX w.params)=some _;rw [d4,beq_self_eq_true]
theorem all_law {P:Program} {w:W0} {mg:Str->Option Value} {base:Heap} (T:TX (kx w) mg) (B:BtMain base mg):Fo P w mg base CX0 9 452 fd_law ["script"] (sp_law (kx w)):=by have m:=@cal_mk P w (kx w) mg base;have a:=@zgh P w (kx w) mg base;have d:=m T (z3m _) (zc3 _) (zbp _) (za1 T );have e:=m T (z2i _) (z9q _) (z9c _) (z81 T d);have I:=m T (z3v _) (zcf _) (zac _) (z9v T e);have c:=m T (z1n _) (z73 _) (z67 _) (z4y T );have f:=m T (z5l _) (zd2 _) (zdy _) (zc5 T );have A:=m T (z53 _) (ze5 _) (zeb _) (zcc T f I c);have h:=m T (zag _) (zh1 _) (zgq _) (zez T );have i:=m T (z57 _) (zco _) (zcs _) (za6 T );have q:=m T (z3o _) (zbj _) (zca _) (z9i T c i f);have z:=m T (z1l _) (z6v _) (z6d _) (z5g T q);have J:=m T (z5j _) (zdf _) (ze9 _) (zb4 T d);have k:=m T (z38 _) (zba _) (zau _) (z9b T c J);have y:=m T (z2h _) (z9u _) (za0 _) (z7l T e);have N:=m T (z3k _) (zbt _) (zbm _) (z9j T k i A);have v:=m T (z7n _) (zfo _) (zfs _) (zdb T k y);have E:=m T (z1g _) (z6k _) (z6j _) (z4v T );have r:=m T (z1i _) (z6u _) (z6e _) (z4x T N v E);have K:=m T (z2j _) (z9r _) (z9t _) (z74 T z r);have t:=m T (z1m _) (z6m _) (z72 _) (z51 T d);have n:=m T (z2l _) (z9a _) (z9o _) (z83 T t);have l:=m T (z0u _) (z2w _) (z2o _) (z5m T h n);have o:=a T (z0u _) (z2w _) (z2o _) (z47 T h n);have p:=m T (z4w _) (zdp _) (ze3 _) (za3 T );have g:=m T (z1k _) (z5z _) (z63 _) (z4u T );have O:=m T (z5t _) (zd6 _) (zcq _) (zan T );have j:=m T (z69 _) (zew _) (zeq _) (zfr T B l p g O);have G:=m T (z3y _) (zc6 _) (zb6 _) (z9g T );have b:=m T (z2g _) (z97 _) (z9y _) (z7d T );have H:=m T (z5h _) (zda _) (zdg _) (zb5 T );have M:=m T (z4q _) (zcy _) (zea _) (zc7 T );have u:=m T (z21 _) (z76 _) (z7h _) (z65 T M H);have x:=m T (z14 _) (z4l _) (z4m _) (z7o T l p g j u);have L:=a T (z69 _) (zew _) (zeq _) (zcn T o);have C:=a T (z14 _) (z4l _) (z4m _) (z71 T o);have D:=m T (z1y _) (z7s _) (z82 _) (z68 T b);have F:=m T (z2m _) (z9w _) (z9x _) (z7e T b D K);have s:=m T (z17 _) (z5q _) (z5u _) (z45 T j x L C);exact ok_law T G b F s
end K15
open PySem PySem.W PyProof.Rows
set_option maxRecDepth 100000 in
set_option maxHeartbeats 0 in
theorem PySem.Challenge.cw_talejudge_k15_tales_that_are_not_plain_holds : PySem.Challenge.rw_talejudge_k15_tales_that_are_not_plain.Holds := by
 w_on;o_law
 refine holds_open (q:=K15.viewX) (loose:=K15.looseX) (Xt:=K15.XtX) (XP:=XL K15.viewX []) (Yf:=Hook.obs K15.HX) (Ya:=Hook.val K15.HX) (YP:=Hook.says K15.HX) (N:=200000) K15.leftX (Hook.of K15.HX) (Hook.keeps K15.HX) (λ s e=>xl_of s (Bool.and_eq_true_iff.mp e).1) XL.keeps (by rfl) (by rfl) (by rfl) (λ s e=>recFacts_of (Bool.and_eq_true_iff.mp e).2) (by rfl) (by assumption) (by decide +kernel) ⟨rfl,rfl,rfl,rfl,rfl,by decide +kernel⟩ ?hw ?hc
 case hw=>w_witness2
 case hc=>
  refine L2.walk_ofT (T:=K15.tbT) (c:=K15.cdT) (l:=PySem.Challenge.rw_talejudge_k15_tales_that_are_not_plain) (n:=63) (k:=9) (x:="script") (K:=K15.KX) (CX:=λ _=>L2.CX0) (sp:=λ w=>K15.sp_law (K15.KX w.params)) rfl (by decide) rfl ⟨rfl,by decide,by decide,rfl⟩ (λ w h Y=>K15.ky_in (PySem.W.kIn_of Y)) (λ P=>by kernel_rfl) K15.ck_T ?F ?S ?C
  case F=>intro w o t h KX G i;have T:=L2.TX.mk' KX G;have j:=i.symm.trans (T.of (K15.g_law _));cases j;exact ⟨K15.fd_law,λ s u=>.of_eq rfl,λ p m r B=>K15.all_law T B⟩
  case S=>exact λ w H a d f g b=>⟨a,d,rfl,b,f,g,λ _=>rfl⟩
  case C=>exact λ _ _ _ _ _ z=>z
