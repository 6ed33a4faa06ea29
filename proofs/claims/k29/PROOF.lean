import PyProof.Rows.All
import Wide.All
import OpenK.AllK
import Wide.FinOn
import Lean
import PyProof.EqAt
import PyProof.EqKinds
import PyProof.TupleCall
import Open.Tops
import KE.KIntText
import PyProof.ZipIter
import PyProof.ReprRoads
import PyProof.Draws
import KE.KDictSum
import KE.KSortedM
import OpenK.KRaise
import OpenK.KOwn
import PyProof.ExcBaseAll.ValueError
import KE.KTryMore
import PyProof.NsDelKeeps
import KE.KDictOf
import KE.KEqDict
import PyProof.DictWalks
import PyProof.TupleKey
import PyProof.MinMaxWalk
import KE.KSortTup
import PyProof.StrWalks
import KE.KRevIter
import KE.KListMore
import PyProof.StrLawsTight
import PyProof.StrLawsChain
import PySem.Challenge.RW_talejudge_k29_beginnings_by_choices
open PySem.PyData renaming keyHash->j0,depthAll->F2,depth->j2c
open PySem.W renaming Frag->o0,nsIn->Q3,kia_one->S3,findIn->Y3,instObj->U4,keepIn->a5,kas_sort->g6,fnOf->O6,hideAll_get->p7,plainGet->Y7,lookIn->O8,codeIn->P8,plainGet_of->b9,excIn->j9,callWith_K->u9,methodObj->F9,hasDictIn->G9,takerIn->j03,hideAll->j04,isFn->j1g,cellsFrom_some->j1h,KasT->j1i,of_hideAll->j3f,specialIn->j42,plainOver->j43,kitx_list->j44,kitx_dict->j45
open PySem renaming wpAny_bind->v0,Shared->C0,wpAny_pure->F0,Params->Q0,wpAny->U0,World->Z0,model->G1,starEach->K1,reduceHash->R1,wpAny_holding->Z1,boot_len->A2,Around->P2,mainGlobals->U2,compareOp->X2,codeAny_builtin->K3,OsState->L3,wpAny_truthy_bool->O3,eval->V3,treeTable->W3,wpAny_pyNext_list_item->y4,wpAny_mono->A4,wpAny_Call_Name_kw->F4,backTo->P4,wpAny_pyNext_list_end->X4,strKind->Z4,wpAny_pyIter_list->b5,intKind->o5,bootBuiltins->v5,sysModules->A5,attributeBase->B5,codeAny->D5,wpAny_rule->S5,wpAny_passesOwn->b6,wpAny_newObj_type->y6,foldedSetIterable->z6,mem_of_lookup->B6,binaryOp->E6,NameKind->F6,wpAny_typeOf->G6,wpAny_isInstance->J6,codeAny_mono->K6,Keyword->Q6,intKind_is->U6,tupleKind->W6,keywordEach->X6,eqIsQuiet->Y6,wpAny_tryCatch->f7,placesWithHash->g7,wpAny_call_entry->C7,pyNext->D7,assignEach->E7,plainId_quiet->J7,sliceBounds->N7,callSpecialIfBoundUnlessNone?->O7,SetTable->P7,importedModules->V7,wpAny_tupleItemsOf->n8,tupleKind_room_in1->o8,getattributeRaised->p8,call_meets->v8,richCompare->E8,relabel->F8,getItem->G8,behindInMarks->N8,swapsWith->Z8,backToKw->a9,strKind_is->o9,holding->r9,Paired->v9,IsPart->y9,Builtin->z9,wpAny_execs_nil->A9,letOwnedTupleGo->B9,getAttrByItsOwn->C9,wpAny_seqItems->T9,codeAny_call_builtin->U9,boundAndCalled->V9,Fin->j05,wpAny_standAt->j08,wpAny_attempt->j09,atKey->j0a,valueAt->j0i,getAttr?->j0j,callerA->j10,Result->j1f,wpAny_of_eq->j25,wpAny_letGo->j26,subscripted->j27,wpAny_updateSeq->j2d,Within->j2g,wpAny_richCompare_same_room->j2j,standAt->j30,spliced->j31,dictSet->j32,wpAny_call->j36,typeLookup->j37,relayAll->j38,isInstance->j39,hookBehind->j3a,Thread->j3e
open List renaming getElem?_eq_getElem->A0,length_append->G0,length_map->I0,not_mem_nil->L0,getElem?_set_self->O0,replicate->P0,length_set->R0,getElem?_map->S0,size_toArray->V0,range->W0,length_cons->Y0,mem_of_getElem?->B1,getElem?_append_right->D1,getElem?_append_left->J1,append_nil->L1,getD_eq_getElem?_getD->P1,mem_append_right->Q1,mem_cons_of_mem->U1,map_append->V1,mem_cons_self->W1,getElem?_set_ne->X1,map_cons->Y1,append_assoc->E2,length_replicate->G2,forall_mem_cons->Q2,length_singleton->Z2,filter_cons_of_pos->u3,length_range->C3,getElem_mem->D3,getElem?_cons_succ->E3,filter_cons_of_neg->N3,length_nil->T3,foldl_cons->U3,mem_cons->Z3,getElem?_cons_zero->G4,filter_append->S4,mem_or_eq_of_mem_set->V4,find?_cons->W4,lookup_cons->w5,drop_zero->z5,take_of_length_le->E5,map_map->F5,nodup_cons->K5,all_cons->M5,length_filter_le->Q5,foldl_append->T5,length_take->A6,replicate_succ->C6,getElem_of_mem->D6,getElem?_replicate->P6,ext_getElem->b7,mem_append_left->v7,lookup->y7,forIn_cons->A7,mem_map_of_mem->F7,filterMap_cons->G7,map_nil->K7,forIn_nil->S7,nodup_append->a8,flatten_cons->f8,length_filterMap_le->g8,any_cons->j8,length_eraseIdx_le->y8,pairwise_lt_range->J8,all_map->K8,range_succ->S8,filterMap_append->W8,zip_cons_cons->R9,pairwise_map->X9,map_set->Y9,tail->j0b,length_drop->j0c,of_mem_zip->j0h,take_succ->j1b,sublist_append_right->j22,drop_eq_getElem_cons->j23,length_pos_of_mem->j33,take_append_drop->j3i,getElem?_eq_none->j3j,eraseIdx_sublist->j40,range'->j47,mem_erase_of_ne->j48,length_eraseIdx->j49,length->j4a
open PySem.Builtin.Tuple renaming tupleHashOf->B0,tupleExact->U5,tupleItemsOf->N9
open PySem.Heap renaming get?_push_of_some->J0,lt_size->T0,get?_push_size->C1,DictOf->w4,get?_update_other->O4,size_push->R6,SameBut->S6,get?_update_self->a7,SetOf->T7
open Nat renaming le_refl->K0,le_trans->N0,lt_of_le_of_lt->X0,ne_of_lt->A1,zero_le->J2,lt_of_lt_of_le->N2,lt_succ_of_lt->V2,le_succ->F3,lt_succ_self->J3,ne_of_gt->u4,lt_irrefl->C4,add_sub_cancel_left->K4,zero_add->G5,lt_trans->Q7,sub_self->Q8,le_of_lt->R8,mul_le_mul_right->w9,add_comm->j06,le_of_not_lt->j0f,le_add_right->j0g,not_lt_zero->j15,mod_lt->j21,lt_of_succ_lt_succ->j3h
open Bool renaming false_ne_true->E1,false_eq_true->Y2,and_eq_true_iff->X3,and_eq_true->Q4,true_and->N5,not_true->O5,false_and->U7,not_false->n9,or_false->P9,not_eq_true->j0e,and_false->j1c
open PySem.Value renaming ref->F1,type->G3,none->P3,isStrOf->X7,str->g9,int->i9,bool->E9,isInt->j3c,float->j3d
open Or renaming inr->N1,inl->O1
open Ne renaming symm->C2
open PySem.NameKind renaming free->K2
open Array renaming length_toList->O2,getElem?_eq_none->N4,getElem?_eq_getElem->j1d,mem_of_getElem?->j35
open Option.some renaming inj->T2
open PySem.PassesOwn renaming never->W2
open PySem.SetTable renaming below->A3,grown->P5,insertAt->D9,advance->j41
open PySem.Str renaming ofString->M3
open PyProof.Rows renaming boot_isinstance->R3,callWith_type1->E4,envOfC->L4,slot_tuple_getitem->T4,IntsAre->Y4,callWith_builtin1->L6,AllBare->L8,seqObj->q9,boot_all->j11,boot_list->j1e,boot_str->j3b
open Pure renaming pure->b4,pure->j2h
open PySem.Obj renaming mapSeq->B4,mapDictKeys->V8,putSet->W9
open ForInStep renaming yield->D4
open False renaming elim->J4
open PySem.Calls renaming spliced_cons->R4,spliced_nil->R5,evalArgs_plain->d9,Name_function_global->j17,callWith_builtin->j2i
open PySem.F renaming plain_max_loop->C5,plainAttrs_list->Z7,slot_dict_get->C8,slot_tuple_gt->m9,excBase_ValueError->L9,args_tuple_add_2->j14,entry_max_loop->j16,entry_tuple_add->j19,args_dict_get_3->j1a,slot_tuple_add->j1j,entry_dict_get->j20
open Int renaming emod_lt_of_pos->J5,toNat_natCast->Z5,emod_nonneg->N6,zero_add->V6,toNat_of_nonneg->K9
open PySem.Builtin.Slice renaming slicePlaces->L5,sliceAdjust->o7,sliceApplied->O9
open PySem.W.Fast renaming tw16697807410369149715->V5,tw13926502685295537346->W5,tw13383273872528276517->X5,te14364793385576792824->Y5,tw4214721358667687652->o6,tw14364793385576792824->B8
open PySem.Builtin.List renaming listTooLong->a6
open PySem.SeqAt.EqAt renaming same->v6,of_refs->U8,str_str->j28,str_int->j29,int_str->j2a,int_int->j2b
open PySem.Builtin.Dict renaming updateFrom->w6,selfAndRest->j00,addKeywords->j01,pairItems->j0d
open PyProof.Rows.F renaming entry_set_update_loop->T6
open PySem.Shared renaming TypeIs->Z6
open PySem.SetTable.below renaming go->k7
open List.Pairwise renaming nil->z7
open PySem.Code renaming builtin->L7,isFrame->Z9,frames->j4b
open PySem.Builtin.Str renaming occurrences->R7
open PySem.Paired renaming length->W7
open List.Sublist renaming append->z8,refl->X8
open PySem.Heap.SameBut renaming update->A8,refl->j24
open Option renaming map_some->D8,isSome_map->Q9,some_ne_none->j3g
open PySem.Builtin.Frozenset renaming updateFrom->T8
open PySem.Around renaming under_plainId->Y8,under->S9,under_plain->j4c
open PySem.Builtin.Builtins renaming bindParams->f9
open Prod.mk renaming injEq->k9
open PUnit renaming unit->J9
open Sum renaming inl->j02
open List.Perm renaming refl->j07
open PySem.SetTable.probe renaming go->j12
open PySem.SeqAt renaming EqAt->j13
open PySem.SeqAt.RcNeAt renaming lists->j18
open Sum.inr renaming inj->j2e
open PySem.SeqAt.RcAt renaming tuples->j2f
open PySem.Heap.DictOf renaming new->j34
open Prod renaming ext->j46
set_option maxRecDepth 100000
set_option maxHeartbeats 0
namespace PySem.W.Fast
noncomputable def tw11930754305740823209:=0
noncomputable def tw2606512564455052589:=0
noncomputable def tw15097545657790638484:=0
noncomputable def tw15287371799642408470:=0
noncomputable def tw4421927984140062510:=0
noncomputable def tw3364517112295147195:=0
noncomputable def tw4492724637772228225:=0
noncomputable def tw7671820671275220387:=0
noncomputable def tw10208769287784692445:=0
noncomputable def tw17111354787165946858:=0
noncomputable def tw6542552992075228092:=0
noncomputable def tw9794363699461218798:=0
noncomputable def tw8460307638106606278:=0
noncomputable def tw21396140059403717:=0
noncomputable def tw7581256568692485619:=0
end PySem.W.Fast
namespace K29
open_shared pre for PySem.Challenge.pw_talejudge_k29_beginnings_by_choices leaving 52
end K29
set_option maxHeartbeats 200000
-- CHANGE: your row's module here,as the last of these rows
set_option Elab.async false
set_option linter.all false
namespace L2
open PySem PySem.Spec PyProof.Rows
noncomputable abbrev Key:=Sum Int Str
noncomputable def keyIs:Key->Value->Bool
 | .inl k,v=>j3c k v
 | .inr x,v=>X7 x v
noncomputable def keyH (w:Z0):Key->Int
 | .inl k=>hashInt k
 | .inr x=>hashStr w x
theorem z0v :∀{k:Key} {v:Value},keyIs k v=true->(∃i t,k=j02 i/\v=i9 i t)\/(∃x t,k=Sum.inr x/\v=g9 x t)
 | .inl i,v,h=>by obtain ⟨t,e⟩:=Value.isInt_shape (k:=i) (v:=v) h;exact .inl ⟨i,t,rfl,e⟩
 | .inr x,v,h=>by obtain ⟨t,e⟩:=Value.isStrOf_shape (x:=x) (v:=v) h;exact .inr ⟨x,t,rfl,e⟩
theorem zgs (i:Int) (t:Tok):keyIs (.inl i) (.int i t)=true:=by simp [keyIs,j3c]
theorem zhn (x:Str) (t:Tok):keyIs (.inr x) (.str x t)=true:=by simp [keyIs,X7]
theorem key_ll (a b:Int):decide ((j02 a:Key)=j02 b)=(a == b):=by
 by_cases e:a=b
 ·subst e;simp
 ·have h:¬ (j02 a:Key)=j02 b:=λ q=>e (Sum.inl.inj q);rw [decide_eq_false h];exact (beq_eq_false_iff_ne.mpr e).symm
theorem key_rr (a b:Str):decide ((Sum.inr a:Key)=Sum.inr b)=decide (a=b):=by
 by_cases e:a=b
 ·subst e;simp
 ·have h:¬ (Sum.inr a:Key)=Sum.inr b:=λ q=>e (j2e q);rw [decide_eq_false h,decide_eq_false e]
theorem key_lr (a:Int) (b:Str):decide ((j02 a:Key)=Sum.inr b)=false:=decide_eq_false (λ q=>nomatch q)
theorem key_rl (a:Str) (b:Int):decide ((Sum.inr a:Key)=j02 b)=false:=decide_eq_false (λ q=>nomatch q)
noncomputable def z0j (prog:Program) (w:Z0):PySem.KeyKind prog w Key where
 is:=keyIs
 hash:=keyH w
 inj:=λ v a b ha hb=>by
  rcases z0v ha with ⟨i,t,rfl,rfl⟩|⟨x,t,rfl,rfl⟩
  ·rcases z0v hb with ⟨j,u,rfl,e⟩|⟨y,u,rfl,e⟩
   ·injection e with e1 _;rw [e1]
   ·exact nomatch e
  ·rcases z0v hb with ⟨j,u,rfl,e⟩|⟨y,u,rfl,e⟩
   ·exact nomatch e
   ·injection e with e1 _;rw [e1]
 byValue:=λ k v h=>by rcases z0v h with ⟨i,t,rfl,rfl⟩|⟨x,t,rfl,rfl⟩<;>rfl
 pyHash:=λ hv h=>by
  rcases z0v hv with ⟨i,t,rfl,rfl⟩|⟨x,t,rfl,rfl⟩
  ·exact wpAny_pyHash_int h
  ·exact wpAny_pyHash_str h
 eqBool:=λ hu hv h=>by
  rcases z0v hu with ⟨i,t,rfl,rfl⟩|⟨x,t,rfl,rfl⟩
  ·rcases z0v hv with ⟨j,u,rfl,rfl⟩|⟨y,u,rfl,rfl⟩
   ·rw [key_ll] at h;exact wpAny_eqBool_int h
   ·rw [key_lr] at h;exact j2a i t y u _ _ _ _ h
  ·rcases z0v hv with ⟨j,u,rfl,rfl⟩|⟨y,u,rfl,rfl⟩
   ·rw [key_rl] at h;exact j29 x t j u _ _ _ _ h
   ·rw [key_rr] at h;exact wpAny_eqBool_str h
 «strs»:=λ k x t v h=>by
  rcases z0v h with ⟨i,u,rfl,e⟩|⟨y,u,rfl,e⟩
  ·exact nomatch e
  ·injection e with e1 _;subst e1;cases v<;>rfl
theorem zda (prog:Program) (w:Z0) (i:Int) (t:Tok):(z0j prog w).is (.inl i) (.int i t)=true:=zgs i t
theorem zd4 (prog:Program) (w:Z0) (x:Str) (t:Tok):(z0j prog w).is (.inr x) (.str x t)=true:=zhn x t
inductive V where
 | non|bl (b:Bool)|int (i:Int)|str (x:Str)|byt (b:Array UInt8)|flt (b:UInt64)|ref (a:Addr)|ty (n:String)
 deriving DecidableEq
noncomputable def RelV:V->Value->Prop
 | .non,u=>u=P3
 | .bl b,u=>u=E9 b
 | .int i,u=>∃t,u=i9 i t
 | .str x,u=>∃t,u=g9 x t
 | .byt b,u=>∃t,u=Value.bytes b t
 | .flt b,u=>∃t,u=j3d b t
 | .ref a,u=>u=F1 a
 | .ty n,u=>u=G3 n
abbrev Vals:List V->List Value->Prop:=v9 RelV
theorem Vals.length {xs:List V} {us:List Value} (r:Vals xs us):xs.length=us.length:=W7 r
theorem Vals.get :∀{xs:List V} {us:List Value} {i:Nat} {x:V},Vals xs us->xs[i]? = some x->∃u,us[i]? = some u/\RelV x u
 | _,_,_,_,.nil,e=>by simp at e
 | _,_,0,_,.cons r _,e=>by simp at e;subst e;exact ⟨_,rfl,r⟩
 | _,_,i + 1,x,.cons _ t,e=>by obtain ⟨u,a,b⟩:=Vals.get (i:=i) (x:=x) t (by simpa using e);exact ⟨u,by simpa using a,b⟩
theorem Vals.set {x:V} {u:Value} (r:RelV x u) :∀{xs:List V} {us:List Value} (i:Nat),Vals xs us->Vals (xs.set i x) (us.set i u)
 | _,_,_,.nil=>.nil
 | _,_,0,.cons _ t=>.cons r t
 | _,_,i + 1,.cons q t=>.cons q (Vals.set r i t)
theorem Vals.append :∀{xs ys:List V} {us ws:List Value},Vals xs us->Vals ys ws->Vals (xs++ys) (us++ws)
 | _,_,_,_,.nil,s=>s
 | _,_,_,_,.cons r t,s=>.cons r (Vals.append t s)
theorem Vals.take :∀{xs:List V} {us:List Value} (n:Nat),Vals xs us->Vals (xs.take n) (us.take n)
 | _,_,0,_=>.nil
 | _,_,_ + 1,.nil=>.nil
 | _,_,n + 1,.cons r t=>.cons r (Vals.take n t)
theorem Vals.drop :∀{xs:List V} {us:List Value} (n:Nat),Vals xs us->Vals (xs.drop n) (us.drop n)
 | _,_,0,r=>r
 | _,_,_ + 1,.nil=>.nil
 | _,_,n + 1,.cons _ t=>Vals.drop n t
noncomputable def RelO:Option V->Option Value->Prop
 | some v,some u=>RelV v u
 | none,none=>True
 | _,_=>False
def KV {κ:Type}:List (κ×V)->List (κ×Value)->Prop:=v9 λ (p:κ×V) (q:κ×Value)=>p.1=q.1/\RelV p.2 q.2
noncomputable def kV:Key->V
 | .inl i=>.int i
 | .inr x=>.str x
inductive HO where
 | lst (xs:List V)
 | tup (xs:List V)
 | dK (kvs:List (Key×V))|dT (kvs:List (List Key×V))
 | set (S:Int->Bool) (n:Nat)
 | ins (C dx:Addr) (fs:List (Str×V))
 | own (x:Addr)
 | xd (fs:List (Str×V))
 | met (f x:Addr)
 | rng (lo hi:Int)
 | frz (o:Obj) (u:HO)
 | tbl (ps:Array Value)
 | ext (φ:Heap->Prop)
noncomputable abbrev Hp:=Addr->Option HO
noncomputable def upd (H:Hp) (a:Addr) (o:HO):Hp:=λ b=>if b=a then some o else H b
theorem z04 {H:Hp} {a:Addr} {o:HO}:upd H a o a=some o:=by unfold upd;rw [if_pos rfl]
theorem upd_ne {H:Hp} {a b:Addr} {o:HO} (h:b≠a):upd H a o b=H b:=by unfold upd;rw [if_neg h]
theorem ne_of {H:Hp} {a b:Addr} {o u:HO} (h:H a=some o) (h':H b=some u) (d:o≠u):a≠b:=by intro e;subst e;rw [h] at h';exact d (T2 h')
theorem z0p {H:Hp} {a b:Addr} {o:HO} (h:H a=some o) (h':H b=none):a≠b:=by intro e;subst e;rw [h] at h';cases h'
section
variable (P:Program) (w:Z0)
def IsTupN (h:Heap) (a:Addr) (items:Array Value):Prop:=IsTup h a items/\∃o,h.get? a=some o/\o.dict=none
theorem IsTupN.new (h:Heap) (items:Array Value):IsTupN (h.push { cls:=.type "tuple",data:=.seq items }) h.objs.size items:=⟨IsTup.new _ _,_,C1 _ rfl,rfl⟩
noncomputable def ObjOk (H:Hp) (h:Heap) (a:Addr):HO->Prop
 | .lst xs=>xs.length<=sizeLine/\∃(its:List Value) (n:Nat),Vals xs its/\h.get? a=some { cls:=.type "list",data:=.seq its.toArray n }
 | .tup xs=>xs.length<=sizeLine/\∃its:List Value,Vals xs its/\IsTupN h a its.toArray
 | .dK kvs=>kvs.length<=sizeLine/\(a == A5)=false/\∃vs,KV kvs vs/\h.DictOf (z0j P w) a vs
 | .dT kvs=>kvs.length<=sizeLine/\(a == A5)=false/\∃xs:List (List Key×Addr×Value),
   v9 (λ (p:List Key×V) (q:List Key×Addr×Value)=>p.1=q.1/\H q.2.1=some (.tup (p.1.map kV))/\RelV p.2 q.2.2) kvs xs/\
   ∃o es ep,h.get? a=some o/\o.ExactDict/\o.data=.dict es ep/\es.toList=xs.map (entryOfKey (W6 (z0j P w)))/\(xs.map (·.1)).Nodup
 | .set S n=>h.SetOf (o5 P w) a S n
 | .ins C dx fs=>H dx=some (.own a)/\fs.length<=1000/\dx≠a/\h.get? a=some (U4 C dx)/\
   ∃mA,h.Ns1 dx mA/\(∀f,RelO (fs.lookup f) (mA f))/\j2g mA (fs.map (·.1))
 | .own _=>∃o,h.get? a=some o
 | .xd fs=>∃mA,h.Ns1 a mA/\∀f,RelO (fs.lookup f) (mA f)
 | .rng lo hi=>∃t u v,h.get? a=some { cls:=.type "range",data:=.fields #[.int lo t,.int hi u,.int 1 v] }
 | .frz o u=>h.get? a=some o/\ObjOk H h a u
 | .tbl ps=>h.get? a=some { cls:=.none,data:=.fields ps }
 | .met f x=>h.get? a=some (F9 (.ref f) (.ref x))
 | .ext φ=>φ h/\(∃o,h.get? a=some o)/\∀h1 h2:Heap,φ h1->(∀o,h1.get? a=some o->h2.get? a=some o)->φ h2
def HOk (H:Hp) (h:Heap):Prop:=∀a o,H a=some o->ObjOk P w H h a o
end
section
variable {P:Program} {w:Z0} {H H':Hp} {h h':Heap} {a:Addr} {o:HO}
theorem ObjOk.lt (x:ObjOk P w H h a o):a < h.objs.size:=by
 cases o with
 | lst xs=>obtain ⟨_,_,_,_,e⟩:=x;exact T0 e
 | tup xs=>obtain ⟨_,_,_,p⟩:=x;exact p.1.lt
 | dK kvs=>obtain ⟨_,_,_,_,o,_,_,e,_⟩:=x;exact T0 e
 | dT kvs=>obtain ⟨_,_,_,_,o,_,_,e,_⟩:=x;exact T0 e
 | set S n=>obtain ⟨o,_,_,_,e,_⟩:=x;exact T0 e
 | ins C dx fs=>obtain ⟨_,_,_,e,_⟩:=x;exact T0 e
 | own y=>obtain ⟨_,e⟩:=x;exact T0 e
 | xd fs=>obtain ⟨_,⟨_,_,_,e,_⟩,_⟩:=x;exact T0 e
 | rng lo hi=>obtain ⟨_,_,_,e⟩:=x;exact T0 e
 | frz ob u=>obtain ⟨e,_⟩:=x;exact T0 e
 | tbl ps=>exact T0 (show h.get? a=some _ from x)
 | met f y=>exact T0 (show h.get? a=some _ from x)
 | ext φ=>obtain ⟨_,⟨_,e⟩,_⟩:=x;exact T0 e
theorem Paired.mapP {α β:Type} {F G:α->β->Prop} :∀{l₁:List α} {l₂:List β},v9 F l₁ l₂->(∀a b,F a b->G a b)->v9 G l₁ l₂
 | _,_,.nil,_=>.nil
 | _,_,.cons r t,f=>.cons (f _ _ r) (Paired.mapP t f)
theorem ObjOk.stay (x:ObjOk P w H h a o) (k :∀b u,(b=a\/H b=some (.own a))->h.get? b=some u->h'.get? b=some u)
  (ho :∀b,H b=some (.own a)->H' b=some (.own a)) (ht :∀b xs,H b=some (.tup xs)->H' b=some (.tup xs)):ObjOk P w H' h' a o:=by
 induction o with
 | lst xs=>obtain ⟨z,A,n,r,e⟩:=x;exact ⟨z,A,n,r,k _ _ (.inl rfl) e⟩
 | tup xs=>obtain ⟨z,A,r,⟨g,e,c⟩,F,s,E⟩:=x;exact ⟨z,A,r,⟨g,k _ _ (.inl rfl) e,c⟩,F,k _ _ (.inl rfl) s,E⟩
 | dK kvs=>obtain ⟨z,y,G,r,g,i,j,e,c⟩:=x;exact ⟨z,y,G,r,g,i,j,k _ _ (.inl rfl) e,c⟩
 | dT kvs=>obtain ⟨z,y,xs,r,g,i,j,e,c⟩:=x;exact ⟨z,y,xs,Paired.mapP r λ p q z=>⟨z.1,ht _ _ z.2.1,z.2.2⟩,g,i,j,k _ _ (.inl rfl) e,c⟩
 | set S n=>obtain ⟨g,i,j,t,e,c⟩:=x;exact ⟨g,i,j,t,k _ _ (.inl rfl) e,c⟩
 | ins C dx fs=>obtain ⟨d,z,D,e,m,⟨l,i,j,s,c⟩,r⟩:=x;exact ⟨ho _ d,z,D,k _ _ (.inl rfl) e,m,⟨l,i,j,k _ _ (.inr d) s,c⟩,r⟩
 | own y=>obtain ⟨g,e⟩:=x;exact ⟨g,k _ _ (.inl rfl) e⟩
 | xd fs=>obtain ⟨m,⟨l,i,j,e,c⟩,r⟩:=x;exact ⟨m,⟨l,i,j,k _ _ (.inl rfl) e,c⟩,r⟩
 | rng lo hi=>obtain ⟨t,u,v,e⟩:=x;exact ⟨t,u,v,k _ _ (.inl rfl) e⟩
 | frz g u ih=>obtain ⟨e,q⟩:=x;exact ⟨k _ _ (.inl rfl) e,ih q⟩
 | tbl ps=>have e:h.get? a=some { cls:=.none,data:=.fields ps }:=x;show h'.get? a=some { cls:=.none,data:=.fields ps };exact k a _ (.inl rfl) e
 | met f y=>have e:h.get? a=some (F9 (.ref f) (.ref y)):=x;show h'.get? a=some (F9 (.ref f) (.ref y));exact k a _ (.inl rfl) e
 | ext φ=>obtain ⟨p,⟨o,e⟩,B⟩:=x;exact ⟨B _ _ p λ o q=>k _ _ (.inl rfl) q,⟨o,k _ _ (.inl rfl) e⟩,B⟩
theorem HOk.lt (x:HOk P w H h) (e:H a=some o):a < h.objs.size:=(x a o e).lt
theorem HOk.fresh (x:HOk P w H h) (e:h.objs.size<=a):H a=none:=by
 cases q:H a with
 | none=>rfl
 | some u=>exact absurd (N2 (x.lt q) e) (C4 _)
theorem HOk.kept (x:HOk P w H h) (k :∀b u,h.get? b=some u->h'.get? b=some u):HOk P w H h':=λ a o e=>(x a o e).stay (λ b u _ q=>k b u q) (λ _ q=>q) λ _ _ q=>q
theorem HOk.laid (x:HOk P w H h) (k :∀b u,h.get? b=some u->h'.get? b=some u) (hp:h.objs.size<=a) (new:ObjOk P w (upd H a o) h' a o):HOk P w (upd H a o) h':=λ b u e=>by
 have d:=x.fresh hp;by_cases hb:b=a
 ·subst hb;rw [z04] at e;cases e;exact new
 ·rw [upd_ne hb] at e;exact (x b u e).stay (λ c v _ q=>k c v q) (λ c q=>by rw [upd_ne (z0p q d)];exact q) λ c f q=>by rw [upd_ne (z0p q d)];exact q
end
def Rd (H:Hp) (a:Addr) (u:HO):Prop:=H a=some u\/∃o,H a=some (.frz o u)
theorem Rd.ok {P:Program} {w:Z0} {H:Hp} {h:Heap} {a:Addr} {u:HO} (r:Rd H a u) (x:HOk P w H h):ObjOk P w H h a u:=by
 rcases r with r|⟨o,r⟩
 ·exact x a u r
 ·obtain ⟨_,q⟩:=x a _ r;exact q
noncomputable def Mut:Option HO->Prop
 | some (.lst _)=>True
 | some (.dK _)=>True
 | some (.dT _)=>True
 | some (.set _ _)=>True
 | some (.ins _ _ _)=>True
 | some (.ext _)=>True
 | _=>False
section
variable {P:Program} {w:Z0} {H:Hp} {h h':Heap} {x e:Addr} {o':HO}
theorem HOk.write (ok:HOk P w H h) (mu:Mut (H x)) (he:e=x\/H e=some (.own x)) (k :∀b u,b≠e->h.get? b=some u->h'.get? b=some u) (heo :∃u,h'.get? e=some u)
  (new:ObjOk P w (upd H x o') h' x o'):HOk P w (upd H x o') h':=λ b u q=>by
 have g :∀c y,H c=some (.own y)->c≠x:=λ c y r z=>by subst z;rw [r] at mu;exact mu
 have i :∀c a,H c=some (.tup a)->c≠x:=λ c a r z=>by subst z;rw [r] at mu;exact mu
 by_cases hb:b=x
 ·subst hb;rw [z04] at q;cases q;exact new
 ·rw [upd_ne hb] at q;by_cases hbe:b=e
  ·have f:H b=some (.own x):=by
    rcases he with z|z
    ·exact absurd (hbe.trans z) hb
    ·rw [hbe];exact z
   rw [q] at f;cases f;obtain ⟨v,j⟩:=heo;exact ⟨v,by rw [hbe];exact j⟩
  ·refine (ok b u q).stay (λ c v d r=>k c v ?_ r) (λ c r=>by rw [upd_ne (g c b r)];exact r) λ c a r=>by rw [upd_ne (i c a r)];exact r
   rcases d with rfl|d
   ·exact hbe
   ·rintro rfl;rcases he with z|z
    ·exact g c b d z
    ·rw [d] at z;cases z;exact hb rfl
end
structure Un (fs ex:List Addr) (H H':Hp) (h h':Heap):Prop where
 keep :∀b o,h.get? b=some o->H b=none->b∉fs->b∉ex->h'.get? b=some o
 slot :∀b o,h.get? b=some o->H b=none->b∈fs->b∉ex->∃sl,h'.get? b=some { o with slots:=sl }
 free :∀b o,h.get? b=some o->H b=none->b∉ex->H' b=none
 there :∀b o,h.get? b=some o->b∉ex->∃o',h'.get? b=some o'
 tups :∀b xs,H b=some (.tup xs)->H' b=some (.tup xs)
 frzs :∀b o u,H b=some (.frz o u)->H' b=some (.frz o u)
 tbls :∀b ps,H b=some (.tbl ps)->∃more,H' b=some (.tbl (ps++more))
section
variable {fs fs' ex ex':List Addr} {H H1 H2:Hp} {h h1 h2 h':Heap} {a x e:Addr} {o:HO}
theorem Un.any (u:Un fs ex H H1 h h1) {b:Addr} {ob:Obj} (q:h.get? b=some ob) (n:H b=none) (hx:b∉ex) :∃sl,h1.get? b=some { ob with slots:=sl }:=by
 by_cases hb:b∈fs
 ·exact u.slot b ob q n hb hx
 ·exact ⟨ob.slots,u.keep b ob q n hb hx⟩
theorem Un.kept (k :∀b u,h.get? b=some u->h'.get? b=some u):Un fs ex H H h h':=
 ⟨λ b a q _ _ _=>k b a q,λ b a q _ _ _=>⟨a.slots,k b a q⟩,λ _ _ _ n _=>n,λ b a q _=>⟨a,k b a q⟩,λ _ _ q=>q,λ _ _ _ q=>q,λ _ c q=>⟨#[],by rw [q];simp⟩⟩
theorem Un.refl:Un fs ex H H h h:=Un.kept λ _ _ q=>q
theorem Un.laid (k :∀b u,h.get? b=some u->h'.get? b=some u) (hp:h.objs.size<=a) (hn:H a=none):Un fs ex H (upd H a o) h h' where
 keep:=λ b u q _ _ _=>k b u q
 slot:=λ b u q _ _ _=>⟨u.slots,k b u q⟩
 free:=λ b u q n _=>by rw [upd_ne (A1 (N2 (T0 q) hp))];exact n
 there:=λ b u q _=>⟨u,k b u q⟩
 tups:=λ b c q=>by rw [upd_ne (z0p q hn)];exact q
 frzs:=λ b u c q=>by rw [upd_ne (z0p q hn)];exact q
 tbls:=λ b d q=>⟨#[],by rw [upd_ne (z0p q hn),q];simp⟩
theorem Un.write (mu:Mut (H x)) (he:e=x\/H e=some (.own x)) (k :∀b u,b≠e->h.get? b=some u->h'.get? b=some u) (heo :∃u,h'.get? e=some u):Un fs ex H (upd H x o) h h':=by
 have c :∀b,H b=none->b≠x:=λ b n z=>by subst z;rw [n] at mu;exact mu
 have d :∀b,H b=none->b≠e:=λ b n z=>by
  subst z;rcases he with r|r
  ·exact c b n r
  ·rw [n] at r;cases r
 have a :∀b u,H b=some u->¬ Mut (some u)->b≠x:=λ b u q g z=>by subst z;rw [q] at mu;exact g mu
 refine ⟨λ b u q n _ _=>k b u (d b n) q,λ b u q n _ _=>⟨u.slots,k b u (d b n) q⟩,λ b u q n _=>by rw [upd_ne (c b n)];exact n,λ b u q _=>?_,
  λ b f q=>by rw [upd_ne (a b _ q λ z=>z)];exact q,λ b u f q=>by rw [upd_ne (a b _ q λ z=>z)];exact q,λ b i q=>⟨#[],by rw [upd_ne (a b _ q λ z=>z),q];simp⟩⟩
 by_cases hbe:b=e
 ·subst hbe;exact heo
 ·exact ⟨u,k b u hbe q⟩
end
noncomputable def trk (h:Heap) (H:Hp):List Addr:=(W0 h.objs.size).filter λ a=>(H a).isSome
noncomputable def hidT (h:Heap) (H:Hp):Heap:=j04 h (trk h H)
theorem zhk (h:Heap) (H:Hp):(hidT h H).objs.size=h.objs.size:=PySem.W.hideAll_size _ _
theorem zjp {h:Heap} {H:Hp} {b:Addr} {o:Obj} (e:h.get? b=some o) (n:H b=none):(hidT h H).get? b=some o:=
 p7 _ e λ a=>by have q:(H b).isSome=true:=(List.mem_filter.mp a).2;rw [n] at q;simp at q
theorem zki {h:Heap} {H:Hp} {b:Addr} {o:Obj} (e:(hidT h H).get? b=some o):h.get? b=some o/\H b=none:=by
 have a:h.get? b=some o:=j3f (trk h H) e;refine ⟨a,?_⟩;cases q:H b with
 | none=>rfl
 | some x=>have c:b∈trk h H:=List.mem_filter.mpr ⟨List.mem_range.mpr (T0 a),by simp [q]⟩;have z:(hidT h H).get? b=none:=PySem.W.hideAll_none (trk h H) c;rw [z] at e;cases e
noncomputable def zk7 (g h:Heap) (L:Addr):List (Addr×Obj):=(W0 h.objs.size).filterMap λ a=>if a=L\/(g.get? a).isSome=true then none else (h.get? a).map λ o=>(a,o)
noncomputable def rest (g h:Heap) (L d:Addr):List (Addr×Obj):=(zk7 g h L).filter λ p=>decide (p.1≠d)
structure Mod (K:o0) (mg:Str->Option Value) (base:Heap):Prop where
 kin:K.In base
 glob:base.Ns U2 mg
 blt :∃mb,base.Ns builtinsNs mb/\∀x:Str,x≠"__name__"->mb x=v5 x
 nolimit:base.NoLimit
structure Cx where
 prog:Program
 w:Z0
 K:o0
 mg:Str->Option Value
 base:Heap
 A:P2
 N:List Str
 s₀:C0
 H₀:Hp
 env:Env
 outer:List Env
 stack:List Env
 ex:List Addr
 fn:Str->Bool
 calm:Bool
 pn:List (Addr×Obj)
 xe:Value->C0->Prop
noncomputable def frs (l:List Env):List Addr:=l.filterMap (·.frame)
noncomputable abbrev Cx.fs (X:Cx):List Addr:=frs X.outer
def Vis (sc:Scope) (x:Str):Prop:=sc.names.lookup x=some .local\/sc.names.lookup x=some .cell\/sc.names.lookup x=some .free
def Loc (sc:Scope) (x:Str):Prop:=sc.names.lookup x=some .local\/sc.names.lookup x=some .cell
def Look (env:Env) (h:Heap) (m:Str->Option Value) (x:Str) (u:Value):Prop:=
 (env.kindOf x=some .local/\m x=some u)\/((env.kindOf x=some .cell\/env.kindOf x=some .free)/\∃c,env.cells.lookup x=some c/\h.IsCell c (some u))
structure Cx.Ok (X:Cx):Prop where
 mod:Mod X.K X.mg X.base
 kind:X.env.scope.kind=.function
 glob:X.env.globals=U2
 blt:X.env.builtins=builtinsNs
 above:X.s₀.heap.objs.size<=X.env.locals
 inj :∀x y c,X.env.cells.lookup x=some c->X.env.cells.lookup y=some c->x=y
 has :∀x,(X.env.kindOf x=some .cell\/X.env.kindOf x=some .free)->∃c,X.env.cells.lookup x=some c
 cab :∀x c,X.fn x=true->X.env.cells.lookup x=some c->X.s₀.heap.objs.size<=c
 hd:X.calm=true->X.A.handled=none
 frames:X.A.frames=some X.stack
 stk:X.stack=X.outer\/(X.stack=X.env :: X.outer/\X.env.frame=some X.env.locals)
 exf :∀b∈X.ex,b≠X.env.locals/\∀x c,X.env.cells.lookup x=some c->c≠b
 bs :∀b o,X.base.get? b=some o->X.s₀.heap.get? b=some o/\X.H₀ b=none
 bsz:X.base.objs.size<=X.s₀.heap.objs.size
 noex :∀b o,X.base.get? b=some o->b∉X.ex
 exfs :∀b∈X.ex,b∉X.fs
 funs:X.s₀.heap.FunFrames X.base X.outer
 frf :∀b∈X.fs,X.H₀ b=none
structure Inv (X:Cx) (pins:List (Addr×Obj)) (σ:List (Option V)) (H:Hp) (s:C0):Prop where
 ok:X.Ok
 os:s.os=X.s₀.os
 bare:L8 s.gens
 base:Un X.fs X.ex X.H₀ H X.s₀.heap s.heap
 loc :∃m,s.heap.Ns X.env.locals m/\∀(i:Nat) (x:Str) (v:V),X.N[i]? = some x->σ[i]? = some (some v)->Vis X.env.scope x->∃u,RelV v u/\Look X.env s.heap m x u
 cell :∀x c,X.env.cells.lookup x=some c->∃v,s.heap.IsCell c v
 free:H X.env.locals=none
 freeC :∀x c,X.env.cells.lookup x=some c->H c=none
 pin :∀p∈X.pn++pins,s.heap.get? p.1=some p.2/\H p.1=none/\p.1≠X.env.locals/\p.1∉X.fs/\∀v,p.2.data≠.cell v
 hok:HOk X.prog X.w H s.heap
 len:σ.length=X.N.length
section
variable {X:Cx} {pins:List (Addr×Obj)} {σ:List (Option V)} {H H':Hp} {s:C0} {h':Heap}
theorem Cx.Ok.nofr (ok:X.Ok) {b:Addr} {o:Obj} (e:X.base.get? b=some o):b∉X.fs:=λ a=>by have:=(ok.funs.mem a).1;rw [e] at this;cases this
theorem Inv.bs (I:Inv X pins σ H s) :∀b o,X.base.get? b=some o->s.heap.get? b=some o/\H b=none:=λ b o e=>⟨I.base.keep b o (I.ok.bs b o e).1 (I.ok.bs b o e).2 (I.ok.nofr e) (I.ok.noex b o e),I.base.free b o (I.ok.bs b o e).1 (I.ok.bs b o e).2 (I.ok.noex b o e)⟩
theorem Inv.bk (I:Inv X pins σ H s) :∀b o,X.base.get? b=some o->s.heap.get? b=some o:=λ b o e=>(I.bs b o e).1
theorem Inv.mod (I:Inv X pins σ H s):Mod X.K X.mg X.base:=I.ok.mod
theorem Inv.kIn (I:Inv X pins σ H s):X.K.In s.heap:=I.ok.mod.kin.keeps I.bk
theorem Inv.lt (I:Inv X pins σ H s):X.env.locals < s.heap.objs.size:=let ⟨_,hn,_⟩:=I.loc;hn.lt
theorem Inv.sz (I:Inv X pins σ H s):X.s₀.heap.objs.size<=s.heap.objs.size:=N0 I.ok.above (R8 I.lt)
theorem Inv.nofs (I:Inv X pins σ H s) {a:Addr} (h:s.heap.objs.size<=a):a∉X.fs:=λ b=>by obtain ⟨_,o,c,_⟩:=I.ok.funs.mem b;exact absurd (N2 (T0 c) (N0 I.sz h)) (C4 _)
theorem Inv.cne (I:Inv X pins σ H s) :∀x c,X.env.cells.lookup x=some c->c≠X.env.locals:=λ x c e z=>by obtain ⟨v,o,a,b⟩:=I.cell x c e;obtain ⟨m,⟨h,g,i,d,f,_⟩,_⟩:=I.loc;rw [z,d] at a;cases a;rw [f] at b;cases b
theorem Inv.funs (I:Inv X pins σ H s):s.heap.FunFrames X.base X.outer:=by
 have all :∀(l:List Env),(∀b∈frs l,b∈X.fs)->X.s₀.heap.FunFrames X.base l->s.heap.FunFrames X.base l:=by
  intro l;induction l with
  | nil=>intro _ _;trivial
  | cons env r ih=>intro f h;obtain ⟨m,⟨L,o,c,j,g,k⟩,i⟩:=h;have a:L∈X.fs:=f L (by unfold frs;rw [G7,c];exact W1);obtain ⟨n,e⟩:=I.base.slot L o g (I.ok.frf L a) a λ z=>I.ok.exfs L z a;exact ⟨m,⟨L,_,c,j,e,k⟩,ih (λ b d=>f b (by unfold frs;rw [G7,c];exact U1 _ d)) i⟩
 exact all X.outer (λ _ d=>d) I.ok.funs
theorem Inv.stack (I:Inv X pins σ H s):s.heap.FunFrames X.base X.stack:=by
 rcases I.ok.stk with e|⟨e,hf⟩
 ·rw [e];exact I.funs
 ·rw [e];obtain ⟨m,a,_⟩:=I.loc;refine .cons (by rw [I.ok.kind];decide) hf a ?_ I.funs;exact Heap.get?_none_of_le (N0 I.ok.bsz I.ok.above)
theorem Inv.stkSub (I:Inv X pins σ H s) :∀b∈frs X.stack,b∈X.env.locals :: X.fs:=λ b a=>by
 rcases I.ok.stk with e|⟨e,hf⟩
 ·rw [e] at a;exact U1 _ a
 ·rw [e] at a;unfold frs at a;rw [G7,hf] at a;exact a
theorem Inv.stkFree (I:Inv X pins σ H s) :∀b∈frs X.stack,H b=none:=λ b a=>by
 rcases List.mem_cons.mp (I.stkSub b a) with e|a
 ·rw [e];exact I.free
 ·obtain ⟨_,o,c,_⟩:=I.ok.funs.mem a;exact I.base.free b o c (I.ok.frf b a) λ z=>I.ok.exfs b z a
theorem Inv.step {g':Array GenState} {t':Nat} {d':Drawn} {ch:List Addr} (I:Inv X pins σ H s)
  (hch :∀b∈ch,(b∈X.ex\/X.s₀.heap.objs.size<=b)/\b≠X.env.locals/\(∀x c,X.env.cells.lookup x=some c->c≠b)/\∀p∈X.pn++pins,p.1≠b)
  (keep :∀b o,b≠X.env.locals->b∉X.fs->b∉ch->s.heap.get? b=some o->H b=none->h'.get? b=some o)
  (slot :∀b o,b≠X.env.locals->b∈X.fs->b∉ch->s.heap.get? b=some o->H b=none->∃sl,h'.get? b=some { o with slots:=sl }) (free :∀b o,b∉ch->s.heap.get? b=some o->H b=none->H' b=none)
  (there :∀b o,b∉ch->s.heap.get? b=some o->∃o',h'.get? b=some o')
  (tups :∀b xs,H b=some (.tup xs)->H' b=some (.tup xs)) (frzs :∀b o u,H b=some (.frz o u)->H' b=some (.frz o u)) (tbls :∀b ps,H b=some (.tbl ps)->∃more,H' b=some (.tbl (ps++more)))
  (ns :∀m,s.heap.Ns X.env.locals m->h'.Ns X.env.locals m) (hok:HOk X.prog X.w H' h') (hg:L8 g') :
  Inv X pins σ H' { s with heap:=h',gens:=g',drawn:=d',toks:=t' }:=by
 have D :∀b o,X.s₀.heap.get? b=some o->b≠X.env.locals:=λ b o e=>A1 (N2 (T0 e) I.ok.above);have y :∀b o,X.s₀.heap.get? b=some o->b∉X.ex->b∉ch:=λ b o e a g=>by
  rcases (hch b g).1 with z|z
  ·exact a z
  ·exact absurd (N2 (T0 e) z) (C4 _)
 have B :∀x c,X.env.cells.lookup x=some c->∀v,s.heap.IsCell c v->h'.IsCell c v:=λ x c e v ⟨o,h,A⟩=>by
  have j:c∉ch:=λ z=>(hch c z).2.2.1 x c e rfl;by_cases hc:c∈X.fs
  ·obtain ⟨sl,q⟩:=slot c o (I.cne x c e) hc j h (I.freeC x c e);exact ⟨_,q,A⟩
  ·exact ⟨o,keep c o (I.cne x c e) hc j h (I.freeC x c e),A⟩
 refine ⟨I.ok,I.os,hg,⟨λ b o e n g a=>?_,λ b o e n g a=>?_,λ b o e n a=>?_,λ b o e a=>?_,λ b xs e=>tups b xs (I.base.tups b xs e),λ b o xs e=>frzs b o xs (I.base.frzs b o xs e),λ b ps e=>?_⟩,?_,λ x c e=>?_,?_,λ x c e=>?_,λ p F=>?_,hok,I.len⟩
 ·exact keep b o (D b o e) g (y b o e a) (I.base.keep b o e n g a) (I.base.free b o e n a)
 ·obtain ⟨sl,f⟩:=I.base.slot b o e n g a;obtain ⟨N,t⟩:=slot b _ (D b o e) g (y b o e a) f (I.base.free b o e n a);exact ⟨N,t⟩
 ·obtain ⟨o',f⟩:=I.base.there b o e a;exact free b o' (y b o e a) f (I.base.free b o e n a)
 ·obtain ⟨o',f⟩:=I.base.there b o e a;exact there b o' (y b o e a) f
 ·obtain ⟨G,f⟩:=I.base.tbls b ps e;obtain ⟨K,t⟩:=tbls b _ f;exact ⟨G++K,by rw [t,Array.append_assoc]⟩
 ·obtain ⟨m,L,J⟩:=I.loc;refine ⟨m,ns m L,λ i x v f t M=>?_⟩;obtain ⟨u,r,l⟩:=J i x v f t M;refine ⟨u,r,?_⟩;rcases l with l|⟨k,c,e,z⟩
  ·exact .inl l
  ·exact .inr ⟨k,c,e,B x c e _ z⟩
 ·obtain ⟨v,z⟩:=I.cell x c e;exact ⟨v,B x c e v z⟩
 ·obtain ⟨m,⟨o,_,_,h,_⟩,_⟩:=I.loc;exact free _ o (λ z=>(hch _ z).2.1 rfl) h I.free
 ·obtain ⟨v,o,h,A⟩:=I.cell x c e;exact free c o (λ z=>(hch c z).2.2.1 x c e rfl) h (I.freeC x c e)
 ·obtain ⟨e,n,C,E,d⟩:=I.pin p F;have j:p.1∉ch:=λ z=>(hch p.1 z).2.2.2 p F rfl;exact ⟨keep p.1 p.2 C E j e n,free p.1 p.2 j e n,C,E,d⟩
theorem Inv.un {t':Nat} (I:Inv X pins σ H s) (u:Un X.fs [] H H' s.heap h') (hok:HOk X.prog X.w H' h'):Inv X pins σ H' { s with heap:=h',toks:=t' }:=by obtain ⟨m,⟨o,k,q,d,r⟩,_⟩:=id I.loc;obtain ⟨p,f⟩:=u.any d I.free (by simp);exact I.step (g':=s.gens) (d':=s.drawn) (ch:=[]) (λ _ z=>nomatch z) (λ b o _ a _ e n=>u.keep b o e n a (by simp)) (λ b o _ a _ e n=>u.slot b o e n a (by simp)) (λ b o _ e n=>u.free b o e n (by simp)) (λ b o _ e=>u.there b o e (by simp)) u.tups u.frzs u.tbls (λ l g=>by obtain ⟨t,h,j,c,i⟩:=g;rw [d] at c;cases c;exact ⟨_,h,j,f,i⟩) hok I.bare
theorem Inv.call {g':Array GenState} {t':Nat} {d':Drawn} {ch:List Addr} (I:Inv X pins σ H s) (u:Un (frs X.stack) ch H H' s.heap h') (hok:HOk X.prog X.w H' h') (hg:L8 g')
  (hch :∀b∈ch,(b∈X.ex\/X.s₀.heap.objs.size<=b)/\b≠X.env.locals/\(∀x c,X.env.cells.lookup x=some c->c≠b)/\∀p∈X.pn++pins,p.1≠b) :
  Inv X pins σ H' { s with heap:=h',gens:=g',drawn:=d',toks:=t' }:=by
 obtain ⟨m,⟨o,q,y,g,r⟩,_⟩:=id I.loc;obtain ⟨v,d⟩:=u.any g I.free λ z=>(hch _ z).2.1 rfl;exact I.step (ch:=ch) hch (λ b o d h a e n=>u.keep b o e n (λ z=>(List.mem_cons.mp (I.stkSub b z)).elim d h) a) (λ b o _ _ a e n=>u.any e n a) (λ b o a e n=>u.free b o e n a) (λ b o a e=>u.there b o e a) u.tups u.frzs u.tbls (λ t i=>by obtain ⟨A,j,l,f,k⟩:=i;rw [g] at f;cases f;exact ⟨_,j,l,d,k⟩) hok hg
theorem Inv.turned {t':Nat} {it:Addr} (I:Inv X pins σ H s) (k :∀b o,b≠it->s.heap.get? b=some o->h'.get? b=some o) (hn:H it=none) (hL:it≠X.env.locals)
  (h1:it∈X.ex\/X.s₀.heap.objs.size<=it) (h2 :∀x c,X.env.cells.lookup x=some c->c≠it) (h3 :∀p∈X.pn++pins,p.1≠it):Inv X pins σ H { s with heap:=h',toks:=t' }:=by
 have d :∀b u,H b=some u->b≠it:=λ b u e z=>by rw [z,hn] at e;cases e
 refine I.step (g':=s.gens) (d':=s.drawn) (ch:=[it]) (λ b i=>?_) (λ b o _ _ a e _=>k b o (λ z=>a (by simp [z])) e) (λ b o _ _ a e _=>⟨o.slots,k b o (λ z=>a (by simp [z])) e⟩) (λ _ _ _ _ n=>n)
  (λ b o a e=>⟨o,k b o (λ z=>a (by simp [z])) e⟩) (λ _ _ e=>e) (λ _ _ _ e=>e) (λ b l e=>⟨#[],by rw [e];simp⟩) (λ m h=>?_) (λ b u e=>?_) I.bare
 ·have e:b=it:=by simpa using i
  subst e;exact ⟨h1,hL,h2,h3⟩
 ·obtain ⟨o,g,j,f,r⟩:=h;exact ⟨o,g,j,k _ o (C2 hL) f,r⟩
 ·refine (I.hok b u e).stay (λ c v a q=>k c v ?_ q) (λ _ q=>q) λ _ _ q=>q;rcases a with z|z
  ·rw [z];exact d b u e
  ·exact d c _ z
theorem Inv.tok (I:Inv X pins σ H s) (t:Nat):Inv X pins σ H { s with toks:=t }:=I.un (h':=s.heap) (t':=t) Un.refl I.hok
theorem Inv.kept {t':Nat} (I:Inv X pins σ H s) (k :∀b u,s.heap.get? b=some u->h'.get? b=some u):Inv X pins σ H { s with heap:=h',toks:=t' }:=I.un (Un.kept k) (I.hok.kept k)
theorem Inv.laid {a:Addr} {o:HO} {t':Nat} (I:Inv X pins σ H s) (k :∀b u,s.heap.get? b=some u->h'.get? b=some u) (hp:s.heap.objs.size<=a) (new:ObjOk X.prog X.w (upd H a o) h' a o) :
  Inv X pins σ (upd H a o) { s with heap:=h',toks:=t' }:=I.un (Un.laid k hp (I.hok.fresh hp)) (I.hok.laid k hp new)
theorem Inv.write {x e:Addr} {o:HO} {t':Nat} (I:Inv X pins σ H s) (mu:Mut (H x)) (he:e=x\/H e=some (.own x)) (k :∀b u,b≠e->s.heap.get? b=some u->h'.get? b=some u) (heo :∃u,h'.get? e=some u)
  (new:ObjOk X.prog X.w (upd H x o) h' x o):Inv X pins σ (upd H x o) { s with heap:=h',toks:=t' }:=I.un (Un.write mu he k heo) (I.hok.write mu he k heo new)
theorem Inv.weak {σ':List (Option V)} (I:Inv X pins σ H s) (hl:σ'.length=σ.length) (w :∀(i:Nat) v,σ'[i]? = some (some v)->σ[i]? = some (some v)):Inv X pins σ' H s:=
 ⟨I.ok,I.os,I.bare,I.base,let ⟨m,hn,hl'⟩:=I.loc;⟨m,hn,λ i x v b a c=>hl' i x v b (w i v a) c⟩,I.cell,I.free,I.freeC,I.pin,I.hok,hl.trans I.len⟩
theorem Inv.pins_of {pins':List (Addr×Obj)} (I:Inv X pins σ H s) (h :∀p∈pins',s.heap.get? p.1=some p.2/\H p.1=none/\p.1≠X.env.locals/\p.1∉X.fs/\∀v,p.2.data≠.cell v):Inv X pins' σ H s:=
 ⟨I.ok,I.os,I.bare,I.base,I.loc,I.cell,I.free,I.freeC,λ p a=>(List.mem_append.mp a).elim (λ z=>I.pin p (v7 _ z)) (h p),I.hok,I.len⟩
theorem zdx {N:List Str} (hN:N.Nodup) {i j:Nat} {x:Str} (a:N[i]? = some x) (b:N[j]? = some x):i=j:=by obtain ⟨e,d⟩:=List.getElem?_eq_some_iff.mp a;obtain ⟨f,c⟩:=List.getElem?_eq_some_iff.mp b;exact (List.getElem_inj hN).mp (d.trans c.symm)
theorem zgt {M:Model} {A:P2} {E:Value->C0->Prop} {i:Nat} {x:Str} {v:V} {u:Value} {Q:Unit->C0->Prop} (I:Inv X pins σ H s) (hN:X.N.Nodup) (hi:X.N[i]? = some x) (hx:Loc X.env.scope x) (r:RelV v u)
  (h :∀s',Inv X pins (σ.set i (some v)) H s'->(∃a,S6 a s.heap s'.heap/\(a=X.env.locals\/X.env.cells.lookup x=some a))->Q () s') (hf:X.fn x=true\/X.env.scope.names.lookup x=some .local:=by first|exact .inl rfl|exact .inr rfl|assumption):U0 M A (storeName X.env x u) Q E s:=by
 obtain ⟨m,L,Z⟩:=id I.loc;have a7:(X.env.scope.kind == .class || (X.env.scope.kind == .module && X.env.locals != X.env.globals))=false:=by rw [I.ok.kind];rfl
 have Y:i < σ.length:=by rw [I.len];exact (List.getElem?_eq_some_iff.mp hi).1
 have cne:=I.cne;have a1 :∀{a:Addr} {C:Heap},(∃o,s.heap.get? a=some o/\H a=none)->S6 a s.heap C->HOk X.prog X.w H C:=λ {a C} ha f b ob e=>by
  obtain ⟨_,_,a3⟩:=ha;refine (I.hok b ob e).stay (λ c F l q=>(f.2 c ?_).trans q) (λ _ q=>q) λ _ _ q=>q;rintro rfl;rcases l with rfl|l
  ·rw [a3] at e;cases e
  ·rw [a3] at l;cases l
 rcases hx with hk|hk
 ·refine wpAny_storeName_local hk L (λ C a6 f=>?_) a7;obtain ⟨oL,_,_,a5,_⟩:=id L;refine h _ ⟨I.ok,I.os,I.bare,⟨λ b o e n B hx=>?_,λ b o e n B hx=>?_,I.base.free,λ b o e hx=>?_,I.base.tups,I.base.frzs,I.base.tbls⟩,⟨_,a6,λ j y S g t R=>?_⟩,λ y c e=>?_,I.free,I.freeC,λ p W=>?_,a1 ⟨oL,a5,I.free⟩ f,by simpa using I.len⟩ ⟨_,f,.inl rfl⟩
  ·exact (f.2 b (A1 (N2 (T0 e) I.ok.above))).trans (I.base.keep b o e n B hx)
  ·obtain ⟨J,g⟩:=I.base.slot b o e n B hx;exact ⟨J,(f.2 b (A1 (N2 (T0 e) I.ok.above))).trans g⟩
  ·obtain ⟨U,g⟩:=I.base.there b o e hx;exact ⟨U,(f.2 b (A1 (N2 (T0 e) I.ok.above))).trans g⟩
  ·by_cases hj:j=i
   ·subst hj;rw [hi] at g;cases g;rw [O0 Y] at t;cases t;exact ⟨u,r,.inl ⟨hk,by simp⟩⟩
   ·rw [X1 (C2 hj)] at t;obtain ⟨O,T,q⟩:=Z j y S g t R;refine ⟨O,T,?_⟩;rcases q with ⟨k,e⟩|⟨k,c,e,z⟩
    ·refine .inl ⟨k,?_⟩;have:y≠x:=λ e=>hj (zdx hN g (e ▸ hi));simp [this,e]
    ·exact .inr ⟨k,c,e,z.sameBut f (cne y c e)⟩
  ·obtain ⟨F,z⟩:=I.cell y c e;exact ⟨F,z.sameBut f (cne y c e)⟩
  ·obtain ⟨e,n,D,P,d⟩:=I.pin p W;exact ⟨(f.2 p.1 D).trans e,n,D,P,d⟩
 ·have K:X.fn x=true:=by
   rcases hf with z|z
   ·exact z
   ·rw [z] at hk;cases hk
  obtain ⟨c,l⟩:=I.ok.has x (.inl hk);obtain ⟨F,z⟩:=I.cell x c l;refine wpAny_storeName_cell I.ok.kind hk l z (λ C a0 f=>?_);obtain ⟨oc,a2,a4⟩:=id z;refine h { s with heap:=C } ⟨I.ok,I.os,I.bare,⟨λ b o e n B hx=>?_,λ b o e n B hx=>?_,I.base.free,λ b o e hx=>?_,I.base.tups,I.base.frzs,I.base.tbls⟩,⟨m,L.sameBut f (C2 (cne x c l)),λ j y S g t R=>?_⟩,λ y G e=>?_,I.free,I.freeC,λ p W=>?_,a1 ⟨oc,a2,I.freeC x c l⟩ f,by simpa using I.len⟩ ⟨c,f,.inr l⟩
  ·exact (f.2 b (A1 (N2 (T0 e) (I.ok.cab x c K l)))).trans (I.base.keep b o e n B hx)
  ·obtain ⟨J,g⟩:=I.base.slot b o e n B hx;exact ⟨J,(f.2 b (A1 (N2 (T0 e) (I.ok.cab x c K l)))).trans g⟩
  ·obtain ⟨U,g⟩:=I.base.there b o e hx;exact ⟨U,(f.2 b (A1 (N2 (T0 e) (I.ok.cab x c K l)))).trans g⟩
  ·by_cases hj:j=i
   ·subst hj;rw [hi] at g;cases g;rw [O0 Y] at t;cases t;exact ⟨u,r,.inr ⟨.inl hk,c,l,a0⟩⟩
   ·rw [X1 (C2 hj)] at t;obtain ⟨O,T,q⟩:=Z j y S g t R;refine ⟨O,T,?_⟩;rcases q with q|⟨k,G,e,z'⟩
    ·exact .inl q
    ·refine .inr ⟨k,G,e,z'.sameBut f ?_⟩;rintro rfl;exact hj (zdx hN g (I.ok.inj _ _ _ e l ▸ hi))
  ·by_cases hcc:G=c
   ·subst hcc;exact ⟨_,a0⟩
   ·obtain ⟨w2,z2⟩:=I.cell y G e;exact ⟨w2,z2.sameBut f hcc⟩
  ·obtain ⟨e,n,D,P,d⟩:=I.pin p W;refine ⟨(f.2 p.1 ?_).trans e,n,D,P,d⟩;intro q;rw [q,a2] at e;have q':oc=p.2:=T2 e;exact d F (by rw [<-q'];exact a4)
theorem zfh {M:Model} {A:P2} {E:Value->C0->Prop} {i:Nat} {x:Str} {v:V} {u:Value} {Q:Unit->C0->Prop} (I:Inv X pins σ H s) (hN:X.N.Nodup) (hi:X.N[i]? = some x) (hx:Loc X.env.scope x) (r:RelV v u)
  (h :∀s',Inv X pins (σ.set i (some v)) H s'->Q () s') (hf:X.fn x=true\/X.env.scope.names.lookup x=some .local:=by first|exact .inl rfl|exact .inr rfl|assumption):U0 M A (storeName X.env x u) Q E s:=
 zgt I hN hi hx r (λ s' a _=>h s' a) hf
theorem Inv.call' {s':C0} {ch:List Addr} (I:Inv X pins σ H s) (ho:s'.os=s.os) (u:Un (frs X.stack) ch H H' s.heap s'.heap) (hok:HOk X.prog X.w H' s'.heap) (hg:L8 s'.gens)
  (hch :∀b∈ch,(b∈X.ex\/X.s₀.heap.objs.size<=b)/\b≠X.env.locals/\(∀x c,X.env.cells.lookup x=some c->c≠b)/\∀p∈X.pn++pins,p.1≠b):Inv X pins σ H' s':=by
 obtain ⟨d,g',d',t',a⟩:=s';have e:a=s.os:=ho;subst e;exact I.call (g':=g') (t':=t') (d':=d') u hok hg hch
end
noncomputable abbrev XK:=Value->Option Addr->Hp->Prop
noncomputable abbrev St:=List (Option V)
noncomputable abbrev VK:=V->Hp->Prop
noncomputable abbrev TE:=St->Hp->VK->Prop
noncomputable abbrev TT:=St->Hp->(Bool->Hp->Prop)->Prop
noncomputable abbrev TA:=St->Hp->(List V->Hp->Prop)->Prop
structure Ends where
 nx:St->Hp->Prop
 rt:VK
 bk:St->Hp->Prop:=λ _ _=>False
 ct:St->Hp->Prop:=λ _ _=>False
noncomputable abbrev TS:=Ends->St->Hp->Prop
def EP (X:Cx) (pins:List (Addr×Obj)) (σ:St) (Q:VK) (u:Value) (s':C0):Prop:=∃v H',Inv X pins σ H' s'/\RelV v u/\Q v H'
def TP (X:Cx) (pins:List (Addr×Obj)) (σ:St) (Q:Bool->Hp->Prop) (b:Bool) (s':C0):Prop:=∃H',Inv X pins σ H' s'/\Q b H'
def AP (X:Cx) (pins:List (Addr×Obj)) (σ:St) (Q:List V->Hp->Prop) (us:List Value) (s':C0):Prop:=∃vs H',Inv X pins σ H' s'/\Vals vs us/\Q vs H'
def SP (X:Cx) (pins:List (Addr×Obj)) (D:Ends) (f:Flow) (s':C0):Prop:=
 match f with
 | .next=>∃σ' H',Inv X pins σ' H' s'/\D.nx σ' H'
 | .brk=>∃σ' H',Inv X pins σ' H' s'/\D.bk σ' H'
 | .cont=>∃σ' H',Inv X pins σ' H' s'/\D.ct σ' H'
 | .ret u=>∃v σ' H',Inv X pins σ' H' s'/\RelV v u/\D.rt v H'
def PE (X:Cx) (e:Expr) (t:TE):Prop:=
 ∀(pins:List (Addr×Obj)) (s:C0) (σ:St) (H:Hp) (Q:VK),Inv X pins σ H s->t σ H Q->U0 (G1 X.prog X.w) X.A (V3 e X.env) (EP X pins σ Q) X.xe s
def PT (X:Cx) (e:Expr) (t:TT):Prop:=
 ∀(pins:List (Addr×Obj)) (s:C0) (σ:St) (H:Hp) (Q:Bool->Hp->Prop),Inv X pins σ H s->t σ H Q->U0 (G1 X.prog X.w) X.A (isTrue e X.env (V3 e X.env)) (TP X pins σ Q) X.xe s
def PW (X:Cx) (e:Expr) (t:TT):Prop:=
 ∀(whole:Sem Value) (pins:List (Addr×Obj)) (s:C0) (σ:St) (H:Hp) (Q:Bool->Hp->Prop),Inv X pins σ H s->t σ H Q->U0 (G1 X.prog X.w) X.A (isTrue e X.env whole) (TP X pins σ Q) X.xe s
theorem PW.pt {X:Cx} {e:Expr} {t:TT} (h:PW X e t):PT X e t:=h _
def PA (X:Cx) (es:List Expr) (t:TA):Prop:=
 ∀(pos:Pos) (pins:List (Addr×Obj)) (s:C0) (σ:St) (H:Hp) (Q:List V->Hp->Prop),Inv X pins σ H s->t σ H Q->U0 (G1 X.prog X.w) X.A (j31 (P4 pos (K1 es X.env))) (AP X pins σ Q) X.xe s
def PS (X:Cx) (st:Stmt) (t:TS):Prop:=
 ∀(pins:List (Addr×Obj)) (s:C0) (σ:St) (H:Hp) (D:Ends),Inv X pins σ H s->t D σ H->U0 (G1 X.prog X.w) X.A (exec st X.env) (SP X pins D) X.xe s
def PSs (X:Cx) (st:List Stmt) (t:TS):Prop:=
 ∀(pins:List (Addr×Obj)) (s:C0) (σ:St) (H:Hp) (D:Ends),Inv X pins σ H s->t D σ H->U0 (G1 X.prog X.w) X.A (execs st X.env) (SP X pins D) X.xe s
theorem thn {α:Type} {t:Sem α} {Q Q':α->C0->Prop} {M:Model} {A:P2} {E:Value->C0->Prop} {s:C0} (h:U0 M A t Q E s) (hQ :∀a s,Q a s->Q' a s):U0 M A t Q' E s:=A4 h hQ λ _ _ x=>x
section
variable {X:Cx}
noncomputable def tVar (i:Nat):TE:=λ σ H Q=>∃v,σ[i]? = some (some v)/\Q v H
noncomputable def tC (v:V):TE:=λ _ H Q=>Q v H
theorem pe_var {i:Nat} {x:Str} {pos:Pos} (hN:X.N[i]? = some x) (hv:Vis X.env.scope x) (hd:(x == ("__debug__" : Str))=false:=by decide) (hcd:(x == ("__classdict__" : Str))=false:=by decide):PE X (.Name x pos) (tVar i):=by
 intro g s σ H Q I h;obtain ⟨v,e,h⟩:=h;obtain ⟨m,f,b⟩:=I.loc;obtain ⟨u,r,l⟩:=b i x v hN e hv;have fin:EP X g σ Q u s:=⟨v,H,I,r,h⟩
 rcases l with ⟨a,d⟩|⟨a,c,hc,hcell⟩
 ·exact wpAny_Name (wpAny_loadName_local I.ok.kind a f d fin) hd
 ·rcases a with a|a
  ·exact wpAny_Name (wpAny_loadName_cell I.ok.kind a hc hcell fin) hd
  ·exact wpAny_Name (wpAny_loadName_free I.ok.kind a hc hcell fin hcd) hd
theorem pe_int {i j pos}:PE X (.Constant (.int i) j pos) (tC (.int i)):=λ _ _ _ H _ I h=>wpAny_Constant_int ⟨.int i,H,I.tok _,⟨_,rfl⟩,h⟩
theorem pe_bl {b j pos}:PE X (.Constant (.bool b) j pos) (tC (.bl b)):=λ _ _ _ H _ I h=>Constant_bool ⟨.bl b,H,I,rfl,h⟩
theorem pe_non {j pos}:PE X (.Constant .none j pos) (tC .non):=λ _ _ _ H _ I h=>Constant_none ⟨.non,H,I,rfl,h⟩
theorem pe_str {x j pos}:PE X (.Constant (.str x) j pos) (tC (.str x)):=λ _ _ _ H _ I h=>Calls.Constant_str ⟨.str x,H,I.tok _,⟨_,rfl⟩,h⟩
def Gl (X:Cx) (x:Str):Prop:=X.env.kindOf x=some .globalImplicit
theorem zc2 {E:Value->C0->Prop} {pins:List (Addr×Obj)} {s:C0} {σ:St} {H:Hp} {x:Str} {u:Value} {pos:Pos} {Q:Value->C0->Prop} (I:Inv X pins σ H s) (hg:Gl X x) (hm:X.mg x=some u) (h:Q u s)
  (hd:(x == ("__debug__" : Str))=false:=by decide):U0 (G1 X.prog X.w) X.A (V3 (.Name x pos) X.env) Q E s:=
 j17 I.ok.kind hg (Calls.loadGlobal_global (by rw [I.ok.glob];exact I.mod.glob.keeps I.bk) hm h) hd
theorem ld_blt {E:Value->C0->Prop} {pins:List (Addr×Obj)} {s:C0} {σ:St} {H:Hp} {x:Str} {u:Value} {pos:Pos} {Q:Value->C0->Prop} (I:Inv X pins σ H s) (hg:Gl X x) (hm:X.mg x=none) (hv:v5 x=some u) (h:Q u s)
  (hn:x≠"__name__":=by decide) (hd:(x == ("__debug__" : Str))=false:=by decide):U0 (G1 X.prog X.w) X.A (V3 (.Name x pos) X.env) Q E s:=by
 obtain ⟨c,b,a⟩:=I.mod.blt;exact j17 I.ok.kind hg (Calls.loadGlobal_builtin (by rw [I.ok.glob];exact I.mod.glob.keeps I.bk) hm (by rw [I.ok.blt];exact b.keeps I.bk) ((a x hn).trans hv) h) hd
theorem z1z {x:Str} {v:V} {u:Value} {pos:Pos} (hg:Gl X x) (hm:X.mg x=some u) (r:RelV v u) (hd:(x == ("__debug__" : Str))=false:=by decide):PE X (.Name x pos) (tC v):=
 λ _ _ _ H _ I h=>zc2 I hg hm ⟨v,H,I,r,h⟩ hd
theorem z2p {x:Str} {v:V} {u:Value} {pos:Pos} (hg:Gl X x) (hm:X.mg x=none) (hv:v5 x=some u) (r:RelV v u) (hn:x≠"__name__":=by decide) (hd:(x == ("__debug__" : Str))=false:=by decide):PE X (.Name x pos) (tC v):=
 λ _ _ _ H _ I h=>ld_blt I hg hm hv ⟨v,H,I,r,h⟩ hn hd
variable {a b:Expr} {ta tb:TE} {pos:Pos}
def PC (X:Cx) (op:CmpOp) (a b:Expr) (t:TE):Prop:=
 ∀(pins:List (Addr×Obj)) (s:C0) (σ:St) (H:Hp) (Q:VK),Inv X pins σ H s->t σ H Q->
  U0 (G1 X.prog X.w) X.A (V3 a X.env) (λ v s₁=>U0 (G1 X.prog X.w) X.A (V3 b X.env) (λ u s₂=>U0 (G1 X.prog X.w) X.A (X2 op v u) (EP X pins σ Q) X.xe s₂) X.xe s₁) X.xe s
noncomputable def tB (t:TE):TT:=λ σ H Q=>t σ H λ x H1=>∃c,x=.bl c/\Q c H1
theorem pt_cmp {op:CmpOp} {t:TE} (h:PC X op a b t) (h1:N8 op b=false:=by first|exact nobehind _ (by decide) (by decide)|rfl):PT X (.Compare a [op] [b] pos) (tB t):=by intro g s σ H Q I f;refine wpAny_isTrue_Compare1 (thn (h g s σ H _ I f) λ v i h1=>thn h1 λ u j e=>thn e λ c k ⟨x,H1,I1,r1,q1⟩=>?_) h1;obtain ⟨d,rfl,q⟩:=q1;cases r1;exact O3 ⟨H1,I1,q⟩
theorem pt_val {e:Expr} {t:TE} (h:PE X e t) (he :∀whole,isTrue e X.env whole=(do let v <-whole;j30 e.pos;r9 [v] (truthy v)):=by intro _;rfl):PT X e (tB t):=by intro b s σ H Q I a;refine isTrue_plain (thn (h b s σ H _ I a) λ v c ⟨x,H1,I1,r1,q1⟩=>?_) (he _);obtain ⟨d,rfl,q⟩:=q1;cases r1;exact O3 ⟨H1,I1,q⟩
variable {tA tB':TT} {rest:List Expr}
noncomputable def tAnd (t u:TT):TT:=λ σ H Q=>t σ H λ c H1=>if c=true then u σ H1 Q else Q false H1
noncomputable def tOr (t u:TT):TT:=λ σ H Q=>t σ H λ c H1=>if c=true then Q true H1 else u σ H1 Q
noncomputable def tNot (t:TT):TT:=λ σ H Q=>t σ H λ c H1=>Q (!c) H1
theorem z27 (ha:PT X a tA):PW X (.BoolOp .And [a] pos) tA:=by
 intro f b s σ H Q I h;refine isTrue_and (thn (ha b s σ H Q I h) λ c d e=>?_);cases c with
 | true=>exact isTrue_and_nil e
 | false=>exact e
theorem pw_or1 (ha:PT X a tA):PW X (.BoolOp .Or [a] pos) tA:=by
 intro f b s σ H Q I h;refine isTrue_or (thn (ha b s σ H Q I h) λ c d e=>?_);cases c with
 | false=>exact isTrue_or_nil e
 | true=>exact e
theorem pw_and (ha:PT X a tA) (hb:PW X (.BoolOp .And (b :: rest) pos) tB'):PW X (.BoolOp .And (a :: b :: rest) pos) (tAnd tA tB'):=by
 intro f d s σ H Q I h;refine isTrue_and (thn (ha d s σ H _ I h) λ c e ⟨H1,I1,q1⟩=>?_);cases c with
 | true=>exact hb f d e σ H1 Q I1 q1
 | false=>exact ⟨H1,I1,q1⟩
theorem pw_or (ha:PT X a tA) (hb:PW X (.BoolOp .Or (b :: rest) pos) tB'):PW X (.BoolOp .Or (a :: b :: rest) pos) (tOr tA tB'):=by
 intro f d s σ H Q I h;refine isTrue_or (thn (ha d s σ H _ I h) λ c e ⟨H1,I1,q1⟩=>?_);cases c with
 | true=>exact ⟨H1,I1,q1⟩
 | false=>exact hb f d e σ H1 Q I1 q1
theorem pt_not (ha:PT X a tA):PT X (.UnaryOp .Not a pos) (tNot tA):=by intro b s σ H Q I h;exact isTrue_not (ha b s σ H (λ c d=>Q (!c) d) I h)
noncomputable def tAndV (ta tb:TE):TE:=λ σ H Q=>ta σ H λ x H1=>∃c,x=.bl c/\if c=true then tb σ H1 Q else Q (.bl false) H1
noncomputable def tOrV (ta tb:TE):TE:=λ σ H Q=>ta σ H λ x H1=>∃c,x=.bl c/\if c=true then Q (.bl true) H1 else tb σ H1 Q
noncomputable def tNotV (ta:TE):TE:=λ σ H Q=>ta σ H λ x H1=>∃c,x=.bl c/\Q (.bl (!c)) H1
theorem pe_one {op} {t:TE} (h:PE X a t):PE X (.BoolOp op [a] pos) t:=λ c s σ H Q I b=>BoolOp_one (h c s σ H Q I b)
theorem pe_and (ha:PE X a ta) (hb:PE X (.BoolOp .And (b :: rest) pos) tb):PE X (.BoolOp .And (a :: b :: rest) pos) (tAndV ta tb):=by
 intro e s σ H Q I h;refine BoolOp_and (thn (ha e s σ H _ I h) λ v f ⟨x,H1,I1,r1,d⟩=>?_);obtain ⟨c,rfl,d⟩:=d;cases r1;refine O3 ?_;cases c with
 | true=>exact hb e f σ H1 Q I1 d
 | false=>exact ⟨.bl false,H1,I1,rfl,d⟩
theorem pe_or (ha:PE X a ta) (hb:PE X (.BoolOp .Or (b :: rest) pos) tb):PE X (.BoolOp .Or (a :: b :: rest) pos) (tOrV ta tb):=by
 intro e s σ H Q I h;refine BoolOp_or (thn (ha e s σ H _ I h) λ v f ⟨x,H1,I1,r1,d⟩=>?_);obtain ⟨c,rfl,d⟩:=d;cases r1;refine O3 ?_;cases c with
 | false=>exact hb e f σ H1 Q I1 d
 | true=>exact ⟨.bl true,H1,I1,rfl,d⟩
theorem pe_not (ha:PE X a ta):PE X (.UnaryOp .Not a pos) (tNotV ta):=by intro d s σ H Q I h;refine UnaryOp_ (thn (ha d s σ H _ I h) λ v e ⟨x,H1,I1,r1,b⟩=>?_);obtain ⟨c,rfl,b⟩:=b;cases r1;exact not_of (O3 ⟨.bl (!c),H1,I1,rfl,b⟩)
noncomputable def tIf (t:TT) (ta tb:TE):TE:=λ σ H Q=>t σ H λ c H1=>if c=true then ta σ H1 Q else tb σ H1 Q
theorem ziy {c:Expr} (hc:PT X c tA) (ha:PE X a ta) (hb:PE X b tb):PE X (.IfExp c a b pos) (tIf tA ta tb):=by
 intro e s σ H Q I h;refine wpAny_IfExp (thn (hc e s σ H _ I h) λ d f ⟨H1,I1,q1⟩=>?_);cases d with
 | true=>exact ha e f σ H1 Q I1 q1
 | false=>exact hb e f σ H1 Q I1 q1
end
def SqL (K:o0) (H:Hp) (a:Addr) (xs:List V):Prop:=
 Rd H a (.lst xs)\/
  ∃(o:Obj) (its:Array Value) (n:Nat),K.lookup a=some o/\o.cls=.type "list"/\o.dict=none/\o.data=.seq its n/\its.size<=sizeLine/\Vals xs its.toList
def SqT (K:o0) (H:Hp) (a:Addr) (xs:List V):Prop:=
 Rd H a (.tup xs)\/
  ∃(o:Obj) (its:Array Value) (n:Nat),K.lookup a=some o/\o.cls=.type "tuple"/\o.data=.seq its n/\its.size<=sizeLine/\Vals xs its.toList
noncomputable def absV:Value->Option V
 | .none=>some .non
 | .bool b=>some (.bl b)
 | .int i _=>some (.int i)
 | .str x _=>some (.str x)
 | .bytes b _=>some (.byt b)
 | .float b _=>some (.flt b)
 | .ref a=>some (.ref a)
 | .type n=>some (.ty n)
 | _=>none
theorem RelV.abs {x:V} {u:Value} (r:RelV x u):absV u=some x:=by
 cases x with
 | non=>cases r;rfl
 | bl _=>cases r;rfl
 | int _=>obtain ⟨t,rfl⟩:=r;rfl
 | str _=>obtain ⟨t,rfl⟩:=r;rfl
 | byt _=>obtain ⟨t,rfl⟩:=r;rfl
 | flt _=>obtain ⟨t,rfl⟩:=r;rfl
 | ref _=>cases r;rfl
 | ty _=>cases r;rfl
theorem RelV.inj {x y:V} {u:Value} (r:RelV x u) (q:RelV y u):x=y:=T2 (r.abs.symm.trans q.abs)
theorem Vals.inj :∀{xs ys:List V} {us:List Value},Vals xs us->Vals ys us->xs=ys
 | _,_,_,.nil,.nil=>rfl
 | _,_,_,.cons r t,.cons r' t'=>by rw [r.inj r',Vals.inj t t']
section
variable {X:Cx} {pins:List (Addr×Obj)} {σ:St} {H:Hp} {s:C0} {a:Addr} {xs ys:List V}
theorem SqL.of {K:o0} (h:H a=some (.lst xs)):SqL K H a xs:=.inl (.inl h)
theorem SqT.of {K:o0} (h:H a=some (.tup xs)):SqT K H a xs:=.inl (.inl h)
theorem Inv.list (I:Inv X pins σ H s) (h:SqL X.K H a xs) :∃its:List Value,Vals xs its/\PlainL s.heap a its.toArray/\xs.length<=sizeLine:=by
 rcases h with h|⟨o,its,n,hk,hc,hd,hs,hz,r⟩
 ·obtain ⟨z,its,n,r,e⟩:=h.ok I.hok;exact ⟨its,r,⟨_,n,e,rfl,rfl,rfl⟩,z⟩
 ·refine ⟨its.toList,r,⟨o,n,I.kIn a o hk,hc,hd,by simpa using hs⟩,?_⟩;have e:=r.length;simp only [O2] at e;omega
theorem Inv.tuple (I:Inv X pins σ H s) (h:SqT X.K H a xs) :∃its:List Value,Vals xs its/\IsTup s.heap a its.toArray/\xs.length<=sizeLine:=by
 rcases h with h|⟨o,its,n,hk,hc,hs,hz,r⟩
 ·obtain ⟨z,its,r,p⟩:=h.ok I.hok;exact ⟨its,r,p.1,z⟩
 ·refine ⟨its.toList,r,⟨o,I.kIn a o hk,hc,n,by simpa using hs⟩,?_⟩;have e:=r.length;simp only [O2] at e;omega
theorem Inv.list_inj (I:Inv X pins σ H s) (h:SqL X.K H a xs) (h':SqL X.K H a ys):xs=ys:=by
 obtain ⟨f,r,⟨o,n,e,_,_,d⟩,_⟩:=I.list h;obtain ⟨i,g,⟨j,k,c,_,_,b⟩,_⟩:=I.list h';rw [e] at c;cases c;rw [d] at b;injection b with d1 _;have:f=i:=by simpa using congrArg Array.toList d1
 subst this;exact r.inj g
theorem Inv.tuple_inj (I:Inv X pins σ H s) (h:SqT X.K H a xs) (h':SqT X.K H a ys):xs=ys:=by
 obtain ⟨f,r,⟨o,e,_,n,d⟩,_⟩:=I.tuple h;obtain ⟨i,g,⟨j,c,_,k,b⟩,_⟩:=I.tuple h';rw [e] at c;cases c;rw [d] at b;injection b with d1 _;have:f=i:=by simpa using congrArg Array.toList d1
 subst this;exact r.inj g
end
noncomputable abbrev Cx.wish (X:Cx) (E:Value->C0->Prop):Cx:={ X with xe:=E }
noncomputable abbrev Cx.nox (X:Cx):Cx:=X.wish λ _ _=>False
theorem Cx.Ok.wish {X:Cx} (ok:X.Ok) (E:Value->C0->Prop):(X.wish E).Ok:=
 ⟨ok.mod,ok.kind,ok.glob,ok.blt,ok.above,ok.inj,ok.has,ok.cab,ok.hd,ok.frames,ok.stk,ok.exf,ok.bs,ok.bsz,ok.noex,ok.exfs,ok.funs,ok.frf⟩
theorem Cx.Ok.unwish {X:Cx} {E:Value->C0->Prop} (ok:(X.wish E).Ok):X.Ok:=
 ⟨ok.mod,ok.kind,ok.glob,ok.blt,ok.above,ok.inj,ok.has,ok.cab,ok.hd,ok.frames,ok.stk,ok.exf,ok.bs,ok.bsz,ok.noex,ok.exfs,ok.funs,ok.frf⟩
section
variable {X:Cx} {pins:List (Addr×Obj)} {σ:St} {H:Hp} {s:C0} {E:Value->C0->Prop}
theorem Inv.wish (I:Inv X pins σ H s) (E:Value->C0->Prop):Inv (X.wish E) pins σ H s:=⟨I.ok.wish E,I.os,I.bare,I.base,I.loc,I.cell,I.free,I.freeC,I.pin,I.hok,I.len⟩
theorem Inv.unwish (I:Inv (X.wish E) pins σ H s):Inv X pins σ H s:=⟨I.ok.unwish,I.os,I.bare,I.base,I.loc,I.cell,I.free,I.freeC,I.pin,I.hok,I.len⟩
theorem SP.unwish {D:Ends} {f:Flow} {s':C0} (h:SP (X.wish E) pins D f s'):SP X pins D f s':=by
 cases f with
 | next=>obtain ⟨b,a,I,q⟩:=h;exact ⟨b,a,I.unwish,q⟩
 | brk=>obtain ⟨b,a,I,q⟩:=h;exact ⟨b,a,I.unwish,q⟩
 | cont=>obtain ⟨b,a,I,q⟩:=h;exact ⟨b,a,I.unwish,q⟩
 | ret u=>obtain ⟨v,b,a,I,r,q⟩:=h;exact ⟨v,b,a,I.unwish,r,q⟩
theorem PSs.nox {st:List Stmt} {t:TS} (h:PSs X.nox st t):PSs X st t:=λ b s σ H D I a=>A4 (h b s σ H D (I.wish _) a) (λ _ _ q=>q.unwish) λ _ _ z=>J4 z
end
section
variable {X:Cx} {st:Stmt} {rest:List Stmt} {t u:TS} {e:Expr} {te:TE} {pos:Pos}
noncomputable def tNext:TS:=λ D σ H=>D.nx σ H
noncomputable def tSeq (t u:TS):TS:=λ D σ H=>t { D with nx:=u D } σ H
theorem z0d:PSs X [] tNext:=λ _ _ σ H _ I h=>A9 ⟨σ,H,I,h⟩
theorem z02 (h1:PS X st t) (h2:PSs X rest u):PSs X (st :: rest) (tSeq t u):=by
 intro a s σ H D I h;refine wpAny_execs_cons (thn (h1 a s σ H { D with nx:=u D } I h) λ f b q=>?_);cases f with
 | next=>obtain ⟨d,c,e,q⟩:=q;exact h2 a b d c D e q
 | ret v=>exact q
 | brk=>exact q
 | cont=>exact q
theorem z05 (h1:PS X st t):PSs X [st] t:=by
 intro a s σ H D I h;refine wpAny_execs_cons (thn (h1 a s σ H D I h) λ f b q=>?_);cases f with
 | next=>exact A9 q
 | ret v=>exact q
 | brk=>exact q
 | cont=>exact q
theorem Inv.quiet {pins:List (Addr×Obj)} {σ:St} {H:Hp} {s:C0} (I:Inv X pins σ H s):interactive X.env=false:=by simp [interactive,I.ok.kind]
noncomputable def tDrop (te:TE):TS:=λ D σ H=>te σ H λ _ H1=>D.nx σ H1
theorem z0f (he:PE X e te) (hs:Z8 e none pos.line X.env=b4 false:=by rfl):PS X (.Expr e pos) (tDrop te):=by intro a s σ H D I h;exact wpAny_Expr_any (thn (he a s σ H _ I h) λ v b ⟨x,H1,I1,r1,q1⟩=>⟨σ,H1,I1,q1⟩) I.quiet hs
noncomputable def tRet (te:TE):TS:=λ D σ H=>te σ H D.rt
theorem ps_ret (he:PE X e te):PS X (.Return (some e) pos) (tRet te):=by intro a s σ H D I h;exact wpAny_Return_some (thn (he a s σ H _ I h) λ v b ⟨x,H1,I1,r1,q1⟩=>⟨x,σ,H1,I1,r1,q1⟩)
noncomputable def tRetN:TS:=λ D _ H=>D.rt .non H
theorem z7f:PS X (.Return none pos) tRetN:=λ _ _ σ H _ I h=>wpAny_Return_none ⟨.non,σ,H,I,rfl,h⟩
noncomputable def tIfS (c:TT) (t u:TS):TS:=λ D σ H=>c σ H λ b H1=>if b=true then t D σ H1 else u D σ H1
theorem ps_if {c:Expr} {a b:List Stmt} {tc:TT} (hc:PT X c tc) (ha:PSs X a t) (hb:PSs X b u):PS X (.If c a b pos) (tIfS tc t u):=by
 intro e s σ H D I h;refine wpAny_If (thn (hc e s σ H _ I h) λ d f ⟨H1,I1,q1⟩=>?_);cases d with
 | true=>exact ha e f σ H1 D I1 q1
 | false=>exact hb e f σ H1 D I1 q1
noncomputable def tNever:TS:=λ _ _ _=>False
theorem z4q:PS X st tNever:=λ _ _ _ _ _ _ h=>h.elim
end
noncomputable abbrev TG:=V->St->Hp->(St->Hp->Prop)->Prop
noncomputable abbrev TGs:=List V->St->Hp->(St->Hp->Prop)->Prop
def PG (X:Cx) (target:Expr) (t:TG):Prop:=
 ∀(pins:List (Addr×Obj)) (s:C0) (σ:St) (H:Hp) (v:V) (u:Value) (Q:St->Hp->Prop),Inv X pins σ H s->RelV v u->t v σ H Q->
  U0 (G1 X.prog X.w) X.A (assign target X.env u) (λ _ s'=>∃σ' H',Inv X pins σ' H' s'/\Q σ' H') X.xe s
def PGs (X:Cx) (ts:List Expr) (t:TGs):Prop:=
 ∀(pins:List (Addr×Obj)) (s:C0) (σ:St) (H:Hp) (vs:List V) (us:List Value) (Q:St->Hp->Prop),Inv X pins σ H s->Vals vs us->t vs σ H Q->
  U0 (G1 X.prog X.w) X.A (assignInOrder ((E7 ts X.env).map (·.2)) us) (λ _ s'=>∃σ' H',Inv X pins σ' H' s'/\Q σ' H') X.xe s
noncomputable abbrev TSet:=V->V->V->Hp->(Hp->Prop)->Prop
def PSet (X:Cx) (t:TSet):Prop:=
 ∀(pins:List (Addr×Obj)) (s:C0) (σ:St) (H:Hp) (o i v:V) (ov iv u:Value) (Q:Hp->Prop),Inv X pins σ H s->RelV o ov->RelV i iv->RelV v u->t o i v H Q->
  U0 (G1 X.prog X.w) X.A (setItem ov iv u) (λ _ s'=>∃H',Inv X pins σ H' s'/\Q H') X.xe s
section
variable {X:Cx} {pos:Pos}
noncomputable def gName (i:Nat):TG:=λ v σ H Q=>Q (σ.set i (some v)) H
theorem z0m {i:Nat} {x:Str} (hN:X.N.Nodup) (hi:X.N[i]? = some x) (hx:Loc X.env.scope x) (hf:X.fn x=true\/X.env.scope.names.lookup x=some .local:=by first|exact .inl rfl|exact .inr rfl|assumption):PG X (.Name x pos) (gName i):=by intro c s σ H v u Q I r h;exact wpAny_assign_Name (zfh I hN hi hx r (λ b a=>⟨_,H,a,h⟩) hf)
noncomputable def gNil:TGs:=λ vs σ H Q=>vs=[]/\Q σ H
noncomputable def gCons (t:TG) (u:TGs):TGs:=λ vs σ H Q=>∃v r,vs=v :: r/\t v σ H λ σ' H'=>u r σ' H' Q
theorem z6f:PGs X [] gNil:=by intro c s σ H b a Q I r h;obtain ⟨e,h⟩:=h;subst e;cases r;exact assignInOrder_nil ⟨σ,H,I,h⟩
theorem z0s {e:Expr} {es:List Expr} {t:TG} {u:TGs} (h1:PG X e t) (h2:PGs X es u)
  (hs:(E7 (e :: es) X.env).map (·.2)=assign e X.env :: (E7 es X.env).map (·.2):=by rfl):PGs X (e :: es) (gCons t u):=by
 intro a s σ H g d Q I r h;obtain ⟨v,f,c,h⟩:=h;subst c;cases r with
 | cons r rr=>rw [hs];refine assignInOrder_cons (thn (h1 a s σ H _ _ _ I r h) λ _ b ⟨σ1,H1,I1,q1⟩=>?_);exact h2 a b σ1 H1 _ _ Q I1 rr q1
noncomputable def gTup (K:o0) (n:Nat) (t:TGs):TG:=λ v σ H Q=>∃a xs,v=.ref a/\SqT K H a xs/\xs.length=n/\t xs σ H Q
theorem pg_tup {es:List Expr} {k:Nat} {t:TGs} {n:Nat} (hc:X.calm=true) (h:PGs X es t)
  (hn:(E7 es X.env).length=n:=by rfl) (hst:(E7 es X.env).findIdx? (·.1)=none:=by rfl):PG X (.Tuple es k pos) (gTup X.K n t):=by
 intro d s σ H v u Q I r c;obtain ⟨a,p,q,m,l,c⟩:=c;subst q;cases r;obtain ⟨y,f,w,x⟩:=I.tuple m;refine assign_Tuple_tuple (I.ok.hd hc) w (by simp [hn,<-l,f.length]) hst λ j i=>?_;have g:Inv X d σ H { s with heap:=j }:=I.kept (t':=s.toks) λ b o e=>i b o (A1 (T0 e)) e;exact h d _ σ H p _ Q g (by simpa using f) c
noncomputable def gSub (to ti:TE) (t:TSet):TG:=λ v σ H Q=>to σ H λ o H1=>ti σ H1 λ i H2=>t o i v H2 λ H3=>Q σ H3
theorem pg_sub {o i:Expr} {to ti:TE} {t:TSet} (ho:PE X o to) (hi:PE X i ti) (hs:PSet X t)
  (ha :∀v,assign (.Subscript o i pos) X.env v=(do
   let ov <-r9 [v] (V3 o X.env)
   let iv <-r9 [v,ov] (V3 i X.env)
   j30 pos
   r9 [v,ov,iv] (setItem ov iv v)
   release [v,ov,iv] []):=by intro _;rfl):PG X (.Subscript o i pos) (gSub to ti t):=by
 intro a s σ H v u Q I r h;rw [ha];refine v0 (Z1 (thn (ho a s σ H _ I h) λ ov b ⟨x,H1,I1,r1,q1⟩=>?_));refine v0 (Z1 (thn (hi a b σ H1 _ I1 q1) λ iv c ⟨y,H2,I2,r2,q2⟩=>?_));refine v0 (j08 (v0 (Z1 (thn (hs a c σ H2 x y v ov iv u _ I2 r1 r2 r q2) λ _ d ⟨H3,I3,q3⟩=>?_))));exact wpAny_release ⟨σ,H3,I3,q3⟩
noncomputable def tAsg (te:TE) (g:TG):TS:=λ D σ H=>te σ H λ x H1=>g x σ H1 D.nx
theorem ps_asg {tg e:Expr} {te:TE} {g:TG} (he:PE X e te) (hg:PG X tg g) (hs:swapsWithSole [tg] e pos.line X.env=b4 false:=by rfl) (hw:swappedStores [tg] e X.env=b4 none:=by rfl)
  (h1:(E7 [tg] X.env).map (·.2)=[assign tg X.env]:=by rfl):PS X (.Assign [tg] e pos) (tAsg te g):=by
 intro a s σ H D I h;refine wpAny_Assign_stores (thn (he a s σ H _ I h) λ v b ⟨x,H1,I1,r1,q1⟩=>?_) hs hw;rw [h1];exact thn (hg a b σ H1 x v _ I1 r1 q1) λ _ c q=>q
theorem ps_set {i:Nat} {x:Str} {e:Expr} {te:TE} {pos':Pos} (hN:X.N.Nodup) (hi:X.N[i]? = some x) (hx:Loc X.env.scope x) (he:PE X e te) (hs:Z8 e (some (.Name x pos')) pos.line X.env=b4 false:=by rfl) (hf:X.fn x=true\/X.env.scope.names.lookup x=some .local:=by first|exact .inl rfl|exact .inr rfl|assumption) :
  PS X (.Assign [.Name x pos'] e pos) (tAsg te (gName i)):=by
 intro b s σ H D I h;refine wpAny_Assign_Name (thn (he b s σ H _ I h) λ v d ⟨y,H1,I1,r1,q1⟩=>?_) hs;exact zfh I1 hN hi hx r1 (λ c a=>⟨_,H1,a,q1⟩) hf
noncomputable def tWhile (c:TT) (tb:TS):TS:=λ D σ H=>∃W:Nat->St->Hp->Prop,(∃m,W m σ H)/\∀m σ H,W m σ H->
 c σ H λ b H1=>if b=true then∃N:St->Hp->Prop,(∀σ' H',N σ' H'->∃m',m' < m/\W m' σ' H')/\tb { D with nx:=N,ct:=N,bk:=D.nx } σ H1 else D.nx σ H1
theorem zjh {c:Expr} {body:List Stmt} {tc:TT} {tb:TS} (hp:PassesOwn (G1 X.prog X.w) X.A X.env X.xe) (hc:PT X c tc) (hb:PSs X body tb):PS X (.While c body [] pos) (tWhile tc tb):=by
 intro k s σ H D I h;obtain ⟨W,⟨u,r⟩,t⟩:=h;refine wpAny_While (codeAny_whileLoop (λ n y=>∃σ' H',Inv X k σ' H' y/\W n σ' H') ?_ u ⟨σ,H,I,r⟩);rintro n x ⟨σ1,H1,I1,w1⟩;refine b6 hp (thn (hc k x σ1 H1 _ I1 (t n σ1 H1 w1)) λ b q ⟨H2,I2,e⟩=>?_);cases b with
 | true=>
  obtain ⟨N,p,e⟩:=e;rw [if_pos rfl];refine b6 hp (thn (hb k q σ1 H2 _ I2 e) λ f z g=>?_);cases f with
  | next=>obtain ⟨a,d,m,o⟩:=g;obtain ⟨i,l,j⟩:=p a d o;exact ⟨i,l,a,d,m,j⟩
  | cont=>obtain ⟨a,d,m,o⟩:=g;obtain ⟨i,l,j⟩:=p a d o;exact ⟨i,l,a,d,m,j⟩
  | brk=>exact g
  | ret v=>exact g
 | false=>rw [if_neg E1];exact A9 ⟨σ1,H2,I2,e⟩
end
structure It where
 go:Nat->Hp->Prop
 yld:Nat->Hp->V->Hp->Prop
 stop:Nat->Hp->Prop
def FpOk (X:Cx) (pins:List (Addr×Obj)) (H:Hp) (b:Addr):Prop:=
 H b=none/\b≠X.env.locals/\b∉X.fs/\(b∈X.ex\/X.s₀.heap.objs.size<=b)/\(∀x c,X.env.cells.lookup x=some c->c≠b)/\∀p∈X.pn++pins,p.1≠b
theorem Inv.fpOk {X:Cx} {pins:List (Addr×Obj)} {σ:St} {H H':Hp} {s:C0} {b:Addr} (I:Inv X pins σ H s) (hb:s.heap.objs.size<=b) (hn:H' b=none):FpOk X pins H' b:=by
 refine ⟨hn,u4 (N2 I.lt hb),I.nofs hb,.inr (N0 I.sz hb),λ x c e z=>?_,λ p a z=>?_⟩
 ·obtain ⟨v,q⟩:=I.cell x c e;exact absurd (N2 q.lt (by rw [z];exact hb)) (C4 _)
 ·exact absurd (N2 (T0 (I.pin p a).1) (by rw [z];exact hb)) (C4 _)
structure Turn (P:Program) (w:Z0) (K:o0) (tg:Expr) (J:It) (fp:List Addr) (it:Addr) (tn:Nat->Heap->Prop):Prop where
 mem:it∈fp
 obj :∀i h,tn i h->∀b∈fp,∃o,h.get? b=some o/\∀v,o.data≠.cell v
 keep :∀i h h',tn i h->(∀b∈fp,∀o,h.get? b=some o->h'.get? b=some o)->tn i h'
 item :∀(X:Cx),X.prog=P->X.w=w->X.K=K->X.calm=true->∀(i:Nat) (pins:List (Addr×Obj)) (s:C0) (σ:St) (H:Hp) (E:Value->C0->Prop),Inv X pins σ H s->(∀b∈fp,FpOk X pins H b)->tn i s.heap->J.go i H->
  U0 (G1 P w) X.A (D7 (.ref it)) (λ r s1=>∃u,r=some u/\
   U0 (G1 P w) X.A (B9 tg (.ref it) u) (λ _ s2=>∃x H',Inv X pins σ H' s2/\RelV x u/\J.yld i H x H'/\tn (i + 1) s2.heap/\∀b∈fp,H' b=none) E s1) E s
 done :∀(X:Cx),X.prog=P->X.w=w->X.K=K->X.calm=true->∀(i:Nat) (pins:List (Addr×Obj)) (s:C0) (σ:St) (H:Hp) (E:Value->C0->Prop),Inv X pins σ H s->(∀b∈fp,FpOk X pins H b)->tn i s.heap->J.stop i H->
  U0 (G1 P w) X.A (D7 (.ref it)) (λ r s1=>r=none/\Inv X pins σ H s1) E s
 self :∀(A:P2) (i:Nat) (s:C0) (Q:Value->C0->Prop) (E:Value->C0->Prop),tn i s.heap->Q (.ref it) s->U0 (G1 P w) A (pyIter (.ref it)) Q E s
noncomputable abbrev TI:=St->Hp->(It->Hp->Prop)->Prop
def PIE (X:Cx) (pins:List (Addr×Obj)) (σ:St) (tg:Expr) (R:It->Hp->Prop) (itv:Value) (s2:C0):Prop:=
 ∃(it:Addr) (fp:List Addr) (tn:Nat->Heap->Prop) (J:It) (H':Hp),itv=.ref it/\Inv X pins σ H' s2/\Turn X.prog X.w X.K tg J fp it tn/\tn 0 s2.heap/\(∀b∈fp,FpOk X pins H' b)/\R J H'
def PI (X:Cx) (tg iter:Expr) (wi:TI):Prop:=
 ∀(pins:List (Addr×Obj)) (s:C0) (σ:St) (H:Hp) (R:It->Hp->Prop),Inv X pins σ H s->wi σ H R->
  U0 (G1 X.prog X.w) X.A (V3 iter X.env) (λ v s1=>U0 (G1 X.prog X.w) X.A (pyIter v) (PIE X pins σ tg R) X.xe s1) X.xe s
theorem go_of {M:Model} {A:P2} {E:Value->C0->Prop} {s:C0} {tg:Expr} {it:Addr} {u:Value} {o:Obj} {n:String} {vs:Array Value} {Q:Unit->C0->Prop} (ho:s.heap.get? it=some o) (hc:o.cls=.type n) (hd:o.data=.fields vs)
    (hn:["enumerate","zip","dict_itemiterator","dict_reverseitemiterator","odict_iterator","itertools.zip_longest","itertools.pairwise"].contains n=false) (hQ:Q () s):U0 M A (B9 tg (.ref it) u) Q E s:=by
  unfold B9;cases tg<;>first
    | exact F0 hQ
    | (cases u<;>first
        | exact F0 hQ
        | (refine v0 (wpAny_load ho ?_)
           rw [hc,hd];show U0 M A (if (["enumerate","zip","dict_itemiterator","dict_reverseitemiterator","odict_iterator","itertools.zip_longest","itertools.pairwise"].contains n && vs[0]? == some (rawInt _))=true then _ else _) Q E s;rw [if_neg (by intro h;rw [hn,U7] at h;cases h)];exact F0 hQ))
noncomputable def Itl (K:o0) (a:Addr):It:=
 ⟨λ i H=>∃xs x,SqL K H a xs/\xs[i]? = some x,λ i H x H'=>H'=H/\∀xs,SqL K H a xs->xs[i]? = some x,λ i H=>∃xs,SqL K H a xs/\xs.length<=i⟩
noncomputable def Itt (K:o0) (a:Addr):It:=
 ⟨λ i H=>∃xs x,SqT K H a xs/\xs[i]? = some x,λ i H x H'=>H'=H/\∀xs,SqT K H a xs->xs[i]? = some x,λ i H=>∃xs,SqT K H a xs/\xs.length<=i⟩
noncomputable def Itr (lo:Int) (n:Nat):It:=⟨λ i _=>i < n,λ i H x H'=>H'=H/\x=.int (lo + i),λ i _=>n<=i⟩
theorem zhc {P:Program} {w:Z0} {K:o0} {tg:Expr} (a it:Addr):Turn P w K tg (Itl K a) [it] it (λ i h=>h.IsListIter it a i) where
 mem:=by simp
 obj:=λ i h f b g=>by
  have e:b=it:=by simpa using g
  subst e;obtain ⟨o,e,c,d⟩:=f;exact ⟨o,e,λ v z=>by rw [d] at z;cases z⟩
 keep:=λ i h j f k=>f.at λ o e=>k it (by simp) o e
 item:=by intro X B r q M i J s σ H E I l f n;subst B r q;obtain ⟨S,x,m,t⟩:=n;obtain ⟨V,D,p,R⟩:=I.list m;obtain ⟨u,U,W⟩:=D.get t;obtain ⟨A,y,Y,C,F,G⟩:=l it (by simp);refine y4 f p.isList (x:=u) (by simpa using U) λ j L T=>?_;have N:Inv X J σ H { s with heap:=j }:=I.turned (t':=s.toks) (λ b o g e=>(T.2 b g).trans e) A y C F G;obtain ⟨o,e,c,d⟩:=id L;exact ⟨u,rfl,go_of (s:={ s with heap:=j }) e c d (by decide) ⟨x,H,N,W,⟨rfl,λ ys Q=>by rw [I.list_inj Q m];exact t⟩,L,λ b g=>(l b g).1⟩⟩
 done:=by intro X B r q M i J s σ H E I l f n;subst B r q;obtain ⟨S,m,t⟩:=n;obtain ⟨V,D,p,R⟩:=I.list m;obtain ⟨A,y,Y,C,F,G⟩:=l it (by simp);have Z:=D.length;exact X4 (I.ok.hd M) f p.isList (by simp;omega) λ j O=>⟨rfl,I.turned (t':=s.toks) (λ b o g e=>O b o g e) A y C F G⟩
 self:=λ _ _ _ _ _ f h=>wpAny_pyIter_listiter f h
theorem zdn {P:Program} {w:Z0} {K:o0} {tg:Expr} (a it:Addr):Turn P w K tg (Itt K a) [it] it (λ i h=>h.IsTupleIter it a i) where
 mem:=by simp
 obj:=λ i h f b g=>by
  have e:b=it:=by simpa using g
  subst e;obtain ⟨o,e,c,d⟩:=f;exact ⟨o,e,λ v z=>by rw [d] at z;cases z⟩
 keep:=λ i h j f k=>f.at λ o e=>k it (by simp) o e
 item:=by intro X B r q N i L s σ H E I l f n;subst B r q;obtain ⟨T,x,m,t⟩:=n;obtain ⟨D,F,p,S⟩:=I.tuple m;obtain ⟨u,V,W⟩:=F.get t;obtain ⟨A,y,Y,C,G,J⟩:=l it (by simp);refine wpAny_pyNext_tuple_item f (show s.heap.IsTuple a D.toArray from p) (x:=u) (by simpa using V) λ j M U=>?_;have O:Inv X L σ H { s with heap:=j }:=I.turned (t':=s.toks) (λ b o g e=>(U.2 b g).trans e) A y C G J;obtain ⟨o,e,c,d⟩:=id M;exact ⟨u,rfl,go_of (s:={ s with heap:=j }) e c d (by decide) ⟨x,H,O,W,⟨rfl,λ ys R=>by rw [I.tuple_inj R m];exact t⟩,M,λ b g=>(l b g).1⟩⟩
 done:=by intro X B r q N i L s σ H E I l f n;subst B r q;obtain ⟨T,m,t⟩:=n;obtain ⟨D,F,p,S⟩:=I.tuple m;obtain ⟨A,y,Y,C,G,J⟩:=l it (by simp);have Z:=F.length;exact wpAny_pyNext_tuple_end (I.ok.hd N) f (show s.heap.IsTuple a D.toArray from p) (by simp;omega) λ j Q=>⟨rfl,I.turned (t':=s.toks) (λ b o g e=>Q b o g e) A y C G J⟩
 self:=λ _ _ _ _ _ f h=>wpAny_pyIter_tupleiter f h
theorem zez {P:Program} {w:Z0} {K:o0} {tg:Expr} (it:Addr) (lo:Int) (n:Nat):Turn P w K tg (Itr lo n) [it] it (λ i h=>IsRangeIter h it (lo + (i:Nat) * 1) ((n:Int) - (i:Nat)) 1) where
 mem:=by simp
 obj:=λ i h a b c=>by
  have e:b=it:=by simpa using c
  subst e;exact ⟨_,a,λ v z=>by have G:Data.fields _=Data.cell v:=z;cases G⟩
 keep:=λ i h d a k=>k it (by simp) _ a
 item:=by intro X q l j u i B s σ H E I f a g;subst q l j;obtain ⟨p,m,M,r,x,y⟩:=f it (by simp);have W:=Walks.range (prog:=X.prog) (w:=X.w) (I.ok.hd u) it lo 1 n;refine W.item i s _ _ g a λ v d A L C F=>?_;obtain ⟨t,rfl⟩:=L;have D:Inv X B σ H { s with heap:=d,toks:=A }:=I.turned (λ b o c e=>F b o (by simpa using c) e) p m r x y;refine ⟨_,rfl,go_of (s:={ s with heap:=d,toks:=A }) (n:="range_iterator") C rfl rfl (by decide) ⟨.int (lo + i),H,D,⟨t,?_⟩,⟨rfl,rfl⟩,C,λ b c=>(f b c).1⟩⟩;rw [Int.mul_one]
 done:=by intro X q l j u i B s σ H E I f a g;subst q l j;obtain ⟨p,m,M,r,x,y⟩:=f it (by simp);exact wpAny_pyNext_range_end (I.ok.hd u) a (by have:n<=i:=g;omega) λ d J=>⟨rfl,I.turned (t':=s.toks) (λ b o c e=>J b o c e) p m r x y⟩
 self:=λ _ _ _ _ _ a h=>wpAny_pyIter_rangeiter a h
section
variable {X:Cx} {tg:Expr}
noncomputable def iList (K:o0) (tl:TE):TI:=λ σ H R=>tl σ H λ x H1=>∃a,x=.ref a/\(∃xs,SqL K H1 a xs)/\R (Itl K a) H1
noncomputable def iTup (K:o0) (tl:TE):TI:=λ σ H R=>tl σ H λ x H1=>∃a,x=.ref a/\(∃xs,SqT K H1 a xs)/\R (Itt K a) H1
theorem z1l {l:Expr} {tl:TE} (hl:PE X l tl):PI X tg l (iList X.K tl):=by
 intro g s σ H R I h;refine thn (hl g s σ H _ I h) λ v c ⟨x,H1,I1,r1,q1⟩=>?_;obtain ⟨a,e,⟨j,d⟩,q⟩:=q1;subst e;cases r1;obtain ⟨k,m,p,i⟩:=I1.list d;refine b5 p.isList ?_;refine ⟨c.heap.objs.size,[c.heap.objs.size],_,_,H1,rfl,I1.kept (t':=c.toks) λ b o e=>J0 _ e,zhc a _,⟨_,C1 _ rfl,rfl,rfl⟩,λ b f=>?_,q⟩;have e:b=c.heap.objs.size:=by simpa using f
 subst e;exact I1.fpOk (K0 _) (I1.hok.fresh (K0 _))
theorem pi_tup {l:Expr} {tl:TE} (hl:PE X l tl):PI X tg l (iTup X.K tl):=by
 intro g s σ H R I h;refine thn (hl g s σ H _ I h) λ v c ⟨x,H1,I1,r1,q1⟩=>?_;obtain ⟨a,e,⟨k,d⟩,q⟩:=q1;subst e;cases r1;obtain ⟨i,m,p,j⟩:=I1.tuple d;refine wpAny_pyIter_tuple (show c.heap.IsTuple a i.toArray from p) ?_;refine ⟨c.heap.objs.size,[c.heap.objs.size],_,_,H1,rfl,I1.kept (t':=c.toks) λ b o e=>J0 _ e,zdn a _,⟨_,C1 _ rfl,rfl,rfl⟩,λ b f=>?_,q⟩;have e:b=c.heap.objs.size:=by simpa using f
 subst e;exact I1.fpOk (K0 _) (I1.hok.fresh (K0 _))
theorem zis {pins:List (Addr×Obj)} {σ:St} {H:Hp} {s:C0} {R:It->Hp->Prop} {E:Value->C0->Prop} {lo hi:Int} {t u v:Tok} {tk:Nat} (I:Inv X pins σ H s) (h1:-(2 ^ 62)<=lo) (h2:lo < 2 ^ 62) (h3:-(2 ^ 62)<=hi) (h4:hi < 2 ^ 62)
  (q:R (Itr lo (hi - lo).toNat) H):U0 (G1 X.prog X.w) X.A (pyIter (.ref s.heap.objs.size)) (PIE X pins σ tg R) E { s with heap:=s.heap.push { cls:=.type "range",data:=.fields #[.int lo t,.int hi u,.int 1 v] },toks:=tk }:=by
 refine wpAny_pyIter_range (IsRange.new ..) (small_one h1 h2 h3 h4) ?_;have a:Inv X pins σ H { s with heap:=s.heap.push { cls:=.type "range",data:=.fields #[.int lo t,.int hi u,.int 1 v] },toks:=tk }:=I.kept λ b o e=>J0 _ e;refine ⟨(s.heap.push { cls:=.type "range",data:=.fields #[.int lo t,.int hi u,.int 1 v] }).objs.size,[(s.heap.push { cls:=.type "range",data:=.fields #[.int lo t,.int hi u,.int 1 v] }).objs.size],_,_,H,rfl,
  a.kept (t':=tk) λ b o e=>J0 _ e,zez _ lo (hi - lo).toNat,?_,λ b f=>?_,q⟩
 ·have d:lo + ((0:Nat):Int) * 1=lo:=by simp
  have c:(((hi - lo).toNat:Nat):Int) - ((0:Nat):Int)=Builtin.Range.rangeSize lo hi 1:=by rw [rangeSize_one];split<;>omega
  show IsRangeIter _ _ (lo + ((0:Nat):Int) * 1) ((((hi - lo).toNat:Nat):Int) - ((0:Nat):Int)) 1;rw [d,c];exact C1 _ rfl
 ·have e:b=(s.heap.push { cls:=.type "range",data:=.fields #[.int lo t,.int hi u,.int 1 v] }).objs.size:=by simpa using f
  subst e;exact a.fpOk (K0 _) (a.hok.fresh (K0 _))
noncomputable def iRng1 (ta:TA):TI:=λ σ H R=>ta σ H λ vs H1=>∃j:Int,vs=[.int j]/\-(2 ^ 62)<=j/\j < 2 ^ 62/\R (Itr 0 j.toNat) H1
theorem z0x {a:Expr} {ta:TA} {p pos:Pos} (hg:Gl X "range") (hm:X.mg "range" = none) (ha:PA X [a] ta) (hs:K1 [a] X.env=[(false,V3 a X.env)]:=by rfl):PI X tg (.Call (.Name "range" p) [a] [] pos) (iRng1 ta):=by
 intro c s σ H R I h;refine Call_ (ld_blt I hg hm boot_range (E4 (thn (ha pos c s σ H _ I h) λ f g ⟨vs,H1,I1,r1,b⟩=>?_) hs rfl));obtain ⟨j,e,b,d,q⟩:=b;subst e;cases r1 with
 | cons r rr=>cases rr;obtain ⟨t,rfl⟩:=r;exact call_range_1 (zis I1 (by omega) (by omega) b d (by simpa using q))
noncomputable def tFor (wi:TI) (g:TG) (tb:TS):TS:=λ D σ H=>wi σ H λ J H1=>∃W:Nat->Nat->St->Hp->Prop,(∃m,W 0 m σ H1)/\∀i m σ H,W i m σ H->
 (J.stop i H/\D.nx σ H)\/(J.go i H/\∃N:St->Hp->Prop,(∀σ' H',N σ' H'->∃m',m' < m/\W (i + 1) m' σ' H')/\∀x H',J.yld i H x H'->g x σ H' λ σ2 H2=>tb { D with nx:=N,ct:=N,bk:=D.nx } σ2 H2)
noncomputable def pinsAt (fp:List Addr) (h:Heap):List (Addr×Obj):=fp.filterMap λ b=>(h.get? b).map λ o=>(b,o)
theorem z4h {fp:List Addr} {h:Heap} {b:Addr} {o:Obj} (hb:b∈fp) (e:h.get? b=some o):(b,o)∈pinsAt fp h:=List.mem_filterMap.mpr ⟨b,hb,by rw [e];rfl⟩
theorem zbo {fp:List Addr} {h:Heap} {p:Addr×Obj} (hp:p∈pinsAt fp h):p.1∈fp/\h.get? p.1=some p.2:=by
 obtain ⟨b,a,e⟩:=List.mem_filterMap.mp hp;cases q:h.get? b with
 | none=>rw [q] at e;cases e
 | some o=>rw [q] at e;have c:(b,o)=p:=T2 e;subst c;exact ⟨a,q⟩
theorem Inv.pinned {pins:List (Addr×Obj)} {σ:St} {H:Hp} {s:C0} {fp:List Addr} (I:Inv X pins σ H s) (hf :∀b∈fp,FpOk X pins H b) (ho :∀b∈fp,∃o,s.heap.get? b=some o/\∀v,o.data≠.cell v):Inv X (pins++pinsAt fp s.heap) σ H s:=
 I.pins_of λ p f=>(List.mem_append.mp f).elim (λ z=>I.pin p (Q1 _ z)) λ z=>by obtain ⟨a,e⟩:=zbo z;obtain ⟨i,h,g,_⟩:=hf p.1 a;obtain ⟨o,c,d⟩:=ho p.1 a;rw [e] at c;cases c;exact ⟨e,i,h,g,d⟩
theorem Inv.unpinned {pins pl:List (Addr×Obj)} {σ:St} {H:Hp} {s:C0} (I:Inv X (pins++pl) σ H s):Inv X pins σ H s:=I.pins_of λ p a=>I.pin p (Q1 _ (v7 _ a))
theorem ps_for {iter:Expr} {body:List Stmt} {wi:TI} {g:TG} {tb:TS} {pos:Pos} (hp:PassesOwn (G1 X.prog X.w) X.A X.env X.xe) (hc:X.calm=true) (hi:PI X tg iter wi) (hg:PG X tg g) (hb:PSs X body tb)
  (hs :∀x,z6 iter X.env x=b4 x:=by intro _;rfl):PS X (.For tg iter body [] pos) (tFor wi g tb):=by
 intro l s σ H D I h;refine wpAny_For (thn (hi l s σ H _ I h) λ v s1 h1=>thn h1 λ a1 s2 h2=>?_) hs;obtain ⟨it,q,C,J,L,e,M,T,K,G,W,⟨Z,R⟩,S⟩:=h2;subst e
 -- what stays true of the iterator's objects through the loop
 have y :∀{H':Hp},(∀b∈q,H' b=none)->∀b∈q,FpOk X l H' b:=λ hn b hb=>⟨hn b hb,(G b hb).2⟩
 refine codeAny_forLoop_any (λ n F=>∃i σ' H',Inv X l σ' H' F/\C i F.heap/\(∀b∈q,H' b=none)/\W i n σ' H') ?_ Z ⟨0,σ,L,M,K,λ b hb=>(G b hb).1,R⟩;rintro n B ⟨i,σ3,H3,I3,st3,fr3,w3⟩;rcases S i n σ3 H3 w3 with ⟨stop,qn⟩|⟨go,N,hN,step⟩
 ·refine b6 hp (thn (T.done X rfl rfl rfl hc i l B σ3 H3 X.xe I3 (y fr3) st3 stop) λ r U ⟨hr,I4⟩=>?_);subst hr;exact A9 ⟨σ3,H3,I4,qn⟩
 ·refine b6 hp (thn (T.item X rfl rfl rfl hc i l B σ3 H3 X.xe I3 (y fr3) st3 go) λ r U ⟨u,hr,h4⟩=>?_);subst hr;refine b6 hp (thn h4 λ _ E ⟨x,H5,I5,r5,y5,st5,fr5⟩=>?_);have a0:=I5.pinned (y fr5) (T.obj _ _ st5);refine b6 hp (thn (hg _ E σ3 H5 x u _ a0 r5 (step x H5 y5)) λ _ Y ⟨σ6,H6,I6,q6⟩=>?_);refine b6 hp (thn (hb _ Y σ6 H6 _ I6 q6) λ f t k=>?_);have z :∀{j:St} {a:Hp},Inv X (l++pinsAt q E.heap) j a t->N j a->∃m,m < n/\∃i σ' H',Inv X l σ' H' t/\C i t.heap/\(∀b∈q,H' b=none)/\W i m σ' H':=λ {j a} c p=>by obtain ⟨Q,hm,P⟩:=hN j a p;refine ⟨Q,hm,i + 1,j,a,c.unpinned,T.keep _ _ _ st5 λ b hb o e=>(c.pin (b,o) (Q1 _ (Q1 _ (z4h hb e)))).1,λ b hb=>?_,P⟩;obtain ⟨o,e,d⟩:=T.obj _ _ st5 b hb;exact (c.pin (b,o) (Q1 _ (Q1 _ (z4h hb e)))).2.1
  cases f with
  | next=>obtain ⟨j,a,c,p⟩:=k;exact z c p
  | cont=>obtain ⟨j,a,c,p⟩:=k;exact z c p
  | brk=>obtain ⟨j,a,c,k⟩:=k;exact ⟨j,a,c.unpinned,k⟩
  | ret v=>obtain ⟨O,j,a,c,V,k⟩:=k;exact ⟨O,j,a,c.unpinned,V,k⟩
end
theorem z65 {K:o0} {a:Addr} {xs:List V} {g:TG} {tb:TS} {D:Ends} {σ:St} {H:Hp} (Pv:Nat->St->Hp->Prop) (h0:Pv 0 σ H) (hl :∀i σ H,i<=xs.length->Pv i σ H->SqL K H a xs)
  (hs :∀i x σ H,xs[i]? = some x->Pv i σ H->g x σ H λ σ2 H2=>tb { D with nx:=Pv (i + 1),ct:=Pv (i + 1),bk:=D.nx } σ2 H2) (hd :∀σ H,Pv xs.length σ H->D.nx σ H) :
  ∃W:Nat->Nat->St->Hp->Prop,(∃m,W 0 m σ H)/\∀i m σ H,W i m σ H->
   ((Itl K a).stop i H/\D.nx σ H)\/((Itl K a).go i H/\∃N:St->Hp->Prop,(∀σ' H',N σ' H'->∃m',m' < m/\W (i + 1) m' σ' H')/\∀x H',(Itl K a).yld i H x H'->g x σ H' λ σ2 H2=>tb { D with nx:=N,ct:=N,bk:=D.nx } σ2 H2):=by
 refine ⟨λ i m σ H=>m=xs.length - i/\i<=xs.length/\Pv i σ H,⟨xs.length,by simp,J2 _,h0⟩,?_⟩;rintro i m σ H ⟨rfl,hi,p⟩;have q:=hl i σ H hi p;by_cases hlt:i < xs.length
 ·refine .inr ⟨⟨xs,xs[i],q,by simp [hlt]⟩,Pv (i + 1),λ σ' H' b=>⟨xs.length - (i + 1),by omega,rfl,hlt,b⟩,λ x H' y=>?_⟩;obtain ⟨e,y⟩:=y;subst e;exact hs i x σ _ (y xs q) p
 ·have e:i=xs.length:=by omega
  subst e;exact .inl ⟨⟨xs,q,K0 _⟩,hd σ H p⟩
theorem zka {K:o0} {a:Addr} {xs:List V} {g:TG} {tb:TS} {D:Ends} {σ:St} {H:Hp} (Pv:Nat->St->Hp->Prop) (h0:Pv 0 σ H) (hl :∀i σ H,i<=xs.length->Pv i σ H->SqT K H a xs)
  (hs :∀i x σ H,xs[i]? = some x->Pv i σ H->g x σ H λ σ2 H2=>tb { D with nx:=Pv (i + 1),ct:=Pv (i + 1),bk:=D.nx } σ2 H2) (hd :∀σ H,Pv xs.length σ H->D.nx σ H) :
  ∃W:Nat->Nat->St->Hp->Prop,(∃m,W 0 m σ H)/\∀i m σ H,W i m σ H->
   ((Itt K a).stop i H/\D.nx σ H)\/((Itt K a).go i H/\∃N:St->Hp->Prop,(∀σ' H',N σ' H'->∃m',m' < m/\W (i + 1) m' σ' H')/\∀x H',(Itt K a).yld i H x H'->g x σ H' λ σ2 H2=>tb { D with nx:=N,ct:=N,bk:=D.nx } σ2 H2):=by
 refine ⟨λ i m σ H=>m=xs.length - i/\i<=xs.length/\Pv i σ H,⟨xs.length,by simp,J2 _,h0⟩,?_⟩;rintro i m σ H ⟨rfl,hi,p⟩;have q:=hl i σ H hi p;by_cases hlt:i < xs.length
 ·refine .inr ⟨⟨xs,xs[i],q,by simp [hlt]⟩,Pv (i + 1),λ σ' H' b=>⟨xs.length - (i + 1),by omega,rfl,hlt,b⟩,λ x H' y=>?_⟩;obtain ⟨e,y⟩:=y;subst e;exact hs i x σ _ (y xs q) p
 ·have e:i=xs.length:=by omega
  subst e;exact .inl ⟨⟨xs,q,K0 _⟩,hd σ H p⟩
theorem z1o {lo:Int} {n:Nat} {g:TG} {tb:TS} {D:Ends} {σ:St} {H:Hp} (Pv:Nat->St->Hp->Prop) (h0:Pv 0 σ H)
  (hs :∀i σ H,i < n->Pv i σ H->g (.int (lo + i)) σ H λ σ2 H2=>tb { D with nx:=Pv (i + 1),ct:=Pv (i + 1),bk:=D.nx } σ2 H2) (hd :∀σ H,Pv n σ H->D.nx σ H) :
  ∃W:Nat->Nat->St->Hp->Prop,(∃m,W 0 m σ H)/\∀i m σ H,W i m σ H->
   ((Itr lo n).stop i H/\D.nx σ H)\/((Itr lo n).go i H/\∃N:St->Hp->Prop,(∀σ' H',N σ' H'->∃m',m' < m/\W (i + 1) m' σ' H')/\∀x H',(Itr lo n).yld i H x H'->g x σ H' λ σ2 H2=>tb { D with nx:=N,ct:=N,bk:=D.nx } σ2 H2):=by
 refine ⟨λ i m σ H=>m=n - i/\i<=n/\Pv i σ H,⟨n,by simp,J2 _,h0⟩,?_⟩;rintro i m σ H ⟨rfl,hi,p⟩;by_cases hlt:i < n
 ·refine .inr ⟨hlt,Pv (i + 1),λ σ' H' a=>⟨n - (i + 1),by omega,rfl,hlt,a⟩,λ x H' y=>?_⟩;obtain ⟨e,y⟩:=y;subst e y;exact hs i σ _ hlt p
 ·have e:i=n:=by omega
  subst e;exact .inl ⟨K0 _,hd σ H p⟩
noncomputable abbrev R2:=V->V->Hp->VK->Prop
def OpR (X:Cx) (f:Value->Value->Sem Value) (r:R2):Prop:=
 ∀(pins:List (Addr×Obj)) (s:C0) (σ:St) (H:Hp) (x y:V) (v u:Value) (Q:VK),Inv X pins σ H s->RelV x v->RelV y u->r x y H Q->
  U0 (G1 X.prog X.w) X.A (f v u) (EP X pins σ Q) X.xe s
def UnR (X:Cx) (f:Value->Sem Value) (r:V->Hp->VK->Prop):Prop:=
 ∀(pins:List (Addr×Obj)) (s:C0) (σ:St) (H:Hp) (x:V) (v:Value) (Q:VK),Inv X pins σ H s->RelV x v->r x H Q->
  U0 (G1 X.prog X.w) X.A (f v) (EP X pins σ Q) X.xe s
def CallR (X:Cx) (f:Value) (r:List V->Hp->VK->Prop):Prop:=
 ∀(pins:List (Addr×Obj)) (s:C0) (σ:St) (H:Hp) (xs:List V) (us:List Value) (Q:VK),Inv X pins σ H s->Vals xs us->r xs H Q->
  U0 (G1 X.prog X.w) X.A (call f us) (EP X pins σ Q) X.xe s
noncomputable def tOp (r:R2) (ta tb:TE):TE:=λ σ H Q=>ta σ H λ x H1=>tb σ H1 λ y H2=>r x y H2 Q
noncomputable def tUn (r:V->Hp->VK->Prop) (ta:TE):TE:=λ σ H Q=>ta σ H λ x H1=>r x H1 Q
noncomputable def rI (C:Int->Int->Prop) (g:Int->Int->V):R2:=λ x y H Q=>∃i j,x=.int i/\y=.int j/\C i j/\Q (g i j) H
noncomputable def rI0 (g:Int->Int->V):R2:=λ x y H Q=>∃i j,x=.int i/\y=.int j/\Q (g i j) H
def rU (g:Int->V):V->Hp->VK->Prop:=λ x H Q=>∃i,x=.int i/\Q (g i) H
section
variable {X:Cx} {a b c:Expr} {ta tb tc:TE} {pos:Pos}
theorem binT (ha:PE X a ta) (hb:PE X b tb) {pins:List (Addr×Obj)} {s:C0} {σ:St} {H:Hp} {R:V->V->Hp->Prop} (I:Inv X pins σ H s)
  (h:ta σ H λ x H1=>tb σ H1 λ y H2=>R x y H2) {Q:Value->C0->Prop} {f:Value->Value->Sem Value}
  (hf :∀v u s2 x y H2,Inv X pins σ H2 s2->RelV x v->RelV y u->R x y H2->U0 (G1 X.prog X.w) X.A (f v u) Q X.xe s2) :
  U0 (G1 X.prog X.w) X.A (V3 a X.env) (λ v s₁=>U0 (G1 X.prog X.w) X.A (V3 b X.env) (λ u s₂=>U0 (G1 X.prog X.w) X.A (f v u) Q X.xe s₂) X.xe s₁) X.xe s:=by
 refine thn (ha pins s σ H _ I h) λ v c ⟨x,H1,I1,r1,q1⟩=>?_;refine thn (hb pins c σ H1 _ I1 q1) λ u s2 ⟨y,H2,I2,r2,q2⟩=>?_;exact hf v u s2 x y H2 I2 r1 r2 q2
theorem pe_op {op:Operator} {r:R2} (ho:OpR X (E6 op) r) (ha:PE X a ta) (hb:PE X b tb):PE X (.BinOp a op b pos) (tOp r ta tb):=by intro g s σ H Q I h;exact wpAny_BinOp (binT ha hb I h λ v u d x y c e i f q=>ho g d σ c x y v u Q e i f q)
theorem pe_un {op:UnaryOp} {r:V->Hp->VK->Prop} (ho:UnR X (unaryOp op) r) (ha:PE X a ta):PE X (.UnaryOp op a pos) (tUn r ta):=by intro b s σ H Q I h;exact UnaryOp_ (thn (ha b s σ H _ I h) λ v c ⟨x,H1,I1,r1,q1⟩=>ho b c σ H1 x v Q I1 r1 q1)
theorem opI {f:Value->Value->Sem Value} {C:Int->Int->Prop} {g:Int->Int->Int}
  (rule :∀(i j:Int) (t u:Tok) (s:C0) (Q:Value->C0->Prop) (E:Value->C0->Prop),C i j->Q (.int (g i j) s.toks) { s with toks:=s.toks + 1 }->U0 (G1 X.prog X.w) X.A (f (.int i t) (.int j u)) Q E s) :
  OpR X f (rI C λ i j=>.int (g i j)):=by
 intro e s σ H x y v u Q I d c h;obtain ⟨i,j,rfl,rfl,a,q⟩:=h;obtain ⟨t,rfl⟩:=d;obtain ⟨b,rfl⟩:=c;exact rule i j t b s _ _ a ⟨.int (g i j),H,I.tok _,⟨_,rfl⟩,q⟩
theorem opI0 {f:Value->Value->Sem Value} {g:Int->Int->Int}
  (rule :∀(i j:Int) (t u:Tok) (s:C0) (Q:Value->C0->Prop) (E:Value->C0->Prop),Q (.int (g i j) s.toks) { s with toks:=s.toks + 1 }->U0 (G1 X.prog X.w) X.A (f (.int i t) (.int j u)) Q E s) :
  OpR X f (rI0 λ i j=>.int (g i j)):=by
 intro d s σ H x y v u Q I c b h;obtain ⟨i,j,rfl,rfl,q⟩:=h;obtain ⟨t,rfl⟩:=c;obtain ⟨a,rfl⟩:=b;exact rule i j t a s _ _ ⟨.int (g i j),H,I.tok _,⟨_,rfl⟩,q⟩
theorem opB0 {f:Value->Value->Sem Value} {g:Int->Int->Bool}
  (rule :∀(i j:Int) (t u:Tok) (s:C0) (Q:Value->C0->Prop) (E:Value->C0->Prop),Q (.bool (g i j)) s->U0 (G1 X.prog X.w) X.A (f (.int i t) (.int j u)) Q E s) :
  OpR X f (rI0 λ i j=>.bl (g i j)):=by
 intro d s σ H x y v u Q I c b h;obtain ⟨i,j,rfl,rfl,q⟩:=h;obtain ⟨t,rfl⟩:=c;obtain ⟨a,rfl⟩:=b;exact rule i j t a s _ _ ⟨.bl (g i j),H,I,rfl,q⟩
def CPow (i j:Int):Prop:=0<=j/\j<=1000000/\i.natAbs < 2 ^ 64
def CMul (i j:Int):Prop:=(-(2 ^ 64) < i/\i < 2 ^ 64)\/(-(2 ^ 64) < j/\j < 2 ^ 64)
theorem CMul.ok {i j:Int} (h:CMul i j):IntMulOk i j:=by
 rcases h with ⟨a,b⟩|⟨a,b⟩
 ·exact .of_left (intBits_le_64 a b)
 ·exact .of_right (intBits_le_64 a b)
theorem op_add:OpR X (E6 .Add) (rI0 λ i j=>.int (i + j)):=opI0 λ _ _ _ _ _ _ _ q=>add_int q
theorem op_sub:OpR X (E6 .Sub) (rI0 λ i j=>.int (i - j)):=opI0 λ _ _ _ _ _ _ _ q=>sub_int q
theorem op_mul:OpR X (E6 .Mult) (rI CMul λ i j=>.int (i * j)):=opI λ _ _ _ _ _ _ _ a q=>mul_int q a.ok
theorem op_mod:OpR X (E6 .Mod) (rI (λ _ j=>0 < j) λ i j=>.int (i % j)):=opI λ i j _ _ _ _ _ a q=>by have b:(0:Int) < j:=a;exact mod_int' (by omega) (by rw [Int.fmod_eq_emod_of_nonneg i (by omega)];exact q)
theorem op_pow:OpR X (E6 .Pow) (rI CPow λ i j=>.int (i ^ j.toNat)):=opI λ _ _ _ _ _ _ _ a q=>pow_int_small a.1 a.2.1 a.2.2 q
theorem unI {f:Value->Sem Value} {g:Int->Int}
  (rule :∀(i:Int) (t:Tok) (s:C0) (Q:Value->C0->Prop) (E:Value->C0->Prop),Q (.int (g i) s.toks) { s with toks:=s.toks + 1 }->U0 (G1 X.prog X.w) X.A (f (.int i t)) Q E s) :
  UnR X f (rU λ i=>.int (g i)):=by
 intro b s σ H x v Q I a h;obtain ⟨i,rfl,q⟩:=h;obtain ⟨t,rfl⟩:=a;exact rule i t s _ _ ⟨.int (g i),H,I.tok _,⟨_,rfl⟩,q⟩
theorem un_neg:UnR X (unaryOp .USub) (rU λ i=>.int (-i)):=unI λ _ _ _ _ _ q=>neg_int q
end
noncomputable def scal:V->V->Bool
 | .non,.non=>true | .non,.int _=>true | .int _,.non=>true | .non,.bl _=>true | .bl _,.non=>true | .non,.str _=>true | .str _,.non=>true
 | .int _,.int _=>true | .bl _,.bl _=>true | .str _,.str _=>true | .byt _,.byt _=>true
 | .int _,.str _=>true | .str _,.int _=>true | .bl _,.str _=>true | .str _,.bl _=>true
 | _,_=>false
noncomputable def rEq:R2:=λ x y H Q=>scal x y=true/\Q (.bl (decide (x=y))) H
noncomputable def rNe:R2:=λ x y H Q=>scal x y=true/\Q (.bl (!decide (x=y))) H
theorem zht {i j:Int}:decide (V.int i=V.int j)=(i == j):=by rw [Bool.eq_iff_iff];simp
theorem dec_bl {i j:Bool}:decide (V.bl i=V.bl j)=(i == j):=by rw [Bool.eq_iff_iff];simp
theorem zck {i j:Str}:decide (V.str i=V.str j)=(i == j):=by rw [Bool.eq_iff_iff];simp
theorem zhr {i j:Array UInt8}:decide (V.byt i=V.byt j)=(i.toList == j.toList):=by rw [Bool.eq_iff_iff];cases i;cases j;simp
section
variable {X:Cx} {a b c:Expr} {ta tb tc:TE} {pos:Pos}
theorem fin_bl {pins:List (Addr×Obj)} {σ:St} {H:Hp} {s:C0} {Q:VK} {k k':Bool} (I:Inv X pins σ H s) (q:Q (.bl k) H) (e:k=k'):EP X pins σ Q (.bool k') s:=by subst e;exact ⟨.bl k,H,I,rfl,q⟩
theorem op_eq:OpR X (X2 .Eq) rEq:=by
 intro e s σ H x y v u Q I d a h;obtain ⟨c,q⟩:=h;cases x with
 | non=>
  cases d;cases y with
  | non=>cases a;exact PySem.EqNone.eq_none_none (fin_bl I q (by simp))
  | bl j=>cases a;exact PySem.EqNone.eq_none_bool (fin_bl I q (by simp))
  | int j=>obtain ⟨b,rfl⟩:=a;exact PySem.EqNone.eq_none_int (fin_bl I q (by simp))
  | str j=>obtain ⟨b,rfl⟩:=a;exact PySem.EqNone.eq_none_str (fin_bl I q (by simp))
  | _=>exact absurd (show false=true from c) E1
 | bl i=>
  cases d;cases y with
  | non=>cases a;exact PySem.EqNone.eq_bool_none (fin_bl I q (by simp))
  | bl j=>cases a;exact eq_bool (fin_bl I q dec_bl)
  | str j=>obtain ⟨b,rfl⟩:=a;exact PySem.EqMixed.eq_bool_str (fin_bl I q (by simp))
  | _=>exact absurd (show false=true from c) E1
 | int i=>
  obtain ⟨t,rfl⟩:=d;cases y with
  | non=>cases a;exact PySem.EqNone.eq_int_none (fin_bl I q (by simp))
  | int j=>obtain ⟨b,rfl⟩:=a;exact eq_int (fin_bl I q zht)
  | str j=>obtain ⟨b,rfl⟩:=a;exact PySem.EqMixed.eq_int_str (fin_bl I q (by simp))
  | _=>exact absurd (show false=true from c) E1
 | str i=>
  obtain ⟨t,rfl⟩:=d;cases y with
  | non=>cases a;exact PySem.EqNone.eq_str_none (fin_bl I q (by simp))
  | bl j=>cases a;exact PySem.EqMixed.eq_str_bool (fin_bl I q (by simp))
  | int j=>obtain ⟨b,rfl⟩:=a;exact PySem.EqMixed.eq_str_int (fin_bl I q (by simp))
  | str j=>obtain ⟨b,rfl⟩:=a;exact eq_str (fin_bl I q zck)
  | _=>exact absurd (show false=true from c) E1
 | byt i=>
  obtain ⟨t,rfl⟩:=d;cases y with
  | byt j=>obtain ⟨b,rfl⟩:=a;exact PySem.W.eq_bytes (fin_bl I q zhr)
  | _=>exact absurd (show false=true from c) E1
 | _=>cases y<;>exact absurd (show false=true from c) E1
theorem op_ne:OpR X (X2 .NotEq) rNe:=by
 intro e s σ H x y v u Q I d a h;obtain ⟨c,q⟩:=h;cases x with
 | non=>
  cases d;cases y with
  | non=>cases a;exact PySem.EqNone.ne_none_none (fin_bl I q (by simp))
  | bl j=>cases a;exact PySem.EqNone.ne_none_bool (fin_bl I q (by simp))
  | int j=>obtain ⟨b,rfl⟩:=a;exact PySem.EqNone.ne_none_int (fin_bl I q (by simp))
  | str j=>obtain ⟨b,rfl⟩:=a;exact PySem.EqNone.ne_none_str (fin_bl I q (by simp))
  | _=>exact absurd (show false=true from c) E1
 | bl i=>
  cases d;cases y with
  | non=>cases a;exact PySem.EqNone.ne_bool_none (fin_bl I q (by simp))
  | bl j=>cases a;exact ne_bool (fin_bl I q (congrArg not dec_bl))
  | str j=>obtain ⟨b,rfl⟩:=a;exact PySem.EqMixed.ne_bool_str (fin_bl I q (by simp))
  | _=>exact absurd (show false=true from c) E1
 | int i=>
  obtain ⟨t,rfl⟩:=d;cases y with
  | non=>cases a;exact PySem.EqNone.ne_int_none (fin_bl I q (by simp))
  | int j=>obtain ⟨b,rfl⟩:=a;exact ne_int (fin_bl I q (congrArg not zht))
  | str j=>obtain ⟨b,rfl⟩:=a;exact PySem.EqMixed.ne_int_str (fin_bl I q (by simp))
  | _=>exact absurd (show false=true from c) E1
 | str i=>
  obtain ⟨t,rfl⟩:=d;cases y with
  | non=>cases a;exact PySem.EqNone.ne_str_none (fin_bl I q (by simp))
  | bl j=>cases a;exact PySem.EqMixed.ne_str_bool (fin_bl I q (by simp))
  | int j=>obtain ⟨b,rfl⟩:=a;exact PySem.EqMixed.ne_str_int (fin_bl I q (by simp))
  | str j=>obtain ⟨b,rfl⟩:=a;exact ne_str (fin_bl I q (congrArg not zck))
  | _=>exact absurd (show false=true from c) E1
 | byt i=>
  obtain ⟨t,rfl⟩:=d;cases y with
  | byt j=>obtain ⟨b,rfl⟩:=a;exact PySem.W.ne_bytes (fin_bl I q (congrArg not zhr))
  | _=>exact absurd (show false=true from c) E1
 | _=>cases y<;>exact absurd (show false=true from c) E1
theorem op_lt:OpR X (X2 .Lt) (rI0 λ i j=>.bl (decide (i < j))):=opB0 λ _ _ _ _ _ _ _ q=>lt_int q
theorem op_le:OpR X (X2 .LtE) (rI0 λ i j=>.bl (decide (i<=j))):=opB0 λ _ _ _ _ _ _ _ q=>le_int q
theorem op_gt:OpR X (X2 .Gt) (rI0 λ i j=>.bl (decide (j < i))):=opB0 λ _ _ _ _ _ _ _ q=>gt_int q
theorem op_ge:OpR X (X2 .GtE) (rI0 λ i j=>.bl (decide (j<=i))):=opB0 λ _ _ _ _ _ _ _ q=>ge_int q
theorem zgv:OpR X (X2 .In) (λ x y H Q=>∃i j,x=.str i/\y=.str j/\Q (.bl (!(R7 j i 0 j.length 1).isEmpty)) H):=by intro d s σ H x y v u Q I b a h;obtain ⟨i,j,rfl,rfl,q⟩:=h;obtain ⟨t,rfl⟩:=b;obtain ⟨c,rfl⟩:=a;exact in_str (fin_bl I q rfl)
theorem op_isN:OpR X (X2 .Is) (λ x y H Q=>y=.non/\Q (.bl (decide (x=.non))) H):=by
 intro c s σ H x y v u Q I a b h;obtain ⟨rfl,q⟩:=h;cases b;refine is_none_gen (fin_bl I q ?_);cases x<;>first
  | (cases a;rfl)
  | (obtain ⟨t,rfl⟩:=a;rfl)
theorem z9c:OpR X (X2 .IsNot) (λ x y H Q=>y=.non/\Q (.bl (!decide (x=.non))) H):=by
 intro c s σ H x y v u Q I a b h;obtain ⟨rfl,q⟩:=h;cases b;refine isnot_none_gen (fin_bl I q ?_);cases x<;>first
  | (cases a;rfl)
  | (obtain ⟨t,rfl⟩:=a;rfl)
theorem OpR.or {f:Value->Value->Sem Value} {r r':R2} (h:OpR X f r) (h':OpR X f r'):OpR X f (λ x y H Q=>r x y H Q\/r' x y H Q):=by
 intro b s σ H x y v u Q I c a q;rcases q with q|q
 ·exact h b s σ H x y v u Q I c a q
 ·exact h' b s σ H x y v u Q I c a q
theorem nomark (b:Expr) {op:CmpOp} (h:op≠.In:=by decide) (h2:op≠.NotIn:=by decide):N8 op b=false:=by
 have c:(op == CmpOp.In)=false:=by cases op<;>first|rfl|exact absurd rfl h
 have a:(op == CmpOp.NotIn)=false:=by cases op<;>first|rfl|exact absurd rfl h2
 cases b<;>simp [N8,c,a]
theorem z28 {op:CmpOp} {r:R2} (ho:OpR X (X2 op) r) (ha:PE X a ta) (hb:PE X b tb) (hm:N8 op b=false):PE X (.Compare a [op] [b] pos) (tOp r ta tb):=by intro g s σ H Q I h;exact wpAny_Compare1 (binT ha hb I h λ v u d x y c e i f q=>ho g d σ c x y v u Q e i f q) hm
noncomputable def tTest (t:TE):TT:=λ σ H Q=>t σ H λ x H'=>∃k,x=.bl k/\Q k H'
theorem z09 {op:CmpOp} {r:R2} (ho:OpR X (X2 op) r) (ha:PE X a ta) (hb:PE X b tb) (hm:N8 op b=false):PT X (.Compare a [op] [b] pos) (tTest (tOp r ta tb)):=by
 intro d s σ H Q I h;refine wpAny_isTrue_Compare1 (thn (ha d s σ H _ I h) λ v f ⟨x,H1,I1,r1,q1⟩=>thn (hb d f σ H1 _ I1 q1) λ u g ⟨y,H2,I2,r2,q2⟩=>thn (ho d g σ H2 x y v u _ I2 r1 r2 q2) λ c i ⟨z,H3,I3,r3,k,e,q3⟩=>?_) hm;subst e;cases r3;exact O3 ⟨H3,I3,q3⟩
noncomputable def tChain (r r':R2) (ta tb tc:TE):TE:=λ σ H Q=>ta σ H λ x H1=>tb σ H1 λ y H2=>r x y H2 λ z H3=>∃k,z=.bl k/\
 (if k=true then tc σ H3 λ w' H4=>r' y w' H4 Q else Q (.bl false) H3)
theorem zf9 {op op':CmpOp} {r r':R2} (ho:OpR X (X2 op) r) (ho':OpR X (X2 op') r') (ha:PE X a ta) (hb:PE X b tb) (hc:PE X c tc)
  (hm:lastMarks [op,op'] [b,c]=false:=by with_unfolding_all rfl):PE X (.Compare a [op,op'] [b,c] pos) (tChain r r' ta tb tc):=by
 intro f s σ H Q I h;refine Compare_chain (thn (ha f s σ H _ I h) λ v g ⟨x,H1,I1,r1,q1⟩=>chain_link (thn (hb f g σ H1 _ I1 q1) λ u i ⟨y,H2,I2,r2,q2⟩=>thn (ho f i σ H2 x y v u _ I2 r1 r2 q2) λ d l ⟨z,H3,I3,r3,k,e,q3⟩=>?_)) hm;subst e;cases r3;refine O3 ?_;cases k with
 | false=>exact ite_ff ⟨.bl false,H3,I3,rfl,q3⟩
 | true=>exact ite_tt (chain_last (thn (hc f l σ H3 _ I3 q3) λ m j ⟨z',H4,I4,r4,q4⟩=>ho' f j σ H4 y z' u m Q I4 r2 r4 q4))
theorem zj6 {op op':CmpOp} {r r':R2} (ho:OpR X (X2 op) r) (ho':OpR X (X2 op') r') (ha:PE X a ta) (hb:PE X b tb) (hc:PE X c tc)
  (hm:lastMarks [op,op'] [b,c]=false:=by with_unfolding_all rfl):PT X (.Compare a [op,op'] [b,c] pos) (tTest (tChain r r' ta tb tc)):=by
 intro f s σ H Q I h;refine isTrue_chain (thn (ha f s σ H _ I h) λ v o ⟨x,H1,I1,r1,q1⟩=>test_link (thn (hb f o σ H1 _ I1 q1) λ u g ⟨y,H2,I2,r2,q2⟩=>thn (ho f g σ H2 x y v u _ I2 r1 r2 q2) λ d j ⟨z,H3,I3,r3,k,e,q3⟩=>?_)) hm;subst e;cases r3;refine O3 ?_;cases k with
 | false=>obtain ⟨t,i,n⟩:=q3;cases i;exact ite_ff ⟨H3,I3,n⟩
 | true=>refine ite_tt (test_last (thn (hc f j σ H3 _ I3 q3) λ l m ⟨z',H4,I4,r4,q4⟩=>thn (ho' f m σ H4 y z' u l _ I4 r2 r4 q4) λ q p ⟨z2,H5,I5,r5,k2,e2,q5⟩=>?_));subst e2;cases r5;exact O3 ⟨H5,I5,q5⟩
theorem line63:(sizeLine:Nat) < 2 ^ 63:=by rw [sizeLine_eq];decide
theorem op_add_str:OpR X (E6 .Add) (λ x y H Q=>∃i j,x=.str i/\y=.str j/\i.length + j.length<=sizeLine/\Q (.str (i++j)) H):=by intro e s σ H x y v u Q I d c h;obtain ⟨i,j,rfl,rfl,a,q⟩:=h;obtain ⟨t,rfl⟩:=d;obtain ⟨b,rfl⟩:=c;exact add_str (λ b f=>⟨.str (i++j),H,I.tok _,⟨_,rfl⟩,q⟩) a
theorem vals1 {x:V} {us:List Value} (r:Vals [x] us) :∃u,us=[u]/\RelV x u:=by
 cases r with
 | cons r1 r2=>cases r2;exact ⟨_,rfl,r1⟩
theorem vals2 {x y:V} {us:List Value} (r:Vals [x,y] us) :∃u w',us=[u,w']/\RelV x u/\RelV y w':=by
 cases r with
 | cons r1 r2=>
  cases r2 with
  | cons r3 r4=>cases r4;exact ⟨_,_,rfl,r1,r3⟩
end
structure ObjM (h:Heap) (x dx C:Addr) (mA:Str->Option Value):Prop where
 obj:h.get? x=some (U4 C dx)
 ns:h.Ns1 dx mA
 ne:dx≠x
theorem zh3 {h:Heap} {dx:Addr} {mA:Str->Option Value} (n:h.Ns1 dx mA) :∃od,h.get? dx=some od/\∀name,O8 name od=some (mA name):=by
 obtain ⟨o,b,l,d,j,k,_,f⟩:=n;refine ⟨o,d,λ name=>?_⟩;have e:=f name;unfold nsFind findBy at e;rw [<-Array.find?_toList] at e;unfold O8;rw [j];dsimp only;split
 ·rename_i y q;rw [q] at e;exact congrArg some e
 ·rename_i q;rw [q] at e;have a:b.toList.any (·.refKey)=false:=by rw [List.any_eq_false];intro y g;obtain ⟨z,t,c⟩:=k y (Array.mem_toList_iff.mp g);simp [DictEntry.refKey,c]
  have i:¬ b.toList.any (·.refKey)=true:=by rw [a];exact E1
  rw [if_neg i];exact congrArg some e
theorem ObjM.look {h:Heap} {x dx C:Addr} {mA:Str->Option Value} (I:ObjM h x dx C mA) :∃od,PySem.W.InstAt h x (U4 C dx) C (some od)/\∀name,O8 name od=some (mA name):=
 let ⟨od,ho,hl⟩:=zh3 I.ns
 ⟨od,⟨I.obj,rfl,rfl,ho⟩,hl⟩
section
variable {prog:Program} {w:Z0} {A:P2} {E:Value->C0->Prop} {s:C0} {K:o0} {x dx C f:Addr} {mA:Str->Option Value} {name:Str} {v:Value}
theorem zk0 {expr:Bool} {Q:Value->C0->Prop} (X:K.In s.heap) (I:ObjM s.heap x dx C mA) (hg:Y7 K C name=true) (hh:G9 K C=true)
  (ha:Y3 K (.ref C) name=some none) (hv:mA name=some v) (hv':PySem.W.handedIn v=true) (h:Q v { s with toks:=s.toks + 1 }) :
  U0 (G1 prog w) A (getAttr (.ref x) name expr) Q E s:=by
 obtain ⟨b,J,a⟩:=I.look;exact PySem.W.get_value X J (b9 hg).1 (PySem.W.findObj_own hh ha rfl (by rw [a,hv])) hv' h
theorem zie {pl:Sem Bool} {Q:Value×List Value->C0->Prop} (X:K.In s.heap) (I:ObjM s.heap x dx C mA) (hg:Y7 K C name=true)
  (hf:Y3 K (.ref C) name=some (some (.ref f))) (ht:j1g K (.ref f)=true) (hv:mA name=none) (h:Q (.ref f,[.ref x]) s) :
  U0 (G1 prog w) A (getMethod (.ref x) name pl) Q E s:=by
 obtain ⟨b,J,a⟩:=I.look;exact PySem.W.method_fn X J (b9 hg).1 (b9 hg).2 hf (beq_iff_eq.mp ht) (by show (O8 name b).map (·.isSome)=some false;rw [a,hv];rfl) h
theorem zko {ns:List Str} {Q:Unit->C0->Prop} (X:K.In s.heap) (I:ObjM s.heap x dx C mA)
  (hs:Y3 K (.ref C) "__setattr__" = some (some (.builtin "object.__setattr__"))) (hp:j43 K C=true) (ht:j03 K C name=some none) (hh:G9 K C=true)
  (hw:j2g mA ns) (hsz:ns.length<=sizeLine)
  (h :∀h',ObjM h' x dx C (λ y=>if y=name then some v else mA y)->S6 dx s.heap h'->Q () { s with heap:=h',toks:=s.toks + 2 }) :
  U0 (G1 prog w) A (setAttr (.ref x) name v) Q E s:=by
 obtain ⟨o,J,m⟩:=I.look;refine PySem.W.set_plain X J hs (PySem.W.osa_open (s:={ s with toks:=s.toks + 1 }) (r:=none) X J hp ht λ b=>?_);obtain ⟨l,f,g⟩:=PySem.W.any_some hh;have i:s.heap.get? x=some ⟨.ref C,some dx,.plain,#[]⟩:=I.obj;refine v0 (F0 (v0 (v0 (wpAny_loadPart i (v0 (PySem.W.Looks.here (s:={ s with toks:=s.toks + 1 }) (PySem.W.looks_clsIn X f) ?_))))));rw [g];refine F0 (a:=some dx) (v0 (F0 (v0 ?_)));refine wpAny_nsSet1 (s:={ s with toks:=s.toks + 1 }) I.ns λ h' c d=>?_;obtain ⟨n,p,q,j,e,k⟩:=c.count (PySem.Within.cons name v hw);refine v0 (wpAny_lookBehind j (by rw [e];exact pastItsLine_dict (N0 k (by rw [Y0];omega))) ?_);exact F0 (h _ ⟨(d.2 _ (C2 I.ne)).trans I.obj,c,I.ne⟩ d)
theorem zij {R:j1f->C0->Prop} {vs:List Value} {kw:List (Str×Value)} (X:K.In s.heap) (hm:PySem.W.makesIn K C=true)
  (hi:Y3 K (.ref C) "__init__" = some (some (.ref f))) (hf:PySem.W.typeIn K (.ref f)=some (.type "function"))
  (h:D5 (G1 prog w) (A.under (.builtin "type.__call__" ⟨.ref C :: vs,kw⟩)) (.call (.ref f) ⟨.ref (s.heap.objs.size + 1) :: vs,kw⟩) (PySem.W.InitBack (s.heap.objs.size + 1) R)
   { s with heap:=(s.heap.push PySem.W.emptyDict).push (U4 C s.heap.objs.size) }) :
  D5 (G1 prog w) A (.call (.ref C) ⟨vs,kw⟩) R s:=by
 obtain ⟨c,g,d,t,b⟩:=s;exact PySem.W.make_core (PySem.W.makes_of X hm) (PySem.W.looks_findIn X hi) (λ a=>PySem.W.bind_fn X a hf) (.inl rfl) h
end
noncomputable def putF (f:Str) (v:V):List (Str×V)->List (Str×V)
 | []=>[(f,v)]
 | (g,x) :: r=>if g=f then (g,v) :: r else (g,x) :: putF f v r
theorem z3d (f g:Str) (v:V) :∀fs:List (Str×V),(putF f v fs).lookup g=if g=f then some v else fs.lookup g
 | []=>by
  show y7 g [(f,v)]=_;by_cases h:g=f
  ·have a:(g == f)=true:=beq_iff_eq.mpr h;simp only [y7,a,if_pos h]
  ·have a:(g == f)=false:=beq_eq_false_iff_ne.mpr h;simp only [y7,a,if_neg h]
 | (k,x) :: r=>by
  have b:=z3d f g v r;rw [show putF f v ((k,x) :: r)=(if k=f then (k,v) :: r else (k,x) :: putF f v r) from rfl];by_cases hk:k=f
  ·rw [if_pos hk];by_cases h:g=k
   ·have a:(g == k)=true:=beq_iff_eq.mpr h;simp only [y7,a,if_pos (h.trans hk)]
   ·have a:(g == k)=false:=beq_eq_false_iff_ne.mpr h;simp only [y7,a,if_neg (λ e:g=f=>h (e.trans hk.symm))]
  ·rw [if_neg hk];by_cases h:g=k
   ·have a:(g == k)=true:=beq_iff_eq.mpr h;simp only [y7,a,if_neg (λ e:g=f=>hk (h.symm.trans e))]
   ·have a:(g == k)=false:=beq_eq_false_iff_ne.mpr h;simp only [y7,a];exact b
theorem z8j (f:Str) (v:V) :∀fs:List (Str×V),f∈(putF f v fs).map (·.1)/\∀g,g∈fs.map (·.1)->g∈(putF f v fs).map (·.1)
 | []=>⟨by simp [putF],λ g h=>by simp at h⟩
 | (k,x) :: r=>by
  obtain ⟨a,b⟩:=z8j f v r;rw [show putF f v ((k,x) :: r)=(if k=f then (k,v) :: r else (k,x) :: putF f v r) from rfl];by_cases hk:k=f
  ·rw [if_pos hk];subst hk;exact ⟨by simp,λ g h=>by simpa using h⟩
  ·rw [if_neg hk];refine ⟨?_,λ g h=>?_⟩
   ·rw [Y1];exact U1 _ a
   ·rw [Y1] at h⊢;rcases List.mem_cons.mp h with e|e
    ·exact List.mem_cons.mpr (.inl e)
    ·exact U1 _ (b g e)
theorem z7g (f:Str) (v:V) :∀fs:List (Str×V),(putF f v fs).length<=fs.length + 1
 | []=>by simp [putF]
 | (k,x) :: r=>by
  have a:=z7g f v r;rw [show putF f v ((k,x) :: r)=(if k=f then (k,v) :: r else (k,x) :: putF f v r) from rfl];by_cases hk:k=f
  ·rw [if_pos hk,Y0,Y0];omega
  ·rw [if_neg hk,Y0,Y0];omega
theorem RelO.some_of {v:V} {o:Option Value} (r:RelO (some v) o) :∃u,o=some u/\RelV v u:=by
 cases o with
 | none=>exact (show False from r).elim
 | some u=>exact ⟨u,rfl,r⟩
theorem RelO.none_of {o:Option Value} (r:RelO none o):o=none:=by
 cases o with
 | none=>rfl
 | some u=>exact (show False from r).elim
theorem zh1 {v:V} {u:Value} (r:RelV v u):PySem.W.handedIn u=true:=by
 cases v with
 | non=>cases (show u=P3 from r);rfl
 | bl b=>cases (show u=E9 b from r);rfl
 | int i=>obtain ⟨t,e⟩:=(show∃t,u=i9 i t from r);cases e;rfl
 | str x=>obtain ⟨t,e⟩:=(show∃t,u=g9 x t from r);cases e;rfl
 | byt b=>obtain ⟨t,e⟩:=(show∃t,u=Value.bytes b t from r);cases e;rfl
 | flt b=>obtain ⟨t,e⟩:=(show∃t,u=j3d b t from r);cases e;rfl
 | ref a=>cases (show u=F1 a from r);rfl
 | ty n=>cases (show u=G3 n from r);rfl
section
variable {P:Program} {w:Z0} {H H':Hp} {h h':Heap} {a C dx:Addr} {fs fs':List (Str×V)}
theorem zce (hok:HOk P w H h) (e:H a=some (.ins C dx fs)) :∃mA,ObjM h a dx C mA/\(∀f,RelO (fs.lookup f) (mA f))/\j2g mA (fs.map (·.1))/\fs.length<=1000/\H dx=some (.own a):=by
 obtain ⟨d,z,c,b,mA,n,r,q⟩:=(show ObjOk P w H h a (.ins C dx fs) from hok a _ e)
 exact ⟨mA,⟨b,n,c⟩,r,q,z,d⟩
end
structure Cls (K:o0) (C:Addr):Prop where
 pg:Y7 K C Str.empty=true
 hd:G9 K C=true
 po:j43 K C=true
 sa:Y3 K (.ref C) "__setattr__" = some (some (.builtin "object.__setattr__"))
theorem Cls.get {K:o0} {C:Addr} (c:Cls K C) (f:Str):Y7 K C f=true:=c.pg
def NoAttr (K:o0) (C:Addr) (f:Str):Prop:=Y3 K (.ref C) f=some none
theorem NoAttr.taker {K:o0} {C:Addr} {f:Str} (n:NoAttr K C f):j03 K C f=some none:=by unfold j03;rw [show Y3 K (.ref C) f=some none from n];rfl
structure Con (K:o0) (C:Addr) (f:Str) (v:V) (u:Value):Prop where
 at_:Y3 K (.ref C) f=some (some u)
 rel:RelV v u
 get:j42 K u "__get__" = some none
 cp:PySem.W.copiedNames.contains f=false
structure Meth (K:o0) (C:Addr) (m:Str) (f:Addr):Prop where
 at_:Y3 K (.ref C) m=some (some (.ref f))
 fn:j1g K (.ref f)=true
 kp:a5 K (.ref f)=true
section
variable {X:Cx} {pins:List (Addr×Obj)} {σ:St} {H:Hp} {s:C0} {a C dx:Addr} {fs:List (Str×V)} {f:Str} {v:V} {A:P2} {E:Value->C0->Prop}
theorem zeq {b:Bool} {Q:Value->C0->Prop} (I:Inv X pins σ H s) (e:H a=some (.ins C dx fs)) (c:Cls X.K C) (n:NoAttr X.K C f) (l:fs.lookup f=some v)
  (h :∀u s',Inv X pins σ H s'->RelV v u->Q u s'):U0 (G1 X.prog X.w) A (getAttr (.ref a) f b) Q E s:=by
 obtain ⟨i,O,r,_,_,_⟩:=zce I.hok e;obtain ⟨u,g,d⟩:=RelO.some_of (v:=v) (o:=i f) (by rw [<-l];exact r f);exact zk0 I.kIn O (c.get f) c.hd n g (zh1 d) (h u _ (I.tok _) d)
theorem zfc {m:Str} {g:Addr} {pl:Sem Bool} {Q:Value×List Value->C0->Prop} (I:Inv X pins σ H s) (e:H a=some (.ins C dx fs)) (c:Cls X.K C) (k:Meth X.K C m g) (l:fs.lookup m=none)
  (h:Q (.ref g,[.ref a]) s):U0 (G1 X.prog X.w) A (getMethod (.ref a) m pl) Q E s:=by
 obtain ⟨d,O,r,_,_,_⟩:=zce I.hok e;have b:d m=none:=RelO.none_of (by rw [<-l];exact r m);exact zie I.kIn O (c.get m) k.at_ k.fn b h
theorem zfs {y:V} {u:Value} {Q:Unit->C0->Prop} (I:Inv X pins σ H s) (e:H a=some (.ins C dx fs)) (c:Cls X.K C) (n:NoAttr X.K C f) (hl:fs.length < 1000) (ry:RelV y u)
  (h :∀s',Inv X pins σ (upd H a (.ins C dx (putF f y fs))) s'->Q () s'):U0 (G1 X.prog X.w) A (setAttr (.ref a) f u) Q E s:=by
 obtain ⟨k,O,r,j,_,i⟩:=zce I.hok e;have B:(fs.map (·.1)).length<=sizeLine:=by rw [I0,sizeLine_eq];omega
 refine zko I.kIn O c.sa c.po n.taker c.hd j B λ v d m=>h _ ?_;have t :∃o,v.get? dx=some o:=let ⟨o,_,_,e',_⟩:=d.ns;⟨o,e'⟩;refine I.write (x:=a) (e:=dx) (by rw [e];exact True.intro) (.inr i) (λ b q p z=>(m.2 b p).trans z) t ?_;refine ⟨by rw [upd_ne O.ne];exact i,?_,O.ne,d.obj,_,d.ns,λ g=>?_,λ g l=>?_⟩
 ·have:=z7g f y fs;omega
 ·show RelO ((putF f y fs).lookup g) (if g=f then some u else k g);rw [z3d];by_cases q:g=f
  ·rw [if_pos q,if_pos q];exact ry
  ·rw [if_neg q,if_neg q];exact r g
 ·by_cases q:g=f
  ·rw [q];exact (z8j f y fs).1
  ·refine (z8j f y fs).2 g (j g λ z=>l ?_);show (if g=f then some u else k g)=none;rw [if_neg q];exact z
theorem Inv.made (I:Inv X pins σ H s):Inv X pins σ (upd (upd H s.heap.objs.size (.own (s.heap.objs.size + 1))) (s.heap.objs.size + 1) (.ins C s.heap.objs.size []))
  { s with heap:=(s.heap.push PySem.W.emptyDict).push (U4 C s.heap.objs.size) }:=by
 have c:(s.heap.push PySem.W.emptyDict).get? s.heap.objs.size=some PySem.W.emptyDict:=C1 s.heap rfl;have f:((s.heap.push PySem.W.emptyDict).push (U4 C s.heap.objs.size)).get? (s.heap.objs.size + 1)=some (U4 C s.heap.objs.size):=by
  have:=C1 (s.heap.push PySem.W.emptyDict) (o:=U4 C s.heap.objs.size) rfl
  rwa [R6] at this
 have h:(s.heap.push PySem.W.emptyDict).Ns s.heap.objs.size (λ _=>none):=⟨PySem.W.emptyDict,#[],_,c,rfl,(λ e i=>absurd i (by simp)),λ _=>rfl⟩
 have g:=I.laid (a:=s.heap.objs.size) (o:=.own (s.heap.objs.size + 1)) (h':=s.heap.push PySem.W.emptyDict) (t':=s.toks) (λ b u q=>J0 _ q) (K0 _) ⟨_,c⟩;refine g.laid (a:=s.heap.objs.size + 1) (o:=.ins C s.heap.objs.size []) (t':=s.toks) (λ b u q=>J0 _ q) (Nat.le_of_eq (R6 _ _)) ?_;have d:s.heap.objs.size≠s.heap.objs.size + 1:=A1 (J3 _);refine ⟨by rw [upd_ne d,z04],J2 _,d,f,λ _=>none,(Heap.Ns1.of_empty h).at λ o q=>J0 _ q,λ _=>True.intro,λ y j=>absurd rfl j⟩
theorem zkd {prog:Program} {w:Z0} {env:Env} {e:Expr} {f:Str} {pos:Pos} {s:C0} {Q:Value->C0->Prop} (hb:B5 e f env (V3 e env)=V3 e env)
  (h:U0 (G1 prog w) A (V3 e env) (λ o s₁=>U0 (G1 prog w) A (getAttr o f true) Q E s₁) E s):U0 (G1 prog w) A (V3 (.Attribute e f pos) env) Q E s:=
 Attribute_any_ h (by rw [arm_eval_Attribute,hb])
end
noncomputable def tFld (K:o0) (ta:TE) (f:Str):TE:=λ σ H Q=>ta σ H λ x H1=>∃a C dx fs v,x=.ref a/\H1 a=some (.ins C dx fs)/\Cls K C/\NoAttr K C f/\fs.lookup f=some v/\Q v H1
noncomputable def sFld (K:o0) (ta tv:TE) (f:Str):TS:=λ D σ H=>tv σ H λ y H1=>ta σ H1 λ x H2=>∃a C dx fs,x=.ref a/\H2 a=some (.ins C dx fs)/\Cls K C/\NoAttr K C f/\fs.length < 1000/\
 D.nx σ (upd H2 a (.ins C dx (putF f y fs)))
section
variable {X:Cx} {o e value:Expr} {f:Str} {pos pos' tpos:Pos} {ta tv:TE}
theorem pe_fld (he:PE X e ta) (hb:B5 e f X.env (V3 e X.env)=V3 e X.env):PE X (.Attribute e f pos) (tFld X.K ta f):=by intro g s σ H Q I h;refine zkd hb (thn (he g s σ H _ I h) λ u j ⟨x,H1,I1,rx,a,C,dx,fs,v,ex,ea,c,n,l,q⟩=>?_);subst ex;obtain rfl:u=F1 a:=rx;exact zeq I1 ea c n l λ k i b d=>⟨v,H1,b,d,q⟩
theorem ps_fld (ha:PE X o ta) (hv:PE X value tv) (hs:Z8 value (some (.Attribute o f pos')) pos.line X.env=b4 false):PS X (.Assign [.Attribute o f pos'] value pos) (sFld X.K ta tv f):=by intro b s σ H D I h;refine plainObj_wpAny_Assign_Attribute (thn (hv b s σ H _ I h) λ u d ⟨y,H1,I1,ry,q⟩=>thn (ha b d σ H1 _ I1 q) λ g i ⟨x,H2,I2,rx,a,C,dx,fs,ex,ea,c,n,l,q2⟩=>?_) hs;subst ex;obtain rfl:g=F1 a:=rx;exact zfs I2 ea c n l ry λ j e=>⟨σ,_,e,q2⟩
end
section
variable {X:Cx} {pins:List (Addr×Obj)} {σ:St} {H:Hp} {s:C0} {A:P2} {E:Value->C0->Prop} {Q:Value->C0->Prop} {c:Value} {b:Bool}
inductive TyOf (K:o0) (H:Hp):V->Value->Prop where
 | non:TyOf K H .non (.type "NoneType")
 | bl (x:Bool):TyOf K H (.bl x) (.type "bool")
 | int (i:Int):TyOf K H (.int i) (.type "int")
 | str (x:Str):TyOf K H (.str x) (.type "str")
 | flt (x:UInt64):TyOf K H (.flt x) (.type "float")
 | lst {a:Addr} {xs:List V} (e:H a=some (.lst xs)):TyOf K H (.ref a) (.type "list")
 | frz {a:Addr} {o:Obj} {xs:List V} (e:H a=some (.frz o (.lst xs))):TyOf K H (.ref a) (.type "list")
 | tup {a:Addr} {xs:List V} (e:H a=some (.tup xs)):TyOf K H (.ref a) (.type "tuple")
 | dK {a:Addr} {kvs:List (Key×V)} (e:H a=some (.dK kvs)):TyOf K H (.ref a) (.type "dict")
 | dT {a:Addr} {kvs:List (List Key×V)} (e:H a=some (.dT kvs)):TyOf K H (.ref a) (.type "dict")
 | ins {a C dx:Addr} {fs:List (Str×V)} (e:H a=some (.ins C dx fs)) (cl:Cls K C) (ha:Y3 K (.ref C) "__class__" = some (some (.builtin "object.__class__")))
   (hn:j42 K (.builtin "object.__class__") "__get__" = some (some (.builtin "getset_descriptor.__get__"))) (htk:PySem.W.takesIn K (.builtin "object.__class__")=some true)
   (hm:PySem.W.mroIn K C (.type "object")=some true):TyOf K H (.ref a) (.ref C)
theorem zh9 {x:V} {u t:Value} (I:Inv X pins σ H s) (rx:RelV x u) (ty:TyOf X.K H x t) (e:PySem.W.kitOne X.K t c=some b) (h :∀tk,Q (.bool b) { s with toks:=tk }) :
  U0 (G1 X.prog X.w) A (call (.builtin "isinstance") [u,c]) Q E s:=by
 cases ty with
 | non=>cases (show u=P3 from rx);exact S3 PySem.W.kitx_none I.kIn True.intro e (λ z=>nomatch z) h
 | bl y=>cases (show u=E9 y from rx);exact S3 PySem.W.kitx_bool I.kIn True.intro e (λ z=>nomatch z) h
 | int i=>obtain ⟨t,q⟩:=(show∃t,u=i9 i t from rx);cases q;exact S3 PySem.W.kitx_int I.kIn True.intro e (λ z=>nomatch z) h
 | str y=>obtain ⟨t,q⟩:=(show∃t,u=g9 y t from rx);cases q;exact S3 PySem.W.kitx_str I.kIn True.intro e (λ z=>nomatch z) h
 | flt y=>obtain ⟨t,q⟩:=(show∃t,u=j3d y t from rx);cases q;exact S3 PySem.W.kitx_float I.kIn True.intro e (λ z=>nomatch z) h
 | @lst a f ea=>
  cases (show u=F1 a from rx);obtain ⟨_,_,n,_,d⟩:=(show ObjOk X.prog X.w H s.heap a (.lst f) from I.hok a _ ea)
  exact S3 j44 I.kIn ⟨_,d,rfl⟩ e (λ z=>nomatch z) h
 | @frz a ob f ea=>
  cases (show u=F1 a from rx);obtain ⟨_,_,_,n,_,d⟩:=(show ObjOk X.prog X.w H s.heap a (.frz ob (.lst f)) from I.hok a _ ea)
  exact S3 j44 I.kIn ⟨_,d,rfl⟩ e (λ z=>nomatch z) h
 | @tup a f ea=>
  cases (show u=F1 a from rx);obtain ⟨_,_,_,p,_⟩:=(show ObjOk X.prog X.w H s.heap a (.tup f) from I.hok a _ ea)
  obtain ⟨o,d,g,_⟩:=p;exact S3 PySem.W.kitx_tuple I.kIn ⟨o,d,g⟩ e (λ z=>nomatch z) h
 | @dK a kvs ea=>
  cases (show u=F1 a from rx);obtain ⟨_,_,r,_,p⟩:=(show ObjOk X.prog X.w H s.heap a (.dK kvs) from I.hok a _ ea)
  obtain ⟨o,j,k,d,g,_⟩:=p;exact S3 j45 I.kIn ⟨o,d,g.1⟩ e (λ z=>nomatch z) h
 | @dT a kvs ea=>
  cases (show u=F1 a from rx);obtain ⟨_,_,f,_,o,j,k,d,g,_⟩:=(show ObjOk X.prog X.w H s.heap a (.dT kvs) from I.hok a _ ea)
  exact S3 j45 I.kIn ⟨o,d,g.1⟩ e (λ z=>nomatch z) h
 | @ins a C dx fs ea cl ha hn htk hm=>cases (show u=F1 a from rx);obtain ⟨m,O,_⟩:=zce I.hok ea;obtain ⟨l,J,_⟩:=O.look;exact S3 (PySem.W.kitx_own (cl.get _) cl.hd ha hn htk hm) I.kIn J e (λ z=>nomatch z) h
end
structure Room (k:Nat) (A:P2):Prop where
 hd:A.handled=none
 dp:A.depth + 3 * k + 5 < recursionLimit
 un:A.units + 16 * k + 200 < cLine
 gd:A.guards=some []
theorem Room.mono {j k:Nat} {A:P2} (r:Room k A) (h:j<=k):Room j A:=⟨r.hd,by have:=r.dp;omega,by have:=r.un;omega,r.gd⟩
theorem Room.deeper {k:Nat} {A:P2} (r:Room (k + 1) A) (env:Env):Room k (A.deeper env):=
 ⟨r.hd,by have:=r.dp;show A.depth + 1 + 3 * k + 5 < _;omega,by have:=r.un;show A.units + 3 + 16 * k + 200 < _;omega,r.gd⟩
theorem zdw {A:P2} {C:Addr} {us:List Value} {kw:List (Str×Value)}:(A.under (.builtin "type.__call__" ⟨.ref C :: us,kw⟩)).depth=A.depth + 1:=by first|rfl|simp [S9,Code.weight,Code.isCreation,Code.isGuard,Code.isCaller,j4b,Z9,guardIds]
theorem zfm {A:P2} {C:Addr} {us:List Value} {kw:List (Str×Value)}:(A.under (.builtin "type.__call__" ⟨.ref C :: us,kw⟩)).units=A.units + 1:=by first|rfl|simp [S9,Code.cUnits,j4b,Z9]
theorem Room.make {k:Nat} {A:P2} (r:Room (k + 1) A) (C:Addr) (us:List Value) (kw:List (Str×Value)):Room k (A.under (.builtin "type.__call__" ⟨.ref C :: us,kw⟩)):=
 ⟨r.hd,by have:=r.dp;rw [zdw];omega,by have:=r.un;rw [zfm];omega,by have h:=r.gd;first|exact h|simp [S9,h,Code.weight,Code.isCreation,Code.isGuard,Code.isCaller,j4b,Z9,guardIds]⟩
theorem Room.depth {k:Nat} {A:P2} (r:Room k A):A.depth < recursionLimit:=by have:=r.dp;omega
theorem Room.units {k:Nat} {A:P2} (r:Room k A):A.units + 64 < cLine:=by have:=r.un;omega
noncomputable def tNil:TA:=λ _ H Q=>Q [] H
noncomputable def tCons (ta:TE) (tr:TA):TA:=λ σ H Q=>ta σ H λ x H1=>tr σ H1 λ xs H2=>Q (x :: xs) H2
section
variable {X:Cx} {e:Expr} {es:List Expr} {te:TE} {t:TA} {pos:Pos}
theorem pa_nil:PA X [] tNil:=λ _ _ _ _ H Q I h=>R5 ⟨[],H,I,.nil,h⟩
theorem z01 (ha:PE X e te) (hr:PA X es t) (hs:K1 (e :: es) X.env=(false,V3 e X.env) :: K1 es X.env:=by rfl):PA X (e :: es) (tCons te t):=by intro a b s σ H Q I h;rw [hs];show U0 _ _ (j31 ((false,V3 e X.env) :: P4 a (K1 es X.env))) _ _ s;refine R4 (thn (ha b s σ H _ I h) λ u c ⟨x,H1,I1,r1,q1⟩=>?_);exact thn (hr a b c σ H1 _ I1 q1) λ d f ⟨xs,H2,I2,r2,q2⟩=>⟨x :: xs,H2,I2,.cons r1 r2,q2⟩
noncomputable def tTup (t:TA):TE:=λ σ H Q=>t σ H λ xs H1=>xs.length<=sizeLine/\∀p,H1 p=none->Q (.ref p) (upd H1 p (.tup xs))
noncomputable def tLst (t:TA):TE:=λ σ H Q=>t σ H λ xs H1=>xs.length<=sizeLine/\∀p,H1 p=none->Q (.ref p) (upd H1 p (.lst xs))
theorem pe_tup {x1} (h:PA X es t):PE X (.Tuple es x1 pos) (tTup t):=by intro g s σ H Q I f;refine wpAny_Tuple_spliced (thn (h pos g s σ H _ I f) λ c a ⟨xs,H1,I1,r,z,q⟩=>⟨by rw [<-r.length];exact z,?_⟩);have d:H1 a.heap.objs.size=none:=I1.hok.fresh (K0 _);refine ⟨.ref a.heap.objs.size,upd H1 a.heap.objs.size (.tup xs),I1.laid (t':=a.toks) (λ b u e=>J0 _ e) (K0 _) ?_,rfl,q _ d⟩;exact ⟨z,c,r,IsTupN.new _ _⟩
theorem pe_lst (h:PA X es t):PE X (.List es pos) (tLst t):=by intro g s σ H Q I f;refine wpAny_List_spliced (thn (h pos g s σ H _ I f) λ c a ⟨xs,H1,I1,r,z,q⟩=>⟨by rw [<-r.length];exact z,?_⟩);have d:H1 a.heap.objs.size=none:=I1.hok.fresh (K0 _);refine ⟨.ref a.heap.objs.size,upd H1 a.heap.objs.size (.lst xs),I1.laid (t':=a.toks) (λ b u e=>J0 _ e) (K0 _) ?_,rfl,q _ d⟩;exact ⟨z,c,0,r,C1 _ rfl⟩
end
noncomputable abbrev Sp:=List V->Hp->VK->XK->Prop
noncomputable abbrev CXT:=List Env->Hp->C0->XK->Value->C0->Prop
structure Env0 (P:Program) (w:Z0) (K:o0) (mg:Str->Option Value) (base:Heap) (A:P2) (outer:List Env) (s:C0) (H:Hp):Prop where
 frames:A.frames=some outer
 mod:Mod K mg base
 bs :∀b o,base.get? b=some o->s.heap.get? b=some o/\H b=none
 bsz:base.objs.size<=s.heap.objs.size
 funs:s.heap.FunFrames base outer
 frf :∀b∈frs outer,H b=none
 hok:HOk P w H s.heap
 bare:L8 s.gens
def CE (outer:List Env) (P:Program) (w:Z0) (H:Hp) (s:C0) (Q:VK) (u:Value) (s':C0):Prop:=
 ∃v H',s'.os=s.os/\L8 s'.gens/\Un (frs outer) [] H H' s.heap s'.heap/\HOk P w H' s'.heap/\RelV v u/\Q v H'
def CR (CX:CXT) (outer:List Env) (P:Program) (w:Z0) (H:Hp) (s:C0) (Q:VK) (E:XK) (r:j1f) (s':C0):Prop:=
 match r with
 | .ok (.ret u)=>CE outer P w H s Q u s'
 | .ok _=>False
 | .error e=>CX outer H s E e s'
structure FnOk (P:Program) (w:Z0) (K:o0) (mg:Str->Option Value) (base:Heap) (CX:CXT) (k:Nat) (f:Addr) (fd:FuncData) (ps:List Str) (sp:Sp):Prop where
 len :∀vs H Q E,sp vs H Q E->vs.length=ps.length
 run :∀(A:P2) (outer:List Env) (s:C0) (H:Hp) (args:Args) (us:List Value) (vs:List V) (Q:VK) (E:XK),Room k A->Env0 P w K mg base A outer s H->BindsTo s fd args (ps.zip us)->Vals vs us->sp vs H Q E->
  D5 (G1 P w) A (.call (.ref f) args) (CR CX outer P w H s Q E) s
theorem Env0.make {P:Program} {w:Z0} {K:o0} {mg:Str->Option Value} {base:Heap} {A:P2} {outer:List Env} {s:C0} {H:Hp} (e:Env0 P w K mg base A outer s H) (C:Addr) (us:List Value) (kw:List (Str×Value)) :
  Env0 P w K mg base (A.under (.builtin "type.__call__" ⟨.ref C :: us,kw⟩)) outer s H:=⟨by first|exact e.frames|(simpa [S9,Code.envs,Z9,pushEnvs] using e.frames),e.mod,e.bs,e.bsz,e.funs,e.frf,e.hok,e.bare⟩
section
variable {X:Cx} {pins:List (Addr×Obj)} {σ:St} {H:Hp} {s s':C0}
theorem Inv.env0 (I:Inv X pins σ H s):Env0 X.prog X.w X.K X.mg X.base X.A X.stack s H:=
 ⟨I.ok.frames,I.ok.mod,I.bs,N0 I.ok.bsz I.sz,I.stack,I.stkFree,I.hok,I.bare⟩
theorem Inv.after {Q:VK} {u:Value} (I:Inv X pins σ H s) (h:CE X.stack X.prog X.w H s Q u s'):EP X pins σ Q u s':=by obtain ⟨v,f,a,i,un,c,r,q⟩:=h;obtain ⟨j,g,d,t,e⟩:=s';obtain rfl:e=s.os:=a;exact ⟨v,f,I.call (h':=j) (g':=g) (d':=d) (t':=t) (ch:=[]) un c i (λ b z=>absurd z (by simp)),r,q⟩
end
noncomputable def tCall (sp:Sp) (dvs:List V) (E:XK) (t:TA):TE:=λ σ H Q=>t σ H λ vs H1=>sp (vs++dvs) H1 Q E
noncomputable def tMeth (C:Addr) (m:Str) (sp:Sp) (dvs:List V) (E:XK) (ta:TE) (t:TA):TE:=λ σ H Q=>ta σ H λ x H1=>∃a dx fs,x=.ref a/\H1 a=some (.ins C dx fs)/\fs.lookup m=none/\
 t σ H1 λ vs H2=>sp (x :: (vs++dvs)) H2 Q E
noncomputable def tMake (C:Addr) (sp:Sp) (dvs:List V) (E:XK) (t:TA):TE:=λ σ H Q=>t σ H λ vs H1=>∀x dx,H1 x=none->H1 dx=none->dx≠x->
 sp (.ref x :: (vs++dvs)) (upd (upd H1 dx (.own x)) x (.ins C dx [])) (λ v H2=>v=.non/\Q (.ref x) H2) E
def Binds (K:o0) (fd:FuncData) (ps:List Str) (ds:List Value):Prop:=
 ∀(s:C0) (us:List Value),K.In s.heap->(us++ds).length=ps.length->BindsTo s fd ⟨us,[]⟩ (ps.zip (us++ds))
theorem Binds.all {K:o0} {fd:FuncData} {ps:List Str} (h :∀us:List Value,us.length=ps.length->bindArgs fd ⟨us,[]⟩=b4 (ps.zip us)):Binds K fd ps []:=λ s us _ a=>by rw [L1] at a⊢;exact .of_eq (h us a)
def Passes (CX:CXT) (X:Cx) (E:XK):Prop:=∀(pins:List (Addr×Obj)) (σ:St) (H:Hp) (s:C0) (e:Value) (s':C0),Inv X pins σ H s->CX X.stack H s E e s'->X.xe e s'
section
variable {X:Cx} {CX:CXT} {k:Nat} {f C:Addr} {fd:FuncData} {ps:List Str} {sp:Sp} {dvs:List V} {ds:List Value} {E:XK} {x m:Str} {p pos apos:Pos} {e o:Expr} {es:List Expr} {ta:TE} {t:TA}
theorem run_fn {pins:List (Addr×Obj)} {σ:St} {H:Hp} {s:C0} {Q:VK} {us:List Value} {vs:List V} (F:FnOk X.prog X.w X.K X.mg X.base CX k f fd ps sp) (hr:Room k X.A) (hb:Binds X.K fd ps ds) (hd:Vals dvs ds) (hx:Passes CX X E)
  (I:Inv X pins σ H s) (r:Vals vs us) (h:sp (vs++dvs) H Q E):U0 (G1 X.prog X.w) X.A (call (.ref f) us) (EP X pins σ Q) X.xe s:=by
 have b:Vals (vs++dvs) (us++ds):=r.append hd;have c:(us++ds).length=ps.length:=by rw [<-b.length];exact F.len _ _ _ _ h
 refine j36 (K6 (F.run X.A X.stack s H ⟨us,[]⟩ (us++ds) (vs++dvs) Q E hr I.env0 (hb s us I.kIn c) b h) λ r d a=>?_);cases r with
 | error e=>exact hx pins σ H s e d I a
 | ok fl=>
  cases fl with
  | ret u=>exact I.after a
  | next=>exact J4 a
  | brk=>exact J4 a
  | cont=>exact J4 a
theorem ze2 (F:FnOk X.prog X.w X.K X.mg X.base CX k f fd ps sp) (hr:Room k X.A) (hg:Gl X x) (hm:X.mg x=some (.ref f)) (hk:a5 X.K (.ref f)=true) (hb:Binds X.K fd ps ds) (hd:Vals dvs ds) (hx:Passes CX X E)
  (ha:PA X (e :: es) t) (hdb:(x == ("__debug__" : Str))=false:=by decide) (he:K1 (e :: es) X.env=(false,V3 e X.env) :: K1 es X.env:=by rfl) (hpl:(P4 pos (K1 es X.env)).any (·.1)=false:=by rfl) :
  PE X (.Call (.Name x p) (e :: es) [] pos) (tCall sp dvs E t):=by
 intro a s σ H Q I h;refine F4 (zc2 I hg hm ?_ hdb);refine u9 (h₀:=X.base) I.ok.mod.kin hk (thn (ha pos a s σ H _ I h) λ b c ⟨vs,H1,I1,r,q⟩=>⟨I1.kIn,?_⟩) he hpl;exact run_fn F hr hb hd hx I1 r q
theorem z37 {pl:Sem Bool} (he:PE X o ta) (c:Cls X.K C) (hm:Meth X.K C m f) (F:FnOk X.prog X.w X.K X.mg X.base CX k f fd ps sp) (hr:Room k X.A) (hb:Binds X.K fd ps ds) (hd:Vals dvs ds) (hx:Passes CX X E) (ha:PA X (e :: es) t)
  (hst:K1 (e :: es) X.env=(false,V3 e X.env) :: K1 es X.env:=by rfl) (hpl:(P4 pos (K1 es X.env)).any (·.1)=false:=by rfl)
  (ht:V3 (.Call (.Attribute o m apos) (e :: es) [] pos) X.env=(do
   let ov <-V3 o X.env
   j30 apos.atName
   let (f,first) <-r9 [ov] (getMethod ov m pl)
   callWith pos f first (P4 pos (K1 (e :: es) X.env)) (a9 pos (X6 [] X.env))):=by rfl) :
  PE X (.Call (.Attribute o m apos) (e :: es) [] pos) (tMeth C m sp dvs E ta t):=by
 intro b s σ H Q I h;refine PySem.W.methodCall_KW (pl:=pl) (thn (he b s σ H _ I h) λ u d ⟨x,H1,I1,rx,a,dx,fs,ex,ea,l,q⟩=>?_) ht;subst ex;obtain rfl:u=F1 a:=rx;refine zfc I1 ea c hm l ?_;refine u9 (first:=[.ref a]) (h₀:=X.base) I.ok.mod.kin hm.kp (thn (ha pos b d σ H1 _ I1 q) λ us g ⟨vs,H2,I2,r,q2⟩=>⟨I2.kIn,?_⟩) hst hpl;exact run_fn (us:=.ref a :: us) (vs:=.ref a :: vs) F hr hb hd hx I2 (.cons rfl r) q2
structure Mk (K:o0) (C f:Addr):Prop where
 makes:PySem.W.makesIn K C=true
 init:Y3 K (.ref C) "__init__" = some (some (.ref f))
 fn:j1g K (.ref f)=true
 kp:a5 K (.ref C)=true
theorem ziz {pins:List (Addr×Obj)} {σ:St} {H:Hp} {s:C0} {Q:VK} {us:List Value} {vs:List V} (M:Mk X.K C f) (F:FnOk X.prog X.w X.K X.mg X.base CX k f fd ps sp) (hr:Room (k + 1) X.A) (hb:Binds X.K fd ps ds) (hd:Vals dvs ds)
  (hx:Passes CX X E) (I:Inv X pins σ H s) (r:Vals vs us)
  (h :∀x dx,H x=none->H dx=none->dx≠x->sp (.ref x :: (vs++dvs)) (upd (upd H dx (.own x)) x (.ins C dx [])) (λ v H2=>v=.non/\Q (.ref x) H2) E) :
  U0 (G1 X.prog X.w) X.A (call (.ref C) us) (EP X pins σ Q) X.xe s:=by
 have d:=h (s.heap.objs.size + 1) s.heap.objs.size (I.hok.fresh (F3 _)) (I.hok.fresh (K0 _)) (A1 (J3 _));have b:=Inv.made (C:=C) I;have c:Vals (V.ref (s.heap.objs.size + 1) :: (vs++dvs)) (F1 (s.heap.objs.size + 1) :: (us++ds)):=.cons rfl (r.append hd);have j:(F1 (s.heap.objs.size + 1) :: us++ds).length=ps.length:=by have e:=c.length;rw [F.len _ _ _ _ d] at e;exact e.symm
 refine j36 (zij (f:=f) I.kIn M.makes M.init (beq_iff_eq.mp M.fn) (K6 (F.run _ X.stack _ _ ⟨F1 (s.heap.objs.size + 1) :: us,[]⟩ (F1 (s.heap.objs.size + 1) :: (us++ds)) _ _ E (hr.make C us [])
  (b.env0.make C us []) (hb _ (F1 (s.heap.objs.size + 1) :: us) b.kIn j) c d) λ r o a=>?_))
 cases r with
 | error e=>exact hx pins σ _ _ e o b a
 | ok fl=>
  cases fl with
  | ret u=>obtain ⟨v,m,l,n,i,g⟩:=b.after a;subst i;exact ⟨n,⟨V.ref (s.heap.objs.size + 1),m,l,rfl,g⟩⟩
  | next=>exact J4 a
  | brk=>exact J4 a
  | cont=>exact J4 a
theorem z7k (M:Mk X.K C f) (F:FnOk X.prog X.w X.K X.mg X.base CX k f fd ps sp) (hr:Room (k + 1) X.A) (hg:Gl X x) (hm:X.mg x=some (.ref C)) (hb:Binds X.K fd ps ds) (hd:Vals dvs ds) (hx:Passes CX X E)
  (ha:PA X (e :: es) t) (hdb:(x == ("__debug__" : Str))=false:=by decide) (he:K1 (e :: es) X.env=(false,V3 e X.env) :: K1 es X.env:=by rfl) (hpl:(P4 pos (K1 es X.env)).any (·.1)=false:=by rfl) :
  PE X (.Call (.Name x p) (e :: es) [] pos) (tMake C sp dvs E t):=by
 intro a s σ H Q I h;refine F4 (zc2 I hg hm ?_ hdb);refine u9 (h₀:=X.base) I.ok.mod.kin M.kp (thn (ha pos a s σ H _ I h) λ b c ⟨vs,H1,I1,r,q⟩=>⟨I1.kIn,?_⟩) he hpl;exact ziz M F hr hb hd hx I1 r q
end
def PK (X:Cx) (kws:List Q6) (t:TA):Prop:=
 ∀(pos:Pos) (pins:List (Addr×Obj)) (s:C0) (σ:St) (H:Hp) (Q:List V->Hp->Prop),Inv X pins σ H s->t σ H Q->U0 (G1 X.prog X.w) X.A (evalAll ((a9 pos (X6 kws X.env)).map (·.2))) (AP X pins σ Q) X.xe s
section
variable {X:Cx} {CX:CXT} {k:Nat} {f C:Addr} {fd:FuncData} {ps ks:List Str} {sp:Sp} {E:XK} {x m:Str} {p pos apos kpos:Pos} {e o:Expr} {es:List Expr} {kws:List Q6} {te ta:TE} {t tk:TA} {nm:Option Str}
structure KBinds (K:o0) (fd:FuncData) (ps ks:List Str) (g:List Value->List Value->List Value) (gV:List V->List V->List V):Prop where
 to :∀(s:C0) (us ws:List Value),K.In s.heap->(g us ws).length=ps.length->BindsTo s fd ⟨us,ks.zip ws⟩ (ps.zip (g us ws))
 rel :∀{vs:List V} {us:List Value} {zs:List V} {ws:List Value},Vals vs us->Vals zs ws->Vals (gV vs zs) (g us ws)
variable {g:List Value->List Value->List Value} {gV:List V->List V->List V}
end
structure FnScope (N P:List Str) (sc:Scope):Prop where
 kind:sc.kind=.function
 co:sc.isCoroutine=false
 gen:sc.isGenerator=false
 nd:N.Nodup
 pre:N.take P.length=P
 par :∀x∈P,sc.names.lookup x=some .local\/sc.names.lookup x=some .cell
 nofree :∀y∈sc.names,y.2≠.free
theorem zcb {kindOf:Str->Option F6} {x:Str} :∀{binds:List (Str×Value)} {m:Str->Option Value},(∀v,(x,v)∉binds)->bindL kindOf binds m x=m x
 | [],_,_=>rfl
 | (n,v) :: r,m,h=>by
  unfold bindL;rw [zcb λ w a=>h w (U1 _ a)];split
  ·have:x≠n:=by rintro rfl;exact h v W1
   simp [this]
  ·rfl
theorem zbn {kindOf:Str->Option F6} {x:Str} :∀{binds:List (Str×Value)} {m:Str->Option Value},(∀v,(x,v)∉binds)->bindC kindOf binds m x=m x
 | [],_,_=>rfl
 | (n,v) :: r,m,h=>by
  unfold bindC;rw [zbn λ w a=>h w (U1 _ a)];split
  ·rfl
  ·have:x≠n:=by rintro rfl;exact h v W1
   simp [this]
theorem zbx {kindOf:Str->Option F6} {x:Str} {v:Value} :∀{P:List Str} {vs:List Value} {i:Nat} {m:Str->Option Value},P.Nodup->P[i]? = some x->vs[i]? = some v->kindOf x=some .local->
  bindL kindOf (P.zip vs) m x=some v
 | [],_,_,_,_,h,_,_=>by simp at h
 | _ :: _,[],_,_,_,_,h,_=>by simp at h
 | p :: P,w :: vs,0,m,nd,h1,h2,hk=>by simp at h1 h2;subst h1;subst h2;show bindL kindOf ((p,w) :: P.zip vs) m p=_;unfold bindL;rw [zcb λ v a=>(List.nodup_cons.mp nd).1 (j0h a).1,if_pos hk];simp
 | p :: P,w :: vs,i + 1,m,nd,h1,h2,hk=>by show bindL kindOf ((p,w) :: P.zip vs) m x=_;unfold bindL;exact zbx (i:=i) (List.nodup_cons.mp nd).2 (by simpa using h1) (by simpa using h2) hk
theorem zc3 {kindOf:Str->Option F6} {x:Str} {v:Value} :∀{P:List Str} {vs:List Value} {i:Nat} {m:Str->Option Value},P.Nodup->P[i]? = some x->vs[i]? = some v->kindOf x≠some .local->
  bindC kindOf (P.zip vs) m x=some v
 | [],_,_,_,_,h,_,_=>by simp at h
 | _ :: _,[],_,_,_,_,h,_=>by simp at h
 | p :: P,w :: vs,0,m,nd,h1,h2,hk=>by simp at h1 h2;subst h1;subst h2;show bindC kindOf ((p,w) :: P.zip vs) m p=_;unfold bindC;rw [zbn λ v a=>(List.nodup_cons.mp nd).1 (j0h a).1,if_neg hk];simp
 | p :: P,w :: vs,i + 1,m,nd,h1,h2,hk=>by show bindC kindOf ((p,w) :: P.zip vs) m x=_;unfold bindC;exact zc3 (i:=i) (List.nodup_cons.mp nd).2 (by simpa using h1) (by simpa using h2) hk
noncomputable def start (N:List Str) (vs:List V):St:=vs.map some++P0 (N.length - vs.length) none
noncomputable def cxOf (CX:CXT) (P:Program) (w:Z0) (K:o0) (mg:Str->Option Value) (base:Heap) (N:List Str) (qual:Str) (scope:Scope) (f:Addr) (cd:Value) (A:P2) (outer:List Env) (s:C0) (H:Hp) (E:XK):Cx where
 prog:=P
 w:=w
 K:=K
 mg:=mg
 base:=base
 A:=A.deeper (L4 qual scope s.heap.objs.size f cd)
 N:=N
 s₀:=s
 H₀:=H
 env:=L4 qual scope s.heap.objs.size f cd
 outer:=outer
 stack:=L4 qual scope s.heap.objs.size f cd :: outer
 ex:=[]
 calm:=true
 fn:=λ _=>true
 pn:=[]
 xe:=λ e s'=>U0 (G1 P w) (A.deeper (L4 qual scope s.heap.objs.size f cd)) («leaving» (L4 qual scope s.heap.objs.size f cd) e) (λ _ s''=>CX outer H s E e s'') (λ e' s''=>CX outer H s E e' s'') s'
theorem zfy {sc:Scope} {n:Nat} {x:Str} (h:sc.names.lookup x=some .cell) :∃c,(cellsFrom n sc.names []).lookup x=some c:=by have q:=j1h sc.names n [] (.inl h);exact Option.isSome_iff_exists.mp q
theorem zgw {CX:CXT} {P:Program} {w:Z0} {K:o0} {mg:Str->Option Value} {base:Heap} {N ps:List Str} {qual:Str} {scope:Scope} {f:Addr} {cd:Value} {A:P2} {outer:List Env} {s s1:C0} {H:Hp} {E:XK} {us:List Value} {vs:List V}
  (S:FnScope N ps scope) (hd:A.handled=none) (e0:Env0 P w K mg base A outer s H) (hl:vs.length=ps.length) (r:Vals vs us)
  (x:InCallC s s.heap.objs.size (bindL (L4 qual scope s.heap.objs.size f cd).kindOf (ps.zip us) λ _=>none) (cellsFrom (s.heap.objs.size + 1) scope.names []) (bindC (L4 qual scope s.heap.objs.size f cd).kindOf (ps.zip us) λ _=>none) s1) :
  Inv (cxOf CX P w K mg base N qual scope f cd A outer s H E) [] (start N vs) H s1:=by
 have I:ps.length<=N.length:=by have:=congrArg j4a S.pre;rw [A6] at this;omega
 obtain ⟨m,G,rfl,B⟩:=x.done;have o :∀b:Addr,b∉(cxOf CX P w K mg base N qual scope f cd A outer s H E).ex:=λ b z=>absurd (show b∈([]:List Addr) from z) (by simp);refine ⟨⟨e0.mod,S.kind,rfl,rfl,K0 _,λ y z c m d=>?_,λ y g=>?_,λ y c _ h=>?_,λ _=>hd,Around.frames_deeper e0.frames,.inr ⟨rfl,rfl⟩,λ b z=>absurd z (o b),e0.bs,e0.bsz,λ b _ _=>o b,λ b z=>absurd z (o b),e0.funs,e0.frf⟩,
  rfl,e0.bare,Un.kept B,⟨_,x.toInCall.ns,λ i y v m d J=>?_⟩,λ y c h=>⟨_,x.cell y c h⟩,e0.hok.fresh (K0 _),λ y c h=>?_,λ p j=>absurd (show p∈([]:List (Addr×Obj)) from j) (by simp),e0.hok.kept B,?_⟩
 ·exact name_of_addr x.apart (B6 m) (B6 d)
 ·have g:scope.names.lookup y=some .cell\/scope.names.lookup y=some .free:=g;rcases g with g|g
  ·exact zfy g
  ·exact absurd rfl (S.nofree _ (B6 g))
 ·exact R8 (x.above y c (B6 h))
 ·have l:i < vs.length:=by
   unfold start at d;by_cases l:i < vs.length
   ·exact l
   ·rw [D1 (by simpa using l)] at d;rw [P6] at d;split at d<;>cases d
  have D:vs[i]? = some v:=by
   unfold start at d;rw [J1 (by simpa using l),S0] at d;cases e:vs[i]? with
   | none=>rw [e] at d;cases d
   | some a=>rw [e] at d;cases d;rfl
  obtain ⟨u,C,F⟩:=r.get D;have j:ps[i]? = some y:=by rw [<-S.pre,List.getElem?_take_of_lt (by omega)];exact m
  have t:ps.Nodup:=by rw [<-S.pre];exact S.nd.sublist (List.take_sublist _ _)
  refine ⟨u,F,?_⟩;rcases S.par y (B1 j) with k|k
  ·exact .inl ⟨k,zbx t j C k⟩
  ·obtain ⟨c,e⟩:=zfy (n:=s.heap.objs.size + 1) k;refine .inr ⟨.inl k,c,e,?_⟩;have q:=x.cell y c e;rw [zc3 t j C (by show scope.names.lookup y≠_;rw [k];decide)] at q;exact q
 ·exact e0.hok.fresh (R8 (x.above y c (B6 h)))
 ·unfold start;show _=N.length;rw [G0,I0,G2];omega
theorem fn_of {CX:CXT} {P:Program} {w:Z0} {K:o0} {mg:Str->Option Value} {base:Heap} {k:Nat} {f:Addr} {name qual:Str} {params:Arguments} {body:List Stmt} {scope:Scope} {dV kV doc pm cdv ct oc:Value} {an od:Option Addr}
  {osl:Array (Option Value)} {N ps:List Str} {sp:Sp} (lk:K.lookup f=some ⟨oc,od,.func (O6 name qual params body scope dV kV doc pm an cdv ct),osl⟩) (hcd:P8 K cdv qual=true) (S:FnScope N ps scope)
  (len :∀vs H Q E,sp vs H Q E->vs.length=ps.length)
  (hbody :∀(A:P2) (outer:List Env) (s:C0) (H:Hp) (vs:List V) (Q:VK) (E:XK),Room k (A.deeper (L4 qual scope s.heap.objs.size f cdv))->sp vs H Q E->
   ∃t,PSs (cxOf CX P w K mg base N qual scope f cdv A outer s H E) body t/\t { nx:=λ _ H'=>Q .non H',rt:=Q } (start N vs) H) :
  FnOk P w K mg base CX (k + 1) f (O6 name qual params body scope dV kV doc pm an cdv ct) ps sp:=by
 refine ⟨len,λ A outer s H M D vs Q E g c z r l=>?_⟩;have m:=len _ _ _ _ l;have KX:K.In s.heap:=c.mod.kin.keeps λ b o e=>(c.bs b o e).1;have C:s.heap.NoLimit:=c.mod.nolimit.keeps λ b o e=>(c.bs b o e).1;have G :∀y∈ps.zip D,scope.names.lookup y.1=some .local\/(scope.names.lookup y.1=some .cell/\((cellsFrom (s.heap.objs.size + 1) scope.names []).lookup y.1).isSome=true):=λ ⟨n,v⟩ hy=>by
  rcases S.par n (j0h hy).1 with q|q
  ·exact .inl q
  ·exact .inr ⟨q,j1h _ _ _ (.inl q)⟩
 refine codeAny_call_function g.depth (KX _ _ lk) rfl S.co S.gen rfl (PySem.W.codeRec_of KX hcd) (z _ _ _ _ ?_);refine wpAny_newFunctionEnv_cells S.kind G λ O B j x=>?_;subst B;refine ⟨C.keeps x.toInCall.keep,codeAny_func ?_⟩;obtain ⟨t,L,p⟩:=hbody A outer s H vs Q E (g.deeper _) l;have I:Inv (cxOf CX P w K mg base N qual scope f cdv A outer s H E) [] (start N vs) H j:=zgw S g.hd c m r x;refine A4 (L [] j (start N vs) H _ I p) (λ F h a=>?_) λ e h a=>a;have fin :∀{d:St} {H':Hp} {v:V} {u:Value},Inv (cxOf CX P w K mg base N qual scope f cdv A outer s H E) [] d H' h->RelV v u->Q v H'->CE outer P w H s Q u h:=
  λ {d H' v u} J i q=>⟨v,H',J.os,J.bare,J.base,J.hok,i,q⟩
 cases F with
 | ret u=>obtain ⟨v,d,H',J,i,q⟩:=a;exact fin J i q
 | next=>obtain ⟨d,H',J,q⟩:=a;exact fin (v:=V.non) (u:=P3) J rfl q
 | brk=>obtain ⟨_,_,_,q⟩:=a;exact J4 q
 | cont=>obtain ⟨_,_,_,q⟩:=a;exact J4 q
section
variable {X:Cx} {x:Str} {p pos:Pos} {e:Expr} {es:List Expr} {t:TA} {id T:String} {r:List V->Hp->VK->Prop}
noncomputable def tCB (r:List V->Hp->VK->Prop) (t:TA):TE:=λ σ H Q=>t σ H λ vs H1=>r vs H1 Q
theorem z06 (hc:CallR X (.builtin id) r) (hg:Gl X x) (hm:X.mg x=none) (hv:v5 x=some (.builtin id)) (ha:PA X (e :: es) t) (hn:x≠"__name__":=by decide) (hdb:(x == ("__debug__" : Str))=false:=by decide)
  (he:K1 (e :: es) X.env=(false,V3 e X.env) :: K1 es X.env:=by rfl) (hpl:(P4 pos (K1 es X.env)).any (·.1)=false:=by rfl):PE X (.Call (.Name x p) (e :: es) [] pos) (tCB r t):=by
 intro a s σ H Q I h;refine F4 (ld_blt I hg hm hv ?_ hn hdb);exact L6 (thn (ha pos a s σ H _ I h) λ b c ⟨vs,H1,I1,r1,q1⟩=>hc a c σ H1 vs b Q I1 r1 q1) he hpl
theorem z5m (hc:CallR X (.type T) r) (hg:Gl X x) (hm:X.mg x=none) (hv:v5 x=some (.type T)) (ha:PA X (e :: es) t) (hn:x≠"__name__":=by decide) (hdb:(x == ("__debug__" : Str))=false:=by decide)
  (he:K1 (e :: es) X.env=(false,V3 e X.env) :: K1 es X.env:=by rfl) (hpl:(P4 pos (K1 es X.env)).any (·.1)=false:=by rfl):PE X (.Call (.Name x p) (e :: es) [] pos) (tCB r t):=by
 intro a s σ H Q I h;refine F4 (ld_blt I hg hm hv ?_ hn hdb);exact E4 (thn (ha pos a s σ H _ I h) λ b c ⟨vs,H1,I1,r1,q1⟩=>hc a c σ H1 vs b Q I1 r1 q1) he hpl
end
end L2
namespace HT
open PySem PyProof.Rows
section
variable {prog:Program} {w:Z0} {A:P2} {E:Value->C0->Prop} {s:C0}
theorem cat_tup {t b:Addr} {vs ws:List Value} {Q:Value->C0->Prop} (ht:IsTup s.heap t vs.toArray) (hb:IsTup s.heap b ws.toArray) (hv:vs≠[])
  (h1:ws=[]->Q (.ref t) s) (h2:ws≠[]->Q (.ref s.heap.objs.size) { s with heap:=s.heap.push { cls:=.type "tuple",data:=.seq (vs++ws).toArray } })
  (hsz:vs.length + ws.length<=sizeLine):U0 (G1 prog w) A (E6 .Add (.ref t) (.ref b)) Q E s:=by
 obtain ⟨⟨cls,h,data,g⟩,a,f,n,i⟩:=id ht;obtain ⟨⟨p,d,o,k⟩,c,m,l,j⟩:=id hb;simp only at f i m j;subst f i m j;have e:vs.toArray++ws.toArray=(vs++ws).toArray:=by simp
 by_cases hw:ws=[]
 ·exact concat_meets ⟨_,a,rfl⟩ ⟨_,c,rfl⟩ noFill_tuple_add seq_tuple_add j1j j19 (j14 _ _)
   (tuple_addW1 t b vs.toArray ws.toArray n l h d g k (by simpa using hv) (by simp [hw])) ⟨a,c,h1 hw⟩
 ·refine concat_meets ⟨_,a,rfl⟩ ⟨_,c,rfl⟩ noFill_tuple_add seq_tuple_add j1j j19 (j14 _ _)
   (tuple_addW2 t b vs.toArray ws.toArray n l h d g k (by simpa using hv) (by simpa using hw) (by rw [V0,V0];exact hsz)) ⟨a,c,?_⟩
  rw [e];exact h2 hw
noncomputable def sIx (n d:Nat):Option Int->Nat
 | none=>d
 | some v=>if v < 0 then (v + (n:Int)).toNat else min v.toNat n
theorem sIx_nat (n d k:Nat):sIx n d (some (k:Int))=min k n:=by show (if (k:Int) < 0 then ((k:Int) + (n:Int)).toNat else min (k:Int).toNat n)=min k n;rw [if_neg (by omega),Z5]
theorem sIx_le (n d:Nat) (hd:d<=n) (o:Option Int):sIx n d o<=n:=by
 cases o with
 | none=>exact hd
 | some v=>
  show (if v < 0 then (v + (n:Int)).toNat else min v.toNat n)<=n;by_cases hv:v < 0
  ·rw [if_pos hv];omega
  ·rw [if_neg hv];exact Nat.min_le_right _ _
theorem zhv (v:Int) (n d:Nat):(if v < 0 then max (v + (n:Int)) 0 else min v (n:Int))=((sIx n d (some v):Nat):Int):=by
 show (if v < 0 then max (v + (n:Int)) 0 else min v (n:Int))=(((if v < 0 then (v + (n:Int)).toNat else min v.toNat n):Nat):Int);by_cases hv:v < 0
 ·simp only [if_pos hv];omega
 ·simp only [if_neg hv];omega
theorem zeb (lo hi:Option Int) (n:Nat):o7 lo hi 1 (n:Int)=(((sIx n 0 lo:Nat):Int),((sIx n n hi:Nat):Int)):=by
 have a:¬ ((1:Int) < 0):=by omega
 unfold o7;simp only [a,if_false];refine j46 ?_ ?_
 ·cases lo with
  | none=>rfl
  | some v=>exact zhv v n 0
 ·cases hi with
  | none=>rfl
  | some v=>exact zhv v n n
theorem zfi (i j:Nat):L5 (i:Int) (j:Int) 1=j - i:=by
 unfold L5;have a:(1:Int) > 0:=by omega
 simp only [a,if_true,Int.ediv_one];split<;>omega
theorem z9o {v:Value} {o:Option Int} {Q:Option Int->C0->Prop} (p:y9 v o) (h:Q o s):U0 (G1 prog w) A (Builtin.Slice.slicePartIndex v) Q E s:=by
 cases p with
 | none=>exact slicePart_none h
 | int i t=>exact slicePart_int h
theorem z2z {sl:Addr} {vl vu:Value} {lo hi:Option Int} {n:Nat} {Q:Int×Int×Nat->C0->Prop} (hs:s.heap.IsSliceOf sl vl vu .none) (pl:y9 vl lo) (pu:y9 vu hi)
  (h:Q (((sIx n 0 lo:Nat):Int),1,sIx n n hi - sIx n 0 lo) s):U0 (G1 prog w) A (O9 (.ref sl) (b4 (n:Int))) Q E s:=by
 obtain ⟨c,a,d,b⟩:=id hs;unfold O9 Builtin.Slice.sliceFields;refine v0 (v0 (wpAny_field a b (x:=vl) rfl (v0 (wpAny_field a b (x:=vu) rfl (v0 (wpAny_field a b (x:=.none) rfl (F0 ?_)))))));refine v0 (slicePart_none ?_);show U0 _ _ (if ((1:Int) == 0)=true then _ else _) _ _ s;rw [if_neg (by decide)];refine v0 (z9o pl (v0 (z9o pu (v0 (F0 ?_)))));show U0 _ _ (match o7 lo hi 1 (n:Int) with|(lo,hi)=>b4 (lo,(1:Int),L5 lo hi 1)) _ _ s;rw [zeb lo hi n];show U0 _ _ (b4 (((sIx n 0 lo:Nat):Int),(1:Int),L5 ((sIx n 0 lo:Nat):Int) ((sIx n n hi:Nat):Int) 1)) _ _ s;rw [zfi];exact F0 h
theorem zik (xs:Array Value) (i k:Nat):((W0 k).filterMap λ (m:Nat)=>xs[((i:Int) + (m:Int) * 1).toNat]?).toArray=((xs.toList.drop i).take k).toArray:=by
 have e:(λ (m:Nat)=>xs[((i:Int) + (m:Int) * 1).toNat]?)=λ m=>xs[i + m]?:=by
  funext m;have:((i:Int) + (m:Int) * 1).toNat=i + m:=by omega
  rw [this]
 rw [e];have:=pick_run xs i k;rw [List.filterMap_map] at this;have a:((λ x=>xs[x]?) ∘ λ x=>i + x)=λ m=>xs[i + m]?:=rfl;rw [a] at this;rw [this]
theorem getItem_tuple_cut {t sl:Addr} {items:Array Value} {vl vu:Value} {lo hi:Option Int} {Q:Value->C0->Prop} (ht:IsTup s.heap t items) (hs:s.heap.IsSliceOf sl vl vu .none) (pl:y9 vl lo) (pu:y9 vu hi)
  (hw:¬ (sIx items.size 0 lo=0/\sIx items.size items.size hi=items.size))
  (h:Q (.ref s.heap.objs.size) { s with heap:=s.heap.push { cls:=.type "tuple",data:=.seq ((items.toList.drop (sIx items.size 0 lo)).take (sIx items.size items.size hi - sIx items.size 0 lo)).toArray } })
  (hsz:items.size<=sizeLine):U0 (G1 prog w) A (G8 (.ref t) (.ref sl)) Q E s:=by
 have a:sizeOk (.seq ((items.toList.drop (sIx items.size 0 lo)).take (sIx items.size items.size hi - sIx items.size 0 lo)).toArray):=by show ((items.toList.drop (sIx items.size 0 lo)).take (sIx items.size items.size hi - sIx items.size 0 lo)).toArray.size<=sizeLine;rw [V0,A6,j0c,O2];omega
 have g:sIx items.size items.size hi<=items.size:=sIx_le _ _ (K0 _) hi;obtain ⟨b,f,c,k⟩:=id hs;have e:s.TypeIs (.ref sl) "slice":=⟨b,f,c⟩
 unfold G8
 try with_reducible refine Z1 ?_
 first|refine v0 (F0 ?_)|skip
 refine v0 (wpAny_sequenceKey ht.typeIs (by decide) ?_);refine v0 (wpAny_callSpecial?_slot (name:=M3 "__getitem__") ht.typeIs T4
  (C7 T4 ht.typeIs entry_tuple_getitem ?_ (args_tuple_getitem _ _)))
 show U0 _ _ (N9 (.ref t) >>= _) _ _ s;refine v0 (tupleItemsOf_ ht ?_);refine v0 (G6 e ?_);rw [if_pos (by decide)];refine v0 (z2z hs pl pu ?_);have d:¬ ((((sIx items.size 0 lo:Nat):Int) == 0 && (1:Int) == 1 && (sIx items.size items.size hi - sIx items.size 0 lo) == items.size)=true):=by intro q;rw [Q4,Q4] at q;have j:((sIx items.size 0 lo:Nat):Int)=0:=eq_of_beq q.1.1;have i:sIx items.size items.size hi - sIx items.size 0 lo=items.size:=eq_of_beq q.2;exact hw ⟨by omega,by omega⟩
 show U0 _ _ (if (((sIx items.size 0 lo:Nat):Int) == 0 && (1:Int) == 1 && (sIx items.size items.size hi - sIx items.size 0 lo) == items.size)=true then _ else _) _ _ s;rw [if_neg d,zik];first
  | exact v0 (m:=U5 _) (y6 (F0 ⟨_,rfl,F0 h⟩) a)
  | exact v0 (m:=U5 _) (y6 (v0 (F0 (F0 ⟨_,rfl,F0 h⟩))) a)
  | exact v0 (v0 (m:=U5 _) (y6 (F0 (F0 ⟨_,rfl,F0 h⟩)) a))
  | exact v0 (v0 (m:=U5 _) (y6 (F0 ⟨_,rfl,F0 h⟩) a))
end
end HT
namespace L2
open PySem PySem.Spec PyProof.Rows
noncomputable abbrev TO:=St->Hp->(Option Int->Hp->Prop)->Prop
def PO (X:Cx) (e:Option Expr) (t:TO):Prop:=
 ∀(pins:List (Addr×Obj)) (s:C0) (σ:St) (H:Hp) (Q:Option Int->Hp->Prop),Inv X pins σ H s->t σ H Q->
  U0 (G1 X.prog X.w) X.A (evalPart e X.env) (λ u s'=>∃o H',Inv X pins σ H' s'/\y9 u o/\Q o H') X.xe s
noncomputable def zku:TO:=λ _ H Q=>Q none H
noncomputable def tPart (t:TE):TO:=λ σ H Q=>t σ H λ x H1=>∃i,x=.int i/\Q (some i) H1
theorem zej {ns:List Int} :∀{us:List Value},Vals (ns.map V.int) us->Y4 us ns:=by
 induction ns with
 | nil=>intro us r;rw [K7] at r;cases r;exact .nil
 | cons n ns ih=>
  intro us r;rw [Y1] at r;cases r with
  | cons r1 r2=>obtain ⟨t,e⟩:=r1;subst e;exact .cons n t (ih r2)
section
variable {X:Cx} {e:Expr} {te:TE} {lo hi:Option Expr} {tl th:TO} {pos p2:Pos}
theorem zi9:PO X none zku:=by intro a s σ H Q I h;rw [evalPart_none];exact F0 ⟨none,H,I,.none,h⟩
theorem z7n (h:PE X e te):PO X (some e) (tPart te):=by intro b s σ H Q I a;rw [evalPart_some];refine thn (h b s σ H _ I a) λ u c ⟨x,H1,I1,r1,q1⟩=>?_;obtain ⟨i,rfl,q⟩:=q1;obtain ⟨t,rfl⟩:=r1;exact ⟨some i,H1,I1,.int i t,q⟩
def SlR (X:Cx) (r:V->Option Int->Option Int->Hp->VK->Prop):Prop:=
 ∀(pins:List (Addr×Obj)) (s:C0) (σ:St) (H:Hp) (x:V) (v vl vu:Value) (lo hi:Option Int) (sl:Addr) (Q:VK),Inv X pins σ H s->RelV x v->s.heap.IsSliceOf sl vl vu .none->y9 vl lo->y9 vu hi->r x lo hi H Q->
  ∃T id,j37 (.type T) "__getitem__" = b4 (some (.builtin id))/\s.TypeIs v T/\U0 (G1 X.prog X.w) X.A (G8 v (.ref sl)) (EP X pins σ Q) X.xe s
theorem SlR.or {r r':V->Option Int->Option Int->Hp->VK->Prop} (h:SlR X r) (h':SlR X r'):SlR X (λ x lo hi H Q=>r x lo hi H Q\/r' x lo hi H Q):=by
 intro g s σ H x v e a lo hi c Q I i f d b q;rcases q with q|q
 ·exact h g s σ H x v e a lo hi c Q I i f d b q
 ·exact h' g s σ H x v e a lo hi c Q I i f d b q
noncomputable def tSl (r:V->Option Int->Option Int->Hp->VK->Prop) (te:TE) (tl th:TO):TE:=λ σ H Q=>te σ H λ x H1=>tl σ H1 λ l H2=>th σ H2 λ u H3=>r x l u H3 Q
theorem z8a {r:V->Option Int->Option Int->Hp->VK->Prop} (hr:SlR X r) (he:PE X e te) (hl:PO X lo tl) (hu:PO X hi th):PE X (.Subscript e (.Slice lo hi none p2) pos) (tSl r te tl th):=by intro c s σ H Q I h;refine Subscript_ (thn (he c s σ H _ I h) λ v m ⟨x,H1,I1,r1,q1⟩=>?_);refine wpAny_Slice (thn (hl c m σ H1 _ I1 q1) λ f i ⟨l,H2,I2,pl,q2⟩=>thn (hu c i σ H2 _ I2 q2) λ d a ⟨u,H3,I3,pu,q3⟩=>?_);rw [evalPart_none];refine F0 ?_;have k:Inv X c σ H3 { a with heap:=a.heap.push { cls:=.type "slice",data:=.fields #[f,d,.none] } }:=I3.kept (t':=a.toks) λ b o q=>J0 _ q;obtain ⟨T,id,j,n,g⟩:=hr c { a with heap:=a.heap.push { cls:=.type "slice",data:=.fields #[f,d,.none] } } σ H3 x v f d l u a.heap.objs.size Q k r1 (Heap.IsSliceOf.new ..) pl pu q3;show U0 (G1 X.prog X.w) X.A (subscriptTail e (.Slice lo hi none p2) v (.ref a.heap.objs.size)) (EP X c σ Q) X.xe { a with heap:=a.heap.push { cls:=.type "slice",data:=.fields #[f,d,.none] } };exact tail_any (ops:=[.ref a.heap.objs.size,v]) n j g (by with_unfolding_all rfl)
noncomputable def cutV (xs:List V) (lo hi:Option Int):List V:=(xs.drop (HT.sIx xs.length 0 lo)).take (HT.sIx xs.length xs.length hi - HT.sIx xs.length 0 lo)
theorem z7e (xs:List V) (lo hi:Option Int):(cutV xs lo hi).length<=xs.length:=by unfold cutV;rw [A6,j0c];omega
def rSlT (K:o0):V->Option Int->Option Int->Hp->VK->Prop:=λ x lo hi H Q=>∃a xs,x=.ref a/\SqT K H a xs/\
 ¬ (HT.sIx xs.length 0 lo=0/\HT.sIx xs.length xs.length hi=xs.length)/\∀p,H p=none->Q (.ref p) (upd H p (.tup (cutV xs lo hi)))
theorem sl_tup:SlR X (rSlT X.K):=by
 intro w s σ H x v A y d e u Q I m t j n h;obtain ⟨a,c,rfl,l,k,q⟩:=h;cases m;obtain ⟨p,r,i,g⟩:=I.tuple l;have f:p.toArray.size=c.length:=by rw [V0];exact r.length.symm
 refine ⟨"tuple",_,PyProof.Rows.slot_tuple_getitem.lookup,i.typeIs,?_⟩;refine HT.getItem_tuple_cut i t j n (by rw [f];exact k) ?_ (by rw [f];exact g);rw [f];refine ⟨.ref s.heap.objs.size,_,I.laid (t':=s.toks) (o:=.tup (cutV c d e)) (λ b z q=>J0 _ q) (K0 _) ?_,rfl,q _ (I.hok.fresh (K0 _))⟩;exact ⟨N0 (z7e c d e) g,_,(r.drop (HT.sIx c.length 0 d)).take (HT.sIx c.length c.length e - HT.sIx c.length 0 d),IsTupN.new _ _⟩
noncomputable def rCatT (K:o0):R2:=λ x y H Q=>∃a b xs ys,x=.ref a/\y=.ref b/\SqT K H a xs/\SqT K H b ys/\xs≠[]/\xs.length + ys.length<=sizeLine/\
 (ys=[]->Q (.ref a) H)/\(ys≠[]->∀p,H p=none->Q (.ref p) (upd H p (.tup (xs++ys))))
theorem Vals.nil_iff {xs:List V} {us:List Value} (r:Vals xs us):us=[]↔xs=[]:=by
 cases r with
 | nil=>simp
 | cons _ _=>simp
theorem zjw:OpR X (E6 .Add) (rCatT X.K):=by intro A s σ H x y v u Q I n k h;obtain ⟨a,b,p,l,rfl,rfl,r,j,f,e,m,g⟩:=h;cases n;cases k;obtain ⟨D,d,t,_⟩:=I.tuple r;obtain ⟨B,c,i,_⟩:=I.tuple j;refine HT.cat_tup t i (λ z=>f (d.nil_iff.mp z)) (λ z=>⟨.ref a,H,I,rfl,m (c.nil_iff.mp z)⟩) (λ z=>?_) (by rw [<-d.length,<-c.length];exact e);refine ⟨.ref s.heap.objs.size,_,I.laid (t':=s.toks) (o:=.tup (p++l)) (λ b C q=>J0 _ q) (K0 _) ?_,rfl,g (λ w=>z (c.nil_iff.mpr w)) _ (I.hok.fresh (K0 _))⟩;exact ⟨by rw [G0];exact e,_,d.append c,IsTupN.new _ _⟩
end
noncomputable def ixN (n:Nat) (i:Int):Option Nat:=if 0<=i then (if i < n then some i.toNat else none) else if -(n:Int)<=i then some (i + n).toNat else none
noncomputable def atI {α:Type} (xs:List α) (i:Int):Option α:=(ixN xs.length i).bind λ j=>xs[j]?
theorem zi5 {n:Nat} {i:Int} {j:Nat} (h:ixN n i=some j):seqIndex? i n=some j/\j < n/\-(n:Int)<=i/\i < n:=by
 unfold ixN at h;by_cases h0:0<=i
 ·rw [if_pos h0] at h;by_cases h1:i < n
  ·rw [if_pos h1] at h;have e:i.toNat=j:=T2 h;exact ⟨by rw [seqIndex_of h0 h1,e],by omega,by omega,h1⟩
  ·rw [if_neg h1] at h;cases h
 ·rw [if_neg h0] at h;by_cases h1:-(n:Int)<=i
  ·rw [if_pos h1] at h;have e:(i + n).toNat=j:=T2 h;exact ⟨by rw [seqIndex_neg (by omega) h1,e],by omega,h1,by omega⟩
  ·rw [if_neg h1] at h;cases h
theorem zen {α:Type} {xs:List α} {i:Int} {v:α} (h:atI xs i=some v) :∃j,seqIndex? i xs.length=some j/\xs[j]? = some v/\j < xs.length/\-(xs.length:Int)<=i/\i < xs.length:=by
 unfold atI at h;cases e:ixN xs.length i with
 | none=>rw [e] at h;cases h
 | some j=>rw [e] at h;obtain ⟨a,c,d,b⟩:=zi5 e;exact ⟨j,a,h,c,d,b⟩
theorem z08 {α:Type} {xs:List α} {j:Nat} {v:α} (h:xs[j]? = some v):atI xs (j:Int)=some v:=by
 have a:j < xs.length:=(List.getElem?_eq_some_iff.mp h).1;have e:ixN xs.length (j:Int)=some j:=by unfold ixN;rw [if_pos (by omega),if_pos (by omega)];simp
 unfold atI;rw [e];exact h
def zk6 (b:Expr):Prop:=∀o i,j27 b false o i=operate [o,i] (G8 o i)
def IxR (X:Cx) (r:R2):Prop:=
 ∀(value slice:Expr) (pins:List (Addr×Obj)) (s:C0) (σ:St) (H:Hp) (x y:V) (v u:Value) (Q:VK),Inv X pins σ H s->RelV x v->RelV y u->r x y H Q->
  j27 slice false v u=operate [v,u] (G8 v u)->U0 (G1 X.prog X.w) X.A (subscriptTail value slice v u) (EP X pins σ Q) X.xe s
def MtR (X:Cx) (id:String) (r:V->List V->Hp->VK->Prop):Prop:=
 ∀(pins:List (Addr×Obj)) (s:C0) (σ:St) (H:Hp) (x:V) (xs:List V) (v:Value) (us:List Value) (Q:VK),Inv X pins σ H s->RelV x v->Vals xs us->r x xs H Q->
  U0 (G1 X.prog X.w) X.A (call (.builtin id) (v :: us)) (EP X pins σ Q) X.xe s
section
variable {X:Cx} {a b:Expr} {ta tb:TE} {pos:Pos}
theorem IxR.or {r r':R2} (h:IxR X r) (h':IxR X r'):IxR X (λ x y H Q=>r x y H Q\/r' x y H Q):=by
 intro a b e s σ H x y v u Q I f c q d;rcases q with q|q
 ·exact h a b e s σ H x y v u Q I f c q d
 ·exact h' a b e s σ H x y v u Q I f c q d
theorem pe_ix {r:R2} (hr:IxR X r) (ha:PE X a ta) (hb:PE X b tb) (hs:zk6 b):PE X (.Subscript a b pos) (tOp r ta tb):=by intro g s σ H Q I h;exact Subscript_ (binT ha hb I h λ v u d x y c e i f q=>hr a b g d σ c x y v u Q e i f q (hs _ _))
noncomputable def rIxL (K:o0):R2:=λ x y H Q=>∃p xs i v,x=.ref p/\y=.int i/\SqL K H p xs/\atI xs i=some v/\Q v H
noncomputable def rIxT (K:o0):R2:=λ x y H Q=>∃p xs i v,x=.ref p/\y=.int i/\SqT K H p xs/\atI xs i=some v/\Q v H
noncomputable def rIxS:R2:=λ x y H Q=>∃z i c,x=.str z/\y=.int i/\z.length<=sizeLine/\atI z.cps.toList i=some c/\Q (.str ⟨#[c]⟩) H
theorem ix_list:IxR X (rIxL X.K):=by
 intro G N d s σ H x y v u Q I C n h f;obtain ⟨p,M,i,z,rfl,rfl,l,m,q⟩:=h;cases C;obtain ⟨t,rfl⟩:=n;obtain ⟨E,r,b,L⟩:=I.list l;obtain ⟨j,a,D,F,A,o⟩:=zen m;obtain ⟨w,e,g⟩:=r.get D;have k:=r.length;have J:=line63;have fin:EP X d σ Q w s:=⟨z,H,I,g,q⟩
 by_cases h0:0<=i
 ·have c:i.toNat=j:=by rw [seqIndex_of h0 o] at a;exact T2 a
  exact item_listR b.isList h0 (by omega) (by rw [c];simpa using e) fin f
 ·have c:(i + (E.toArray.size:Int)).toNat=j:=by rw [seqIndex_neg (by omega) A] at a;rw [V0,<-k];exact T2 a
  exact subscriptTail_builtinR (x:=w) b.isList.typeIs slot_list_getitem.lookup
   (wpAny_getItem_list_neg (Q:=λ r B=>r=w/\EP X d σ Q r B) b.isList (by omega) (by rw [V0]<;>omega) (by omega) (by rw [c];simpa using e) ⟨rfl,fin⟩) f
theorem ix_tup:IxR X (rIxT X.K):=by
 intro D M b s σ H x y v u Q I l g h A;obtain ⟨p,J,i,z,rfl,rfl,e,f,q⟩:=h;cases l;obtain ⟨t,rfl⟩:=g;obtain ⟨L,r,a,G⟩:=I.tuple e;obtain ⟨j,o,m,B,E,C⟩:=zen f;obtain ⟨w,n,c⟩:=r.get m;have d:=r.length;have F:=line63;have fin:EP X b σ Q w s:=⟨z,H,I,c,q⟩
 exact subscriptTail_builtinR (x:=w) a.typeIs slot_tuple_getitem.lookup
  (getItem_tuple (j:=j) (Q:=λ r k=>r=w/\EP X b σ Q r k) a (by omega) (by omega) (by rw [V0,<-d];exact o) (by simpa using n) ⟨rfl,fin⟩) A
theorem ix_str:IxR X rIxS:=by
 intro w D r s σ H x y v u Q I l f h o;obtain ⟨z,i,c,rfl,rfl,C,e,q⟩:=h;obtain ⟨t,rfl⟩:=l;obtain ⟨A,rfl⟩:=f;obtain ⟨j,a,m,p,k,g⟩:=zen e;have b:z.cps.toList.length=z.length:=by simp [Str.length]
 rw [b] at a k g;have B:=line63;exact tail_any (typeIs_str s z t) slot_str_getitem.lookup (getItem_str (c:=c) (by have n:decide (i < -(2 ^ 63:Int))=false:=decide_eq_false (by omega);have d:decide (i ≥ 2 ^ 63)=false:=decide_eq_false (by omega);rw [n,d,P9]) (by rw [a];simpa using m) ⟨.str ⟨#[c]⟩,H,I.tok _,⟨_,rfl⟩,q⟩) o
noncomputable def rIx (K:o0):R2:=λ x y H Q=>rIxL K x y H Q\/rIxT K x y H Q\/rIxS x y H Q
theorem ix_seq:IxR X (rIx X.K):=ix_list.or (ix_tup.or ix_str)
theorem zed (its:List Value) (n j:Nat) (u:Value):B4 (·.setIfInBounds j u) { cls:=.type "list",data:=.seq its.toArray n }={ cls:=.type "list",data:=.seq (its.set j u).toArray n }:=by simp [B4]
theorem Inv.lst {pins:List (Addr×Obj)} {σ:St} {H:Hp} {s:C0} {p:Addr} {xs:List V} (I:Inv X pins σ H s) (h:H p=some (.lst xs)) :
  ∃(its:List Value) (n:Nat),Vals xs its/\s.heap.get? p=some { cls:=.type "list",data:=.seq its.toArray n }/\xs.length<=sizeLine:=by
 obtain ⟨z,its,n,r,e⟩:=I.hok p _ h;exact ⟨its,n,r,e,z⟩
theorem Inv.lstUpd {pins:List (Addr×Obj)} {σ:St} {H:Hp} {s:C0} {p:Addr} {xs ys:List V} {its its':List Value} {n n':Nat} {f:Obj->Obj} (I:Inv X pins σ H s) (h:H p=some (.lst xs))
  (ho:s.heap.get? p=some { cls:=.type "list",data:=.seq its.toArray n }) (hf:f { cls:=.type "list",data:=.seq its.toArray n }={ cls:=.type "list",data:=.seq its'.toArray n' }) (r:Vals ys its') (hz:ys.length<=sizeLine) (t:Nat) :
  Inv X pins σ (upd H p (.lst ys)) { s with heap:=s.heap.update p f,toks:=t }:=by
 have e:(s.heap.update p f).get? p=some { cls:=.type "list",data:=.seq its'.toArray n' }:=by rw [a7 f ho (by rw [hf]<;>rfl),hf]
 refine I.write (x:=p) (e:=p) (by rw [h];trivial) (.inl rfl) (λ b u a q=>(O4 _ _ (C2 a)).trans q) ⟨_,e⟩ ?_;exact ⟨hz,its',n',r,e⟩
def rSetL:V->V->V->Hp->(Hp->Prop)->Prop:=λ o i v H Q=>∃p xs k j,o=.ref p/\i=.int k/\H p=some (.lst xs)/\ixN xs.length k=some j/\Q (upd H p (.lst (xs.set j v)))
theorem z3q:PSet X rSetL:=by
 intro y s σ H o i v D E u Q I x w B h;obtain ⟨p,A,k,j,rfl,rfl,m,C,q⟩:=h;cases x;obtain ⟨t,rfl⟩:=w;obtain ⟨l,n,r,d,z⟩:=I.lst m;obtain ⟨a,G,e,f⟩:=zi5 C;have b:=r.length;have F:=line63;have g:Inv X y σ (upd H p (.lst (A.set j v))) { s with heap:=s.heap.update p (B4 (·.setIfInBounds j u)) }:=
  I.lstUpd m d (zed l n j u) (r.set B j) (by rw [R0];exact z) s.toks
 by_cases h0:0<=k
 ·have c:k.toNat=j:=by rw [seqIndex_of h0 f] at a;exact T2 a
  exact PySem.W.ki_setAt d h0 (by omega) (by rw [V0,<-b];exact f) (by rw [c];exact ⟨_,g,q⟩)
 ·have c:(k + (l.toArray.size:Int)).toNat=j:=by rw [seqIndex_neg (by omega) e] at a;rw [V0,<-b];exact T2 a
  exact PySem.W.ki_setBack d (by omega) (by rw [V0,<-b];exact e) (by omega) (by rw [c];exact ⟨_,g,q⟩)
theorem zbb (lo hi:Option Int) (n:Nat):(N7 lo hi none n).1=((HT.sIx n 0 lo:Nat):Int)/\(N7 lo hi none n).2.1=((HT.sIx n n hi:Nat):Int)/\(N7 lo hi none n).2.2=1:=by
 refine ⟨?_,?_,rfl⟩
 ·cases lo with
  | none=>simp [N7,HT.sIx]
  | some i=>
   simp only [N7,HT.sIx,Option.getD_none,show (1:Int) > 0 by decide,if_true];by_cases h:i < 0
   ·simp only [h,if_true]<;>omega
   ·simp only [h,if_false]<;>omega
 ·cases hi with
  | none=>simp [N7,HT.sIx]
  | some i=>
   simp only [N7,HT.sIx,Option.getD_none,show (1:Int) > 0 by decide,if_true];by_cases h:i < 0
   ·simp only [h,if_true]<;>omega
   ·simp only [h,if_false]<;>omega
theorem z9f (its:List Value) (lo hi:Option Int):slicePick its.toArray lo hi none=((its.drop (HT.sIx its.length 0 lo)).take (HT.sIx its.length its.length hi - HT.sIx its.length 0 lo)).toArray:=by obtain ⟨a,b,c⟩:=zbb lo hi its.toArray.size;unfold slicePick;rw [a,b,c];simp only [sliceRange_one,pick_run,V0]<;>rfl
def rSlL (K:o0):V->Option Int->Option Int->Hp->VK->Prop:=λ x lo hi H Q=>∃a xs,x=.ref a/\SqL K H a xs/\∀p,H p=none->Q (.ref p) (upd H p (.lst (cutV xs lo hi)))
theorem sl_list:SlR X (rSlL X.K):=by intro t s σ H x v z u d e p Q I l n g m h;obtain ⟨a,c,rfl,i,q⟩:=h;cases l;obtain ⟨y,r,f,k⟩:=I.list i;have j:=r.length;refine ⟨"list",_,slot_list_getitem.lookup,f.isList.typeIs,?_⟩;refine wpAny_getItem_list_slice f.isList n g m .none (by simp) ?_ (by rw [V0]<;>omega);rw [z9f,<-j];refine ⟨.ref s.heap.objs.size,_,I.laid (t':=s.toks) (o:=.lst (cutV c d e)) (λ b w q=>J0 _ q) (K0 _) ?_,rfl,q _ (I.hok.fresh (K0 _))⟩;exact ⟨N0 (z7e c d e) k,_,0,(r.drop (HT.sIx c.length 0 d)).take (HT.sIx c.length c.length e - HT.sIx c.length 0 d),C1 _ rfl⟩
noncomputable def flatV:V->Bool
 | .non=>true
 | .bl _=>true
 | .int _=>true
 | .str _=>true
 | _=>false
noncomputable def eqV:V->V->Bool
 | .non,.non=>true
 | .bl a,.bl b=>a == b
 | .bl a,.int b=>(if a then 1 else 0) == b
 | .int a,.bl b=>a == (if b then 1 else 0)
 | .int a,.int b=>a == b
 | .str a,.str b=>a == b
 | _,_=>false
theorem eqAt_V {A:P2} {s:C0} {y x:V} {u v:Value} (ry:RelV y u) (rx:RelV x v) (fy:flatV y=true) (fx:flatV x=true):j13 A s u v (eqV y x):=by
 cases y with
 | non=>
  cases ry;cases x with
  | non=>cases rx;exact v6 _
  | bl b=>cases rx;exact SeqAt.EqAt.none_bool b
  | int b=>obtain ⟨t,rfl⟩:=rx;exact SeqAt.EqAt.none_int b t
  | str b=>obtain ⟨t,rfl⟩:=rx;exact SeqAt.EqAt.none_str b t
  | _=>exact absurd (show false=true from fx) E1
 | bl a=>
  cases ry;cases x with
  | non=>cases rx;exact SeqAt.EqAt.bool_none a
  | bl b=>cases rx;exact SeqAt.EqAt.bool_bool a b
  | int b=>obtain ⟨t,rfl⟩:=rx;exact SeqAt.EqAt.bool_int a b t
  | str b=>obtain ⟨t,rfl⟩:=rx;exact SeqAt.EqAt.bool_str a b t
  | _=>exact absurd (show false=true from fx) E1
 | int a=>
  obtain ⟨c,rfl⟩:=ry;cases x with
  | non=>cases rx;exact SeqAt.EqAt.int_none a c
  | bl b=>cases rx;exact SeqAt.EqAt.int_bool a c b
  | int b=>obtain ⟨t,rfl⟩:=rx;exact j2b a c b t
  | str b=>obtain ⟨t,rfl⟩:=rx;exact j2a a c b t
  | _=>exact absurd (show false=true from fx) E1
 | str a=>
  obtain ⟨c,rfl⟩:=ry;cases x with
  | non=>cases rx;exact SeqAt.EqAt.str_none a c
  | bl b=>cases rx;exact SeqAt.EqAt.str_bool a c b
  | int b=>obtain ⟨t,rfl⟩:=rx;exact j29 a c b t
  | str b=>obtain ⟨t,rfl⟩:=rx;exact j28 a c b t
  | _=>exact absurd (show false=true from fx) E1
 | _=>exact absurd (show false=true from fy) E1
noncomputable def eqU (x:V) (u:Value):Bool:=match u with
 | .none=>eqV .non x
 | .bool b=>eqV (.bl b) x
 | .int i _=>eqV (.int i) x
 | .str z _=>eqV (.str z) x
 | _=>false
theorem eqU_of {x y:V} {u:Value} (r:RelV y u) (f:flatV y=true):eqU x u=eqV y x:=by
 cases y with
 | non=>cases r;rfl
 | bl b=>cases r;rfl
 | int i=>obtain ⟨t,rfl⟩:=r;rfl
 | str z=>obtain ⟨t,rfl⟩:=r;rfl
 | _=>exact absurd (show false=true from f) E1
theorem z8v {x:V} :∀{xs:List V} {us:List Value},Vals xs us->xs.all flatV=true->us.any (eqU x)=xs.any λ y=>eqV y x
 | _,_,.nil,_=>rfl
 | y :: xs,u :: us,.cons r t,f=>by rw [M5,Q4] at f;rw [j8,j8,eqU_of r f.1,z8v t f.2]
theorem z6g {A:P2} {s:C0} {x:V} {v:Value} (rx:RelV x v) (fx:flatV x=true) :∀{xs:List V} {us:List Value},Vals xs us->xs.all flatV=true->∀u∈us,j13 A s u v (eqU x u)
 | _,_,.nil,_=>λ u a=>by cases a
 | y :: xs,u :: us,.cons r t,f=>λ b a=>by
  rw [M5,Q4] at f;rcases List.mem_cons.mp a with rfl|a
  ·rw [eqU_of r f.1];exact eqAt_V r rx f.1 fx
  ·exact z6g rx fx t f.2 b a
noncomputable def inV (x:V) (xs:List V):Bool:=xs.any λ y=>eqV y x
noncomputable def rIn (K:o0) (neg:Bool):R2:=λ x y H Q=>∃p xs,y=.ref p/\(SqL K H p xs\/SqT K H p xs)/\flatV x=true/\xs.all flatV=true/\Q (.bl (if neg then !inV x xs else inV x xs)) H
theorem zc7:OpR X (X2 .In) (rIn X.K false):=by
 intro j s σ H x y v u Q I f g h;obtain ⟨p,k,rfl,a,e,fs,q⟩:=h;cases g;rcases a with a|a
 ·obtain ⟨b,r,c,i⟩:=I.list a;refine SeqAt.in_listAt (eqU x) c.isList (λ w d=>z6g f e r fs w (by simpa using d)) ⟨.bl _,H,I,rfl,?_⟩;rw [show b.toArray.any (eqU x)=b.any (eqU x) by simp,z8v r fs];exact q
 ·obtain ⟨b,r,c,i⟩:=I.tuple a;refine SeqAt.in_tupleAt (eqU x) c (λ w d=>z6g f e r fs w (by simpa using d)) ⟨.bl _,H,I,rfl,?_⟩;rw [show b.toArray.any (eqU x)=b.any (eqU x) by simp,z8v r fs];exact q
theorem z66:OpR X (X2 .NotIn) (rIn X.K true):=by
 intro j s σ H x y v u Q I f g h;obtain ⟨p,k,rfl,a,e,fs,q⟩:=h;cases g;rcases a with a|a
 ·obtain ⟨b,r,c,i⟩:=I.list a;refine SeqAt.notIn_listAt (eqU x) c.isList (λ w d=>z6g f e r fs w (by simpa using d)) ⟨.bl _,H,I,rfl,?_⟩;rw [show b.toArray.any (eqU x)=b.any (eqU x) by simp,z8v r fs];exact q
 ·obtain ⟨b,r,c,i⟩:=I.tuple a;refine SeqAt.notIn_tupleAt (eqU x) c (λ w d=>z6g f e r fs w (by simpa using d)) ⟨.bl _,H,I,rfl,?_⟩;rw [show b.toArray.any (eqU x)=b.any (eqU x) by simp,z8v r fs];exact q
theorem call_len_seq:CallR X (.builtin "len") (λ xs H Q=>∃p ys,xs=[.ref p]/\(SqL X.K H p ys\/SqT X.K H p ys)/\Q (.int ys.length) H):=by
 intro k s σ H xs i Q I r h;obtain ⟨p,ys,rfl,a,q⟩:=h;obtain ⟨u,rfl,g⟩:=vals1 r;cases g;have j:=line63;rcases a with a|a
 ·obtain ⟨f,d,c,e⟩:=I.list a;have b:=d.length;exact Calls.call_len_list c.isList (by simp only [V0]<;>omega) ⟨.int ys.length,H,I.tok _,⟨s.toks + 1,by rw [V0,b]⟩,q⟩
 ·obtain ⟨f,d,c,e⟩:=I.tuple a;have b:=d.length;exact len_tuple c (by simp only [V0]<;>omega) ⟨.int ys.length,H,I.tok _,⟨s.toks + 1,by rw [V0,b]⟩,q⟩
theorem zak:CallR X (.builtin "len") (λ xs H Q=>∃z,xs=[.str z]/\z.length<=sizeLine/\Q (.int z.length) H):=by intro c s σ H xs a Q I r h;obtain ⟨z,rfl,d,q⟩:=h;obtain ⟨u,rfl,t,rfl⟩:=vals1 r;have b:=line63;exact len_str (by omega) ⟨.int z.length,H,I.tok _,⟨_,rfl⟩,q⟩
theorem CallR.or {f:Value} {r r':List V->Hp->VK->Prop} (h:CallR X f r) (h':CallR X f r'):CallR X f (λ xs H Q=>r xs H Q\/r' xs H Q):=by
 intro c s σ H xs a Q I b q;rcases q with q|q
 ·exact h c s σ H xs a Q I b q
 ·exact h' c s σ H xs a Q I b q
theorem zah:CallR X (.type "list") (λ xs H Q=>∃p ys,xs=[.ref p]/\(SqL X.K H p ys\/SqT X.K H p ys)/\∀l,H l=none->Q (.ref l) (upd H l (.lst ys))):=by
 intro x s σ H xs A Q I r h;obtain ⟨p,ys,rfl,i,q⟩:=h;obtain ⟨u,rfl,z⟩:=vals1 r;cases z;have fin :∀(c:List Value),Vals ys c->ys.length<=sizeLine->∀(a:Heap) (f:Nat),(∀b o',s.heap.get? b=some o'->a.get? b=some o')->
   a.get? s.heap.objs.size=some { cls:=.type "list",dict:=none,data:=.seq c.toArray f,slots:=#[] }->EP X x σ Q (.ref s.heap.objs.size) { s with heap:=a }:=λ c d j a f g e=>
  ⟨.ref s.heap.objs.size,_,I.laid (t':=s.toks) g (K0 _) (show ObjOk X.prog X.w _ a _ (.lst ys) from ⟨j,c,f,d,e⟩),rfl,q _ (I.hok.fresh (K0 _))⟩
 rcases i with i|i
 ·obtain ⟨c,d,k,j⟩:=I.list i;have y:=d.length;obtain ⟨o,t,v,n,m⟩:=k.isList;exact call_list_seq p (.inl rfl) t v m (λ a f g e=>fin c d j a f g e) (by simp only [V0]<;>omega)
 ·obtain ⟨c,d,k,j⟩:=I.tuple i;have y:=d.length;obtain ⟨o,t,v,n,m⟩:=k;exact call_list_seq p (.inr rfl) t v m (λ a f g e=>fin c d j a f g e) (by simp only [V0]<;>omega)
theorem z55:CallR X (.type "tuple") (λ xs H Q=>∃p ys,xs=[.ref p]/\((SqL X.K H p ys/\∀l,H l=none->Q (.ref l) (upd H l (.tup ys)))\/(SqT X.K H p ys/\Q (.ref p) H))):=by
 intro j s σ H xs v Q I r h;obtain ⟨p,ys,rfl,h⟩:=h;obtain ⟨u,rfl,t⟩:=vals1 r;cases t;rcases h with ⟨d,q⟩|⟨d,q⟩
 ·obtain ⟨f,g,c,k⟩:=I.list d;have x:=g.length;refine call_tuple_list c.isList (λ a n=>?_) (by simp only [V0]<;>omega);have i:Inv X j σ H { s with heap:=a }:=I.kept (t':=s.toks) n;have m:Inv X j σ (upd H a.objs.size (.tup ys)) { s with heap:=a.push { cls:=.type "tuple",data:=.seq f.toArray } }:=
   i.laid (t':=s.toks) (λ b o e=>J0 _ e) (K0 _) (show ObjOk X.prog X.w _ _ _ (.tup ys) from ⟨k,f,g,IsTupN.new _ _⟩)
  exact ⟨.ref a.objs.size,_,m,rfl,q _ (i.hok.fresh (K0 _))⟩
 ·obtain ⟨f,g,c,k⟩:=I.tuple d;exact call_tuple_same c ⟨.ref p,H,I,rfl,q⟩
def tyV (K:o0) (T:String) (x:V) (H:Hp):Prop:=match x with
 | .str _=>T = "str"
 | .int _=>T = "int"
 | .ref p=>(T = "list"/\∃xs,SqL K H p xs)\/(T = "tuple"/\∃o,K.lookup p=some o/\o.cls=.type "tuple"/\o.dict=none)\/
   (T = "dict"/\((∃kvs,H p=some (.dK kvs))\/∃kvs,H p=some (.dT kvs)))\/(T = "set"/\∃S n,H p=some (.set S n))
 | _=>False
theorem tyV_is {pins:List (Addr×Obj)} {σ:St} {H:Hp} {s:C0} {T:String} {x:V} {v:Value} (I:Inv X pins σ H s) (r:RelV x v) (ty:tyV X.K T x H) :
  s.TypeIs v T/\∀a,v=.ref a->∃ob,s.heap.get? a=some ob/\ob.dict=none:=by
 cases x with
 | str z=>obtain ⟨t,rfl⟩:=r;cases (show T = "str" from ty);exact ⟨typeIs_str s z t,λ _ e=>nomatch e⟩
 | int i=>obtain ⟨t,rfl⟩:=r;cases (show T = "int" from ty);exact ⟨typeIs_int s i t,λ _ e=>nomatch e⟩
 | ref p=>
  cases r;rcases ty with ⟨rfl,l,j⟩|⟨rfl,o,b,hc,g⟩|⟨rfl,b⟩|⟨rfl,S,n,b⟩
  ·obtain ⟨m,_,h,_⟩:=I.list j;refine ⟨h.isList.typeIs,λ a e=>?_⟩;cases e;obtain ⟨o,n,e,c,g,_⟩:=h;exact ⟨o,e,g⟩
  ·refine ⟨⟨o,I.kIn p o b,hc⟩,λ a e=>?_⟩;cases e;exact ⟨o,I.kIn _ o b,g⟩
  ·have z :∃o,s.heap.get? p=some o/\o.ExactDict:=by
    rcases b with ⟨k,b⟩|⟨k,b⟩
    ·obtain ⟨_,_,_,_,o,_,_,e,d,_⟩:=I.hok p _ b;exact ⟨o,e,d⟩
    ·obtain ⟨_,_,_,_,o,_,_,e,d,_⟩:=I.hok p _ b;exact ⟨o,e,d⟩
   obtain ⟨o,e,d⟩:=z;refine ⟨⟨o,e,d.1⟩,λ a f=>?_⟩;cases f;exact ⟨o,e,d.2.1⟩
  ·obtain ⟨o,_,_,_,e,d,_⟩:=I.hok p _ b;refine ⟨⟨o,e,d.1⟩,λ a f=>?_⟩;cases f;exact ⟨o,e,d.2.1⟩
 | _=>exact J4 ty
noncomputable def tBM (K:o0) (T:String) (r:V->List V->Hp->VK->Prop) (to:TE) (t:TA):TE:=λ σ H Q=>to σ H λ x H1=>tyV K T x H1/\t σ H1 λ xs H2=>r x xs H2 Q
variable {o e:Expr} {es:List Expr} {to:TE} {t:TA} {name:Str} {apos cpos:Pos} {T id:String} {r:V->List V->Hp->VK->Prop}
theorem pe_bm (pa:PlainAttrs T) (slot:Slot T name id) (hty:typeOf (.builtin id)=b4 (.type "method_descriptor")) (hm:MtR X id r) (ho:PE X o to) (ha:PA X (e :: es) t)
  (hbase:B5 o name X.env (V3 o X.env)=V3 o X.env:=by rfl)
  (hfew:((P4 cpos (K1 (e :: es) X.env)).all (λ x=>!x.1) && (a9 cpos (X6 [] X.env)).all (λ x=>x.1.isSome)
   && decide ((e :: es).length + ([]:List Q6).length + (if ([]:List Q6).isEmpty then 0 else 1) < 30))=true:=by rfl)
  (hline:(apos.endLine == cpos.line)=true:=by rfl) (hs:K1 (e :: es) X.env=(false,V3 e X.env) :: K1 es X.env:=by rfl) (hplain:(P4 cpos (K1 es X.env)).any (·.1)=false:=by rfl) :
  PE X (.Call (.Attribute o name apos) (e :: es) [] cpos) (tBM X.K T r to t):=by
 intro a s σ H Q I h;refine wpAny_Call_method_late hbase hfew hline rfl (thn (ho a s σ H _ I h) λ v c ⟨x,H1,I1,r1,ty,q1⟩=>?_);obtain ⟨i,g⟩:=tyV_is I1 r1 ty;refine ⟨T,id,pa,slot,hty,i,g,?_⟩;have b:=ha cpos a c σ H1 _ I1 q1;rw [hs] at b⊢;refine j2i (by show (false || (P4 cpos (K1 es X.env)).any (·.1))=false;rw [hplain]<;>rfl) (d9 ?_);exact thn b λ d f ⟨vs,H2,I2,r2,q2⟩=>hm a f σ H2 x vs v d Q I2 r1 r2 q2
end
def MtM (X:Cx) (id:String) (r:V->List V->Hp->VK->Prop):Prop:=
 ∀(pins:List (Addr×Obj)) (s:C0) (σ:St) (H:Hp) (x:V) (xs:List V) (v:Value) (us:List Value) (Q:VK),Inv X pins σ H s->RelV x v->Vals xs us->r x xs H Q->
  U0 (G1 X.prog X.w) X.A (call (.builtin id) (v :: us)) (EP X pins σ Q) X.xe s
theorem Vals.one :∀{x:V} {us:List Value},Vals [x] us->∃u,us=[u]/\RelV x u
 | _,_,.cons r .nil=>⟨_,rfl,r⟩
theorem Vals.eraseIdx :∀{xs:List V} {us:List Value} (i:Nat),Vals xs us->Vals (xs.eraseIdx i) (us.eraseIdx i)
 | _,_,_,.nil=>.nil
 | _,_,0,.cons _ t=>t
 | _,_,i + 1,.cons r t=>.cons r (Vals.eraseIdx i t)
theorem Vals.rep {xs:List V} {us:List Value} (h:Vals xs us) :∀k:Nat,Vals (P0 k xs).flatten (P0 k us).flatten
 | 0=>.nil
 | k + 1=>by rw [C6,C6,f8,f8];exact Vals.append h (Vals.rep h k)
theorem zby {α:Type} :∀(l:List α) (i:Nat),(l.eraseIdx i).length<=l.length
 | [],_=>K0 _
 | _ :: _,0=>F3 _
 | _ :: r,i + 1=>Nat.succ_le_succ (zby r i)
theorem zc5 (its:List Value) :∀(k:Nat) (acc:List Value),
  List.foldl (λ x1 x2=>x1++x2) acc.toArray (P0 k its.toArray)=(acc++(P0 k its).flatten).toArray
 | 0,acc=>by simp
 | k + 1,acc=>by
  have e:acc.toArray++its.toArray=(acc++its).toArray:=by simp
  have a:(acc++its)++(P0 k its).flatten=acc++(P0 (k + 1) its).flatten:=by rw [C6,f8,E2]
  rw [<-a,<-zc5 its k (acc++its),<-e,C6,U3]
section
variable {X:Cx} {pins:List (Addr×Obj)} {σ:St} {H:Hp} {s:C0} {l b:Addr} {xs ys zs:List V}
theorem Inv.lset {its its':List Value} {n:Nat} {f:Array Value->Array Value} {t':Nat} (I:Inv X pins σ H s) (hH:H l=some (.lst xs))
  (e:s.heap.get? l=some { cls:=.type "list",data:=.seq its.toArray n }) (hf:f its.toArray=its'.toArray) (hv:Vals ys its') (hz:ys.length<=sizeLine) :
  Inv X pins σ (upd H l (.lst ys)) { s with heap:=s.heap.update l (B4 f),toks:=t' }:=by
 have q:=PySem.IsL.update e f;rw [hf] at q;refine I.write (x:=l) (e:=l) (by rw [hH];exact trivial) (.inl rfl) (λ c u b a=>(O4 s.heap (B4 f) (C2 b)).trans a) ⟨_,q⟩ ?_;exact ⟨hz,its',_,hv,q⟩
theorem Inv.lnew {its:List Value} {t':Nat} (I:Inv X pins σ H s) (hv:Vals ys its) (hz:ys.length<=sizeLine) :
  Inv X pins σ (upd H s.heap.objs.size (.lst ys)) { s with heap:=s.heap.push { cls:=.type "list",data:=.seq its.toArray },toks:=t' }:=
 I.laid (λ _ _ q=>J0 _ q) (K0 _) ⟨hz,its,0,hv,C1 _ rfl⟩
theorem Inv.fresh (I:Inv X pins σ H s):H s.heap.objs.size=none:=I.hok.fresh (K0 _)
theorem Inv.lstM (I:Inv X pins σ H s) (hH:H l=some (.lst xs)):xs.length<=sizeLine/\∃(its:List Value) (n:Nat),Vals xs its/\xs.length=its.length/\s.heap.get? l=some { cls:=.type "list",data:=.seq its.toArray n }:=by obtain ⟨z,its,n,r,e⟩:=I.hok l _ hH;exact ⟨z,its,n,r,r.length,e⟩
theorem zes {n:Nat} (h:n<=sizeLine):a6 n=false:=by unfold a6;exact decide_eq_false (by omega)
end
section
variable {X:Cx}
def zi1:V->List V->Hp->VK->Prop:=λ x vs H Q=>∃l xs y,x=.ref l/\vs=[y]/\H l=some (.lst xs)/\xs.length < sizeLine/\Q .non (upd H l (.lst (xs++[y])))
theorem zgp:MtM X "list.append" zi1:=by intro i s σ H x o v j Q I c d h;obtain ⟨l,m,y,rfl,rfl,a,k,q⟩:=h;cases c;obtain ⟨u,rfl,f⟩:=d.one;obtain ⟨z,b,n,r,g,e⟩:=I.lstM a;refine v8 F.slot_list_append ⟨_,e,rfl⟩ F.entry_list_append (F.args_list_append_2 _ _) (PySem.list_append l b.toArray n u (by rw [V0];omega)) ⟨e,?_⟩;refine ⟨.non,_,I.lset (its':=b++[u]) a e (by simp) (r.append (.cons f .nil)) ?_,rfl,q⟩;rw [G0,Z2];omega
def zhu:V->List V->Hp->VK->Prop:=λ x vs H Q=>∃l b xs zs,x=.ref l/\vs=[.ref b]/\H l=some (.lst xs)/\H b=some (.lst zs)/\xs.length + zs.length<=sizeLine/\Q .non (upd H l (.lst (xs++zs)))
theorem zgh:MtM X "list.extend" zhu:=by
 intro A s σ H x J v B Q I m o h;obtain ⟨l,b,E,G,rfl,rfl,d,f,D,q⟩:=h;cases m;obtain ⟨u,rfl,t⟩:=o.one;cases t;obtain ⟨z,a,n,r,w,e⟩:=I.lstM d;obtain ⟨y,c,j,k,C,g⟩:=I.lstM f;have i:a.toArray.size + c.toArray.size<=sizeLine:=by rw [V0,V0];omega
 have p:¬ (not a.toArray.isEmpty && a6 (a.toArray.size + c.toArray.size))=true:=by rw [zes i,j1c];exact E1
 refine v8 F.slot_list_extend ⟨_,e,rfl⟩ F.entry_list_extend (F.args_list_extend_2 _ _)
  (AutoSeq1.list_extend_list_list_0 l a.toArray n b c.toArray j p (by rw [V0];omega) (by omega)) ⟨e,g,?_⟩
 refine ⟨.non,_,I.lset (its':=a++c) d e (by simp) (r.append k) ?_,rfl,q⟩;rw [G0];omega
def rPopAt:V->List V->Hp->VK->Prop:=λ x vs H Q=>∃l xs i k y,x=.ref l/\vs=[.int i]/\H l=some (.lst xs)/\-(2 ^ 63)<=i/\i < 2 ^ 63/\seqIndex? i xs.length=some k/\xs[k]? = some y/\Q y (upd H l (.lst (xs.eraseIdx k)))
theorem zir:MtM X "list.pop" rPopAt:=by
 intro D s σ H x G v E Q I j A h;obtain ⟨l,o,i,k,y,rfl,rfl,b,B,p,g,m,q⟩:=h;cases j;obtain ⟨u,rfl,C⟩:=A.one;obtain ⟨t,rfl⟩:=C;obtain ⟨z,a,n,r,f,e⟩:=I.lstM b;obtain ⟨w,c,d⟩:=r.get m;refine v8 F.slot_list_pop ⟨_,e,rfl⟩ F.entry_list_pop (F.args_list_pop_2 _ _)
  (MeetsSeq.list_pop_at l a.toArray n i t k w (fitsIndex_both B p) (by rw [V0,<-f];exact g) (by rw [<-Array.getElem?_toList];exact c) (by rw [V0];omega)) ⟨e,?_⟩
 refine ⟨y,_,I.lset (its':=a.eraseIdx k) b e ?_ (r.eraseIdx k) ?_,d,q⟩
 ·show a.toArray.eraseIdxIfInBounds k=(a.eraseIdx k).toArray;rw [List.eraseIdxIfInBounds_toArray]
 ·have:=zby o k;omega
noncomputable def rCat:R2:=λ x y H Q=>∃l b xs zs,x=.ref l/\y=.ref b/\H l=some (.lst xs)/\H b=some (.lst zs)/\xs.length + zs.length<=sizeLine/\∀p,H p=none->Q (.ref p) (upd H p (.lst (xs++zs)))
theorem op_cat:OpR X (E6 .Add) rCat:=by
 intro w s σ H x y v u Q I k i h;obtain ⟨l,b,C,D,rfl,rfl,f,d,B,q⟩:=h;cases k;cases i;obtain ⟨z,c,n,r,o,e⟩:=I.lstM f;obtain ⟨p,a,t,j,A,g⟩:=I.lstM d;refine PySem.P.add_list e g ?_ (by rw [V0,V0];omega);have m:c.toArray++a.toArray=(c++a).toArray:=by simp
 rw [m];exact ⟨.ref _,_,I.lnew (t':=s.toks) (r.append j) (by rw [G0];omega),rfl,q _ I.fresh⟩
noncomputable def rRep:R2:=λ x y H Q=>∃l k xs,x=.ref l/\y=.int k/\H l=some (.lst xs)/\-(2 ^ 63)<=k/\k < 2 ^ 63/\xs.length * k.toNat<=sizeLine/\
 ∀p,H p=none->Q (.ref p) (upd H p (.lst (P0 k.toNat xs).flatten))
theorem zl1 {α:Type} (xs:List α) (k:Nat):(P0 k xs).flatten.length=k * xs.length:=by
 induction k with
 | zero=>simp
 | succ k ih=>rw [C6,f8,G0,ih,Nat.succ_mul,j06]
theorem op_rep:OpR X (E6 .Mult) rRep:=by
 intro K s σ H x y v u Q I D w h;obtain ⟨l,k,L,rfl,rfl,o,J,E,f,q⟩:=h;cases D;obtain ⟨t,rfl⟩:=w;obtain ⟨z,b,n,r,p,e⟩:=I.lstM o;have B:b.toArray.size * k.toNat<=sizeLine:=by rw [V0,<-p];exact f
 have g:¬ b.toArray.size * k.toNat > (2 ^ 63 - 1) / 8:=by
  have:(sizeLine:Nat)<=(2 ^ 63 - 1) / 8:=by decide
  omega
 have j:¬ (!Builtin.List.listFitsIndex k)=true:=by rw [fitsIndex_both J E];exact E1
 have G:¬ a6 (b.toArray.size * k.toNat)=true:=by rw [zes B];exact E1
 have i:List.foldl (λ c d=>c++d) #[] (P0 (if b.toArray.isEmpty=true then 0 else k.toNat) b.toArray)=(P0 k.toNat b).flatten.toArray:=by
  have A :∀m:Nat,List.foldl (λ c d=>c++d) #[] (P0 m b.toArray)=(P0 m b).flatten.toArray:=λ m=>by have:=zc5 b m [];rw [List.nil_append] at this;exact this
  rw [A];cases b with
  | nil=>simp
  | cons a r'=>rw [if_neg (by simp)]
 refine wpAny_binaryOp_repeat_ref (T:="list") (U:="int") (by decide) ⟨_,e,rfl⟩ (λ C=>typeIs_int C k t) noFill_list_mul F.fills_int_mul F.slot_int_rmul repeat_list F.slot_int_index.lookup
  (v8 F.slot_int_rmul (typeIs_int s k t) F.entry_int_rmul (F.args_int_rmul_2 _ _) (int___rmul___int_list k t l b.toArray n)
   ⟨e,rfl,⟨_,e,rfl⟩,v8 F.slot_list_mul ⟨_,e,rfl⟩ F.entry_list_mul (F.args_list_mul_2 _ _) (AutoListH.list___mul___list_int_3 l b.toArray n k t j g G) ⟨e,?_⟩⟩)
 rw [i];exact ⟨.ref _,_,I.lnew (t':=s.toks) (r.rep k.toNat) (by rw [zl1,Nat.mul_comm];exact f),rfl,q _ I.fresh⟩
end
section
variable {prog:Program} {w:Z0} {A:P2} {E:Value->C0->Prop} {s:C0}
set_option maxRecDepth 100000 in
end
section
variable {κ:Type} [DecidableEq κ]
noncomputable def valV (kvs:List (κ×V)) (k:κ):Option V:=(kvs.find? λ kv=>decide (kv.1=k)).map (·.2)
noncomputable def putK (kvs:List (κ×V)) (k:κ) (v:V):List (κ×V):=
 if (kvs.any λ kv=>decide (kv.1=k))=true then kvs.map (λ kv=>if kv.1=k then (kv.1,v) else kv) else kvs++[(k,v)]
theorem z1c {p:κ×V} {r:List (κ×V)} {k:κ} (e:p.1=k):valV (p :: r) k=some p.2:=by simp [valV,W4,e]
theorem z19 {p:κ×V} {r:List (κ×V)} {k:κ} (e:¬ p.1=k):valV (p :: r) k=valV r k:=by simp [valV,W4,e]
theorem z6e (k:κ) :∀kvs:List (κ×V),(kvs.any λ kv=>decide (kv.1=k))=(valV kvs k).isSome
 | []=>rfl
 | p :: r=>by
  rw [j8];by_cases e:p.1=k
  ·simp only [z1c e,decide_eq_true e,Bool.true_or,Option.isSome_some]
  ·rw [z19 e,decide_eq_false e,Bool.false_or];exact z6e k r
theorem zdy (k j:κ) (y:V) :∀kvs:List (κ×V),valV (kvs.map λ kv=>if kv.1=k then (kv.1,y) else kv) j=(valV kvs j).map λ x=>if j=k then y else x
 | []=>rfl
 | p :: r=>by
  have a:=zdy k j y r;rw [Y1];by_cases h:p.1=k
  ·rw [if_pos h];by_cases e:p.1=j
   ·rw [z1c (p:=(p.1,y)) e,z1c e,D8,if_pos (e.symm.trans h)]
   ·rw [z19 (p:=(p.1,y)) e,z19 e,a]
  ·rw [if_neg h];by_cases e:p.1=j
   ·rw [z1c (p:=p) e,z1c e,D8,if_neg (λ z=>h (e.trans z))]
   ·rw [z19 (p:=p) e,z19 e,a]
theorem zch (k j:κ) (y:V) :∀kvs:List (κ×V),valV kvs k=none->valV (kvs++[(k,y)]) j=if j=k then some y else valV kvs j
 | [],_=>by
  by_cases e:k=j
  ·rw [if_pos e.symm];exact z1c (p:=(k,y)) e
  ·rw [if_neg (λ z=>e z.symm)];exact z19 (p:=(k,y)) e
 | p :: r,hn=>by
  rw [List.cons_append];have a:¬ p.1=k:=λ z=>by rw [z1c z] at hn;cases hn
  rw [z19 a] at hn;have b:=zch k j y r hn;by_cases e:p.1=j
  ·rw [z1c e,z1c e,if_neg (λ z=>a (e.trans z))]
  ·rw [z19 e,z19 e,b]
theorem zb1 (kvs:List (κ×V)) (k j:κ) (y:V):valV (putK kvs k y) j=if j=k then some y else valV kvs j:=by
 unfold putK;by_cases a:(kvs.any λ c=>decide (c.1=k))=true
 ·rw [if_pos a,zdy];rw [z6e] at a;by_cases e:j=k
  ·obtain ⟨x,b⟩:=Option.isSome_iff_exists.mp a;rw [if_pos e,e,b,D8,if_pos rfl]
  ·rw [if_neg e];cases valV kvs j with
   | none=>rfl
   | some x=>rw [D8,if_neg e]
 ·rw [if_neg a];refine zch k j y kvs ?_;rw [z6e] at a;cases q:valV kvs k with
  | none=>rfl
  | some x=>rw [q] at a;exact (a rfl).elim
theorem z25 (kvs:List (κ×V)) (k:κ) (v:V):(putK kvs k v).length<=kvs.length + 1:=by
 unfold putK;split
 ·rw [I0];omega
 ·rw [G0,Y0,T3];omega
theorem RelO.isSome_eq {o:Option V} {u:Option Value} (r:RelO o u):o.isSome=u.isSome:=by
 cases o with
 | none=>cases u with
  | none=>rfl
  | some _=>exact (show False from r).elim
 | some _=>cases u with
  | none=>exact (show False from r).elim
  | some _=>rfl
theorem RelO.getD {o:Option V} {u:Option Value} {d:V} {d':Value} (r:RelO o u) (rd:RelV d d'):RelV (o.getD d) (u.getD d'):=by
 cases o with
 | none=>cases u with
  | none=>exact rd
  | some _=>exact (show False from r).elim
 | some _=>cases u with
  | none=>exact (show False from r).elim
  | some _=>exact r
theorem KV.val {kvs:List (κ×V)} {vs:List (κ×Value)} (r:KV kvs vs) (k:κ):RelO (valV kvs k) (j0i vs k):=by
 unfold KV at r;induction r with
 | nil=>exact True.intro
 | @cons p q ps qs h t ih=>
  obtain ⟨c,d⟩:=h;by_cases e:p.1=k
  ·have a:q.1=k:=c.symm.trans e;have b:j0i (q :: qs) k=some q.2:=by simp [j0i,W4,a]
   rw [z1c e,b];exact d
  ·have a:¬ q.1=k:=λ z=>e (c.trans z);have b:j0i (q :: qs) k=j0i qs k:=by simp [j0i,W4,a]
   rw [z19 e,b];exact ih
theorem KV.any {kvs:List (κ×V)} {vs:List (κ×Value)} (r:KV kvs vs) (k:κ):(kvs.any λ kv=>decide (kv.1=k))=vs.any λ kv=>decide (kv.1=k):=by
 unfold KV at r;induction r with
 | nil=>rfl
 | cons h t ih=>rw [j8,j8,ih,h.1]
theorem KV.repl {kvs:List (κ×V)} {vs:List (κ×Value)} (r:KV kvs vs) (k:κ) {y:V} {u:Value} (ry:RelV y u) :
  KV (kvs.map λ kv=>if kv.1=k then (kv.1,y) else kv) (vs.map λ kv=>if kv.1=k then (kv.1,u) else kv):=by
 unfold KV at r⊢;induction r with
 | nil=>exact .nil
 | @cons p q ps qs h t ih=>
  rw [Y1,Y1];refine .cons ?_ ih;obtain ⟨a,b⟩:=h;by_cases e:p.1=k
  ·rw [if_pos e,if_pos (a.symm.trans e)];exact ⟨a,ry⟩
  ·rw [if_neg e,if_neg (λ z=>e (a.trans z))];exact ⟨a,b⟩
theorem KV.put {kvs:List (κ×V)} {vs:List (κ×Value)} (r:KV kvs vs) (k:κ) {y:V} {u:Value} (ry:RelV y u):KV (putK kvs k y) (stored vs k u):=by
 unfold putK stored;rw [r.any k];by_cases e:(vs.any λ a=>decide (a.1=k))=true
 ·rw [if_pos e,if_pos e];exact r.repl k ry
 ·rw [if_neg e,if_neg e];exact Paired.snoc r ⟨rfl,ry⟩
theorem KV.length {kvs:List (κ×V)} {vs:List (κ×Value)} (r:KV kvs vs):kvs.length=vs.length:=W7 r
end
theorem kV_is {P:Program} {w:Z0} {k:Key} {u:Value} (r:RelV (kV k) u):(z0j P w).is k u=true:=by
 cases k with
 | inl i=>obtain ⟨t,e⟩:=(show∃t,u=i9 i t from r);subst e;exact zda P w i t
 | inr x=>obtain ⟨t,e⟩:=(show∃t,u=g9 x t from r);subst e;exact zd4 P w x t
theorem zc4 {P:Program} {w:Z0} :∀{ks:List Key} {us:List Value},Vals (ks.map kV) us->ItemsAre (z0j P w) ks us
 | [],_,r=>by rw [K7] at r;cases r;exact .nil
 | k :: ks,_,r=>by
  rw [Y1] at r;cases r with
  | cons h t=>exact .cons (kV_is h) (zc4 t)
abbrev KT (H:Hp):List (List Key×V)->List (List Key×Addr×Value)->Prop:=v9 λ p q=>p.1=q.1/\H q.2.1=some (.tup (p.1.map kV))/\RelV p.2 q.2.2
theorem KT.val {H:Hp} {kvs:List (List Key×V)} {xs:List (List Key×Addr×Value)} (r:KT H kvs xs) (k:List Key):RelO (valV kvs k) ((j0a xs k).map (·.2)):=by
 induction r with
 | nil=>exact True.intro
 | @cons p q ps qs h t ih=>
  obtain ⟨c,_,d⟩:=h;by_cases e:p.1=k
  ·have a:q.1=k:=c.symm.trans e;have b:j0a (q :: qs) k=some q.2:=by simp [j0a,W4,a]
   rw [z1c e,b];exact d
  ·have a:¬ q.1=k:=λ z=>e (c.trans z);have b:j0a (q :: qs) k=j0a qs k:=by simp [j0a,W4,a]
   rw [z19 e,b];exact ih
theorem KT.repl {H:Hp} {kvs:List (List Key×V)} {xs:List (List Key×Addr×Value)} (r:KT H kvs xs) (k:List Key) {y:V} {u:Value} (ry:RelV y u) :
  KT H (kvs.map λ kv=>if kv.1=k then (kv.1,y) else kv) (xs.map (putAt k u)):=by
 induction r with
 | nil=>exact .nil
 | @cons p q ps qs h t ih=>
  rw [Y1,Y1];refine .cons ?_ ih;obtain ⟨a,b,c⟩:=h;unfold putAt;by_cases e:p.1=k
  ·rw [if_pos e,if_pos (a.symm.trans e)];exact ⟨a,b,ry⟩
  ·rw [if_neg e,if_neg (λ z=>e (a.trans z))];exact ⟨a,b,c⟩
theorem KT.put {H:Hp} {kvs:List (List Key×V)} {xs:List (List Key×Addr×Value)} (r:KT H kvs xs) (k:List Key) {b:Addr} {y:V} {u:Value} (hb:H b=some (.tup (k.map kV))) (ry:RelV y u) :
  KT H (putK kvs k y) (storedH xs k b u):=by
 have e:(kvs.any λ a=>decide (a.1=k))=(j0a xs k).isSome:=by rw [z6e,(r.val k).isSome_eq,Q9]
 unfold putK storedH;rw [e];by_cases q:(j0a xs k).isSome=true
 ·rw [if_pos q,if_pos q];exact r.repl k ry
 ·rw [if_neg q,if_neg q];exact Paired.snoc r ⟨rfl,hb,ry⟩
theorem KT.keeps {H H':Hp} {kvs:List (List Key×V)} {xs:List (List Key×Addr×Value)} (r:KT H kvs xs) (ht :∀b ys,H b=some (.tup ys)->H' b=some (.tup ys)):KT H' kvs xs:=
 Paired.mapP r λ _ _ z=>⟨z.1,ht _ _ z.2.1,z.2.2⟩
section
variable {P:Program} {w:Z0} {H:Hp} {h:Heap} {a:Addr}
theorem rd_of {u:HO} (ok:HOk P w H h) (e:Rd H a u):ObjOk P w H h a u:=e.ok ok
theorem dk_rd {kvs:List (Key×V)} (ok:HOk P w H h) (e:Rd H a (.dK kvs)):kvs.length<=sizeLine/\(a == A5)=false/\∃vs,KV kvs vs/\h.DictOf (z0j P w) a vs:=
 show ObjOk P w H h a (.dK kvs) from rd_of ok e
theorem dk_of {kvs:List (Key×V)} (ok:HOk P w H h) (e:H a=some (.dK kvs)):kvs.length<=sizeLine/\(a == A5)=false/\∃vs,KV kvs vs/\h.DictOf (z0j P w) a vs:=dk_rd ok (.inl e)
theorem key_of {ks:List Key} (ok:HOk P w H h) (e:H a=some (.tup (ks.map kV))):(W6 (z0j P w)).is h ks a:=by
 obtain ⟨_,c,r,⟨o,f,b,n,d⟩,_⟩:=(show ObjOk P w H h a (.tup (ks.map kV)) from ok a _ e)
 exact ⟨o,c.toArray,n,f,b,d,by simpa using zc4 r⟩
theorem dt_rd {kvs:List (List Key×V)} (ok:HOk P w H h) (e:Rd H a (.dT kvs)):kvs.length<=sizeLine/\(a == A5)=false/\
  ∃xs,KT H kvs xs/\h.DictOfH (W6 (z0j P w)) a xs:=by
 obtain ⟨z,y,xs,r,o,d,j,i,f,g,c,k⟩:=(show ObjOk P w H h a (.dT kvs) from rd_of ok e)
 refine ⟨z,y,xs,r,o,d,j,i,f,g,c,λ x b=>?_,k⟩;have all :∀{l:List (List Key×V)} {m:List (List Key×Addr×Value)},KT H l m->∀x∈m,(W6 (z0j P w)).is h x.1 x.2.1:=by
  intro l m q;induction q with
  | nil=>intro x b;exact nomatch b
  | @cons p q ps qs hq t ih=>
   intro x b;rcases List.mem_cons.mp b with e|b
   ·subst e;exact key_of ok (by rw [<-hq.1];exact hq.2.1)
   ·exact ih x b
 exact all r x b
theorem dt_of {kvs:List (List Key×V)} (ok:HOk P w H h) (e:H a=some (.dT kvs)):kvs.length<=sizeLine/\(a == A5)=false/\
  ∃xs,KT H kvs xs/\h.DictOfH (W6 (z0j P w)) a xs:=dt_rd ok (.inl e)
end
def DGet (H:Hp) (a:Addr) (y:V) (r:Option V):Prop:=
 (∃kvs k,Rd H a (.dK kvs)/\y=kV k/\r=valV kvs k)\/∃kvs k b,Rd H a (.dT kvs)/\y=.ref b/\H b=some (.tup (k.map kV))/\r=valV kvs k
def DPut (H:Hp) (a:Addr) (y v:V) (H':Hp):Prop:=
 (∃kvs k,H a=some (.dK kvs)/\y=kV k/\kvs.length < sizeLine/\H'=upd H a (.dK (putK kvs k v)))\/
 ∃kvs k b,H a=some (.dT kvs)/\y=.ref b/\H b=some (.tup (k.map kV))/\kvs.length < sizeLine/\H'=upd H a (.dT (putK kvs k v))
theorem DGet.k {H:Hp} {a:Addr} {kvs:List (Key×V)} {k:Key} (e:H a=some (.dK kvs)):DGet H a (kV k) (valV kvs k):=.inl ⟨kvs,k,.inl e,rfl,rfl⟩
theorem DPut.k {H:Hp} {a:Addr} {kvs:List (Key×V)} {k:Key} {v:V} (e:H a=some (.dK kvs)) (hl:kvs.length < sizeLine):DPut H a (kV k) v (upd H a (.dK (putK kvs k v))):=.inl ⟨kvs,k,e,rfl,hl,rfl⟩
section
variable {X:Cx} {pins:List (Addr×Obj)} {σ:St} {H:Hp} {s:C0} {a:Addr} {y v:V} {u r:Value} {o:Option V} {A:P2} {E:Value->C0->Prop}
theorem Inv.big (I:Inv X pins σ H s):A5 < s.heap.objs.size:=by have h:U2 < s.heap.objs.size:=(I.mod.glob.keeps I.bk).lt;exact Q7 (by decide) h
theorem zgy {Q:Value->C0->Prop} (hu:A.units + 1 < cLine) (I:Inv X pins σ H s) (g:DGet H a y (some v)) (ry:RelV y u) (h :∀w' s',Inv X pins σ H s'->RelV v w'->Q w' s') :
  U0 (G1 X.prog X.w) A (G8 (.ref a) u) Q E s:=by
 rcases g with ⟨x,k,e,d,l⟩|⟨x,k,b,e,d,eb,l⟩
 ·subst d;obtain ⟨z,n,r,f,j⟩:=dk_rd I.hok e;obtain ⟨w',i,c⟩:=RelO.some_of (v:=v) (o:=j0i r k) (by rw [l];exact f.val k);exact wpAny_getItem_of (kV_is ry) j.mapOf i (h w' _ (I.tok _) c)
 ·subst d;cases (show u=F1 b from ry);obtain ⟨z,n,m,f,j⟩:=dt_rd I.hok e;obtain ⟨w',i,c⟩:=RelO.some_of (v:=v) (o:=(j0a m k).map (·.2)) (by rw [l];exact f.val k);obtain ⟨p,t,q⟩:=Option.map_eq_some_iff.mp i;refine wpAny_getItem_heap (o8 hu) (key_of I.hok eb) j t ?_;rw [q];exact h w' _ (I.tok _) c
theorem zk1 {Q:Value->C0->Prop} (hu:A.units + 1 < cLine) (I:Inv X pins σ H s) (g:DGet H a y o) (ry:RelV y u) (h :∀s',Inv X pins σ H s'->Q (.bool (!o.isSome)) s') :
  U0 (G1 X.prog X.w) A (X2 .NotIn u (.ref a)) Q E s:=by
 rcases g with ⟨j,k,e,c,l⟩|⟨j,k,b,e,c,eb,l⟩
 ·subst c;obtain ⟨z,i,n,d,f⟩:=dk_rd I.hok e;refine wpAny_notIn_of (kV_is ry) i f.mapOf ?_;rw [<-(d.val k).isSome_eq,<-l];exact h _ (I.tok _)
 ·subst c;cases (show u=F1 b from ry);obtain ⟨z,i,m,d,f⟩:=dt_rd I.hok e;refine wpAny_notIn_heap (o8 hu) (key_of I.hok eb) i f ?_;have q:=(d.val k).isSome_eq;rw [Q9] at q;rw [<-q,<-l];exact h _ (I.tok _)
theorem zdr {h':Heap} {t':Nat} {ob:HO} (I:Inv X pins σ H s) (mu:Mut (H a)) (hs:S6 a s.heap h') (he :∃q,h'.get? a=some q) (new:ObjOk X.prog X.w (upd H a ob) h' a ob) :
  Inv X pins σ (upd H a ob) { s with heap:=h',toks:=t' }:=
 I.write (x:=a) (e:=a) mu (.inl rfl) (λ b q c z=>(hs.2 b c).trans z) he new
theorem dk_new {P:Program} {w:Z0} {H':Hp} {h':Heap} {kvs:List (Key×V)} {vs:List (Key×Value)} (z:kvs.length<=sizeLine) (hd:(a == A5)=false) (rel:KV kvs vs) (dd:h'.DictOf (z0j P w) a vs) :
  ObjOk P w H' h' a (.dK kvs):=⟨z,hd,vs,rel,dd⟩
theorem zh4 {H':Hp} {Q:Unit->C0->Prop} (hu:A.units + 1 < cLine) (I:Inv X pins σ H s) (g:DPut H a y v H') (ry:RelV y u) (rv:RelV v r) (h :∀s',Inv X pins σ H' s'->Q () s') :
  U0 (G1 X.prog X.w) A (setItem (.ref a) u r) Q E s:=by
 rcases g with ⟨d,k,e,m,l,x⟩|⟨d,k,b,e,m,eb,l,x⟩
 ·subst m x;obtain ⟨z,p,P,f,n⟩:=dk_of I.hok e;have t:P.length<=sizeLine:=by rw [<-f.length];exact z
  have o:(putK d k v).length<=sizeLine:=by have:=z25 d k v;omega
  refine wpAny_setItem_pairs (hsz:=t) (kV_is ry) n λ D i B=>h _ ?_;have J :∃q,D.get? a=some q:=let ⟨q,_,_,j,_⟩:=i;⟨q,j⟩;exact zdr I (by rw [e];exact True.intro) B J (dk_new o p (f.put k rv) i)
 ·subst m x;cases (show u=F1 b from ry);obtain ⟨z,p,N,f,n⟩:=dt_of I.hok e;have t:N.length<=sizeLine:=by rw [<-W7 f];exact z
  have o:(putK d k v).length<=sizeLine:=by have:=z25 d k v;omega
  refine wpAny_setItem_heap (hsz:=t) (o8 hu) (key_of I.hok eb) n λ D i B=>h _ ?_;obtain ⟨q,F,L,j,O,G,M,_,K⟩:=i;refine zdr I (by rw [e];exact True.intro) B ⟨q,j⟩ ⟨o,p,_,(f.put k eb rv).keeps λ c R C=>?_,q,F,L,j,O,G,M,K⟩;rw [upd_ne (ne_of C e (λ z=>nomatch z))];exact C
end
def NoSl (i:Expr):Prop:=∀ov iv,j27 i false ov iv=operate [ov,iv] (G8 ov iv)
theorem zkq {prog:Program} {w:Z0} {A:P2} {E:Value->C0->Prop} {s:C0} {env:Env} {value slice:Expr} {pos:Pos} {T id:String} {Q:Value->C0->Prop}
  (hl:j37 (.type T) "__getitem__" = b4 (some (.builtin id))) (hs:NoSl slice)
  (h:U0 (G1 prog w) A (V3 value env) (λ o s₁=>U0 (G1 prog w) A (V3 slice env) (λ i s₂=>s₂.TypeIs o T/\U0 (G1 prog w) A (G8 o i) Q E s₂) E s₁) E s) :
  U0 (G1 prog w) A (V3 (.Subscript value slice pos) env) Q E s:=by
 refine Subscript_ (A4 h (λ o s₁ d=>A4 d (λ i s₂ a=>?_) λ _ _ x=>x) λ _ _ x=>x);obtain ⟨c,a⟩:=a;unfold subscriptTail;refine v0 ?_;rw [getitemInPython_of_ne c.not_modules];refine v0 (wpAny_specialOf c hl ?_);have fin:U0 (G1 prog w) A (j27 slice false o i) (λ r b=>U0 (G1 prog w) A (letTemporaryGo value o r >>= λ _=>b4 r) Q E b) E s₂:=by rw [hs o i];exact wpAny_operating (A4 a (λ r b e=>v0 (wpAny_letTemporaryGo (F0 e))) λ _ _ x=>x)
 first
  | exact F0 (v0 fin)
  | exact v0 (F0 (v0 fin))
  | exact v0 fin
theorem zdk {X:Cx} {pins:List (Addr×Obj)} {σ:St} {H:Hp} {s:C0} {a:Addr} {y:V} {o:Option V} (I:Inv X pins σ H s) (g:DGet H a y o):s.TypeIs (.ref a) "dict":=by
 rcases g with ⟨d,k,e,_,_⟩|⟨d,k,b,e,_,_,_⟩
 ·obtain ⟨_,_,h,_,c⟩:=dk_rd I.hok e;exact c.typeIs
 ·obtain ⟨_,_,f,_,c⟩:=dt_rd I.hok e;exact c.typeIs
noncomputable def tDGet (td ty:TE):TE:=λ σ H Q=>td σ H λ x H1=>ty σ H1 λ y H2=>∃a v,x=.ref a/\DGet H2 a y (some v)/\Q v H2
noncomputable def zl3 (ty td:TE):TE:=λ σ H Q=>ty σ H λ y H1=>td σ H1 λ x H2=>∃a o,x=.ref a/\DGet H2 a y o/\Q (.bl (!o.isSome)) H2
noncomputable def sDPut (td ty tv:TE):TS:=λ D σ H=>tv σ H λ v H1=>td σ H1 λ x H2=>ty σ H2 λ y H3=>∃a H4,x=.ref a/\DPut H3 a y v H4/\D.nx σ H4
section
variable {X:Cx} {o i e value:Expr} {pos pos' tpos:Pos} {td ty tv:TE}
theorem z0e (hu:X.A.units + 1 < cLine) (ho:PE X o td) (hi:PE X i ty) (hs:NoSl i):PE X (.Subscript o i pos) (tDGet td ty):=by intro b s σ H Q I h;refine zkq PySem.F.slot_dict_getitem.lookup hs (thn (ho b s σ H _ I h) λ u d ⟨x,H1,I1,rx,q1⟩=>thn (hi b d σ H1 _ I1 q1) λ f j ⟨y,H2,I2,ry,a,v,ex,g,q2⟩=>?_);subst ex;obtain rfl:u=F1 a:=rx;exact ⟨zdk I2 g,zgy hu I2 g ry λ l k e c=>⟨v,H2,e,c,q2⟩⟩
theorem zh2 (hu:X.A.units + 1 < cLine) (hi:PE X i ty) (ho:PE X o td):PC X .NotIn i o (zl3 ty td):=by intro b s σ H Q I h;refine thn (hi b s σ H _ I h) λ e c ⟨y,H1,I1,ry,q1⟩=>thn (ho b c σ H1 _ I1 q1) λ u f ⟨x,H2,I2,rx,a,ov,ex,g,q2⟩=>?_;subst ex;obtain rfl:u=F1 a:=rx;exact zk1 hu I2 g ry λ j d=>⟨.bl (!ov.isSome),H2,d,rfl,q2⟩
theorem z4a (hu:X.A.units + 1 < cLine) (ho:PE X o td) (hi:PE X i ty) (hv:PE X value tv) (hs:Z8 value (some (.Subscript o i pos')) pos.line X.env=b4 false) :
  PS X (.Assign [.Subscript o i pos'] value pos) (sDPut td ty tv):=by
 intro b s σ H D I h;refine wpAny_Assign_Subscript (thn (hv b s σ H _ I h) λ r c ⟨v,H1,I1,rv,q1⟩=>thn (ho b c σ H1 _ I1 q1) λ u d ⟨x,H2,I2,rx,q2⟩=>thn (hi b d σ H2 _ I2 q2) λ f k ⟨y,H3,I3,ry,a,H4,ex,g,q3⟩=>?_) hs;subst ex;obtain rfl:u=F1 a:=rx;exact zh4 hu I3 g ry rv λ j e=>⟨σ,H4,e,q3⟩
end
theorem zfg {P:Program} {w:Z0} {H:Hp} (h:Heap) (hb:A5 < h.objs.size):ObjOk P w H (h.push { cls:=.type "dict",data:=.dict #[] }) h.objs.size (.dK []):=
 ⟨J2 _,beq_eq_false_iff_ne.mpr (C2 (A1 hb)),[],.nil,j34 h⟩
noncomputable def tDNewK:TE:=λ _ H Q=>∀p,H p=none->Q (.ref p) (upd H p (.dK []))
section
variable {X:Cx} {pos:Pos}
theorem zjl:PE X (.Dict [] [] pos) tDNewK:=λ b s σ H Q I h=>wpAny_Dict_empty ⟨.ref s.heap.objs.size,_,I.laid (a:=s.heap.objs.size) (o:=.dK []) (t':=s.toks) (λ _ _ q=>J0 _ q) (K0 _) (zfg s.heap I.big),rfl,h _ (I.hok.fresh (K0 _))⟩
end
noncomputable def tPairs:List (TE×TE)->St->Hp->(List (V×V)->Hp->Prop)->Prop
 | [],_,H,Q=>Q [] H
 | (tk,tv) :: r,σ,H,Q=>tk σ H λ x H1=>tv σ H1 λ y H2=>tPairs r σ H2 λ ps H3=>Q ((x,y) :: ps) H3
abbrev VV:List (V×V)->List (Value×Value)->Prop:=v9 λ p q=>RelV p.1 q.1/\RelV p.2 q.2
def PPs (X:Cx) (pos:Pos) (keys:List (Option Expr)) (values:List Expr) (trs:List (TE×TE)):Prop:=
 ∀(pins:List (Addr×Obj)) (s:C0) (σ:St) (H:Hp) (Q:List (V×V)->Hp->Prop),Inv X pins σ H s->tPairs trs σ H Q->
  U0 (G1 X.prog X.w) X.A (evalPairs (pairTrees keys values X.env pos)) (λ vs s'=>∃ps H',Inv X pins σ H' s'/\VV ps vs/\Q ps H') X.xe s
theorem zia {X:Cx} {pos:Pos}:PPs X pos [] [] []:=λ a s σ H Q I h=>pairTrees_nil_walk ⟨[],H,I,.nil,h⟩
theorem z4l {X:Cx} {pos:Pos} {k v:Expr} {ks:List (Option Expr)} {vs:List Expr} {tk tv:TE} {trs:List (TE×TE)} (hk:PE X k tk) (hv:PE X v tv) (hr:PPs X pos ks vs trs) :
  PPs X pos (some k :: ks) (v :: vs) ((tk,tv) :: trs):=λ a s σ H Q I h=>
 pairTrees_cons_walk (thn (hk a s σ H _ I h) λ u b ⟨x,H1,I1,rx,q1⟩=>thn (hv a b σ H1 _ I1 q1) λ e c ⟨y,H2,I2,ry,q2⟩=>thn (hr a c σ H2 _ I2 q2) λ d f ⟨ps,H3,I3,rel,q3⟩=>⟨(x,y) :: ps,H3,I3,.cons ⟨rx,ry⟩ rel,q3⟩)
noncomputable def mergeK (kvs more:List (Key×V)):List (Key×V):=more.foldl (λ acc kv=>putK acc kv.1 kv.2) kvs
theorem KV.merge :∀{more:List (Key×V)} {rs:List (Key×Value)} {kvs:List (Key×V)} {vs:List (Key×Value)},KV more rs->KV kvs vs->KV (mergeK kvs more) (merged vs rs):=by
 intro more rs kvs vs r;unfold KV at r;induction r generalizing kvs vs with
 | nil=>intro q;exact q
 | @cons p q ps qs h t ih=>
  intro a;have e:KV (putK kvs p.1 p.2) (stored vs q.1 q.2):=by have:=a.put p.1 h.2;rw [<-h.1];exact this
  exact ih e
theorem z5e :∀(more kvs:List (Key×V)),(mergeK kvs more).length<=kvs.length + more.length
 | [],kvs=>by show kvs.length<=kvs.length + 0;omega
 | p :: r,kvs=>by have a:=z5e r (putK kvs p.1 p.2);have b:=z25 kvs p.1 p.2;show (mergeK (putK kvs p.1 p.2) r).length<=_;rw [Y0];omega
theorem za2 {P:Program} {w:Z0} :∀{kvs:List (Key×V)} {ws:List (Value×Value)},VV (kvs.map λ kv=>(kV kv.1,kv.2)) ws->∃rs,Carries (z0j P w) ws rs/\KV kvs rs
 | [],_,r=>by rw [K7] at r;cases r;exact ⟨[],True.intro,.nil⟩
 | p :: kvs,_,r=>by
  rw [Y1] at r;cases r with
  | @cons a b as bs h t=>obtain ⟨rs,c,q⟩:=za2 (P:=P) (w:=w) t;obtain ⟨e,d⟩:=b;exact ⟨(p.1,d) :: rs,⟨kV_is h.1,rfl,c⟩,.cons ⟨rfl,h.2⟩ q⟩
noncomputable def tDisp (trs:List (TE×TE)):TE:=λ σ H Q=>∀p,H p=none->tPairs trs σ (upd H p (.dK [])) λ ps H2=>H2 p=some (.dK [])/\∃kvs:List (Key×V),ps=kvs.map (λ kv=>(kV kv.1,kv.2))/\kvs.length<=15/\Q (.ref p) (upd H2 p (.dK (mergeK [] kvs)))
theorem zi6 {X:Cx} {pos:Pos} {keys:List (Option Expr)} {values:List Expr} {trs:List (TE×TE)} (h:PPs X pos keys values trs) (hall:keys.all (·.isSome)=true) (hl:keys.length=values.length) (h0:keys≠[])
  (h15:keys.length<=15):PE X (.Dict keys values pos) (tDisp trs):=by
 intro i s σ H Q I q;have l:=I.hok.fresh (K0 s.heap.objs.size);have d:=I.laid (a:=s.heap.objs.size) (o:=.dK []) (h':=s.heap.push { cls:=.type "dict",data:=.dict #[] }) (t':=s.toks) (λ _ _ q=>J0 _ q) (K0 _) (zfg s.heap I.big);refine wpAny_Dict_walk (knd:=z0j X.prog X.w) hall hl h0 h15 (thn (h i _ σ _ _ d (q _ l)) λ x u ⟨ps,H2,I2,rel,e,kvs,ep,lk,q2⟩=>?_);subst ep;obtain ⟨k,c,j⟩:=za2 (P:=X.prog) (w:=X.w) rel;obtain ⟨z,m,v,n,f⟩:=dk_of I2.hok e;cases n;refine ⟨k,c,f,λ h' b t=>⟨.ref s.heap.objs.size,_,?_,rfl,q2⟩⟩;have p:(mergeK [] kvs).length<=sizeLine:=by have r:=z5e kvs [];rw [T3] at r;rw [sizeLine_eq];omega
 have g :∃q,h'.get? s.heap.objs.size=some q:=let ⟨q,_,_,hq,_⟩:=b;⟨q,hq⟩;exact zdr I2 (by rw [e];exact True.intro) t g (dk_new p m (j.merge .nil) b)
structure M1 (X:Cx) (o:Expr) (m:Str) (apos:Pos) (e:Expr) (cpos:Pos):Prop where
 base:B5 o m X.env (V3 o X.env)=V3 o X.env
 few:((P4 cpos (K1 [e] X.env)).all (λ x=>!x.1) && (a9 cpos (X6 [] X.env)).all (λ x=>x.1.isSome)
  && decide (([e]:List Expr).length + ([]:List Q6).length + (if ([]:List Q6).isEmpty then 0 else 1) < 30))=true
 line:(apos.endLine == cpos.line)=true
 trees:P4 cpos (K1 [e] X.env)=[(false,V3 e X.env)]
structure M2 (X:Cx) (o:Expr) (m:Str) (apos:Pos) (e f:Expr) (cpos:Pos):Prop where
 base:B5 o m X.env (V3 o X.env)=V3 o X.env
 few:((P4 cpos (K1 [e,f] X.env)).all (λ x=>!x.1) && (a9 cpos (X6 [] X.env)).all (λ x=>x.1.isSome)
  && decide (([e,f]:List Expr).length + ([]:List Q6).length + (if ([]:List Q6).isEmpty then 0 else 1) < 30))=true
 line:(apos.endLine == cpos.line)=true
 trees:P4 cpos (K1 [e,f] X.env)=[(false,V3 e X.env),(false,V3 f X.env)]
def IsD (H:Hp) (a:Addr):Prop:=(∃kvs,Rd H a (.dK kvs))\/∃kvs,Rd H a (.dT kvs)
theorem isD_at {X:Cx} {pins:List (Addr×Obj)} {σ:St} {H:Hp} {s:C0} {a:Addr} (I:Inv X pins σ H s) (d:IsD H a) :
  s.TypeIs (.ref a) "dict"/\(∀b,F1 a=.ref b->∃ob,s.heap.get? b=some ob/\ob.dict=none)/\(a == A5)=false:=by
 rcases d with ⟨i,e⟩|⟨i,e⟩
 ·obtain ⟨_,h,k,_,c⟩:=dk_rd I.hok e;refine ⟨c.typeIs,λ b q=>?_,h⟩;cases q;obtain ⟨ob,_,_,g,f,_⟩:=c;exact ⟨ob,g,f.2.1⟩
 ·obtain ⟨_,h,j,_,c⟩:=dt_rd I.hok e;refine ⟨c.typeIs,λ b q=>?_,h⟩;cases q;obtain ⟨ob,_,_,g,f,_⟩:=c;exact ⟨ob,g,f.2.1⟩
section
variable {X:Cx} {pins:List (Addr×Obj)} {σ:St} {H:Hp} {s:C0} {a:Addr} {y d:V} {u r:Value} {o:Option V} {A:P2} {E:Value->C0->Prop}
theorem d_get2 {Q:Value->C0->Prop} (hu:A.units + 1 < cLine) (I:Inv X pins σ H s) (g:DGet H a y o) (ry:RelV y u) (rd:RelV d r) (h :∀w' s',Inv X pins σ H s'->RelV (o.getD d) w'->Q w' s') :
  U0 (G1 X.prog X.w) A (call (.builtin "dict.get") [.ref a,u,r]) Q E s:=by
 rcases g with ⟨n,k,e,f,l⟩|⟨n,k,b,e,f,eb,l⟩
 ·subst f;obtain ⟨z,j,p,i,c⟩:=dk_rd I.hok e;refine call_meetsIn C8 c.typeIs j20 (j1a _ _ _) (meets_dict_get_default (z0j X.prog X.w) a (kV_is ry) j r) ⟨_,c.mapOf,h _ _ (I.tok _) ?_⟩;rw [l];exact (i.val k).getD rd
 ·subst f;cases (show u=F1 b from ry);obtain ⟨z,j,m,i,c⟩:=dt_rd I.hok e;refine call_meetsIn C8 c.typeIs j20 (j1a _ _ _) (meetsH_dict_get_default (W6 (z0j X.prog X.w)) a b j r) ⟨o8 hu,k,m,key_of I.hok eb,c,h _ _ (I.tok _) ?_⟩;rw [l];exact (i.val k).getD rd
end
noncomputable def tDGet2 (td ty tx:TE):TE:=λ σ H Q=>td σ H λ x H1=>∃a,x=.ref a/\IsD H1 a/\ty σ H1 λ y H2=>tx σ H2 λ z H3=>∃o,DGet H3 a y o/\Q (o.getD z) H3
section
variable {X:Cx} {o e f:Expr} {apos cpos:Pos} {td ty tx:TE}
theorem zim (hu:X.A.units + 1 < cLine) (ho:PE X o td) (he:PE X e ty) (hf:PE X f tx) (m:M2 X o "get" apos e f cpos):PE X (.Call (.Attribute o "get" apos) [e,f] [] cpos) (tDGet2 td ty tx):=by
 intro b s σ H Q I h;refine wpAny_Call_method m.base m.few m.line PySem.F.plainAttrs_dict C8 PySem.F.type_dict_get (thn (ho b s σ H _ I h) λ u l ⟨x,H1,I1,rx,a,ex,d,q1⟩=>?_);subst ex;obtain rfl:u=F1 a:=rx;obtain ⟨n,k,_⟩:=isD_at I1 d;refine ⟨n,k,?_⟩;rw [m.trees];refine j2i rfl (d9 (R4 (thn (he b l σ H1 _ I1 q1) λ t c ⟨y,H2,I2,ry,q2⟩=>R4 (thn (hf b c σ H2 _ I2 q2) λ q p ⟨z,H3,I3,rz,ov,g,q3⟩=>R5 ?_))));exact d_get2 hu I3 g ry rz λ r v j i=>⟨_,H3,j,i,q3⟩
end
end L2
namespace Att
open PySem PySem.W PySem.Calls PyProof.Rows
theorem z6z {P:Q0} {h:Heap} :∀(ns:List Int) (vs:List Value),WellAll P h vs (ns.map WData.int)->Y4 vs ns:=by
 intro ns;induction ns with
 | nil=>intro vs w;rw [K7] at w;cases w;exact .nil
 | cons n ns ih=>
  intro vs w;rw [Y1] at w;cases w with
  | cons a b=>cases a;exact .cons _ _ (ih _ b)
theorem zg4 {l:OpenLaw} {n:Nat} (hn:l.most=some n) {P:Q0} {h:Heap} {args:List WData} {vals:List Value}
  (hpre:l.row.toRowW.claim.pre args=true) (hwl:WellAll P h vals args) :
  ∃a vs ns,vals=[F1 a]/\args=[WData.list (ns.map WData.int)]/\h.get? a=some { cls:=.type "list",data:=.seq vs.toArray }/\Y4 vs ns/\ns.length<=n:=by
 have m:WShape.hasAll [] args [.list .int]=true:=(pre_splitW hpre).1;have e:l.pre.holds [] { args:=args }=true:=(pre_splitW hpre).2;obtain ⟨d,r,rfl,k,i⟩:=hasAllW_cons m;obtain rfl:=hasAllW_nil i;obtain ⟨o,rfl,j⟩:=hasW_list k;obtain ⟨ns,rfl⟩:=items_int j;have g:ns.length<=n:=by
  unfold OpenLaw.pre at e;have b:(WTm.not (.lt (.lit (.int (n:Int))) (.len (.arg 0)))).holds [] { args:=[.list (ns.map .int)] }=true:=by have b:=(holds_andW e).1;rw [hn] at b;exact b
  have c:=condW_of b (w_not (w_lt w_lit (w_len_list (w_arg rfl))));rw [I0] at c;refine j0f λ q=>?_;have f:(n:Int) < ((ns.length:Nat):Int):=by omega
  first
   | (rw [decide_eq_true f] at c;exact absurd c (by decide))
   | (simp at c;omega)
 cases hwl with
 | cons w1 w2=>
  cases w2;cases w1 with
  | list ho hall=>exact ⟨_,_,ns,rfl,rfl,ho,z6z ns _ hall,g⟩
theorem zho (l:OpenLaw) (args:List WData):l.row.toRowW.claim.post args (.bool true) args=true:=
 postW_of (r:=l.row.toRowW) (X:=(true == true))
  (show WShape.has [] (.bool true) .bool=true by first|rfl|decide|simp [WShape.has,WShape.arms,WShape.armsAll])
  (show (WTm.eq .res (.lit (.bool true))).value [] { args:=args,res:=some (.bool true),after:=args }=some (.bool (true == true)) from w_eq_bool (w_res rfl) w_lit) rfl
theorem attach_call {l:OpenLaw} {n:Nat} {q:Program} {loose:List Str} {XP:(Str->Option Value)->Heap->Prop} {YP:Z0->Heap->Prop} {d:DefRec}
  (hn:l.most=some n) (hdf:d.params.defaults=[])
  (call :∀(w:Z0) (s₀ s₁:C0) (mg mb:Str->Option Value) (fa:Addr) (o:Obj) (pm cd doc:Value) (a:Addr) (vs:List Value) (ns:List Int),
   Ground q loose [] XP w s₀ mg mb s₁.heap->YP w s₁.heap->
   s₁.heap.get? fa=some o->o.data=.func (docDef d.name d.params d.body d.scope pm cd doc)->s₁.heap.CodeRec cd d.name->mg d.name=some (.ref fa)->
   s₁.heap.get? a=some { cls:=.type "list",data:=.seq vs.toArray }->Y4 vs ns->ns.length<=n->s₁.gens = #[]->
   D5 (G1 l.prog w) j10 (.call (.ref fa) ⟨[.ref a],[]⟩) (λ r s'=>r=.ok (.ret (.bool true))/\OldK s₁.heap s'.heap/\s'.os=s₁.os/\L8 s'.gens) s₁) :
  WalkO q loose XP YP l.row.toRowW d [] (λ f vs=>PySem.call f vs):=by
 intro w s₀ s₁ mg mb G Y fa o pm cd doc k kV x v z b e c C D E j B A m F;obtain rfl:k=.none:=Dflts.none b hdf;obtain rfl:kV=.none:=Dflts.noKw b;obtain ⟨a,vs,ns,rfl,rfl,g,u,t⟩:=zg4 hn j m;refine enter_call (K6 (call w s₀ s₁ mg mb fa o pm cd doc a vs ns G Y x (fd_plain v) z e g u t c) λ r s' h=>?_);obtain ⟨rfl,y,i,p⟩:=h;exact ⟨.inl ⟨.bool true,.bool true,[],rfl,λ _=>rfl,.bool true,zho l _,λ _=>⟨z7,λ _ s=>(nomatch s)⟩⟩,y,i,p⟩
end Att
namespace L2
open PySem PySem.Spec PyProof.Rows
theorem zcg :∀{vs:List Value} {ns:List Int},Y4 vs ns->Vals (ns.map V.int) vs
 | _,_,.nil=>.nil
 | _,_,.cons n t h=>.cons ⟨t,rfl⟩ (zcg h)
def Only (H:Hp):Prop:=∀b,H b=none\/∃o xs,H b=some (.frz o (.lst xs))
theorem zif {P:Program} {w:Z0} {K:o0} {mg mb:Str->Option Value} {CX:CXT} {k:Nat} {fa a:Addr} {fd:FuncData} {x:Str} {sp:Sp} {s₁:C0} {vs:List Value} {ns:List Int}
  (KX:K.In s₁.heap) (hns:s₁.heap.Ns U2 mg) (hb:s₁.heap.Ns builtinsNs mb) (hbb :∀x:Str,x≠"__name__"->mb x=v5 x) (hlim:s₁.heap.NoLimit) (hg:s₁.gens = #[])
  (ha:s₁.heap.get? a=some { cls:=.type "list",data:=.seq vs.toArray }) (hi:Y4 vs ns) (hl:ns.length<=sizeLine) (hr:Room k j10)
  (F :∀base:Heap,K.In base->base.Ns U2 mg->FnOk P w K mg base CX k fa fd [x] sp) (hbind :∀(s:C0) (u:Value),BindsTo s fd ⟨[u],[]⟩ [(x,u)])
  (hsp :∀H:Hp,Only H->SqL K H a (ns.map V.int)->sp [.ref a] H (λ v _=>v=.bl true) λ _ _ _=>False)
  (hCX :∀H e s',CX [] H s₁ (λ _ _ _=>False) e s'->False) :
  D5 (G1 P w) j10 (.call (.ref fa) ⟨[.ref a],[]⟩) (λ r s'=>r=.ok (.ret (.bool true))/\OldK s₁.heap s'.heap/\s'.os=s₁.os/\L8 s'.gens) s₁:=by
 have B:=zcg hi;have E:=hi.length
 -- from an abstract heap in which nothing but the script may be tracked
 have j :∀H:Hp,Only H->SqL K H a (ns.map V.int)->HOk P w H s₁.heap->(∀b,H b≠none->b=a)->(H a≠none->K.lookup a=none)->
   D5 (G1 P w) j10 (.call (.ref fa) ⟨[.ref a],[]⟩) (λ r s'=>r=.ok (.ret (.bool true))/\OldK s₁.heap s'.heap/\s'.os=s₁.os/\L8 s'.gens) s₁:=by
  intro H t D p y C;have l :∀{b:Addr} {o:Obj},s₁.heap.get? b=some o->H b=none->(hidT s₁.heap H).get? b=some o:=λ e n=>zjp e n;have R :∀{b:Addr} {o:Obj} {es:Array DictEntry} {ep:Nat},s₁.heap.get? b=some o->o.data=.dict es ep->H b=none:=λ {b o es ep} e d=>by
   cases q:H b with
   | none=>rfl
   | some u=>have g:b=a:=y b (by rw [q];simp);subst g;rw [ha] at e;cases e;have L:Data.seq vs.toArray _=Data.dict es ep:=d;cases L
  have f :∀{b:Addr} {m:Str->Option Value},s₁.heap.Ns b m->(hidT s₁.heap H).Ns b m:=λ {b m} ⟨o,es,ep,e,d,r⟩=>⟨o,es,ep,l e (R e d),d,r⟩
  have i:K.In (hidT s₁.heap H):=λ b o e=>l (KX b o e) (by
   cases q:H b with
   | none=>rfl
   | some u=>have g:b=a:=y b (by rw [q];simp);subst g;rw [C (by rw [q];simp)] at e;cases e)
  have Q:Mod K mg (hidT s₁.heap H):=⟨i,f hns,⟨mb,f hb,hbb⟩,let ⟨mc,h1,h2⟩:=hlim;⟨mc,f h1,h2⟩⟩
  have O:Env0 P w K mg (hidT s₁.heap H) j10 [] s₁ H:=⟨rfl,Q,λ b o e=>zki e,Nat.le_of_eq (zhk _ _),trivial,λ b hb=>absurd (show b∈([]:List Addr) from hb) (by simp),p,.of_eq hg⟩
  refine K6 ((F _ i (f hns)).run j10 [] s₁ H ⟨[.ref a],[]⟩ [.ref a] [.ref a] _ _ hr O (hbind s₁ (.ref a)) (.cons rfl .nil) (hsp H t D)) λ r s' h=>?_;cases r with
  | error e=>exact (hCX H e s' h).elim
  | ok fl=>
   cases fl with
   | next=>exact J4 h
   | brk=>exact J4 h
   | cont=>exact J4 h
   | ret u=>
    obtain ⟨v,T,os,I,un,N,S,q⟩:=h;have M:v=.bl true:=q;subst M;obtain rfl:u=E9 true:=S;refine ⟨rfl,OldK.of_keep λ b o e=>?_,os,I⟩;cases q:H b with
    | none=>exact un.keep b o e q (by intro z;exact absurd (show b∈([]:List Addr) from z) (by simp)) (by simp)
    | some u=>
     rcases t b with z|⟨ob,xs,z⟩
     ·rw [q] at z;cases z
     ·have J:=un.frzs b ob _ z;obtain ⟨A,_⟩:=p b _ z;obtain ⟨G,_⟩:=N b _ J;rw [e] at A;cases A;exact G
 cases hk:K.lookup a with
 | some o=>
  -- the script is one of the module's own objects
  have e:=KX a o hk;rw [ha] at e;cases e;refine j (λ _=>none) (λ _=>.inl rfl) (.inr ⟨_,vs.toArray,_,hk,rfl,rfl,rfl,by rw [V0,E];exact hl,by simpa using B⟩) (λ b u z=>by have c:(none:Option HO)=some u:=z;cases c) (λ b z=>absurd rfl z) λ z=>absurd rfl z
 | none=>
  refine j (λ b=>if b=a then some (.frz { cls:=.type "list",data:=.seq vs.toArray } (.lst (ns.map V.int))) else none) (λ b=>?_) (.inl (.inr ⟨{ cls:=.type "list",data:=.seq vs.toArray },if_pos rfl⟩)) (λ b u z=>?_) (λ b z=>?_) λ _=>hk
  ·by_cases hb:b=a
   ·exact .inr ⟨_,_,if_pos hb⟩
   ·exact .inl (if_neg hb)
  ·by_cases hb:b=a
   ·have c:=(if_pos hb).symm.trans z;cases c;subst hb;exact ⟨ha,by rw [I0];exact hl,vs,_,B,ha⟩
   ·have c:=(if_neg hb).symm.trans z;cases c
  ·by_cases hb:b=a
   ·exact hb
   ·exact absurd (if_neg hb) z
theorem walk_of {l:PySem.W.OpenLaw} {n k:Nat} {q:Program} {loose:List Str} {XP:(Str->Option Value)->Heap->Prop} {YP:Z0->Heap->Prop} {d:DefRec} {K:Q0->o0} {CX:Z0->CXT} {sp:Z0->Sp} {x:Str}
  (hn:l.most=some n) (hn2:n<=sizeLine) (hdf:d.params.defaults=[]) (hr:Room k j10)
  (hY :∀(w:Z0) (h:Heap),YP w h->(K w.params).In h)
  (F :∀(w:Z0) (mg:Str->Option Value) (fa:Addr) (h:Heap),(K w.params).In h->h.Ns U2 mg->mg d.name=some (.ref fa)->
   ∃fd:FuncData,(∀(s:C0) (u:Value),BindsTo s fd ⟨[u],[]⟩ [(x,u)])/\
    ∀base:Heap,(K w.params).In base->base.Ns U2 mg->FnOk l.prog w (K w.params) mg base (CX w) k fa fd [x] (sp w))
  (hsp :∀(w:Z0) (H:Hp) (a:Addr) (ns:List Int),ns.length<=n->Only H->SqL (K w.params) H a (ns.map V.int)->sp w [.ref a] H (λ v _=>v=.bl true) λ _ _ _=>False)
  (hCX :∀(w:Z0) (H:Hp) (s:C0) (e:Value) (s':C0),CX w [] H s (λ _ _ _=>False) e s'->False) :
  PySem.W.WalkO q loose XP YP l.row.toRowW d [] (λ f vs=>PySem.call f vs):=by
 refine Att.attach_call hn hdf λ w L m mg E fa o C D B a vs ns G Y J I M p t z c i=>?_;have KX:=hY w _ Y;obtain ⟨fd,y,j⟩:=F w mg fa _ KX G.T.g p;exact zif KX G.T.g G.T.b G.T.builtins G.T.nolimit i t z (N0 c hn2) hr j y (λ H A r=>hsp w H a ns c A r) λ H e s'=>hCX w H m e s'
noncomputable def z9y (s:Stmt):Arguments:=match s with
 | .FunctionDef _ a _ _ _ _ _ _ _ _=>a
 | _=>{ posonlyargs:=[],args:=[],vararg:=none,kwonlyargs:=[],kw_defaults:=[],kwarg:=none,defaults:=[] }
noncomputable def z6l (s:Stmt):List Stmt:=match s with
 | .FunctionDef _ _ b _ _ _ _ _ _ _=>b
 | _=>[]
noncomputable def z07 (s:Stmt):Scope:=match s with
 | .FunctionDef _ _ _ _ _ _ sc _ _ _=>sc
 | _=>{ kind:=.function,names:=[],isGenerator:=false,isCoroutine:=false }
noncomputable abbrev CX0:CXT:=λ _ _ _ _ _ _=>False
noncomputable abbrev E0:XK:=λ _ _ _=>False
theorem pass0 {X:Cx}:Passes CX0 X E0:=λ _ _ _ _ _ _ _ h=>h.elim
structure Fun (K:o0) (x qual:Str) (st:Stmt) (f:Addr) (fd:FuncData):Prop where
 ex :∃(oc:Value) (od:Option Addr) (kV doc pm:Value) (an:Option Addr) (cdv ct:Value) (osl:Array (Option Value)),
  fd=O6 x qual (z9y st) (z6l st) (z07 st) .none kV doc pm an cdv ct/\K.lookup f=some ⟨oc,od,.func fd,osl⟩/\P8 K cdv qual=true
 kp:a5 K (.ref f)=true
section
variable {P:Program} {w:Z0} {K:o0} {mg:Str->Option Value} {base:Heap}
theorem Fun.ok {x qual:Str} {st:Stmt} {f:Addr} {fd:FuncData} {N ps:List Str} {k:Nat} {sp:Sp} (F:Fun K x qual st f fd) (S:FnScope N ps (z07 st)) (len :∀vs H Q E,sp vs H Q E->vs.length=ps.length)
  (hbody :∀(cdv:Value) (A:P2) (outer:List Env) (s:C0) (H:Hp) (vs:List V) (Q:VK) (E:XK),Room k (A.deeper (L4 qual (z07 st) s.heap.objs.size f cdv))->sp vs H Q E->
   ∃t,PSs (cxOf CX0 P w K mg base N qual (z07 st) f cdv A outer s H E).nox (z6l st) t/\t { nx:=λ _ H'=>Q .non H',rt:=Q } (start N vs) H):FnOk P w K mg base CX0 (k + 1) f fd ps sp:=by
 obtain ⟨l,g,kV,m,i,j,cdv,n,e,rfl,a,d⟩:=F.ex;refine fn_of a d S len λ A outer s H vs Q E b c=>?_;obtain ⟨t,h,q⟩:=hbody cdv A outer s H vs Q E b c;exact ⟨t,h.nox,q⟩
theorem Fun.binds {x qual:Str} {st:Stmt} {f:Addr} {fd:FuncData} {ps:List Str} (F:Fun K x qual st f fd)
  (h :∀(kV doc pm:Value) (an:Option Addr) (cdv ct:Value) (us:List Value),us.length=ps.length->bindArgs (O6 x qual (z9y st) (z6l st) (z07 st) .none kV doc pm an cdv ct) ⟨us,[]⟩=b4 (ps.zip us)):Binds K fd ps []:=by
 obtain ⟨e,c,kV,doc,pm,an,cdv,ct,a,rfl,b,d⟩:=F.ex;exact .all (h kV doc pm an cdv ct)
theorem fun_mk {x qual:Str} {st:Stmt} {f:Addr} {oc:Value} {od an:Option Addr} {osl:Array (Option Value)} {kV doc pm cdv ct:Value} (l:K.lookup f=some ⟨oc,od,.func (O6 x qual (z9y st) (z6l st) (z07 st) .none kV doc pm an cdv ct),osl⟩)
  (c:P8 K cdv qual=true) (k:a5 K (.ref f)=true):Fun K x qual st f (O6 x qual (z9y st) (z6l st) (z07 st) .none kV doc pm an cdv ct):=⟨⟨oc,od,kV,doc,pm,an,cdv,ct,osl,rfl,l,c⟩,k⟩
end
theorem hu_of {A:P2} {k:Nat} (hr:Room k A):A.units + 1 < cLine:=X0 (Nat.add_le_add_left (by decide:1<=64) _) hr.units
section
variable {X:Cx}
theorem pv (i:Nat) {x:Str} {pos:Pos} (hN:X.N[i]? = some x:=by rfl) (hv:Vis X.env.scope x:=by first|exact O1 rfl|exact N1 (O1 rfl)|exact N1 (N1 rfl)) (hd:(x == ("__debug__" : Str))=false:=by decide)
  (hcd:(x == ("__classdict__" : Str))=false:=by decide):PE X (.Name x pos) (tVar i):=pe_var hN hv hd hcd
end
theorem iteF {A B:Prop} (h:B):if false=true then A else B:=by rw [if_neg E1];exact h
theorem iteT {A B:Prop} (h:A):if true=true then A else B:=by rw [if_pos rfl];exact h
theorem ite2 {c A B:Prop} [Decidable c] (h1:c->A) (h2:¬ c->B):if c then A else B:=by
 by_cases h:c
 ·rw [if_pos h];exact h1 h
 ·rw [if_neg h];exact h2 h
def Same (H H':Hp):Prop:=∀b o,H b=some o->H' b=some o
theorem Same.refl (H:Hp):Same H H:=λ _ _ h=>h
theorem Same.trans {H H1 H2:Hp} (a:Same H H1) (b:Same H1 H2):Same H H2:=λ c o h=>b c o (a c o h)
theorem Same.free {H H':Hp} (e:Same H H') {l:Addr} (h:H' l=Option.none):H l=Option.none:=by
 cases q:H l with
 | none=>rfl
 | some o=>rw [e l o q] at h;cases h
theorem Same.seq {K:o0} {H H':Hp} {a:Addr} {xs:List V} (e:Same H H') (h:SqL K H a xs):SqL K H' a xs:=by
 rcases h with (h|⟨o,h⟩)|h
 ·exact .inl (.inl (e _ _ h))
 ·exact .inl (.inr ⟨o,e _ _ h⟩)
 ·exact .inr h
end L2
set_option maxHeartbeats 4000000
namespace L2
open PySem PySem.Spec PyProof.Rows
section
variable {prog:Program} {w:Z0} {A:P2} {R:j1f->C0->Prop} {s:C0}
theorem zhi {elt target iter:Expr} {ifs:List Expr} {scope:Scope} {pos:Pos} {it acc:Value} {env:Env} (J:Nat->C0->Prop)
  (turn :∀n s,J n s->U0 (G1 prog w) A (D7 it) (λ r s₁=>match r with
   | none=>R (.ok .next) s₁
   | some v=>U0 (G1 prog w) A (B9 target it v) (λ _ s₂=>U0 (G1 prog w) A (assign target env v) (λ _ s₃=>
     U0 (G1 prog w) A (forIn ifs true λ c r=>if r=true then do let ok <-isTrue c env (V3 c env);b4 (D4 ok) else b4 (D4 r)) (λ ok s₄=>
      if ok=true then U0 (G1 prog w) A (V3 elt env) (λ x s₅=>U0 (G1 prog w) A (call (.builtin "list.append") [acc,x]) (λ _ s₆=>∃m,m < n/\J m s₆) (λ _ _=>False) s₅) (λ _ _=>False) s₄
      else∃m,m < n/\J m s₄) (λ _ _=>False) s₃) (λ _ _=>False) s₂) (λ _ _=>False) s₁) (λ _ _=>False) s)
  (n:Nat) (h:J n s):D5 (G1 prog w) A (.compLoop (.ListComp elt [⟨target,iter,ifs,0⟩] scope pos) 0 it acc env) R s:=by
 refine codeAny_loop rfl J (λ n s j=>?_) n h;show U0 _ A ((compTurn (.ListComp elt [⟨target,iter,ifs,0⟩] scope pos) 0 it acc env).onRaise (λ x=>do noteFrame x env;theTreesLotGoes x)) _ _ s;refine wpAny_noted ?_;rw [compTurn_list];refine v0 (j08 (v0 (A4 (turn n s j) (λ r s₁ a=>?_) λ _ _ f=>f.elim)));cases r with
 | none=>exact F0 a
 | some v=>
  refine v0 (A4 a (λ _ s₂ e=>v0 (A4 e (λ _ s₃ i=>v0 (A4 i (λ ok s₄ b=>?_) λ _ _ f=>f.elim)) λ _ _ f=>f.elim)) λ _ _ f=>f.elim);cases ok with
  | false=>exact F0 ⟨rfl,b⟩
  | true=>exact v0 (v0 (A4 b (λ x s₅ d=>v0 (A4 d (λ _ s₆ g=>F0 (F0 ⟨rfl,g⟩)) λ _ _ f=>f.elim)) λ _ _ f=>f.elim))
end
theorem z44 {env:Env} :∀(names:List (Str×F6)) (acc:List (Str×Addr)),(∀y∈names,y.2=K2->∃c,env.cells.lookup y.1=some c)->(∀y c,acc.lookup y=some c->env.cells.lookup y=some c)->
  ∃cl,(forIn names acc λ (x:Str×F6) (r:List (Str×Addr))=>(match x with
    | (name,kind)=>if (kind == K2)=true then do let c <-cellOf env name;b4 (D4 ((name,c) :: r)) else b4 (D4 r):Sem (ForInStep (List (Str×Addr)))))=b4 cl/\
   (∀y c,cl.lookup y=some c->env.cells.lookup y=some c)/\(∀y,((y,K2)∈names\/∃c,acc.lookup y=some c)->∃c,cl.lookup y=some c)
 | [],acc,_,ha=>⟨acc,by rw [S7],ha,λ y h=>h.elim (λ z=>nomatch z) id⟩
 | (n,k) :: r,acc,hf,ha=>by
  rw [A7];dsimp only;by_cases hk:k=K2
  ·subst hk;obtain ⟨c,j⟩:=hf (n,.free) W1 rfl;have e:cellOf env n=b4 c:=by unfold cellOf;rw [j]
   rw [if_pos (by rfl),e];obtain ⟨cl,i,f,g⟩:=z44 r ((n,c) :: acc) (λ y a=>hf y (U1 _ a)) (λ y d b=>by
    rw [w5] at b;by_cases a:(y == n)=true
    ·rw [a] at b;have:=eq_of_beq a;subst this;cases b;exact j
    ·rw [j0e] at a;rw [a] at b;exact ha y d b)
   refine ⟨cl,i,f,λ y a=>g y ?_⟩;rcases a with a|⟨d,b⟩
   ·rcases List.mem_cons.mp a with z|z
    ·cases z;exact .inr ⟨c,by rw [w5];simp⟩
    ·exact .inl z
   ·refine .inr ?_;rw [w5];by_cases a:(y == n)=true
    ·rw [a];exact ⟨c,rfl⟩
    ·rw [j0e] at a;rw [a];exact ⟨d,b⟩
  ·rw [if_neg (by simpa using hk)];obtain ⟨cl,i,f,g⟩:=z44 r acc (λ y a=>hf y (U1 _ a)) ha;refine ⟨cl,i,f,λ y a=>g y ?_⟩;rcases a with a|a
   ·rcases List.mem_cons.mp a with z|z
    ·cases z;exact absurd rfl hk
    ·exact .inl z
   ·exact .inr a
theorem zf5 {scope:Scope} {env:Env} (hf :∀y∈scope.names,y.2=K2->∃c,env.cells.lookup y.1=some c) :
  ∃cl,closureFor scope env=b4 cl/\(∀y c,cl.lookup y=some c->env.cells.lookup y=some c)/\(∀y,(y,K2)∈scope.names->∃c,cl.lookup y=some c):=by
 obtain ⟨cl,d,a,b⟩:=z44 (env:=env) scope.names [] hf (λ _ _ z=>nomatch z);refine ⟨cl,?_,a,λ y e=>b y (.inl e)⟩;simp only [closureFor];rw [d];rfl
theorem mem_of_lookup {κ:Type} {y:Str} {k:κ} :∀{l:List (Str×κ)},l.lookup y=some k->(y,k)∈l
 | (n,c) :: r,h=>by
  rw [w5] at h;by_cases hy:(y == n)=true
  ·rw [hy] at h;cases h;rw [eq_of_beq hy];exact W1
  ·rw [j0e] at hy;rw [hy] at h;exact U1 _ (mem_of_lookup h)
theorem z6u {scope:Scope} {env:Env} (hcell :∀y∈scope.names,y.2≠NameKind.cell) {y:Str} {k:F6} (h:(F8 scope env).names.lookup y=some k) (hk:k=.cell\/k=.free):(y,K2)∈scope.names:=by
 have m:=mem_of_lookup h;unfold F8 at m;obtain ⟨⟨n,c⟩,a,e⟩:=List.mem_map.mp m;dsimp only at e;by_cases hc:(c == K2)=true
 ·have:=eq_of_beq hc;subst this;split at e<;>(injection e with e1 e2;subst e1;exact a)
 ·rw [if_neg (by simp [hc])] at e;injection e with e1 e2;subst e1 e2;rcases hk with rfl|rfl
  ·exact absurd rfl (hcell _ a)
  ·exact absurd rfl hc
noncomputable abbrev cxComp (X:Cx) (scope:Scope) (cl:List (Str×Addr)) (N:List Str) (C:Addr) (s₂:C0) (H₂:Hp) (fp:List Addr):Cx:=
 { X with N:=N,s₀:=s₂,H₀:=H₂,env:=compEnvC scope cl C X.env,outer:=X.stack,stack:=X.stack,ex:=fp,fn:=λ _=>false,pn:=[],xe:=λ _ _=>False }
def PF (X:Cx) (ifs:List Expr) (t:TT):Prop:=
 ∀(pins:List (Addr×Obj)) (s:C0) (σ:St) (H:Hp) (Q:Bool->Hp->Prop),Inv X pins σ H s->t σ H Q->
  U0 (G1 X.prog X.w) X.A (forIn ifs true λ c r=>if r=true then do let ok <-isTrue c X.env (V3 c X.env);b4 (D4 ok) else b4 (D4 r)) (TP X pins σ Q) X.xe s
theorem pf_nil {X:Cx}:PF X [] (λ _ H Q=>Q true H):=λ _ _ _ H _ I h=>wpAny_tests_nil ⟨H,I,h⟩
theorem pf_one {X:Cx} {c:Expr} {t:TT} (h:PT X c t):PF X [c] t:=λ a s σ H Q I q=>wpAny_tests_one (h a s σ H Q I q)
theorem Vals.snoc {xs:List V} {us:List Value} {x:V} {u:Value} (r:Vals xs us) (q:RelV x u):Vals (xs++[x]) (us++[u]):=Vals.append r (.cons q .nil)
def TagOf (H:Hp) (x:V) (T:String):Prop:=match x with
 | .non=>T = "NoneType"
 | .bl _=>T = "bool"
 | .int _=>T = "int"
 | .str _=>T = "str"
 | .ref a=>((∃xs,H a=some (.lst xs))/\T = "list")\/((∃xs,H a=some (.tup xs))/\T = "tuple")\/((∃kvs,H a=some (.dK kvs))/\T = "dict")
 | _=>False
noncomputable def instB (T C:String):Bool:=T == C || (T == "bool" && C == "int")
theorem TagOf.ty {K:o0} {H:Hp} {x:V} {T:String} (h:TagOf H x T):TyOf K H x (.type T):=by
 cases x with
 | non=>cases (show T = "NoneType" from h);exact .non
 | bl b=>cases (show T = "bool" from h);exact .bl b
 | int i=>cases (show T = "int" from h);exact .int i
 | str z=>cases (show T = "str" from h);exact .str z
 | ref a=>
  rcases h with ⟨⟨c,e⟩,rfl⟩|⟨⟨c,e⟩,rfl⟩|⟨⟨c,e⟩,rfl⟩
  ·exact .lst e
  ·exact .tup e
  ·exact .dK e
 | _=>exact h.elim
theorem TagOf.one {H:Hp} {x:V} {T:String} (h:TagOf H x T):T = "NoneType"\/T = "bool"\/T = "int"\/T = "str"\/T = "list"\/T = "tuple"\/T = "dict":=by
 cases x with
 | non=>exact .inl h
 | bl b=>exact .inr (.inl h)
 | int i=>exact .inr (.inr (.inl h))
 | str z=>exact .inr (.inr (.inr (.inl h)))
 | ref a=>rcases h with ⟨_,rfl⟩|⟨_,rfl⟩|⟨_,rfl⟩<;>simp
 | _=>exact h.elim
noncomputable def isiC:List String:=["int","str","bool","tuple","list"]
theorem kit_of (K:o0) {T C:String} (h:T = "NoneType"\/T = "bool"\/T = "int"\/T = "str"\/T = "list"\/T = "tuple"\/T = "dict") (hC:C∈isiC):PySem.W.kitOne K (.type T) (.type C)=some (instB T C):=by
 have hC:C = "int"\/C = "str"\/C = "bool"\/C = "tuple"\/C = "list":=by simpa [isiC] using hC
 rcases h with rfl|rfl|rfl|rfl|rfl|rfl|rfl<;>rcases hC with rfl|rfl|rfl|rfl|rfl<;>kernel_rfl
section
variable {X:Cx}
theorem z0n:CallR X (.builtin "isinstance") (λ xs H Q=>∃x C T,xs=[x,.ty C]/\TagOf H x T/\C∈isiC/\Q (.bl (instB T C)) H):=by intro i s σ H xs g Q I r h;obtain ⟨x,C,T,rfl,a,b,q⟩:=h;obtain ⟨u,f,rfl,e,c⟩:=vals2 r;cases (show f=G3 C from c);exact zh9 I e a.ty (kit_of X.K a.one b) λ d=>⟨.bl _,H,I.tok d,rfl,q⟩
theorem zgc {ys:List V} {its:List Value} (rv:Vals ys its) (hb :∀y∈ys,∃b,y=V.bl b):((W0 its.length).all λ i=>decide (ys[i]? = some (V.bl true)))=ys.all λ y=>decide (y=V.bl true):=by
 have e:=rv.length;rw [Bool.eq_iff_iff,List.all_eq_true,List.all_eq_true];constructor
 ·intro h y d;obtain ⟨i,a,rfl⟩:=D6 d;have:=h i (List.mem_range.mpr (by omega));simpa [a] using this
 ·intro h i a;have c:i < ys.length:=by have:=List.mem_range.mp a;omega
  have:=h ys[i] (D3 c);simpa [c] using this
theorem z3e (hc:X.calm=true):CallR X (.builtin "all") (λ xs H Q=>∃p ys,xs=[.ref p]/\SqL X.K H p ys/\(∀y∈ys,∃b,y=V.bl b)/\Q (.bl (ys.all λ y=>decide (y=V.bl true))) H):=by
 intro J s σ H xs L Q I r h;obtain ⟨p,ys,rfl,t,j,q⟩:=h;obtain ⟨u,rfl,E⟩:=vals1 r;cases E;obtain ⟨l,f,c,P⟩:=I.list t;have B:p≠s.heap.objs.size:=by obtain ⟨o,e,_⟩:=c.isList;exact A1 (T0 e)
 refine call_all_walk (b5 c.isList ?_);refine ⟨s.heap.objs.size,_,_,_,_,_,λ i=>decide (ys[i]? = some (V.bl true)),rfl,Walks.list (show X.A.in1.handled=none from I.ok.hd hc) s.heap.objs.size p B l.toArray,⟨⟨_,C1 _ rfl,rfl,rfl⟩,c.isList.at λ o e=>J0 _ e⟩,?_,?_⟩
 ·intro i v M N O a C;have a:l[i]? = some v:=by simpa using a
  obtain ⟨w,e⟩:=List.getElem?_eq_some_iff.mp a;have d:i < ys.length:=by rw [f.length];exact w
  obtain ⟨b,k⟩:=j ys[i] (D3 d);obtain ⟨u,m,g⟩:=f.get (i:=i) (x:=ys[i]) (by simp [d]);rw [a] at m;cases m;rw [k] at g;cases (show v=E9 b from g);have:decide (ys[i]? = some (V.bl true))=b:=by rw [A0 d,k];cases b<;>simp
  exact O3 (this ▸ C)
 ·intro G n D;have e:=zgc f j;rw [<-V0] at e;refine ⟨.bl _,H,I.kept (t':=n) λ b o z=>D b o ?_ (J0 _ z),rfl,e.symm ▸ q⟩;intro F;rw [List.mem_singleton.mp F] at z;exact absurd (T0 z) (C4 _)
def CDivB (i j:Int):Prop:=0 < j/\j < 2 ^ 64
theorem z1e:OpR X (E6 .FloorDiv) (rI CDivB λ i j=>.int (i / j)):=opI λ i j _ _ _ _ _ a q=>by
 obtain ⟨b,c⟩:=a;refine floordiv_int (by omega) ?_ (.inl (PyProof.noPylong_of_log2 ?_))
 ·rw [Int.fdiv_eq_ediv_of_nonneg _ (by omega)];exact q
 ·have:j.natAbs.log2 < 64:=(Nat.log2_lt (by omega)).mpr (by omega);omega
structure KDict (K:o0) (P:Q0) (a:Addr) (kvs:List (Str×V)):Prop where
 ex :∃es n,K.lookup a=some ⟨.type "dict",none,.dict es n,#[]⟩/\v9 (λ (p:Str×V) (e:DictEntry)=>(∃t,e.key=.str p.1 t)/\e.hash=j0 P p.1/\RelV p.2 e.val) kvs es.toList
 lo:(a == A5)=false
theorem zga {kvs:List (Str×V)} {P:Q0} :∀{es:List DictEntry},v9 (λ (p:Str×V) (e:DictEntry)=>(∃t,e.key=.str p.1 t)/\e.hash=j0 P p.1/\RelV p.2 e.val) kvs es->∀z,
  RelO (kvs.lookup z) (findBy X7 es.toArray z):=by
 intro es r;induction r with
 | nil=>intro z;exact True.intro
 | @cons p e kvs es h t a=>
  intro z;obtain ⟨⟨g,d⟩,f,c⟩:=h;have a:=a z;unfold findBy at a⊢;rw [List.find?_toArray] at a⊢;rw [W4,w5];have b:X7 z e.key=(z == p.1):=by rw [d];show (p.1 == z)=_;rw [Bool.eq_iff_iff,beq_iff_eq,beq_iff_eq];exact ⟨λ q=>q.symm,λ q=>q.symm⟩
  cases hz:(z == p.1) with
  | true=>rw [b,hz];exact c
  | false=>rw [b,hz];exact a
theorem KDict.mapOf {a:Addr} {kvs:List (Str×V)} (D:KDict X.K X.w.params a kvs) {h:Heap} (k:X.K.In h) :∃f,h.MapOf (strKind X.prog X.w) a f/\∀z,RelO (kvs.lookup z) (f z):=by
 obtain ⟨b,n,d,r⟩:=D.ex;have c:PySem.W.KeysLit X.w.params b.toList:=by
  clear d D;generalize b.toList=l at r;induction r with
  | nil=>exact True.intro
  | cons h t ih=>obtain ⟨⟨i,c⟩,g,j⟩:=h;exact ⟨⟨_,i,c,g⟩,ih⟩
 have e :∀z,RelO (kvs.lookup z) (findBy X7 b.toList.toArray z):=zga r;exact ⟨_,PySem.W.mapOf_K (prog:=X.prog) k d c,λ z=>by simpa using e z⟩
theorem zii {a:Addr} {kvs:List (Str×V)} (D:KDict X.K X.w.params a kvs):OpR X (X2 .In) (λ x y H Q=>∃z,x=.str z/\y=.ref a/\Q (.bl (kvs.lookup z).isSome) H):=by intro g s σ H x y v u Q I e d h;obtain ⟨z,rfl,rfl,q⟩:=h;obtain ⟨t,rfl⟩:=e;cases d;obtain ⟨f,c,b⟩:=D.mapOf I.kIn;refine wpAny_in_of (o9 X.prog X.w z t) D.lo c ⟨.bl _,H,I.tok _,rfl,?_⟩;have:=b z;rw [RelO.isSome_eq this] at q;exact q
theorem ix_kd {a:Addr} {kvs:List (Str×V)} (D:KDict X.K X.w.params a kvs):IxR X (λ x y H Q=>∃z v,x=.ref a/\y=.str z/\kvs.lookup z=some v/\Q v H):=by
 intro l m k s σ H x y v u Q I i g h j;obtain ⟨z,r,rfl,rfl,e,q⟩:=h;cases i;obtain ⟨t,rfl⟩:=g;obtain ⟨f,c,d⟩:=D.mapOf I.kIn;have b:=d z;rw [e] at b;cases ef:f z with
 | none=>rw [ef] at b;exact b.elim
 | some u=>rw [ef] at b;exact tail_any c.typeIs slot_dict_getitem.lookup (wpAny_getItem_of (o9 X.prog X.w z t) c ef ⟨r,H,I.tok _,b,q⟩) j
structure KDictT (K:o0) (P:Q0) (a:Addr) (kvs:List ((Str×Str)×V)):Prop where
 ex :∃es n,K.lookup a=some ⟨.type "dict",none,.dict es n,#[]⟩/\v9 (λ (p:(Str×Str)×V) (e:DictEntry)=>(∃(b:Addr) (t t':Tok) (m:Nat),e.key=.ref b/\K.lookup b=some ⟨.type "tuple",none,.seq #[.str p.1.1 t,.str p.1.2 t'] m,#[]⟩)/\
  e.hash=R1 (B0 [j0 P p.1.1,j0 P p.1.2])/\RelV p.2 e.val) kvs es.toList
 nd:(kvs.map (·.1)).Nodup
 lo:(a == A5)=false
theorem zhm {prog:Program} {w:Z0} {K:o0} {h:Heap} (k:K.In h) :∀{kvs:List ((Str×Str)×V)} {es:List DictEntry},
  v9 (λ (p:(Str×Str)×V) (e:DictEntry)=>(∃(b:Addr) (t t':Tok) (m:Nat),e.key=.ref b/\K.lookup b=some ⟨.type "tuple",none,.seq #[.str p.1.1 t,.str p.1.2 t'] m,#[]⟩)/\
   e.hash=R1 (B0 [j0 w.params p.1.1,j0 w.params p.1.2])/\RelV p.2 e.val) kvs es->
  ∃xs:List (List Str×Addr×Value),es=xs.map (entryOfKey (W6 (strKind prog w)))/\(∀x∈xs,(W6 (strKind prog w)).is h x.1 x.2.1)/\xs.map (·.1)=kvs.map (λ p=>[p.1.1,p.1.2])/\
   ∀a b,RelO (kvs.lookup (a,b)) ((j0a xs [a,b]).map (·.2)):=by
 intro kvs es r;induction r with
 | nil=>exact ⟨[],rfl,λ x f=>absurd f L0,rfl,λ a b=>True.intro⟩
 | @cons p e kvs es hpe t ih=>
  obtain ⟨xs,A,y,s,u⟩:=ih;obtain ⟨⟨b,D,B,m,i,q⟩,l,v⟩:=hpe;refine ⟨([p.1.1,p.1.2],b,e.val) :: xs,?_,?_,?_,?_⟩
  ·rw [Y1,<-A];congr 1;obtain ⟨n,o,C⟩:=e;have i:o=.ref b:=i;have l:n=_:=l;subst i l;rfl
  ·intro x f;rcases List.mem_cons.mp f with rfl|f
   ·exact ⟨_,_,m,k _ _ q,rfl,rfl,.cons (o9 prog w _ _) (.cons (o9 prog w _ _) .nil)⟩
   ·exact y x f
  ·rw [Y1,Y1,s]
  ·intro c d;have:=u c d;rw [w5];unfold j0a at this⊢;rw [W4];by_cases hcd:(c,d)=p.1
   ·have j:((c,d) == p.1)=true:=by rw [beq_iff_eq];exact hcd
    rw [j];have g:decide ([p.1.1,p.1.2]=[c,d])=true:=by rw [<-hcd];simp
    rw [g];exact v
   ·have j:((c,d) == p.1)=false:=by rw [beq_eq_false_iff_ne];exact hcd
    rw [j];have g:decide ([p.1.1,p.1.2]=[c,d])=false:=by rw [decide_eq_false_iff_not];intro z;injection z with z1 z;injection z with z2 _;exact hcd (j46 z1.symm z2.symm)
    rw [g];exact this
theorem z7b :∀{l:List (Str×Str)},l.Nodup->(l.map λ p=>[p.1,p.2]).Nodup
 | [],_=>List.nodup_nil
 | p :: r,h=>by obtain ⟨c,a⟩:=List.nodup_cons.mp h;rw [Y1];refine List.nodup_cons.mpr ⟨λ m=>c ?_,z7b a⟩;obtain ⟨q,b,e⟩:=List.mem_map.mp m;injection e with e1 e;injection e with e2 _;have:q=p:=j46 e1 e2;exact this ▸ b
theorem KDictT.dict {a:Addr} {kvs:List ((Str×Str)×V)} (D:KDictT X.K X.w.params a kvs) {h:Heap} (k:X.K.In h) :∃xs,h.DictOfH (W6 (strKind X.prog X.w)) a xs/\∀c d,RelO (kvs.lookup (c,d)) ((j0a xs [c,d]).map (·.2)):=by obtain ⟨e,n,f,r⟩:=D.ex;obtain ⟨xs,j,g,i,b⟩:=zhm (prog:=X.prog) (w:=X.w) k r;refine ⟨xs,⟨_,e,n,k _ _ f,⟨rfl,rfl,rfl⟩,rfl,j,g,?_⟩,b⟩;rw [i];have:=z7b D.nd;rw [F5] at this;exact this
theorem zjs {pins:List (Addr×Obj)} {σ:St} {H:Hp} {s:C0} {p:Addr} {c d:Str} (I:Inv X pins σ H s) (hp:H p=some (.tup [.str c,.str d])):(W6 (strKind X.prog X.w)).is s.heap [c,d] p:=by
 obtain ⟨_,h,a,⟨o,b,e,n,f⟩,_⟩:=(show ObjOk X.prog X.w H s.heap p (.tup [.str c,.str d]) from I.hok p _ hp)
 cases a with
 | cons r1 a=>
  cases a with
  | cons r2 a=>cases a;obtain ⟨i,rfl⟩:=r1;obtain ⟨g,rfl⟩:=r2;exact ⟨o,_,n,b,e,f,.cons (o9 X.prog X.w _ _) (.cons (o9 X.prog X.w _ _) .nil)⟩
theorem zan {a:Addr} {kvs:List ((Str×Str)×V)} (hu:X.A.units + 1 < cLine) (D:KDictT X.K X.w.params a kvs) :
  OpR X (X2 .NotIn) (λ x y H Q=>∃p c d,x=.ref p/\H p=some (.tup [.str c,.str d])/\y=.ref a/\Q (.bl (!(kvs.lookup (c,d)).isSome)) H):=by
 intro l s σ H x y v u Q I i g h;obtain ⟨p,c,d,rfl,b,rfl,q⟩:=h;cases i;cases g;obtain ⟨j,f,e⟩:=D.dict I.kIn;refine wpAny_notIn_heap (k:=[c,d]) hu (zjs I b) D.lo f ⟨.bl _,H,I.tok _,rfl,?_⟩;have:=RelO.isSome_eq (e c d);rw [Q9] at this;rw [this] at q;exact q
end
structure Cal (P:Program) (w:Z0) (K:o0) (mg:Str->Option Value) (base:Heap) (x:Str) (ps:List Str) (k:Nat) (sp:Sp):Prop where
 ex :∃f fd,FnOk P w K mg base CX0 k f fd ps sp/\mg x=some (.ref f)/\a5 K (.ref f)=true/\Binds K fd ps []
section
variable {X:Cx} {x:Str} {ps:List Str} {k:Nat} {sp:Sp} {e:Expr} {es:List Expr} {t:TA} {p pos:Pos}
theorem pe_cal (c:Cal X.prog X.w X.K X.mg X.base x ps k sp) (hr:Room k X.A) (hg:Gl X x) (ha:PA X (e :: es) t) (hn:x≠"__name__":=by decide) (hdb:(x == ("__debug__" : Str))=false:=by decide)
  (he:K1 (e :: es) X.env=(false,V3 e X.env) :: K1 es X.env:=by rfl) (hpl:(P4 pos (K1 es X.env)).any (·.1)=false:=by rfl):PE X (.Call (.Name x p) (e :: es) [] pos) (tCall sp [] E0 t):=by
 obtain ⟨f,g,F,a,d,b⟩:=c.ex;exact ze2 F hr hg a d b .nil pass0 ha hdb he hpl
end
structure TX (K:o0) (mg:Str->Option Value):Prop where
 of :∀{n:Str} {v:Value},Q3 K U2 n=some (some v)->mg n=some v
 no :∀{n:Str},Q3 K U2 n=some none->mg n=none
theorem TX.mk' {K:o0} {mg:Str->Option Value} {h:Heap} (X:K.In h) (G:h.Ns U2 mg):TX K mg:=⟨λ e=>PySem.W.mg_of X G e,λ e=>PySem.W.mg_none_of X G e⟩
section
variable {X:Cx}
noncomputable def rAdd4 (K:o0):R2:=λ x y H Q=>(∃i j,x=.int i/\y=.int j/\Q (.int (i + j)) H)\/(∃i j,x=.str i/\y=.str j/\i.length + j.length<=sizeLine/\Q (.str (i++j)) H)\/rCat x y H Q\/rCatT K x y H Q
theorem opAdd:OpR X (E6 .Add) (rAdd4 X.K):=op_add.or (op_add_str.or (op_cat.or zjw))
theorem opEq:OpR X (X2 .Eq) rEq:=op_eq
theorem opNe:OpR X (X2 .NotEq) rNe:=op_ne
theorem z0i:CallR X (.builtin "len") (λ xs H Q=>(∃p ys,xs=[.ref p]/\(SqL X.K H p ys\/SqT X.K H p ys)/\Q (.int ys.length) H)\/∃z,xs=[.str z]/\z.length<=sizeLine/\Q (.int z.length) H):=call_len_seq.or zak
end
noncomputable def z0h (x:V) (g:Int):Bool:=match x with
 | .int i=>decide (-g<=i) && decide (i<=g)
 | _=>false
noncomputable def tupOf (H:Hp) (x:V):Option (List V):=match x with
 | .ref a=>(match H a with|some (.tup xs)=>some xs|_=>none)
 | _=>none
theorem ze3 {H H':Hp} {x:V} {T:String} (t:TagOf H x T) (e:Same H H'):tupOf H' x=tupOf H x:=by
 cases x with
 | ref a=>rcases t with ⟨⟨b,h⟩,_⟩|⟨⟨b,h⟩,_⟩|⟨⟨b,h⟩,_⟩<;>(unfold tupOf;dsimp only;rw [h,e a _ h])
 | _=>rfl
theorem TagOf.same {H H':Hp} {x:V} {T:String} (t:TagOf H x T) (e:Same H H'):TagOf H' x T:=by
 cases x with
 | ref a=>
  rcases t with ⟨⟨b,h⟩,z⟩|⟨⟨b,h⟩,z⟩|⟨⟨b,h⟩,z⟩
  ·exact .inl ⟨⟨b,e a _ h⟩,z⟩
  ·exact .inr (.inl ⟨⟨b,e a _ h⟩,z⟩)
  ·exact .inr (.inr ⟨⟨b,e a _ h⟩,z⟩)
 | _=>exact t
theorem TagOf.tuple {H:Hp} {x:V} (t:TagOf H x "tuple") :∃a xs,x=.ref a/\H a=some (.tup xs):=by
 cases x with
 | ref a=>
  rcases t with ⟨_,z⟩|⟨⟨xs,h⟩,_⟩|⟨_,z⟩
  ·exact absurd z (by decide)
  ·exact ⟨a,xs,rfl,h⟩
  ·exact absurd z (by decide)
 | non=>exact absurd (show "tuple" = "NoneType" from t) (by decide)
 | bl b=>exact absurd (show "tuple" = "bool" from t) (by decide)
 | int i=>exact absurd (show "tuple" = "int" from t) (by decide)
 | str z=>exact absurd (show "tuple" = "str" from t) (by decide)
 | _=>exact t.elim
theorem TagOf.int {H:Hp} {x:V} (t:TagOf H x "int") :∃i,x=.int i:=by
 cases x with
 | ref a=>rcases t with ⟨_,z⟩|⟨_,z⟩|⟨_,z⟩<;>exact absurd z (by decide)
 | non=>exact absurd (show "int" = "NoneType" from t) (by decide)
 | bl b=>exact absurd (show "int" = "bool" from t) (by decide)
 | int i=>exact ⟨i,rfl⟩
 | str z=>exact absurd (show "int" = "str" from t) (by decide)
 | _=>exact t.elim
theorem TagOf.str {H:Hp} {x:V} (t:TagOf H x "str") :∃z,x=.str z:=by
 cases x with
 | ref a=>rcases t with ⟨_,z⟩|⟨_,z⟩|⟨_,z⟩<;>exact absurd z (by decide)
 | non=>exact absurd (show "str" = "NoneType" from t) (by decide)
 | bl b=>exact absurd (show "str" = "bool" from t) (by decide)
 | int i=>exact absurd (show "str" = "int" from t) (by decide)
 | str z=>exact ⟨z,rfl⟩
 | _=>exact t.elim
theorem noInt {H:Hp} {x:V} {T:String} (t:TagOf H x T) (h:T≠"int") (g:Int):z0h x g=false:=by
 cases x with
 | int i=>exact absurd t h
 | _=>rfl
theorem noTup {H:Hp} {x:V} {T:String} (t:TagOf H x T) (h:T≠"tuple"):tupOf H x=none:=by
 cases x with
 | ref a=>
  rcases t with ⟨⟨b,e⟩,_⟩|⟨_,z⟩|⟨⟨b,e⟩,_⟩
  ·unfold tupOf;dsimp only;rw [e]
  ·exact absurd z h
  ·unfold tupOf;dsimp only;rw [e]
 | _=>rfl
theorem z6p {H:Hp} {x:V} {T:String} (t:TagOf H x T) {C:String} (h:C≠"int"):instB T C=decide (T=C):=by
 unfold instB;have:(C == "int")=false:=by simpa using h
 rw [this,j1c,P9,Bool.beq_eq_decide_eq]
def Flat (H:Hp) (x:V):Prop:=∀xs,tupOf H x=some xs->xs.length<=1000/\∀y∈xs,∃T,TagOf H y T
theorem z6n {α β:Type} [BEq α] [LawfulBEq α] {l:List (α×β)} {a:α} {b:β} (h:l.lookup a=some b):(a,b)∈l:=by
 induction l with
 | nil=>cases h
 | cons p r ih=>
  obtain ⟨c,d⟩:=p;rw [w5] at h;cases hc:(a == c) with
  | true=>rw [hc] at h;cases h;rw [eq_of_beq hc];exact W1
  | false=>rw [hc] at h;exact U1 _ (ih h)
theorem zbl {names:List (Str×F6)} {Q:Str×F6->Prop} (h:(names.all λ y=>y.2 != K2)=true) :∀y∈names,y.2=K2->Q y:=λ y a e=>by have:=List.all_eq_true.mp h y a;rw [e] at this;exact absurd this (by decide)
theorem Same.upd {H:Hp} {p:Addr} {o:HO} (h:H p=none):Same H (upd H p o):=λ b u e=>by rw [upd_ne (z0p e h)];exact e
theorem Same.seqT {K:o0} {H H':Hp} {a:Addr} {xs:List V} (e:Same H H') (h:SqT K H a xs):SqT K H' a xs:=by
 rcases h with (h|⟨o,h⟩)|h
 ·exact .inl (.inl (e _ _ h))
 ·exact .inl (.inr ⟨o,e _ _ h⟩)
 ·exact .inr h
theorem zft {H:Hp} {x:V} {xs:List V} (h:tupOf H x=some xs) :∃a,x=.ref a/\H a=some (.tup xs):=by
 unfold tupOf at h;cases x with
 | ref a=>
  dsimp only at h;split at h
  ·rename_i ys e;exact ⟨a,rfl,by rw [e,T2 h]⟩
  ·cases h
 | _=>cases h
end L2
namespace L2
open PySem PySem.Spec PyProof.Rows
open Builtin.Str (occurrences partsBetween strKind)
section
variable {X:Cx}
theorem zbv {vl:Value} {lo:Option Int} (p:y9 vl lo) :∃l:Option (Int×Tok),vl=partValue l/\l.map (·.1)=lo:=by
 cases p with
 | none=>exact ⟨none,rfl,rfl⟩
 | int i t=>exact ⟨some (i,t),rfl,rfl⟩
end
end L2
namespace L2
open PySem PySem.Spec PyProof.Rows
section
variable {X:Cx}
def rSlS:V->Option Int->Option Int->Hp->VK->Prop:=λ x lo hi H Q=>∃z,x=.str z/\z.length<=sizeLine/\Q (.str (Txt.slice z lo hi)) H
theorem sl_str:SlR X rSlS:=by
 intro n s σ H x v r p o m j Q I f i a g h;obtain ⟨z,rfl,e,q⟩:=h;obtain ⟨t,rfl⟩:=f;obtain ⟨l,rfl,c⟩:=zbv a;obtain ⟨u,rfl,b⟩:=zbv g;subst c b;refine ⟨"str",_,F.slot_str_getitem.lookup,typeIs_str _ _ _,wpAny_getItem_str_slice (l:=l) (u:=u) (st:=none) i rfl
  (post_val_or_str ⟨N0 (Txt.slice_le z _ _) e,λ d k=>⟨.str (Txt.slice z _ _),H,I.tok k,⟨d,rfl⟩,q⟩⟩)⟩
theorem slSeq:SlR X (λ x lo hi H Q=>rSlL X.K x lo hi H Q\/rSlT X.K x lo hi H Q\/rSlS x lo hi H Q):=sl_list.or (sl_tup.or sl_str)
end
def RowAt (H:Hp) (r:Addr):Prop:=∃a b c:Int,H r=some (.lst [.int a,.int b,.int c])/\0<=c/\c < 536870909
def Kept (r:Addr) (H H':Hp):Prop:=∀b o,b≠r->H b=some o->H' b=some o
theorem Kept.refl {r:Addr} {H:Hp}:Kept r H H:=λ _ _ _ h=>h
theorem Kept.trans {r:Addr} {H H1 H2:Hp} (a:Kept r H H1) (b:Kept r H1 H2):Kept r H H2:=λ c o n h=>b c o n (a c o n h)
theorem Same.kept {r:Addr} {H H':Hp} (s:Same H H'):Kept r H H':=λ b o _ h=>s b o h
theorem Kept.set {r:Addr} {H:Hp} {o:HO}:Kept r H (upd H r o):=λ b u n h=>by rw [upd_ne n];exact h
structure Rw (r:Addr) (H H':Hp):Prop where
 k:Kept r H H'
 r:RowAt H' r
section
variable {r:Addr} {σ:St} {H0:Hp} {K:o0}
theorem zi8 {ta:TA} {g:TG} {rest:TS} {D:Ends} {σ:St} {H:Hp} (h:tLst ta σ H λ x H1=>g x σ H1 (rest D)):tSeq (tAsg (tLst ta) g) rest D σ H:=h
theorem g_name {i:Nat} {v:V} {σ:St} {H:Hp} {Q:St->Hp->Prop} (h:Q (σ.set i (some v)) H):gName i v σ H Q:=h
theorem t_nx {nx ct bk:St->Hp->Prop} {rt:VK} {σ:St} {H:Hp} (h:nx σ H):Ends.nx { nx:=nx,rt:=rt,bk:=bk,ct:=ct } σ H:=h
end
end L2
namespace L2
open PySem
section
variable {prog:Program} {w:Z0} {A:P2} {E:Value->C0->Prop} {s:C0}
structure ZApart (z T U i j a b:Addr):Prop where
 dis:[z,T,U,i,j].Nodup
 fa:a∉[z,T,U,i,j]
 fb:b∉[z,T,U,i,j]
structure ZAt (h:Heap) (z T U i j a b:Addr) (n:Nat) (f:Value):Prop where
 z:IsZip h z T U f
 t:IsPair h T (.ref i) (.ref j)
 u :∃p q,IsPair h U p q
 i:h.IsTupleIter i a n
 j:h.IsTupleIter j b n
end
end L2
namespace L2
open PySem PySem.Spec PyProof.Rows
inductive Dt where
 | non|bl (b:Bool)|int (i:Int)|str (z:Str)|tup (ds:List Dt)
mutual
noncomputable def IsDt (K:o0) (H:Hp):Dt->V->Prop
 | .non,v=>v=.non
 | .bl b,v=>v=.bl b
 | .int i,v=>v=.int i
 | .str z,v=>v=.str z
 | .tup ds,v=>∃a xs,v=.ref a/\SqT K H a xs/\IsDts K H ds xs
noncomputable def IsDts (K:o0) (H:Hp):List Dt->List V->Prop
 | [],xs=>xs=[]
 | d :: ds,xs=>∃x r,xs=x :: r/\IsDt K H d x/\IsDts K H ds r
end
mutual
noncomputable def Dt.deep:Dt->Nat
 | .tup ds=>Dt.deeps ds + 1
 | _=>0
noncomputable def Dt.deeps:List Dt->Nat
 | []=>0
 | d :: ds=>max d.deep (Dt.deeps ds)
noncomputable def Dt.plain:Dt->Bool
 | .int _=>true
 | .str _=>true
 | .tup ds=>Dt.plains ds
 | _=>false
noncomputable def Dt.plains:List Dt->Bool
 | []=>true
 | d :: ds=>d.plain && Dt.plains ds
end
section
variable {X:Cx}
theorem Inv.turnedL {pins:List (Addr×Obj)} {σ:St} {H:Hp} {s:C0} {h':Heap} {t':Nat} {fp:List Addr} (I:Inv X pins σ H s) (k :∀b o,b∉fp->s.heap.get? b=some o->h'.get? b=some o) (hf :∀b∈fp,FpOk X pins H b) :
  Inv X pins σ H { s with heap:=h',toks:=t' }:=by
 have f :∀b u,H b=some u->b∉fp:=λ b u e z=>by have:=(hf b z).1;rw [this] at e;cases e
 refine I.step (g':=s.gens) (d':=s.drawn) (ch:=fp) (λ b d=>⟨(hf b d).2.2.2.1,(hf b d).2.1,(hf b d).2.2.2.2.1,(hf b d).2.2.2.2.2⟩) (λ b o _ _ a e _=>k b o a e) (λ b o _ _ a e _=>⟨o.slots,k b o a e⟩) (λ _ _ _ _ n=>n)
  (λ b o a e=>⟨o,k b o a e⟩) (λ _ _ e=>e) (λ _ _ _ e=>e) (λ b l e=>⟨#[],by rw [e];simp⟩) (λ m i=>?_) (λ b u e=>?_) I.bare
 ·obtain ⟨o,h,j,g,r⟩:=i;exact ⟨o,h,j,k _ o (λ z=>(hf _ z).2.1 rfl) g,r⟩
 ·refine (I.hok b u e).stay (λ c v a q=>k c v ?_ q) (λ _ q=>q) λ _ _ q=>q;rcases a with z|z
  ·rw [z];exact f b u e
  ·exact f c _ z
theorem Inv.turnedLaid {pins:List (Addr×Obj)} {σ:St} {H:Hp} {s:C0} {h':Heap} {t':Nat} {fp:List Addr} {a:Addr} {o:HO} (I:Inv X pins σ H s) (k :∀b o,b∉fp->s.heap.get? b=some o->h'.get? b=some o) (hf :∀b∈fp,FpOk X pins H b)
  (hp:s.heap.objs.size<=a) (new:ObjOk X.prog X.w (upd H a o) h' a o):Inv X pins σ (upd H a o) { s with heap:=h',toks:=t' }:=by
 have p:H a=none:=I.hok.fresh hp;have h :∀b u,H b=some u->b∉fp:=λ b u e z=>by have:=(hf b z).1;rw [this] at e;cases e
 have g :∀b u,H b=some u->upd H a o b=some u:=λ b u e=>by rw [upd_ne (z0p e p)];exact e
 refine I.step (g':=s.gens) (d':=s.drawn) (ch:=fp) (λ b d=>⟨(hf b d).2.2.2.1,(hf b d).2.1,(hf b d).2.2.2.2.1,(hf b d).2.2.2.2.2⟩) (λ b o _ _ f e _=>k b o f e) (λ b o _ _ f e _=>⟨o.slots,k b o f e⟩)
  (λ b u _ e n=>by rw [upd_ne (λ z=>by subst z;exact absurd (T0 e) (Nat.not_lt.mpr hp))];exact n)
  (λ b o f e=>⟨o,k b o f e⟩) (λ _ _ e=>g _ _ e) (λ _ _ _ e=>g _ _ e) (λ b x e=>⟨#[],by rw [g _ _ e];simp⟩) (λ m l=>?_) (λ b u e=>?_) I.bare
 ·obtain ⟨o,i,j,t,r⟩:=l;exact ⟨o,i,j,k _ o (λ z=>(hf _ z).2.1 rfl) t,r⟩
 ·by_cases d:b=a
  ·subst d;rw [z04] at e;cases e;exact new
  ·rw [upd_ne d] at e;refine (I.hok b u e).stay (λ c v f q=>k c v ?_ q) (λ c q=>g _ _ q) λ c y q=>g _ _ q;rcases f with z|z
   ·rw [z];exact h b u e
   ·exact h c _ z
theorem z0o {o e:Expr} {es:List Expr} {to:TE} {t:TA} {apos cpos:Pos} (ho:PE X o to) (ha:PA X (e :: es) t)
  (hbase:B5 o "append" X.env (V3 o X.env)=V3 o X.env:=by rfl)
  (hfew:((P4 cpos (K1 (e :: es) X.env)).all (λ x=>!x.1) && (a9 cpos (X6 [] X.env)).all (λ x=>x.1.isSome)
   && decide ((e :: es).length + ([]:List Q6).length + (if ([]:List Q6).isEmpty then 0 else 1) < 30))=true:=by rfl)
  (hline:(apos.endLine == cpos.line)=true:=by rfl) (hs:K1 (e :: es) X.env=(false,V3 e X.env) :: K1 es X.env:=by rfl) (hplain:(P4 cpos (K1 es X.env)).any (·.1)=false:=by rfl) :
  PE X (.Call (.Attribute o "append" apos) (e :: es) [] cpos) (tBM X.K "list" zi1 to t):=pe_bm Z7 PySem.F.slot_list_append PySem.F.type_list_append zgp ho ha hbase hfew hline hs hplain
end
theorem iteP {c A B:Prop} [Decidable c] (hc:c) (h:A):if c then A else B:=by rw [if_pos hc];exact h
theorem iteN {c A B:Prop} [Decidable c] (hc:¬ c) (h:B):if c then A else B:=by rw [if_neg hc];exact h
theorem zfz {names:List (Str×F6)} {n:Str} {Q:Str×F6->Prop} (h:(names.all λ y=>y.2 != K2 || y.1 == n)=true) (q :∀k,Q (n,k)) :∀y∈names,y.2=K2->Q y:=λ y c e=>by
 have:=List.all_eq_true.mp h y c;rw [e] at this;have:(y.1 == n)=true:=by simpa using this
 obtain ⟨a,b⟩:=y;rw [beq_iff_eq] at this;have:a=n:=this;subst this;exact q b
section
variable {X:Cx}
noncomputable def rEqNil (K:o0):R2:=λ x y H Q=>∃a b xs,x=.ref a/\y=.ref b/\SqL K H a xs/\SqL K H b []/\Q (.bl (decide (xs=[]))) H
theorem zjn (hu:X.A.units < cLine):OpR X (X2 .Eq) (rEqNil X.K):=by
 intro t s σ H x y v u Q I l k h;obtain ⟨a,b,f,rfl,rfl,i,m,q⟩:=h;cases l;cases k;obtain ⟨p,g,c,_⟩:=I.list i;obtain ⟨r,rb,d,_⟩:=I.list m;cases rb;cases f with
 | nil=>cases g;exact SeqAt.eq_listAt (e:=λ _=>true) c.isList d.isList rfl hu (λ j n _=>absurd n (by simp)) ⟨.bl true,H,I,rfl,q⟩
 | cons x f=>have o:=g.length;refine SeqAt.eq_list_lengthsAt c.isList d.isList (by simp only [V0,T3,bne_iff_ne];rw [<-o];simp) hu ⟨.bl false,H,I,rfl,?_⟩;rw [decide_eq_false (by simp)] at q;exact q
end
theorem ObjOk.there {P:Program} {w:Z0} {H:Hp} {h:Heap} {a:Addr} {o:HO} (x:ObjOk P w H h a o) :∃ob,h.get? a=some ob:=by
 cases o with
 | lst xs=>obtain ⟨_,_,_,_,e⟩:=x;exact ⟨_,e⟩
 | tup xs=>obtain ⟨_,_,_,⟨o,e,_⟩,_⟩:=x;exact ⟨_,e⟩
 | dK kvs=>obtain ⟨_,_,_,_,o,_,_,e,_⟩:=x;exact ⟨_,e⟩
 | dT kvs=>obtain ⟨_,_,_,_,o,_,_,e,_⟩:=x;exact ⟨_,e⟩
 | set S n=>obtain ⟨o,_,_,_,e,_⟩:=x;exact ⟨_,e⟩
 | ins C dx fs=>obtain ⟨_,_,_,e,_⟩:=x;exact ⟨_,e⟩
 | own y=>exact x
 | xd fs=>obtain ⟨_,⟨o,_,_,e,_⟩,_⟩:=x;exact ⟨_,e⟩
 | rng lo hi=>obtain ⟨_,_,_,e⟩:=x;exact ⟨_,e⟩
 | frz ob u=>obtain ⟨e,_⟩:=x;exact ⟨_,e⟩
 | tbl ps=>exact ⟨_,show h.get? a=some _ from x⟩
 | met f y=>exact ⟨_,show h.get? a=some _ from x⟩
 | ext φ=>exact x.2.1
noncomputable def CXE (P:Program) (w:Z0) (base:Heap):CXT:=λ outer H s E e s'=>∃(ea:Addr) (cls a0:Value) (B:Heap) (H':Hp),e=.ref ea/\s'.os=s.os/\L8 s'.gens/\Un (frs outer) [] H H' s.heap s'.heap/\HOk P w H' s'.heap/\H' ea=none/\
 base.StaysIn B/\Heap.FlyingW B outer ea cls a0 s'.heap/\(∀b o,s'.heap.get? b=some o->b∉frs outer->((∃u,H' b=some u)\/∃u,s.heap.get? b=some u)->B.get? b=some o)/\E cls none H'
theorem passN {X:Cx}:Passes (CXE X.prog X.w X.base) X E0:=λ _ _ _ _ _ _ _ ⟨_,_,_,_,_,_,_,_,_,_,_,_,_,_,z⟩=>z.elim
theorem zev {env:Env} {l:List Env} {L:Addr} (h:env.frame=some L):frs (env :: l)=L :: frs l:=by unfold frs;rw [G7,h]
section
variable {P:Program} {w:Z0} {K:o0} {mg:Str->Option Value} {base:Heap} {N:List Str} {qual:Str} {scope:Scope} {f:Addr} {cd:Value} {A:P2} {outer:List Env} {s:C0} {H:Hp} {E:XK}
theorem passE:Passes (CXE P w base) (cxOf (CXE P w base) P w K mg base N qual scope f cd A outer s H E) E:=by
 intro a6 σ Y y e r I c;obtain ⟨ea,a3,a0,B,x,rfl,os,a2,un,Z,Q,hB,fl,keep,hE⟩:=c;have U:frs (L4 qual scope s.heap.objs.size f cd :: outer)=s.heap.objs.size :: frs outer:=zev rfl;have V :∀b o,r.heap.get? b=some o->b∉s.heap.objs.size :: frs outer->((∃u,x b=some u)\/∃u,y.heap.get? b=some u)->B.get? b=some o:=λ b o e a D=>keep b o e (by rw [show frs (cxOf (CXE P w base) P w K mg base N qual scope f cd A outer s H E).stack=_ from U];exact a) D;have l:Un (s.heap.objs.size :: frs outer) [] Y x y.heap r.heap:=U ▸ un;have h:Un (frs outer) [] H Y s.heap y.heap:=I.base;have S :∀b o,s.heap.get? b=some o->b≠s.heap.objs.size:=λ b o e=>A1 (T0 e);have X :∀b∈s.heap.objs.size :: frs outer,x b=none:=λ b a=>by
  rcases List.mem_cons.mp a with rfl|a
  ·obtain ⟨m,Q,_⟩:=I.loc;obtain ⟨o,_,_,L,_⟩:=Q;exact l.free _ o L I.free (by simp)
  ·obtain ⟨_,o,L,_⟩:=I.ok.funs.mem a;obtain ⟨p,G⟩:=h.there b o L (by simp);exact l.free b p G (h.free b o L (I.ok.frf b a) (by simp)) (by simp)
 show U0 (G1 P w) _ («leaving» _ _) _ _ r;refine wpAny_leaves_onW I.ok.frames rfl fl λ F R up=>?_;have stay :∀b o,r.heap.get? b=some o->b∉s.heap.objs.size :: frs outer->((∃u,x b=some u)\/∃u,y.heap.get? b=some u)->F.get? b=some o:=λ b o e a D=>R.1 b o (V b o e a D);have W :∀b o,b∈frs outer->r.heap.get? b=some o->∃O,F.get? b=some { o with slots:=O }:=λ b o a e=>by
  obtain ⟨_,p,G,hd⟩:=fl.2.2.1.mem (show b∈(L4 qual scope s.heap.objs.size f cd :: outer).filterMap (·.frame) from by show b∈frs (L4 qual scope s.heap.objs.size f cd :: outer);rw [U];exact U1 _ a);rw [e] at G;cases G;exact up b o e hd
 have there :∀b o,s.heap.get? b=some o->∃k j,y.heap.get? b=some k/\r.heap.get? b=some j:=λ b o e=>by obtain ⟨k,d⟩:=h.there b o e (by simp);obtain ⟨j,i⟩:=l.there b k d (by simp);exact ⟨k,j,d,i⟩
 refine ⟨ea,a3,a0,B,x,rfl,os.trans I.os,a2,⟨λ b o e n a _=>?_,λ b o e n a _=>?_,λ b o e n _=>?_,λ b o e _=>?_,λ b xs e=>l.tups b xs (h.tups b xs e),λ b o u e=>l.frzs b o u (h.frzs b o u e),λ b ps e=>?_⟩,λ b u e=>?_,Q,hB,R,λ b o e a D=>?_,hE⟩
 ·have d:=h.keep b o e n a (by simp);have J:b∉s.heap.objs.size :: frs outer:=λ z=>(List.mem_cons.mp z).elim (S b o e) a;exact stay b o (l.keep b o d (h.free b o e n (by simp)) J (by simp)) J (.inr ⟨o,d⟩)
 ·obtain ⟨O,d⟩:=h.slot b o e n a (by simp);obtain ⟨a7,i⟩:=l.slot b _ d (h.free b o e n (by simp)) (U1 _ a) (by simp);obtain ⟨a4,T⟩:=W b _ a i;exact ⟨a4,T⟩
 ·obtain ⟨k,j,d,i⟩:=there b o e;exact l.free b k d (h.free b o e n (by simp)) (by simp)
 ·obtain ⟨k,j,d,i⟩:=there b o e;by_cases a:b∈frs outer
  ·obtain ⟨O,T⟩:=W b j a i;exact ⟨_,T⟩
  ·exact ⟨j,stay b j i (λ z=>(List.mem_cons.mp z).elim (S b o e) a) (.inr ⟨k,d⟩)⟩
 ·obtain ⟨m1,d⟩:=h.tbls b ps e;obtain ⟨m2,i⟩:=l.tbls b _ d;exact ⟨m1++m2,by rw [i,Array.append_assoc]⟩
 ·refine (Z b u e).stay (λ c v C q=>stay c v q ?_ (.inl ?_)) (λ _ q=>q) λ _ _ q=>q
  ·intro z;have:=X c z;rcases C with rfl|C
   ·rw [e] at this;cases this
   ·rw [C] at this;cases this
  ·rcases C with rfl|C
   ·exact ⟨u,e⟩
   ·exact ⟨_,C⟩
 ·have a1 :∀p,r.heap.get? b=some p->b∉s.heap.objs.size :: frs outer->((∃u,x b=some u)\/∃u,y.heap.get? b=some u)->B.get? b=some o:=λ p M J a5=>by have g:=V b p M J a5;have:=R.1 b p g;rw [show ({ r with heap:=F }:C0).heap.get? b=F.get? b from rfl,this] at e;cases e;exact g
  rcases D with ⟨u,t⟩|⟨u,t⟩
  ·obtain ⟨p,M⟩:=(Z b u t).there;refine a1 p M (λ z=>?_) (.inl ⟨u,t⟩);rw [X b z] at t;cases t
  ·obtain ⟨k,j,d,i⟩:=there b u t;exact a1 j i (λ z=>(List.mem_cons.mp z).elim (S b u t) a) (.inr ⟨k,d⟩)
theorem raiseE {pins:List (Addr×Obj)} {σ:St} {H1:Hp} {s1:C0} {h':Heap} {ea C:Addr} {args:List Value} (I:Inv (cxOf (CXE P w base) P w K mg base N qual scope f cd A outer s H E) pins σ H1 s1) (hx:Heap.MadeExcOf s1.heap h' ea (.ref C) args) (hE:E (.ref C) none H1) :
  (cxOf (CXE P w base) P w K mg base N qual scope f cd A outer s H E).xe (.ref ea) { s1 with heap:=h' }:=by
 have p:frs (L4 qual scope s.heap.objs.size f cd :: outer)=s.heap.objs.size :: frs outer:=zev rfl;have h:Un (frs outer) [] H H1 s.heap s1.heap:=I.base;have G :∀b o,s.heap.get? b=some o->b≠s.heap.objs.size:=λ b o e=>A1 (T0 e);have B:s1.heap.FunFrames base (L4 qual scope s.heap.objs.size f cd :: outer):=I.stack;have a0 :∀F∈(L4 qual scope s.heap.objs.size f cd :: outer),∀a,F.frame=some a->a∈s.heap.objs.size :: frs outer:=λ F S a ha=>by rw [<-p];exact List.mem_filterMap.mpr ⟨F,S,ha⟩
 have M :∀b∈s.heap.objs.size :: frs outer,H1 b=none:=λ b d=>by have:=I.stkFree b (by rw [show frs (cxOf (CXE P w base) P w K mg base N qual scope f cd A outer s H E).stack=_ from p];exact d);exact this
 have V:base.StaysIn (j04 s1.heap (s.heap.objs.size :: frs outer)):=λ b o e=>p7 _ (I.bk b o e) λ X=>by have:=(B.mem (show b∈(L4 qual scope s.heap.objs.size f cd :: outer).filterMap (·.frame) from (show b∈frs (L4 qual scope s.heap.objs.size f cd :: outer) from by rw [p];exact X))).1;rw [e] at this;cases this
 show U0 (G1 P w) _ («leaving» _ _) _ _ _;refine wpAny_leaves_madeW (s:={ s1 with heap:=h' }) I.ok.frames rfl (λ b o q=>j3f _ q) (PySem.W.funFrames_hide B a0) hx λ m t D _ _ U=>?_;have stay :∀b o,s1.heap.get? b=some o->b∉s.heap.objs.size :: frs outer->m.get? b=some o:=λ b o e d=>D.1 b o (p7 _ e d);have L :∀b o,b∈frs outer->s1.heap.get? b=some o->∃x,m.get? b=some { o with slots:=x }:=λ b o d e=>by
  obtain ⟨_,k,O,Y⟩:=B.mem (show b∈(L4 qual scope s.heap.objs.size f cd :: outer).filterMap (·.frame) from by show b∈frs (L4 qual scope s.heap.objs.size f cd :: outer);rw [p];exact U1 _ d);rw [e] at O;cases O;exact U b o (hx.keeps b o e) Y
 have R:H1 ea=none:=by
  cases q:H1 ea with
  | none=>rfl
  | some u=>obtain ⟨o,e⟩:=(I.hok ea u q).there;rw [hx.new] at e;cases e
 refine ⟨ea,.ref C,.ref t,_,H1,rfl,I.os,I.bare,⟨λ b o e n d _=>?_,λ b o e n d _=>?_,λ b o e n _=>h.free b o e n (by simp),λ b o e _=>?_,h.tups,h.frzs,h.tbls⟩,λ b u e=>?_,R,V,D,λ b o e d T=>?_,hE⟩
 ·exact stay b o (h.keep b o e n d (by simp)) λ z=>(List.mem_cons.mp z).elim (G b o e) d
 ·obtain ⟨x,j⟩:=h.slot b o e n d (by simp);obtain ⟨Z,y⟩:=L b _ d j;exact ⟨Z,y⟩
 ·obtain ⟨l,j⟩:=h.there b o e (by simp);by_cases d:b∈frs outer
  ·obtain ⟨x,y⟩:=L b l d j;exact ⟨_,y⟩
  ·exact ⟨l,stay b l j λ z=>(List.mem_cons.mp z).elim (G b o e) d⟩
 ·refine (I.hok b u e).stay (λ c v J q=>stay c v q λ z=>?_) (λ _ q=>q) λ _ _ q=>q;have:=M c z;rcases J with rfl|J
  ·rw [e] at this;cases this
  ·rw [J] at this;cases this
 ·have Q :∀k,s1.heap.get? b=some k->b∉s.heap.objs.size :: frs outer->(j04 s1.heap (s.heap.objs.size :: frs outer)).get? b=some o:=λ k r a1=>by have g:=p7 _ r a1;have:=D.1 b k g;rw [show ({ s1 with heap:=m }:C0).heap.get? b=m.get? b from rfl,this] at e;cases e;exact g
  rcases T with ⟨u,i⟩|⟨u,i⟩
  ·obtain ⟨k,r⟩:=(I.hok b u i).there;refine Q k r λ z=>?_;rw [M b z] at i;cases i
  ·obtain ⟨l,j⟩:=h.there b u i (by simp);exact Q l j λ z=>(List.mem_cons.mp z).elim (G b u i) d
end
theorem PS.nox {X:Cx} {st:Stmt} {t:TS} (h:PS X.nox st t):PS X st t:=λ b s σ H D I a=>A4 (h b s σ H D (I.wish _) a) (λ _ _ q=>q.unwish) λ _ _ z=>J4 z
theorem own_in {K:o0} {h₀:Heap} {mg:Str->Option Value} {x:Str} {C:Addr} {bmB:List Value} {newId:String} (X:K.In h₀) (hm:mg x=some (.ref C)) (q:j9 K C bmB newId=true):OwnCls x C bmB newId mg h₀:=by
 refine ⟨hm,?_⟩;unfold j9 at q;split at q
 ·rename_i dd cd sl ho;split at q
  ·rename_i C' bm k0 k1 k2 k3 n k5 hm' hs;simp only [Q4,beq_iff_eq,Bool.not_eq_true'] at q;obtain ⟨⟨⟨⟨⟨rfl,rfl⟩,b⟩,f⟩,a⟩,c⟩:=q;obtain ⟨i,bs,o,e,j,h,d,sub,g,k,m⟩:=cd;obtain ⟨l⟩:=sl;dsimp only at hm' b a c hs;subst hm' b hs;exact ⟨bm,e,i,j,bs,h,d,sub,g,k,dd,k0,k1,k2,k3,k5,_,X _ _ ho,.of_isNs (PySem.W.isNs_of_in X a),PySem.W.nsMap_none_of_in X a c,PySem.W.tail_of_in X f⟩
  ·cases q
 ·cases q
noncomputable def tRaise (C:Addr) (E:XK) (t:TA):TS:=λ _ σ H=>t σ H λ vs H1=>vs.length<=sizeLine/\E (.ref C) none H1
section
variable {P:Program} {w:Z0} {K:o0} {mg:Str->Option Value} {base:Heap} {N:List Str} {qual:Str} {scope:Scope} {f:Addr} {cd:Value} {A:P2} {outer:List Env} {s:C0} {H:Hp} {E:XK}
theorem z86 {x:Str} {C:Addr} {B newId initId:String} {bm:List Value} {e0:Expr} {es:List Expr} {np cpos pos:Pos} {t:TA} (FB:ExcBaseFacts B newId initId bm) (hm:mg x=some (.ref C)) (hK:j9 K C bm newId=true)
  (hg:Gl (cxOf (CXE P w base) P w K mg base N qual scope f cd A outer s H E) x) (ha:PA (cxOf (CXE P w base) P w K mg base N qual scope f cd A outer s H E) (e0 :: es) t)
  (hdb:(x == ("__debug__" : Str))=false:=by decide)
  (he:K1 (e0 :: es) (L4 qual scope s.heap.objs.size f cd)=(false,V3 e0 (L4 qual scope s.heap.objs.size f cd)) :: K1 es (L4 qual scope s.heap.objs.size f cd):=by rfl)
  (hpl:(P4 cpos (K1 es (L4 qual scope s.heap.objs.size f cd))).any (·.1)=false:=by rfl) :
  PS (cxOf (CXE P w base) P w K mg base N qual scope f cd A outer s H E) (.Raise (some (.Call (.Name x np) (e0 :: es) [] cpos)) none pos) (tRaise C E t):=by
 intro d g σ e D I h;have O:OwnCls x C bm newId mg base:=own_in I.ok.mod.kin hm hK;obtain ⟨i,l,nm,q,bs,hdct,sn,sub,ab,col,dd,k0,k1,k2,k3,k5,mN,c,b,j,T⟩:=O.obj;have a:=ha cpos d g σ e _ I h;refine wpAny_Raise_call_subT (C:=C) (nm:=nm) (q:=q) (N:=l) (bs:=bs) (bm:=i) (hdct:=hdct) (sn:=sn) (sub:=sub) (ab:=ab) (col:=col) (dd:=dd) (k0:=k0) (k1:=k1) (k2:=k2) (k3:=k3) (k5:=k5)
  FB (mN:=mN) (T.hasType FB.hasBase) (I.ok.hd rfl) (by show (P4 cpos (K1 (e0 :: es) (L4 qual scope s.heap.objs.size f cd))).any (·.1)=false;rw [he];show (false || (P4 cpos (K1 es (L4 qual scope s.heap.objs.size f cd))).any (·.1))=false;rw [hpl];rfl) j (zc2 I hg O.bound ⟨rfl,?_⟩ hdb)
 have k:K1 (e0 :: es) (cxOf (CXE P w base) P w K mg base N qual scope f cd A outer s H E).env=(false,V3 e0 (L4 qual scope s.heap.objs.size f cd)) :: K1 es (L4 qual scope s.heap.objs.size f cd):=he;rw [k] at a⊢;exact d9 (A4 a (λ o m ⟨vs,H2,I2,r,hl,hE⟩=>⟨rfl,by rw [<-r.length];exact hl,I2.bk _ _ c,b.keeps I2.bk,T.keeps I2.bk,λ n p hm=>raiseE I2 hm hE⟩) λ _ _ y=>y)
theorem Fun.okE {x qual:Str} {st:Stmt} {f:Addr} {fd:FuncData} {N ps:List Str} {k:Nat} {sp:Sp} (F:Fun K x qual st f fd) (S:FnScope N ps (z07 st)) (len :∀vs H Q E,sp vs H Q E->vs.length=ps.length)
  (hbody :∀(cdv:Value) (A:P2) (outer:List Env) (s:C0) (H:Hp) (vs:List V) (Q:VK) (E:XK),Room k (A.deeper (L4 qual (z07 st) s.heap.objs.size f cdv))->sp vs H Q E->
   ∃t,PSs (cxOf (CXE P w base) P w K mg base N qual (z07 st) f cdv A outer s H E) (z6l st) t/\t { nx:=λ _ H'=>Q .non H',rt:=Q } (start N vs) H):FnOk P w K mg base (CXE P w base) (k + 1) f fd ps sp:=by
 obtain ⟨j,g,kV,l,h,i,cdv,m,e,rfl,a,d⟩:=F.ex;exact fn_of a d S len λ A outer s H vs Q E b c=>hbody cdv A outer s H vs Q E b c
end
structure CalE (P:Program) (w:Z0) (K:o0) (mg:Str->Option Value) (base:Heap) (x:Str) (ps:List Str) (k:Nat) (sp:Sp):Prop where
 ex :∃f fd,FnOk P w K mg base (CXE P w base) k f fd ps sp/\mg x=some (.ref f)/\a5 K (.ref f)=true/\Binds K fd ps []
section
variable {X:Cx} {x:Str} {ps:List Str} {k:Nat} {sp:Sp} {e:Expr} {es:List Expr} {t:TA} {p pos:Pos}
theorem zbz (c:CalE X.prog X.w X.K X.mg X.base x ps k sp) (hr:Room k X.A) (hg:Gl X x) (ha:PA X (e :: es) t) (hn:x≠"__name__":=by decide) (hdb:(x == ("__debug__" : Str))=false:=by decide)
  (he:K1 (e :: es) X.env=(false,V3 e X.env) :: K1 es X.env:=by rfl) (hpl:(P4 pos (K1 es X.env)).any (·.1)=false:=by rfl):PE X (.Call (.Name x p) (e :: es) [] pos) (tCall sp [] E0 t):=by
 obtain ⟨f,g,F,a,d,b⟩:=c.ex;exact ze2 F hr hg a d b .nil passN ha hdb he hpl
theorem zk9 {E:XK} (hx:Passes (CXE X.prog X.w X.base) X E) (c:CalE X.prog X.w X.K X.mg X.base x ps k sp) (hr:Room k X.A) (hg:Gl X x) (ha:PA X (e :: es) t) (hn:x≠"__name__":=by decide) (hdb:(x == ("__debug__" : Str))=false:=by decide)
  (he:K1 (e :: es) X.env=(false,V3 e X.env) :: K1 es X.env:=by rfl) (hpl:(P4 pos (K1 es X.env)).any (·.1)=false:=by rfl):PE X (.Call (.Name x p) (e :: es) [] pos) (tCall sp [] E t):=by
 obtain ⟨f,g,F,a,d,b⟩:=c.ex;exact ze2 F hr hg a d b .nil hx ha hdb he hpl
end
end L2
set_option maxHeartbeats 400000
namespace L2
open PySem PySem.Spec PyProof.Rows PySem.W PySem.Calls PySem.Builtin PySem.Builtin.ObjectAttr PySem.Builtin.Getset_descriptor
end L2
namespace L2
open PySem PySem.Spec PyProof.Rows PySem.W
end L2
namespace L2
open PySem PySem.Spec PyProof.Rows
end L2
set_option maxHeartbeats 4000000
namespace L2
open PySem PySem.Spec PyProof.Rows
noncomputable def cStG (σ:St) (fr:List (Nat×Str)) (us:List (Option V)):St:=us++fr.map λ p=>(σ[p.1]?).join
noncomputable def tCompG (wi:TI) (n:Nat) (fr:List (Nat×Str)) (g:TG) (tc:TT) (te:TE):TE:=λ σ H Q=>wi σ H λ J H1=>∃W:Nat->Nat->List V->Hp->Prop,(∃m,W 0 m [] H1)/\∀i m ys H,W i m ys H->
 (J.stop i H/\ys.length<=sizeLine/\∀p,H p=none->Q (.ref p) (upd H p (.lst ys)))\/
 (J.go i H/\ys.length<=sizeLine/\∀v H',J.yld i H v H'->g v (cStG σ fr (P0 n none)) H' λ σ6 H6=>∃us,us.length=n/\σ6=cStG σ fr us/\tc (cStG σ fr us) H6 λ b H2=>if b=true then te (cStG σ fr us) H2 λ y H3=>∃m',m' < m/\W (i + 1) m' (ys++[y]) H3 else∃m',m' < m/\W (i + 1) m' ys H2)
section
variable {X:Cx}
theorem zix {scope:Scope} {cl:List (Str×Addr)} {N:List Str} {C:Addr} {s₂:C0} {H₂:Hp} {fp:List Addr} {x:Str} {px:Pos} (i:Nat) (hN:N.Nodup) (hi:N[i]? = some x) (hx:scope.names.lookup x=some .local):PG (cxComp X scope cl N C s₂ H₂ fp) (.Name x px) (gName i):=
 z0m hN hi (.inl (lookup_relabel_local hx)) (.inr (lookup_relabel_local hx))
theorem zdt {xs:List Str} {tg:Expr} {g:TG} {pos:Pos} {elt iter:Expr} {ifs:List Expr} {scope:Scope} {fr:List (Nat×Str)} {wi:TI} {tc:TT} {te:TE} {use:Option (Value->Sem Unit)} {QQ:Value->C0->Prop} {pins:List (Addr×Obj)} {s:C0} {σ:St} {H:Hp} {Q:VK} {pp:Pos} (hcalm:X.calm=true) (hi:PI X tg iter wi)
  (hfr :∀p∈fr,X.N[p.1]? = some p.2/\(X.env.kindOf p.2=some .cell\/X.env.kindOf p.2=some .free))
  (hfree :∀y∈scope.names,y.2=K2->X.env.kindOf y.1=some .cell\/X.env.kindOf y.1=some .free)
  (hfs :∀p∈fr,(p.2,K2)∈scope.names/\((F8 scope X.env).names.lookup p.2=some .cell\/(F8 scope X.env).names.lookup p.2=some .free))
  (hcell :∀y∈scope.names,y.2≠NameKind.cell) (hkind:scope.kind=.function) (hnames :∀y∈scope.names,y.2=NameKind.local->scope.names.lookup y.1=some .local)
  (hg :∀cl C s₂ H₂ fp,PG (cxComp X scope cl (xs++fr.map (·.2)) C s₂ H₂ fp) tg g)
  (ht :∀cl C s₂ H₂ fp,PF (cxComp X scope cl (xs++fr.map (·.2)) C s₂ H₂ fp) ifs tc) (he :∀cl C s₂ H₂ fp,PE (cxComp X scope cl (xs++fr.map (·.2)) C s₂ H₂ fp) elt te)
  (hs :∀x,z6 iter X.env x=b4 x) (I:Inv X pins σ H s) (h:tCompG wi xs.length fr g tc te σ H Q)
  (hend :∀(D:Addr) (s4:C0) (H4:Hp),Inv X pins σ H4 s4->(∃m,s4.heap.Ns (D + 1) m)->H4 (D + 1)=none->D + 1≠X.env.locals->X.s₀.heap.objs.size<=D + 1->(D + 1∉X.fs/\(∀x c,X.env.cells.lookup x=some c->c≠D + 1)/\∀p∈X.pn++pins,p.1≠D + 1)->Q (.ref D) H4->compPost (G1 X.prog X.w) X.A X.xe use QQ (.ref D) (D + 1) (.ok .next) s4) :
  U0 (G1 X.prog X.w) X.A (comprehension (.ListComp elt [⟨tg,iter,ifs,0⟩] scope pos) scope X.env pp (newList []) false (firstIter [⟨tg,iter,ifs,0⟩] X.env) use) QQ X.xe s:=by
 obtain ⟨cl,d9,U,b9⟩:=zf5 (scope:=scope) (env:=X.env) λ y S hk=>I.ok.has y.1 (hfree y S hk);refine wpAny_comprehension_free (use:=use) rfl hs d9 hkind hnames (thn (hi pins s σ H _ I h) λ xv s₁ h₁=>thn h₁ λ g1 s₂ h₂=>?_);obtain ⟨it,fp,tn,J,O,e,f,T,b5,M,W,⟨m0,w0⟩,e0⟩:=h₂;subst e
 -- the list that is filled,the block's names
 refine y6 (wpAny_newFunctionEnv hcell (by intro y S;simp at S) (λ h₁ a3 a0=>?_) hkind);dsimp only at a3 a0⊢;generalize hD:s₂.heap.objs.size=D at a3 a0⊢;generalize hG:s₂.heap.push { cls:=.type "list",dict:=none,data:=.seq ([]:List Value).toArray }=G at a3 a0⊢;have hC:G.objs.size=D + 1:=by rw [<-hG,R6,hD]
 generalize hCC:G.objs.size=C at a3 a0 hC⊢;subst hC;have a9 :∀b∈fp,b < D:=λ b a=>by obtain ⟨o,e,_⟩:=T.obj _ _ b5 b a;rw [<-hD];exact T0 e
 have a2 :∀b o,s₂.heap.get? b=some o->h₁.get? b=some o:=λ b o e=>a0.extBut b o (A1 (V2 (by rw [<-hD];exact T0 e))) (J0 _ (hG ▸ J0 _ e));have e4:G.get? D=some { cls:=.type "list",dict:=none,data:=.seq ([]:List Value).toArray }:=by rw [<-hG,<-hD];exact C1 _ rfl
 have e7:h₁.PlainList D #[]:=⟨0,a0.extBut _ _ (A1 (J3 D)) (J0 _ e4)⟩
 have f6 :∀y c,cl.lookup y=some c->c < D:=λ y c e=>by obtain ⟨v,q⟩:=f.cell y c (U y c e);rw [<-hD];exact q.lt
 have f7 :∀b∈frs X.stack,b < D:=λ b a=>by
  rcases List.mem_cons.mp (f.stkSub b a) with e|a
  ·rw [e,<-hD];exact f.lt
  ·rw [<-hD];exact Nat.lt_of_not_le λ z=>f.nofs z a
 have d2 :∀b∈fp,b∉frs X.stack:=λ b a e5=>by
  rcases List.mem_cons.mp (f.stkSub b e5) with e|z
  ·exact (M b a).2.1 e
  ·exact (M b a).2.2.1 z
 generalize hX':cxComp X scope cl (xs++fr.map (·.2)) (D + 1) s₂ O fp=X';have f3:X'.Ok:=by
  subst hX';refine ⟨f.ok.mod,hkind,f.ok.glob,f.ok.blt,(by show s₂.heap.objs.size<=D + 1;omega),λ y z c P L=>f.ok.inj y z c (U _ _ P) (U _ _ L),λ y S=>?_,(λ _ _ z=>Bool.noConfusion z),f.ok.hd,f.ok.frames,.inl rfl,λ b a=>⟨?_,λ y c e=>?_⟩,λ b o e=>f.bs b o e,?_,λ b o e a=>?_,d2,f.env0.funs,f.stkFree⟩
  ·rcases S with S|S
   ·exact b9 y (z6u hcell S (.inl rfl))
   ·exact b9 y (z6u hcell S (.inr rfl))
  ·exact A1 (V2 (a9 b a))
  ·exact (M b a).2.2.2.2.1 y c (U y c e)
  ·exact N0 f.ok.bsz f.sz
  ·rcases (M b a).2.2.2.1 with z|z
   ·exact f.ok.noex b o e z
   ·exact absurd (N2 (T0 (f.ok.bs b o e).1) z) (C4 _)
 have Z:X'.env.locals=D + 1:=by subst hX';rfl
 have a5:X'.env.cells=cl:=by subst hX';rfl
 have b0:X'.fs=frs X.stack:=by subst hX';rfl
 have b8:X'.pn=[]:=by subst hX';rfl
 have a4:X'.s₀=s₂:=by subst hX';rfl
 have c2:X'.H₀=O:=by subst hX';rfl
 have c0:X'.ex=fp:=by subst hX';rfl
 have c5:X'.N=xs++fr.map (·.2):=by subst hX';rfl
 have c3:X'.A=X.A:=by subst hX';rfl
 have E:X'.prog=X.prog/\X'.w=X.w/\X'.K=X.K/\X'.calm=true:=by subst hX';exact ⟨rfl,rfl,rfl,hcalm⟩
 have b1:X'.xe=λ _ _=>False:=by subst hX';rfl
 have c8:X'.env=compEnvC scope cl (D + 1) X.env:=by subst hX';rfl
 have g0:PF X' ifs tc:=hX' ▸ ht cl (D + 1) s₂ O fp;have f1:PE X' elt te:=hX' ▸ he cl (D + 1) s₂ O fp;have e8:PG X' tg g:=hX' ▸ hg cl (D + 1) s₂ O fp;have fresh :∀b,D<=b->O b=none:=λ b a=>f.hok.fresh (by rw [hD];exact a);have start :∀t,Inv X' [] (cStG σ fr (P0 xs.length none)) O { s₂ with heap:=h₁,toks:=t }:=λ t=>by
  refine ⟨f3,by rw [a4],f.bare,?_,⟨_,by rw [Z];exact a3,λ i y v P L e3=>?_⟩,λ y c e=>?_,by rw [Z];exact fresh _ (F3 _),λ y c e=>?_,λ p B=>?_,?_,?_⟩
  ·rw [b0,c0,c2,a4];exact Un.kept a2
  ·rw [c5] at P;by_cases a1:i < xs.length
   ·exfalso;unfold cStG at L;rw [J1 (by rw [G2];exact a1),P6,if_pos a1] at L;cases L
   ·have a1:xs.length<=i:=j0f a1;rw [D1 a1,S0] at P;unfold cStG at L;rw [D1 (by rw [G2];exact a1),G2,S0] at L;generalize i - xs.length=i at P L;cases ej:fr[i]? with
    | none=>rw [ej] at P;cases P
    | some p=>
     rw [ej] at P;obtain rfl:p.2=y:=T2 P;have a7:(σ[p.1]?).join=some v:=by rw [ej] at L;exact T2 L
     have f5:σ[p.1]? = some (some v):=by
      cases q:σ[p.1]? with
      | none=>rw [q] at a7;cases a7
      | some z=>rw [q] at a7;exact congrArg some a7
     have B:=B1 ej;obtain ⟨m,hn,hl⟩:=f.loc;obtain ⟨u,r,l⟩:=hl p.1 p.2 v (hfr p B).1 f5 (by rcases (hfr p B).2 with z|z;exact .inr (.inl z);exact .inr (.inr z));refine ⟨u,r,.inr ⟨?_,?_⟩⟩
     ·rw [c8];exact (hfs p B).2
     ·rcases l with ⟨z,_⟩|⟨_,c,ec,q⟩
      ·exfalso;rcases (hfr p B).2 with z'|z'<;>(rw [z] at z';cases z')
      ·obtain ⟨c',d0⟩:=b9 p.2 (hfs p B).1;have:=U _ _ d0;rw [ec] at this;cases this;obtain ⟨o,ho,hd⟩:=q;exact ⟨c,by rw [a5];exact d0,o,a2 _ _ ho,hd⟩
  ·rw [a5] at e;obtain ⟨v,o,ho,hd⟩:=f.cell y c (U y c e);exact ⟨v,o,a2 _ _ ho,hd⟩
  ·rw [a5] at e;exact f.freeC y c (U y c e)
  ·rw [b8] at B;exact nomatch B
  ·rw [E.1,E.2.1];exact f.hok.kept a2
  ·rw [c5];unfold cStG;simp
 have FP :∀{pins':List (Addr×Obj)} {H':Hp},(∀b∈fp,H' b=none)->(∀p∈pins',p.1=D)->∀b∈fp,FpOk X' pins' H' b:=λ hn B b a=>by
  refine ⟨hn b a,?_,?_,.inl (by rw [c0];exact a),λ y c e=>?_,λ p c9=>?_⟩
  ·rw [Z];exact A1 (V2 (a9 b a))
  ·rw [b0];exact d2 b a
  ·rw [a5] at e;exact (M b a).2.2.2.2.1 y c (U y c e)
  ·rw [b8] at c9;rw [B p c9];exact u4 (a9 b a)
 -- the turns
 have loop :∀s₃:C0,s₃={ s₂ with heap:=h₁,toks:=s₂.toks + ([]:List (Str×Value)).length }->
   D5 (G1 X.prog X.w) X.A (.compLoop (.ListComp elt [⟨tg,iter,ifs,0⟩] scope pos) 0 (.ref it) (.ref D) (compEnvC scope cl (D + 1) X.env))
    (compPost (G1 X.prog X.w) X.A X.xe use QQ (.ref D) (D + 1)) s₃:=by
  rintro s₃ rfl;rw [<-c8,<-E.1,<-E.2.1,<-c3];refine zhi (λ k s'=>∃i ys its H',Inv X' [] (cStG σ fr (P0 xs.length none)) H' s'/\tn i s'.heap/\(∀b∈fp,H' b=none)/\s'.heap.PlainList D its.toArray/\Vals ys its/\H' D=none/\W i k ys H') ?_ m0
   ⟨0,[],[],O,start _,T.keep _ _ _ b5 λ b a o e=>a2 b o e,λ b a=>(M b a).1,e7,.nil,fresh _ (K0 _),w0⟩
  rintro n s3 ⟨i,ys,its,H3,I3,st3,fr3,ac3,rv3,hD3,w3⟩;obtain ⟨na,f8⟩:=id ac3;have c6:Inv X' [(D,{ cls:=.type "list",data:=.seq its.toArray na })] (cStG σ fr (P0 xs.length none)) H3 s3:=I3.pins_of λ p B=>by rw [List.mem_singleton] at B;subst B;refine ⟨f8,hD3,by rw [Z];exact A1 (J3 D),by rw [b0];exact λ z=>C4 _ (f7 D z),λ v z=>nomatch z⟩
  have hT:=T;rw [<-E.1,<-E.2.1,<-E.2.2.1] at hT;rcases e0 i n ys H3 w3 with ⟨stop,b2,qn⟩|⟨go,b2,step⟩
  ·refine thn (hT.done X' rfl rfl rfl E.2.2.2 i _ s3 _ H3 _ c6 (FP fr3 (by intro p B;rw [List.mem_singleton.mp B])) st3 stop) λ r s4 ⟨hr,I4⟩=>?_;subst hr;obtain ⟨m4,f0,_⟩:=id I4.loc;obtain ⟨Y,d1⟩ :∃Y,Y=s4.heap:=⟨_,rfl⟩
   have c1:S6 (D + 1) s4.heap Y:=by rw [d1];exact ⟨rfl,λ _ _=>rfl⟩
   have d5:D≠D + 1:=A1 (J3 D);have d8:=(I4.pin (D,_) (Q1 _ W1))
   have f4:Y.get? D=some { cls:=.type "list",data:=.seq its.toArray na }:=(c1.2 D d5).trans d8.1;have un:Un (frs X.stack) fp O H3 s₂.heap s4.heap:=by have:=I4.base;rw [b0,c0,c2,a4] at this;exact this
   have kp :∀b o,b≠D + 1->s4.heap.get? b=some o->Y.get? b=some o:=λ b o a e=>(c1.2 b a).trans e;have a6 :∀b o,s₂.heap.get? b=some o->b≠D + 1/\b≠D:=λ b o e=>by have:=T0 e;rw [hD] at this;exact ⟨A1 (V2 this),A1 this⟩
   have d7:Un (frs X.stack) fp O (upd H3 D (.lst ys)) s₂.heap Y:=by
    refine ⟨λ b o e n a hx=>kp b o (a6 b o e).1 (un.keep b o e n a hx),λ b o e n a hx=>?_,λ b o e n hx=>by rw [upd_ne (a6 b o e).2];exact un.free b o e n hx,λ b o e hx=>?_,λ b xs e=>?_,λ b o u e=>?_,λ b ps e=>?_⟩
    ·obtain ⟨sl,z⟩:=un.slot b o e n a hx;exact ⟨sl,kp _ _ (a6 b o e).1 z⟩
    ·obtain ⟨o',z⟩:=un.there b o e hx;exact ⟨o',kp _ _ (a6 b o e).1 z⟩
    ·rw [upd_ne (z0p e (fresh D (K0 _)))];exact un.tups b xs e
    ·rw [upd_ne (z0p e (fresh D (K0 _)))];exact un.frzs b o u e
    ·rw [upd_ne (z0p e (fresh D (K0 _)))];exact un.tbls b ps e
   have b7:H3 (D + 1)=none:=by have:=I4.free;rw [Z] at this;exact this
   have d4:HOk X.prog X.w (upd H3 D (.lst ys)) Y:=λ b u e=>by
    by_cases a:b=D
    ·subst a;rw [z04] at e;cases e;exact ⟨b2,its,na,rv3,f4⟩
    ·rw [upd_ne a] at e;have z:=I4.hok b u e;rw [E.1,E.2.1] at z;refine z.stay (λ c v hc q=>kp c v ?_ q) (λ c q=>by rw [upd_ne (z0p q hD3)];exact q) λ c xs q=>by rw [upd_ne (z0p q hD3)];exact q
     rintro rfl;rcases hc with rfl|hc
     ·rw [b7] at e;cases e
     ·rw [b7] at hc;cases hc
   subst d1;have I5:Inv X pins σ (upd H3 D (.lst ys)) s4:=f.call' (s':=s4) (ch:=fp) (by have:=I4.os;rw [a4] at this;exact this) d7 d4 I4.bare (λ b a=>⟨(M b a).2.2.2.1,(M b a).2.1,(M b a).2.2.2.2.1,(M b a).2.2.2.2.2⟩);show compPost (G1 X'.prog X'.w) X'.A X.xe use QQ (.ref D) (D + 1) (.ok .next) s4;rw [E.1,E.2.1,c3];refine hend D s4 _ I5 ⟨m4,Z ▸ f0⟩ ?_ ?_ ?_ ?_ (qn D hD3)
   ·rw [upd_ne (u4 (J3 D))];exact b7
   ·exact u4 (V2 (by rw [<-hD];exact f.lt))
   ·exact N0 f.sz (by rw [hD];exact F3 D)
   ·refine ⟨λ z=>f.nofs (by rw [hD];exact F3 D) z,λ y c e=>?_,λ p B=>?_⟩
    ·obtain ⟨v,q⟩:=f.cell y c e;exact A1 (V2 (by rw [<-hD];exact q.lt))
    ·exact A1 (V2 (by rw [<-hD];exact T0 (f.pin p B).1))
  ·refine thn (hT.item X' rfl rfl rfl E.2.2.2 i _ s3 _ H3 _ c6 (FP fr3 (by intro p B;rw [List.mem_singleton.mp B])) st3 go) λ r s4 ⟨u,hr,h4⟩=>?_;subst hr;refine thn h4 λ _ s5 ⟨v,H5,I5,r5,y5,st5,fr5⟩=>?_;have d6:=I5.pinned (FP fr5 (by intro p B;rw [List.mem_singleton.mp B])) (T.obj _ _ st5);have g5:=e8 _ s5 (cStG σ fr (P0 xs.length none)) H5 v u _ d6 r5 (step v H5 y5);rw [b1] at g5;refine thn g5 λ _ s6 ⟨σ6,H6,I6,us,hus,e6,q6⟩=>?_;subst e6;have t6:=g0 _ s6 _ H6 _ I6 q6;rw [b1] at t6;refine thn t6 λ ok s7 ⟨H7,I7,q7⟩=>?_;have c4 :∀{H8:Hp} {F:C0} {ys':List V} {its':List Value} {pl:List (Addr×Obj)},Inv X' (pl++pinsAt fp s5.heap) (cStG σ fr us) H8 F->F.heap.PlainList D its'.toArray->Vals ys' its'->H8 D=none->(∃m',m' < n/\W (i + 1) m' ys' H8)->
     ∃m,m < n/\∃i ys its H',Inv X' [] (cStG σ fr (P0 xs.length none)) H' F/\tn i F.heap/\(∀b∈fp,H' b=none)/\F.heap.PlainList D its.toArray/\Vals ys its/\H' D=none/\W i m ys H':=λ {H8 F ys' its' pl} R b3 rv8 a8 ⟨m',hm,w8⟩=>by
    refine ⟨m',hm,i + 1,ys',its',H8,(R.pins_of (pins':=[]) (λ p B=>absurd B L0)).weak (by unfold cStG;simp [hus]) ?_,T.keep _ _ _ st5 λ b a o e=>(R.pin (b,o) (Q1 _ (Q1 _ (z4h a e)))).1,λ b a=>?_,b3,rv8,a8,w8⟩
    ·intro j z e;unfold cStG at e⊢;by_cases hj:j < xs.length
     ·rw [J1 (by rw [G2];exact hj),P6,if_pos hj] at e;cases e
     ·have hj:xs.length<=j:=j0f hj;rw [D1 (by rw [G2];exact hj),G2] at e;rw [D1 (by rw [hus];exact hj),hus];exact e
    ·obtain ⟨o,e,d⟩:=T.obj _ _ st5 b a;exact (R.pin (b,o) (Q1 _ (Q1 _ (z4h a e)))).2.1
   have b6 :∀{H8:Hp} {F:C0} {σ8:St},Inv X' ([(D,{ cls:=.type "list",data:=.seq its.toArray na })]++pinsAt fp s5.heap) σ8 H8 F->F.heap.PlainList D its.toArray/\H8 D=none:=λ R=>
    have z:=R.pin (D,_) (Q1 _ (v7 _ W1))
    ⟨⟨na,z.1⟩,z.2.1⟩
   cases ok with
   | false=>rw [if_neg E1] at q7⊢;exact c4 I7 (b6 I7).1 rv3 (b6 I7).2 q7
   | true=>
    rw [if_pos rfl] at q7⊢;have t7:=f1 _ s7 _ H7 _ I7 q7;rw [b1] at t7;refine thn t7 λ y F ⟨vy,H8,R,r8,q8⟩=>?_;obtain ⟨b3,a8⟩:=b6 R;refine wpAny_list_append_plain (hsz:=by have:=rv3.length;rw [V0,<-this];exact b2) b3 λ h9 c7 d3=>?_;have I9:Inv X' ([]++pinsAt fp s5.heap) (cStG σ fr us) H8 F:=R.pins_of λ p B=>(R.pin p (Q1 _ (Q1 _ B)))
    have f9:Inv X' ([]++pinsAt fp s5.heap) (cStG σ fr us) H8 { F with heap:=h9 }:=by
     refine I9.turned (t':=F.toks) (it:=D) (λ b o a e=>(d3.2 b a).trans e) a8 (by rw [Z];exact A1 (J3 D)) (.inr (by rw [a4,hD];exact K0 _)) (λ y' c e=>?_) λ p B=>?_
     ·rw [a5] at e;exact A1 (f6 y' c e)
     ·rw [b8] at B;exact A1 (a9 _ (zbo B).1)
    have e9:its.toArray.push y=(its++[y]).toArray:=by simp
    rw [e9] at c7;exact c4 f9 c7 (rv3.snoc r8) a8 q8
 exact codeAny_compStart_list (loop _ rfl) (T.self _ 0 _ _ _ (T.keep _ _ _ b5 λ b a o e=>a2 b o e) (loop _ rfl))
theorem zec {xs:List Str} {tg:Expr} {g:TG} {pos:Pos} {elt iter:Expr} {ifs:List Expr} {scope:Scope} {fr:List (Nat×Str)} {wi:TI} {tc:TT} {te:TE} (hcalm:X.calm=true) (hi:PI X tg iter wi)
  (hfr :∀p∈fr,X.N[p.1]? = some p.2/\(X.env.kindOf p.2=some .cell\/X.env.kindOf p.2=some .free))
  (hfree :∀y∈scope.names,y.2=K2->X.env.kindOf y.1=some .cell\/X.env.kindOf y.1=some .free)
  (hfs :∀p∈fr,(p.2,K2)∈scope.names/\((F8 scope X.env).names.lookup p.2=some .cell\/(F8 scope X.env).names.lookup p.2=some .free))
  (hcell :∀y∈scope.names,y.2≠NameKind.cell) (hkind:scope.kind=.function) (hnames :∀y∈scope.names,y.2=NameKind.local->scope.names.lookup y.1=some .local)
  (hg :∀cl C s₂ H₂ fp,PG (cxComp X scope cl (xs++fr.map (·.2)) C s₂ H₂ fp) tg g)
  (ht :∀cl C s₂ H₂ fp,PF (cxComp X scope cl (xs++fr.map (·.2)) C s₂ H₂ fp) ifs tc) (he :∀cl C s₂ H₂ fp,PE (cxComp X scope cl (xs++fr.map (·.2)) C s₂ H₂ fp) elt te)
  (hs :∀x,z6 iter X.env x=b4 x:=by intro _;rfl):PE X (.ListComp elt [⟨tg,iter,ifs,0⟩] scope pos) (tCompG wi xs.length fr g tc te):=by
 intro t s σ H Q I h;rw [eval_ListComp];refine zdt hcalm hi hfr hfree hfs hcell hkind hnames hg ht he hs I h λ D i d f a j k n ⟨c,hc,hp⟩ q=>?_;obtain ⟨m,a⟩:=a;exact ⟨m,a,λ r l=>⟨.ref D,d,f.turned (t':=i.toks) (it:=D + 1) (λ b o c e=>(l.2 b c).trans e) j k (.inr n) hc hp,rfl,q⟩⟩
theorem zbu {xs:List Str} {tg:Expr} {g:TG} {pos:Pos} {elt iter:Expr} {ifs:List Expr} {scope:Scope} {fr:List (Nat×Str)} {wi:TI} {tc:TT} {te:TE} {i:Nat} {y:Str} {py spos:Pos} (hNy:X.N.Nodup) (hiy:X.N[i]? = some y) (hy:Loc X.env.scope y) (hcalm:X.calm=true) (hi:PI X tg iter wi)
  (hfr :∀p∈fr,X.N[p.1]? = some p.2/\(X.env.kindOf p.2=some .cell\/X.env.kindOf p.2=some .free))
  (hfree :∀y∈scope.names,y.2=K2->X.env.kindOf y.1=some .cell\/X.env.kindOf y.1=some .free)
  (hfs :∀p∈fr,(p.2,K2)∈scope.names/\((F8 scope X.env).names.lookup p.2=some .cell\/(F8 scope X.env).names.lookup p.2=some .free))
  (hcell :∀y∈scope.names,y.2≠NameKind.cell) (hkind:scope.kind=.function) (hnames :∀y∈scope.names,y.2=NameKind.local->scope.names.lookup y.1=some .local)
  (hg :∀cl C s₂ H₂ fp,PG (cxComp X scope cl (xs++fr.map (·.2)) C s₂ H₂ fp) tg g)
  (ht :∀cl C s₂ H₂ fp,PF (cxComp X scope cl (xs++fr.map (·.2)) C s₂ H₂ fp) ifs tc) (he :∀cl C s₂ H₂ fp,PE (cxComp X scope cl (xs++fr.map (·.2)) C s₂ H₂ fp) elt te)
  (hs :∀x,z6 iter X.env x=b4 x:=by intro _;rfl) (hw:Z8 (.ListComp elt [⟨tg,iter,ifs,0⟩] scope pos) (some (.Name y py)) spos.line X.env=b4 true:=by rfl) (hf:X.fn y=true\/X.env.scope.names.lookup y=some .local:=by first|exact .inl rfl|exact .inr rfl|assumption) :
  PS X (.Assign [.Name y py] (.ListComp elt [⟨tg,iter,ifs,0⟩] scope pos) spos) (tAsg (tCompG wi xs.length fr g tc te) (gName i)):=by
 intro r s σ H D I h;rw [exec_Assign_Name_used y py _ spos hw];refine v0 (j08 (v0 ?_));show U0 _ _ (do let _ <-comprehension (.ListComp elt [⟨tg,iter,ifs,0⟩] scope pos) scope X.env (firstIterPos [⟨tg,iter,ifs,0⟩] pos) (newList []) (firstAsync [⟨tg,iter,ifs,0⟩]) (firstIter [⟨tg,iter,ifs,0⟩] X.env) (some (assign (.Name y py) X.env));b4 ()) _ _ _;refine v0 (zdt hcalm hi hfr hfree hfs hcell hkind hnames hg ht he hs I h λ A k f j d L l B ⟨c,hc,hp⟩ q=>?_);obtain ⟨m,d⟩:=d;obtain ⟨o,w,E,M,t,K,F⟩:=d;have O:Inv X ((A + 1,o) :: r) σ f k:=j.pins_of λ p a=>by
  rcases List.mem_cons.mp a with rfl|a
  ·exact ⟨M,L,l,c,λ v z=>by rw [t] at z;cases z⟩
  ·exact j.pin p (Q1 _ a)
 refine thn (z0m (pos:=py) hNy hiy hy hf _ k σ f (.ref A) (.ref A) D.nx O rfl q) λ _ n ⟨σ5,H5,I6,q6⟩=>?_;have u:=I6.pin (A + 1,o) (Q1 _ W1);have G:Inv X r σ5 H5 n:=I6.pins_of λ p a=>I6.pin p (Q1 _ (U1 _ a));refine ⟨m,⟨o,w,E,u.1,t,K,F⟩,λ P J=>?_⟩;exact F0 (F0 ⟨σ5,H5,G.turned (t':=n.toks) (it:=A + 1) (λ b o c e=>(J.2 b c).trans e) u.2.1 l (.inr B) hc hp,q6⟩)
end
end L2
set_option maxHeartbeats 400000
namespace L2
open PySem PySem.Spec PyProof.Rows
theorem z7h {t rest:TS} {D:Ends} {σ:St} {H:Hp} (R:St->Hp->Prop) (hr :∀σ1 H1,R σ1 H1->rest D σ1 H1) (h:(∀σ1 H1,R σ1 H1->rest D σ1 H1)->t { D with nx:=rest D } σ H):tSeq t rest D σ H:=h hr
theorem z0b {te:TE} {g:TG} {rest:TS} {D:Ends} {σ:St} {H:Hp} (h:te σ H λ x H1=>g x σ H1 (rest D)):tSeq (tAsg te g) rest D σ H:=h
structure Runs (J:It) (H1:Hp) (n:Nat) (Item:Nat->V->Hp->Prop):Prop where
 go :∀i,i < n->∀H,Same H1 H->J.go i H
 stop :∀H,Same H1 H->J.stop n H
 item :∀i,i < n->∀H v H',Same H1 H->J.yld i H v H'->Same H H'/\Item i v H'
theorem z2m (p:Nat->Bool) (n:Nat):(W0 (n + 1)).filter p=(W0 n).filter p++(if p n=true then [n] else []):=by rw [S8,S4,List.filter_cons];cases p n<;>rfl
inductive All2 {α β:Type} (R:α->β->Prop):List α->List β->Prop
 | nil:All2 R [] []
 | cons {a:α} {b:β} {xs:List α} {ys:List β}:R a b->All2 R xs ys->All2 R (a :: xs) (b :: ys)
theorem z5v {α β:Type} {R:α->β->Prop} :∀{xs:List α} {ys:List β} {x:α} {y:β},All2 R xs ys->R x y->All2 R (xs++[x]) (ys++[y])
 | [],_,x,y,.nil,h=>.cons h .nil
 | _ :: _,_,x,y,.cons a r,h=>.cons a (z5v r h)
theorem z00 {α β:Type} {R S:α->β->Prop} (h :∀a b,R a b->S a b) :∀{xs:List α} {ys:List β},All2 R xs ys->All2 S xs ys
 | [],_,.nil=>.nil
 | _ :: _,_,.cons a r=>.cons (h _ _ a) (z00 h r)
theorem z03 {α β:Type} {R:α->β->Prop} :∀{xs:List α} {ys:List β},All2 R xs ys->ys.length=xs.length
 | [],_,.nil=>rfl
 | _ :: _,_,.cons _ r=>congrArg (· + 1) (z03 r)
theorem z1q {α β:Type} {f:α->β} :∀{xs:List α} {ys:List β},All2 (λ x y=>y=f x) xs ys->ys=xs.map f
 | [],_,.nil=>rfl
 | _ :: _,_,.cons a r=>by rw [Y1,z1q r,a]
theorem z6m {α β:Type} (p:α->Bool) (f:α->β) (d:α) :∀xs:List α,((W0 xs.length).filter λ i=>p (xs[i]?.getD d)).map (λ i=>f (xs[i]?.getD d))=(xs.filter p).map f:=by
 intro xs;have h:(W0 xs.length).map (λ i=>xs[i]?.getD d)=xs:=by
  apply b7
  ·simp
  ·intro i b a;simp only [List.getElem_map,List.getElem_range,A0 a,Option.getD_some]
 have e:(xs.filter p).map f=((((W0 xs.length).map (λ i=>xs[i]?.getD d))).filter p).map f:=by rw [h]
 rw [e,List.filter_map,F5];rfl
structure QE (X:Cx) (e:Expr) (t:TE):Prop where
 run:PE X e t
structure QA (X:Cx) (es:List Expr) (t:TA):Prop where
 run:PA X es t
structure QPs (X:Cx) (pos:Pos) (ks:List (Option Expr)) (vs:List Expr) (t:List (TE×TE)):Prop where
 run:PPs X pos ks vs t
structure QS (X:Cx) (st:Stmt) (t:TS):Prop where
 run:PS X st t
structure QSs (X:Cx) (sts:List Stmt) (t:TS):Prop where
 run:PSs X sts t
section
variable {X:Cx} {pos:Pos}
theorem q_of {sts:List Stmt} {t:TS} {G:TS->Prop} (q:QSs X sts t) (g:G t) :∃t,PSs X sts t/\G t:=⟨t,q.run,g⟩
theorem zhy {st:Stmt} {t:TS} (h:QS X st t):QSs X [st] t:=⟨z05 h.run⟩
theorem z3s {st:Stmt} {rest:List Stmt} {t u:TS} (h:QS X st t) (r:QSs X rest u):QSs X (st :: rest) (tSeq t u):=⟨z02 h.run r.run⟩
theorem qs_set {i:Nat} {x:Str} {e:Expr} {te:TE} {pos':Pos} (hN:X.N.Nodup) (hi:X.N[i]? = some x) (hx:Loc X.env.scope x) (he:QE X e te) (hs:Z8 e (some (.Name x pos')) pos.line X.env=b4 false:=by rfl) (hf:X.fn x=true\/X.env.scope.names.lookup x=some .local:=by first|exact .inl rfl|exact .inr rfl|assumption) :
  QS X (.Assign [.Name x pos'] e pos) (tAsg te (gName i)):=⟨ps_set hN hi hx he.run hs hf⟩
theorem qs_for {tg iter:Expr} {body:List Stmt} {wi:TI} {g:TG} {tb:TS} (hp:PassesOwn (G1 X.prog X.w) X.A X.env X.xe) (hc:X.calm=true) (hi:PI X tg iter wi) (hg:PG X tg g) (hb:QSs X body tb)
  (hs :∀x,z6 iter X.env x=b4 x:=by intro _;rfl):QS X (.For tg iter body [] pos) (tFor wi g tb):=⟨ps_for hp hc hi hg hb.run hs⟩
theorem qe_tup {es:List Expr} {t:TA} {x1} (h:QA X es t):QE X (.Tuple es x1 pos) (tTup t):=⟨pe_tup h.run⟩
theorem qa_nil:QA X [] tNil:=⟨pa_nil⟩
theorem zhs {e:Expr} {es:List Expr} {te:TE} {t:TA} (ha:QE X e te) (hr:QA X es t) (hs:K1 (e :: es) X.env=(false,V3 e X.env) :: K1 es X.env:=by rfl):QA X (e :: es) (tCons te t):=⟨z01 ha.run hr.run hs⟩
end
theorem z5z {X:Cx} {K:o0} (h:X.K=K):IxR X (rIx K):=h ▸ ix_seq
theorem z0k {α β:Type} {R:α->β->Prop} :∀{xs:List α} {ys:List β} {i:Nat} {y:β},All2 R xs ys->ys[i]? = some y->∃x,xs[i]? = some x/\R x y
 | _,_,i,y,.nil,e=>by simp at e
 | _,_,0,y,.cons a _,e=>by rw [G4] at e;cases e;exact ⟨_,G4,a⟩
 | _,_,i + 1,y,.cons _ r,e=>by rw [E3] at e;obtain ⟨x,b,c⟩:=z0k r e;exact ⟨x,by rw [E3];exact b,c⟩
end L2
set_option maxHeartbeats 4000000
namespace L2
open PySem PySem.Spec PyProof.Rows
noncomputable def IteL (K:o0) (a:Addr):It:=
  ⟨λ i H=>∃xs x,SqL K H a xs/\xs[i]? = some x,
   λ i H v H'=>∃p,H p=none/\v=.ref p/\∀xs,SqL K H a xs->∃x,xs[i]? = some x/\H'=upd H p (.tup [.int i,x]),
   λ i H=>∃xs,SqL K H a xs/\xs.length=i⟩
theorem w_0:(0:Nat)<=sizeLine:=by decide
theorem w_1:(1:Nat)<=sizeLine:=by decide
theorem w_2:(2:Nat)<=sizeLine:=by decide
theorem w_3:(3:Nat)<=sizeLine:=by decide
theorem w_4:(4:Nat)<=sizeLine:=by decide
theorem w_5:(5:Nat)<=sizeLine:=by decide
theorem w_6:(6:Nat)<=sizeLine:=by decide
theorem ze0 {P:Program} {w:Z0} {K:o0} {elts:List Expr} {x1:Nat} {pos:Pos} {e it a:Addr} (ne:e≠it) (nae:a≠e) (nai:a≠it):Turn P w K (.Tuple elts x1 pos) (IteL K a) [e,it] e (λ n h=>(∃old,IsEnum h e it (n:Nat) old)/\h.IsListIter it a n) where
 mem:=by simp
 obj:=λ n h g c f=>by
  simp only [Z3,L0,or_false] at f;rcases f with rfl|rfl
  ·obtain ⟨⟨old,z⟩,_⟩:=g;exact ⟨_,z,λ v z=>by cases (show Data.fields _=Data.cell v from z)⟩
  ·obtain ⟨_,o,e,_,d⟩:=g;exact ⟨o,e,λ v z=>by rw [d] at z;cases z⟩
 keep:=λ n h O g k=>by obtain ⟨⟨old,z⟩,o,e1,e2⟩:=g;exact ⟨⟨old,k e (by simp) _ z⟩,o,k it (by simp) _ e1,e2⟩
 item:=by
  intro X G C B f n a3 s σ H E I m g r;subst G C B;obtain ⟨T,x,l,N⟩:=r;obtain ⟨i,J,j,_⟩:=I.list l;have j:s.heap.IsList a i.toArray:=j.isList;obtain ⟨u,V,ru⟩:=J.get N;have D:=Draws.list (prog:=X.prog) (w:=X.w) (A:=X.A.in1) (I.ok.hd f) it a nai i.toArray;have a4:n < i.toArray.size:=by have:=(List.getElem?_eq_some_iff.mp V).1;simpa using this
  obtain ⟨⟨old,S⟩,Q⟩:=g;refine wpAny_pyNext_enum_itemD D S ⟨Q,j⟩ a4 ne (by simp [ne,nae.symm]) λ y O t q a2 a6 tT hz F=>?_;have q:i[n]? = some y:=by simpa using q
  rw [V] at q;cases q;have a0:e < s.heap.objs.size:=T0 S;have a1:it < s.heap.objs.size:=by obtain ⟨o,z,_⟩:=Q;exact T0 z
  have M:s.heap.objs.size≠e:=u4 a0;have nT:s.heap.objs.size∉[e,it]:=by simp only [Z3,L0,or_false,not_or];exact ⟨M,u4 a1⟩
  refine ⟨_,rfl,wpAny_letOwnedTupleGo_enum a2 λ U Z L=>?_⟩;have k2 :∀b o,b∉[e,it]->s.heap.get? b=some o->U.get? b=some o:=λ b o p z=>by simp only [Z3,L0,or_false,not_or] at p;exact (L.2 b p.1).trans (F b o p.1 p.2 z)
  have R:=(L.2 _ M).trans tT;have Y:=a6.1.elim λ o z=>(⟨o,(L.2 it ne.symm).trans z.1,z.2⟩:U.IsListIter it a (n + 1))
  have fr:H s.heap.objs.size=none:=I.hok.fresh (K0 _);refine ⟨.ref s.heap.objs.size,upd H s.heap.objs.size (.tup [.int n,x]),I.turnedLaid (t':=t + 1) k2 m (K0 _) ⟨w_2,[.int n t,u],.cons ⟨t,rfl⟩ (.cons ru .nil),⟨_,R,rfl,_,rfl⟩,_,R,rfl⟩,rfl,⟨_,fr,rfl,λ a7 a5=>⟨x,?_,rfl⟩⟩,⟨⟨_,Z⟩,Y⟩,λ c f=>?_⟩
  ·rw [I.list_inj a5 l];exact N
  ·rw [upd_ne (λ (z:c=s.heap.objs.size)=>nT (z ▸ f))];exact (m c f).1
 done:=by
  intro X G C B f n a3 s σ H E I m g r;subst G C B;obtain ⟨T,l,rfl⟩:=r;obtain ⟨i,J,j,_⟩:=I.list l;have j:s.heap.IsList a i.toArray:=j.isList;have D:=Draws.list (prog:=X.prog) (w:=X.w) (A:=X.A.in1) (I.ok.hd f) it a nai i.toArray;have W:=WalksT.enumerateD D e ne (by simp [ne,nae.symm]) (by simp);have la:i.toArray.size=T.length:=by simpa using J.length.symm
  exact W.done s _ E (by rw [la];exact ⟨g.1,g.2,j⟩) λ O tk F=>⟨rfl,I.turnedL (t':=tk) (λ c o f e=>F c o f e) m⟩
 self:=λ _ _ _ _ _ g h=>g.1.elim λ old z=>wpAny_pyIter_enum z h
noncomputable def ieL (K:o0) (ta:TA):TI:=λ σ H R=>ta σ H λ vs H1=>∃a xs,vs=[.ref a]/\SqL K H1 a xs/\R (IteL K a) H1
theorem zj5 {X:Cx} {elts:List Expr} {x1:Nat} {tpos:Pos} {e:Expr} {ta:TA} {p pos:Pos} (hg:Gl X "enumerate") (hm:X.mg "enumerate" = none) (ha:PA X [e] ta) (hs:K1 [e] X.env=[(false,V3 e X.env)]:=by rfl) :
  PI X (.Tuple elts x1 tpos) (.Call (.Name "enumerate" p) [e] [] pos) (ieL X.K ta):=by
 intro r s σ H R I h;refine Call_ (ld_blt I hg hm boot_enumerate (E4 (thn (ha pos r s σ H _ I h) λ x b ⟨vs,H1,I1,r1,q1⟩=>?_) (by rw [hs];rfl) rfl));obtain ⟨a,y,t,m,q⟩:=q1;subst t;obtain ⟨u,rfl,v⟩:=vals1 r1;cases (show u=F1 a from v);obtain ⟨l,z,d,_⟩:=I1.list m;have d:b.heap.IsList a l.toArray:=d.isList;have j:a < b.heap.objs.size:=by obtain ⟨o,e,_⟩:=id d;exact T0 e
 refine call_enumerate_list d λ w f k _ n=>?_;refine wpAny_pyIter_enum f ?_;refine ⟨_,_,_,_,H1,rfl,I1.kept (t':=b.toks) n,ze0 (u4 (J3 _)) (A1 (V2 j)) (A1 j),⟨⟨_,f⟩,k⟩,λ c i=>?_,q⟩;have g:b.heap.objs.size<=c:=by
  simp only [Z3,L0,or_false] at i;rcases i with rfl|rfl
  ·exact j0g _ _
  ·exact K0 _
 exact I1.fpOk g (I1.hok.fresh g)
end L2
set_option maxHeartbeats 400000
namespace L2
open PySem PySem.Spec PyProof.Rows
section
variable {X:Cx}
theorem ze7 {o e:Expr} {es:List Expr} {to:TE} {t:TA} {apos cpos:Pos} (ho:PE X o to) (ha:PA X (e :: es) t)
  (hbase:B5 o "pop" X.env (V3 o X.env)=V3 o X.env:=by rfl)
  (hfew:((P4 cpos (K1 (e :: es) X.env)).all (λ x=>!x.1) && (a9 cpos (X6 [] X.env)).all (λ x=>x.1.isSome)
   && decide ((e :: es).length + ([]:List Q6).length + (if ([]:List Q6).isEmpty then 0 else 1) < 30))=true:=by rfl)
  (hline:(apos.endLine == cpos.line)=true:=by rfl) (hs:K1 (e :: es) X.env=(false,V3 e X.env) :: K1 es X.env:=by rfl) (hplain:(P4 cpos (K1 es X.env)).any (·.1)=false:=by rfl) :
  PE X (.Call (.Attribute o "pop" apos) (e :: es) [] cpos) (tBM X.K "list" rPopAt to t):=pe_bm Z7 PySem.F.slot_list_pop PySem.F.type_list_pop zir ho ha hbase hfew hline hs hplain
end
mutual
noncomputable def IsPd (K:o0) (H:Hp):PyData->V->Prop
 | .none,v=>v=.non
 | .bool b,v=>v=.bl b
 | .int i,v=>v=.int i
 | .str z,v=>v=.str z
 | .list ds,v=>∃a xs,v=.ref a/\SqL K H a xs/\IsPds K H ds xs
 | .tuple ds,v=>∃a xs,v=.ref a/\SqT K H a xs/\IsPds K H ds xs
 | .dict _,_=>False
noncomputable def IsPds (K:o0) (H:Hp):List PyData->List V->Prop
 | [],xs=>xs=[]
 | d :: ds,xs=>∃x r,xs=x :: r/\IsPd K H d x/\IsPds K H ds r
end
mutual
noncomputable def plainP:PyData->Bool
 | .none=>true
 | .bool _=>false
 | .int _=>true
 | .str z=>(PyData.str z).canLay0
 | .list ds=>zf2 ds
 | .tuple ds=>zf2 ds
 | .dict _=>false
noncomputable def zf2:List PyData->Bool
 | []=>true
 | d :: ds=>plainP d && zf2 ds
end
end L2
set_option maxHeartbeats 1000000
namespace L2
open PySem PySem.Spec PyProof.Rows
section
variable {prog:Program} {w:Z0} {A:P2} {E:Value->C0->Prop} {s:C0}
theorem z5o:entryFor table "dict.update.loop" = some z9.«dict.update.loop»:=by kernel_rfl
theorem zgk {l:Addr} {items:Array Value} {n:Nat} {sl:Array (Option Value)} {Q:Option Value->C0->Prop} (h:s.heap.get? l=some { cls:=.type "list",data:=.seq items n,slots:=sl }) (hh:A.handled=none)
  (q :∀h' tk,(∀b o,s.heap.get? b=some o->h'.get? b=some o)->Q none { s with heap:=h',toks:=tk }):U0 (G1 prog w) A (j0j (.ref l) (M3 "keys")) Q E s:=by
 unfold j0j;refine v0 (wpAny_mkText ?_);unfold getAttrBy? getAttrBy;have a:Z6 { s with toks:=s.toks + 1 } (.ref l) "list":=⟨_,h,rfl⟩
 refine v0 (j09 (Z1 (v0 (G6 a ?_))));rw [show j37 (G3 "list") (M3 "__getattribute__")=b4 (some (.builtin "list.__getattribute__")) from rfl];refine v0 (F0 ?_);show U0 _ _ (C9 (.ref l) (.str (M3 "keys") s.toks) (.type "list") (.builtin "list.__getattribute__") false false) _ _ _;unfold C9;refine v0 (show U0 _ _ (b4 none) _ _ _ from F0 ?_);refine v0 (j09 (Z1 ?_));show U0 _ _ (V9 (.builtin "list.__getattribute__") (.ref l) (.str (M3 "keys") s.toks)) _ _ _;unfold V9;rw [show bindSpecial (.builtin "list.__getattribute__") (.ref l)=b4 (Value.builtin "list.__getattribute__",[F1 l]) from rfl];refine v0 (F0 ?_);show U0 _ _ (call (.builtin "list.__getattribute__") [.ref l,.str (M3 "keys") s.toks]) _ _ _;refine v8 F.slot_list_getattribute a am_entry_list_getattribute (F.args_list_getattribute_2 _ _) (meets_getattribute_miss_list l items n sl (M3 "keys") s.toks rfl (by decide +kernel) (by decide +kernel)) ⟨h,hh,λ h' tk e d=>?_⟩;obtain ⟨t,u,f⟩:=d.there;have c:Z6 { s with heap:=h',toks:=tk } (.ref e) "AttributeError":=⟨_,f,rfl⟩
 show U0 _ _ (p8 (.ref l) _ (.type "list") (.ref e) none false false) _ _ _;unfold p8;refine v0 (J6 c rfl ?_);show U0 _ _ (j3a (.type "list") none >>= _) _ _ _;rw [show j3a (.type "list") none=b4 none from rfl];refine v0 (F0 ?_);show U0 _ _ (throw (F1 e) >>= _) _ _ _;refine v0 (wpAny_throw ?_);show U0 _ _ (j39 (.ref e) (.type "AttributeError") >>= _) _ _ _;refine v0 (J6 c rfl ?_);exact F0 (q h' tk d.keeps)
theorem zdl {l:Addr} {items:Array Value} {n:Nat} {sl:Array (Option Value)} {Q:Option Value->C0->Prop} (h:s.heap.get? l=some { cls:=.type "tuple",data:=.seq items n,slots:=sl }) (hh:A.handled=none)
  (q :∀h' tk,(∀b o,s.heap.get? b=some o->h'.get? b=some o)->Q none { s with heap:=h',toks:=tk }):U0 (G1 prog w) A (j0j (.ref l) (M3 "keys")) Q E s:=by
 unfold j0j;refine v0 (wpAny_mkText ?_);unfold getAttrBy? getAttrBy;have a:Z6 { s with toks:=s.toks + 1 } (.ref l) "tuple":=⟨_,h,rfl⟩
 refine v0 (j09 (Z1 (v0 (G6 a ?_))));rw [show j37 (G3 "tuple") (M3 "__getattribute__")=b4 (some (.builtin "tuple.__getattribute__")) from rfl];refine v0 (F0 ?_);show U0 _ _ (C9 (.ref l) (.str (M3 "keys") s.toks) (.type "tuple") (.builtin "tuple.__getattribute__") false false) _ _ _;unfold C9;refine v0 (show U0 _ _ (b4 none) _ _ _ from F0 ?_);refine v0 (j09 (Z1 ?_));show U0 _ _ (V9 (.builtin "tuple.__getattribute__") (.ref l) (.str (M3 "keys") s.toks)) _ _ _;unfold V9;rw [show bindSpecial (.builtin "tuple.__getattribute__") (.ref l)=b4 (Value.builtin "tuple.__getattribute__",[F1 l]) from rfl];refine v0 (F0 ?_);show U0 _ _ (call (.builtin "tuple.__getattribute__") [.ref l,.str (M3 "keys") s.toks]) _ _ _;refine v8 F.slot_tuple_getattribute a am_entry_tuple_getattribute (F.args_tuple_getattribute_2 _ _) (meets_getattribute_miss_tuple l items n sl (M3 "keys") s.toks rfl (by decide +kernel) (by decide +kernel)) ⟨h,hh,λ h' tk e d=>?_⟩;obtain ⟨t,u,f⟩:=d.there;have c:Z6 { s with heap:=h',toks:=tk } (.ref e) "AttributeError":=⟨_,f,rfl⟩
 show U0 _ _ (p8 (.ref l) _ (.type "tuple") (.ref e) none false false) _ _ _;unfold p8;refine v0 (J6 c rfl ?_);show U0 _ _ (j3a (.type "tuple") none >>= _) _ _ _;rw [show j3a (.type "tuple") none=b4 none from rfl];refine v0 (F0 ?_);show U0 _ _ (throw (F1 e) >>= _) _ _ _;refine v0 (wpAny_throw ?_);show U0 _ _ (j39 (.ref e) (.type "AttributeError") >>= _) _ _ _;refine v0 (J6 c rfl ?_);exact F0 (q h' tk d.keeps)
theorem z5p (a:Args):(L7 "dict.update.loop" a).quiet=true:=J7 (by decide +kernel) _
def PairOf (prog:Program) (w:Z0) (h:Heap) (p:Key×Value) (u:Value):Prop:=∃a kv,u=.ref a/\h.IsTuple a #[kv,p.2]/\(z0j prog w).is p.1 kv=true
theorem PairOf.kept {h h':Heap} {p:Key×Value} {u:Value} {L:List Addr} (k :∀b o,b∉L->h.get? b=some o->h'.get? b=some o) (nt :∀b∈L,∀o,h.get? b=some o->o.cls≠.type "tuple") (x:PairOf prog w h p u):PairOf prog w h' p u:=by obtain ⟨a,f,e,⟨o,d,c,n,g⟩,i⟩:=x;exact ⟨a,f,e,⟨o,k a o (λ z=>nt a z o d c) d,c,n,g⟩,i⟩
theorem z9q {a:Addr} {items:Array Value} {Q:List Value->C0->Prop} (h:s.heap.IsTuple a items) (q:Q items.toList s):U0 (G1 prog w) A (j0d (.ref a)) Q E s:=by obtain ⟨o,b,c,n,d⟩:=h;unfold j0d;refine v0 (G6 (T:="tuple") ⟨o,b,c⟩ ?_);show U0 _ _ (seqItems? (.ref a) >>= _) _ _ _;exact v0 (T9 b d (F0 q))
theorem zds {d it l:Addr} {items:Array Value} (ndi:d≠it) (ndl:d≠l) (nil':it≠l) :∀(ps:List (Key×Value)) (i:Nat) (kvs:List (Key×Value)) (A:P2) (R:j1f->C0->Prop) (s:C0),A.handled=none->s.heap.IsListIter it l i->s.heap.IsList l items->
  All2 (PairOf prog w s.heap) ps (items.toList.drop i)->w4 (z0j prog w) s.heap d kvs->kvs.length + ps.length<=sizeLine->
  (∀h' tk,w4 (z0j prog w) h' d (ps.foldl (λ acc p=>stored acc p.1 p.2) kvs)->(∀b o,b≠d->b≠it->s.heap.get? b=some o->h'.get? b=some o)->R (.ok (.ret .none)) { s with heap:=h',toks:=tk })->
  D5 (G1 prog w) A (L7 "dict.update.loop" { pos:=[.ref d,.ref it,.int (i:Nat) 0,.none],kw:=[] }) R s
 | [],i,kvs,A,R,s,hh,si,sl,al,n,hz,q=>by
  have V:items[i]? = none:=by
   cases hd:items.toList.drop i with
   | nil=>have:=List.drop_eq_nil_iff.mp hd;rw [O2] at this;exact N4 this
   | cons u us=>rw [hd] at al;cases al
  refine K3 z5o ?_;show U0 _ _ (D7 (.ref it) >>= _) _ _ s;refine v0 (X4 (show (A.under _).handled=none from hh) si sl V λ h' I=>?_);show U0 _ _ ((do j01 d [];ret .none):Sem j05) _ _ _;refine v0 (show U0 _ _ (b4 ()) _ _ _ from F0 ?_);have B:w4 (z0j prog w) h' d kvs:=by obtain ⟨o,t,v,j,m⟩:=n;exact ⟨o,t,v,I d o ndi j,m⟩
  exact F0 (q h' s.toks B λ b o _ k e=>I b o k e)
 | p :: ps,i,kvs,A,R,s,hh,si,sl,al,n,hz,q=>by
  cases hd:items.toList.drop i with
  | nil=>rw [hd] at al;cases al
  | cons u us=>
   rw [hd] at al;cases al with
   | cons pu al=>
    have Q:items.toList[i]? = some u:=by have:=congrArg (λ l=>l[0]?) hd;simpa using this
    have hu:items[i]? = some u:=by simpa using Q
    have U:items.toList.drop (i + 1)=us:=by have:=congrArg j0b hd;simpa using this
    obtain ⟨a,E,rfl,M,ik⟩:=pu;refine K3 z5o ?_;show U0 _ _ (D7 (.ref it) >>= _) _ _ s;refine v0 (y4 si sl hu λ j Y C=>?_);have G :∀o,s.heap.get? it=some o->o.cls≠.type "tuple":=λ o e z=>by obtain ⟨o',r,c,_⟩:=si;rw [e] at r;cases r;rw [z] at c;exact absurd c (by decide)
    have X :∀(h:Heap) (kvs:List (Key×Value)),w4 (z0j prog w) h d kvs->∀o,h.get? d=some o->o.cls≠.type "tuple":=λ h kvs n o e z=>by obtain ⟨o',t,v,r,c,_⟩:=n;rw [e] at r;cases r;have:=c.1;rw [z] at this;exact absurd this (by decide)
    have D :∀b o,b∉[it]->s.heap.get? b=some o->j.get? b=some o:=λ b o k e=>(C.2 b (λ z=>k (by rw [z];exact List.mem_singleton.mpr rfl))).trans e;have a0:j.IsTuple a #[E,p.2]:=by obtain ⟨o,g,f,e3⟩:=M;exact ⟨o,D a o (λ z=>G o (List.mem_singleton.mp z ▸ g) f) g,f,e3⟩
    have T:All2 (PairOf prog w j) ps us:=z00 (λ x y z=>PairOf.kept D (λ b k o e=>G o (List.mem_singleton.mp k ▸ e)) z) al;have K:w4 (z0j prog w) j d kvs:=by obtain ⟨o,t,v,g,f⟩:=n;exact ⟨o,t,v,(C.2 d ndi).trans g,f⟩
    have a1:j.IsList l items:=by obtain ⟨o,g,f⟩:=sl;exact ⟨o,(C.2 l (C2 nil')).trans g,f⟩
    refine v0 (Z1 (v0 (f7 (z9q (s:={ s with heap:=j }) a0 ?_))));show U0 _ _ (r9 [E,p.2] (j32 d E p.2)) _ _ _;refine Z1 (wpAny_dictSet_pairs ik K (λ m Z F=>?_) (N0 (j0g _ _) hz));refine F0 ⟨z5p _,?_⟩;have J :∀b o,b∉[d]->j.get? b=some o->m.get? b=some o:=λ b o k e=>(F.2 b (λ z=>k (by rw [z];exact List.mem_singleton.mpr rfl))).trans e;have P:All2 (PairOf prog w m) ps us:=z00 (λ x y z=>PairOf.kept J (λ b k o e=>X j kvs K o (List.mem_singleton.mp k ▸ e)) z) T;have S:m.IsListIter it l (i + 1):=by obtain ⟨o,g,f⟩:=Y;exact ⟨o,(F.2 it (C2 ndi)).trans g,f⟩
    have W:m.IsList l items:=by obtain ⟨o,g,f⟩:=a1;exact ⟨o,(F.2 l (C2 ndl)).trans g,f⟩
    have N:(stored kvs p.1 p.2).length + ps.length<=sizeLine:=by
     have:(stored kvs p.1 p.2).length<=kvs.length + 1:=by
      unfold stored;split
      ·rw [I0];exact F3 _
      ·rw [G0];exact K0 _
     rw [Y0] at hz;omega
    exact zds ndi ndl nil' ps (i + 1) (stored kvs p.1 p.2) A R { s with heap:=m,toks:=s.toks + 1 } hh S W (by rw [U];exact P) Z N λ h' tk B O=>q h' tk B λ b o L H e=>O b o L H (J b o (λ z=>L (List.mem_singleton.mp z)) (D b o (λ z=>H (List.mem_singleton.mp z)) e))
theorem zcj {d it l:Addr} {items:Array Value} (ndi:d≠it) (ndl:d≠l) (nil':it≠l) :∀(ps:List (Key×Value)) (i:Nat) (kvs:List (Key×Value)) (A:P2) (R:j1f->C0->Prop) (s:C0),A.handled=none->s.heap.IsTupleIter it l i->s.heap.IsTuple l items->
  All2 (PairOf prog w s.heap) ps (items.toList.drop i)->w4 (z0j prog w) s.heap d kvs->kvs.length + ps.length<=sizeLine->
  (∀h' tk,w4 (z0j prog w) h' d (ps.foldl (λ acc p=>stored acc p.1 p.2) kvs)->(∀b o,b≠d->b≠it->s.heap.get? b=some o->h'.get? b=some o)->R (.ok (.ret .none)) { s with heap:=h',toks:=tk })->
  D5 (G1 prog w) A (L7 "dict.update.loop" { pos:=[.ref d,.ref it,.int (i:Nat) 0,.none],kw:=[] }) R s
 | [],i,kvs,A,R,s,hh,si,sl,al,n,hz,q=>by
  have V:items[i]? = none:=by
   cases hd:items.toList.drop i with
   | nil=>have:=List.drop_eq_nil_iff.mp hd;rw [O2] at this;exact N4 this
   | cons u us=>rw [hd] at al;cases al
  refine K3 z5o ?_;show U0 _ _ (D7 (.ref it) >>= _) _ _ s;refine v0 (wpAny_pyNext_tuple_end (show (A.under _).handled=none from hh) si sl V λ h' I=>?_);show U0 _ _ ((do j01 d [];ret .none):Sem j05) _ _ _;refine v0 (show U0 _ _ (b4 ()) _ _ _ from F0 ?_);have B:w4 (z0j prog w) h' d kvs:=by obtain ⟨o,t,v,j,m⟩:=n;exact ⟨o,t,v,I d o ndi j,m⟩
  exact F0 (q h' s.toks B λ b o _ k e=>I b o k e)
 | p :: ps,i,kvs,A,R,s,hh,si,sl,al,n,hz,q=>by
  cases hd:items.toList.drop i with
  | nil=>rw [hd] at al;cases al
  | cons u us=>
   rw [hd] at al;cases al with
   | cons pu al=>
    have Q:items.toList[i]? = some u:=by have:=congrArg (λ l=>l[0]?) hd;simpa using this
    have hu:items[i]? = some u:=by simpa using Q
    have U:items.toList.drop (i + 1)=us:=by have:=congrArg j0b hd;simpa using this
    obtain ⟨a,E,rfl,M,ik⟩:=pu;refine K3 z5o ?_;show U0 _ _ (D7 (.ref it) >>= _) _ _ s;refine v0 (wpAny_pyNext_tuple_item si sl hu λ j Y C=>?_);have G :∀o,s.heap.get? it=some o->o.cls≠.type "tuple":=λ o e z=>by obtain ⟨o',r,c,_⟩:=si;rw [e] at r;cases r;rw [z] at c;exact absurd c (by decide)
    have X :∀(h:Heap) (kvs:List (Key×Value)),w4 (z0j prog w) h d kvs->∀o,h.get? d=some o->o.cls≠.type "tuple":=λ h kvs n o e z=>by obtain ⟨o',t,v,r,c,_⟩:=n;rw [e] at r;cases r;have:=c.1;rw [z] at this;exact absurd this (by decide)
    have D :∀b o,b∉[it]->s.heap.get? b=some o->j.get? b=some o:=λ b o k e=>(C.2 b (λ z=>k (by rw [z];exact List.mem_singleton.mpr rfl))).trans e;have a0:j.IsTuple a #[E,p.2]:=by obtain ⟨o,g,f,e3⟩:=M;exact ⟨o,D a o (λ z=>G o (List.mem_singleton.mp z ▸ g) f) g,f,e3⟩
    have T:All2 (PairOf prog w j) ps us:=z00 (λ x y z=>PairOf.kept D (λ b k o e=>G o (List.mem_singleton.mp k ▸ e)) z) al;have K:w4 (z0j prog w) j d kvs:=by obtain ⟨o,t,v,g,f⟩:=n;exact ⟨o,t,v,(C.2 d ndi).trans g,f⟩
    have a1:j.IsTuple l items:=by obtain ⟨o,g,f⟩:=sl;exact ⟨o,(C.2 l (C2 nil')).trans g,f⟩
    refine v0 (Z1 (v0 (f7 (z9q (s:={ s with heap:=j }) a0 ?_))));show U0 _ _ (r9 [E,p.2] (j32 d E p.2)) _ _ _;refine Z1 (wpAny_dictSet_pairs ik K (λ m Z F=>?_) (N0 (j0g _ _) hz));refine F0 ⟨z5p _,?_⟩;have J :∀b o,b∉[d]->j.get? b=some o->m.get? b=some o:=λ b o k e=>(F.2 b (λ z=>k (by rw [z];exact List.mem_singleton.mpr rfl))).trans e;have P:All2 (PairOf prog w m) ps us:=z00 (λ x y z=>PairOf.kept J (λ b k o e=>X j kvs K o (List.mem_singleton.mp k ▸ e)) z) T;have S:m.IsTupleIter it l (i + 1):=by obtain ⟨o,g,f⟩:=Y;exact ⟨o,(F.2 it (C2 ndi)).trans g,f⟩
    have W:m.IsTuple l items:=by obtain ⟨o,g,f⟩:=a1;exact ⟨o,(F.2 l (C2 ndl)).trans g,f⟩
    have N:(stored kvs p.1 p.2).length + ps.length<=sizeLine:=by
     have:(stored kvs p.1 p.2).length<=kvs.length + 1:=by
      unfold stored;split
      ·rw [I0];exact F3 _
      ·rw [G0];exact K0 _
     rw [Y0] at hz;omega
    exact zcj ndi ndl nil' ps (i + 1) (stored kvs p.1 p.2) A R { s with heap:=m,toks:=s.toks + 1 } hh S W (by rw [U];exact P) Z N λ h' tk B O=>q h' tk B λ b o L H e=>O b o L H (J b o (λ z=>L (List.mem_singleton.mp z)) (D b o (λ z=>H (List.mem_singleton.mp z)) e))
theorem z6o {h:Heap} {D:Addr} (e:h.get? D=some { cls:=.type "dict",data:=.dict #[] }):w4 (z0j prog w) h D []:=by obtain ⟨o,b,c,a,r⟩:=j34 (knd:=z0j prog w) h;rw [C1 _ rfl] at a;cases a;exact ⟨_,b,c,e,r⟩
theorem z8m {D l:Addr} {items:Array Value} {n:Nat} {sl:Array (Option Value)} {ps:List (Key×Value)} {Q:C0->Prop} {A':P2} (hd:s.heap.get? D=some { cls:=.type "dict",data:=.dict #[] }) (hl:s.heap.get? l=some { cls:=.type "list",data:=.seq items n,slots:=sl }) (hh:A.handled=none) (hh':A'.handled=none)
  (al:All2 (PairOf prog w s.heap) ps items.toList) (hz:ps.length<=sizeLine)
  (q :∀h' tk,w4 (z0j prog w) h' D (merged [] ps)->(∀b o,b≠D->s.heap.get? b=some o->h'.get? b=some o)->Q { s with heap:=h',toks:=tk }) :
  U0 (G1 prog w) A (z9.«dict.__init__» { pos:=[.ref D,.ref l] }) (λ fin s'=>match fin with
   | .done f=>wants (λ r s₂=>r=P3/\Q s₂) E (.ok f) s'
   | .again c'=>c'.quiet=true/\D5 (G1 prog w) A' c' (wants (λ r s₂=>r=P3/\Q s₂) E) s') (λ e s'=>wants (λ r s₂=>r=P3/\Q s₂) E (.error e) s') s:=by
 have i:D≠l:=λ z=>by rw [z,hl] at hd;exact absurd (show G3 "list" = G3 "dict" from congrArg Obj.cls (T2 hd)) (by decide)
 unfold z9.«dict.__init__» j00;refine v0 (v0 (wpAny_notOrdered_dict ⟨_,hd,rfl⟩ ?_));refine v0 (show U0 _ _ (b4 D) _ _ _ from F0 (F0 ?_));show U0 _ _ (w6 "dict.__init__" D (.ref l) [] .none) _ _ _;unfold w6;refine v0 (G6 (T:="list") ⟨_,hl,rfl⟩ ?_);show U0 _ _ (j0j (.ref l) (M3 "keys") >>= _) _ _ _;refine v0 (zgk hl hh λ h tk a=>?_);show U0 _ _ (rule _ >>= _) _ _ _;refine v0 (S5 (v0 (b5 (items:=items) ⟨_,a _ _ hl,rfl,_,rfl⟩ ?_)));refine F0 ⟨z5p _,?_⟩;have m:=T0 (a _ _ hd);have p:=T0 (a _ _ hl);have c :∀b o,s.heap.get? b=some o->(h.push { cls:=.type "list_iterator",data:=.fields #[.ref l,.int 0 0] }).get? b=some o:=λ b o e=>J0 _ (a b o e);refine zds (d:=D) (it:=h.objs.size) (l:=l) (items:=items) (A1 m) i (u4 p) ps 0 [] A' _ _ hh' ⟨_,C1 _ rfl,rfl,rfl⟩ ⟨_,c _ _ hl,rfl,_,rfl⟩ ?_ ?_ (by simpa using hz) λ h' k t j=>⟨rfl,q h' k t λ b o g e=>j b o g (λ z=>?_) (c b o e)⟩
 ·rw [z5];exact z00 (λ x y z=>PairOf.kept (L:=[]) (λ b o _ e=>c b o e) (λ b g=>absurd g L0) z) al
 ·exact z6o (c _ _ hd)
 ·rw [z] at e;exact absurd (T0 (a _ _ e)) (C4 _)
theorem z74 {D l:Addr} {items:Array Value} {n:Nat} {sl:Array (Option Value)} {ps:List (Key×Value)} {Q:C0->Prop} {A':P2} (hd:s.heap.get? D=some { cls:=.type "dict",data:=.dict #[] }) (hl:s.heap.get? l=some { cls:=.type "tuple",data:=.seq items n,slots:=sl }) (hh:A.handled=none) (hh':A'.handled=none)
  (al:All2 (PairOf prog w s.heap) ps items.toList) (hz:ps.length<=sizeLine)
  (q :∀h' tk,w4 (z0j prog w) h' D (merged [] ps)->(∀b o,b≠D->s.heap.get? b=some o->h'.get? b=some o)->Q { s with heap:=h',toks:=tk }) :
  U0 (G1 prog w) A (z9.«dict.__init__» { pos:=[.ref D,.ref l] }) (λ fin s'=>match fin with
   | .done f=>wants (λ r s₂=>r=P3/\Q s₂) E (.ok f) s'
   | .again c'=>c'.quiet=true/\D5 (G1 prog w) A' c' (wants (λ r s₂=>r=P3/\Q s₂) E) s') (λ e s'=>wants (λ r s₂=>r=P3/\Q s₂) E (.error e) s') s:=by
 have i:D≠l:=λ z=>by rw [z,hl] at hd;exact absurd (show G3 "tuple" = G3 "dict" from congrArg Obj.cls (T2 hd)) (by decide)
 unfold z9.«dict.__init__» j00;refine v0 (v0 (wpAny_notOrdered_dict ⟨_,hd,rfl⟩ ?_));refine v0 (show U0 _ _ (b4 D) _ _ _ from F0 (F0 ?_));show U0 _ _ (w6 "dict.__init__" D (.ref l) [] .none) _ _ _;unfold w6;refine v0 (G6 (T:="tuple") ⟨_,hl,rfl⟩ ?_);show U0 _ _ (j0j (.ref l) (M3 "keys") >>= _) _ _ _;refine v0 (zdl hl hh λ h tk a=>?_);show U0 _ _ (rule _ >>= _) _ _ _;refine v0 (S5 (v0 (wpAny_pyIter_tuple (items:=items) ⟨_,a _ _ hl,rfl,_,rfl⟩ ?_)));refine F0 ⟨z5p _,?_⟩;have m:=T0 (a _ _ hd);have p:=T0 (a _ _ hl);have c :∀b o,s.heap.get? b=some o->(h.push { cls:=.type "tuple_iterator",data:=.fields #[.ref l,.int 0 0] }).get? b=some o:=λ b o e=>J0 _ (a b o e);refine zcj (d:=D) (it:=h.objs.size) (l:=l) (items:=items) (A1 m) i (u4 p) ps 0 [] A' _ _ hh' ⟨_,C1 _ rfl,rfl,rfl⟩ ⟨_,c _ _ hl,rfl,_,rfl⟩ ?_ ?_ (by simpa using hz) λ h' k t j=>⟨rfl,q h' k t λ b o g e=>j b o g (λ z=>?_) (c b o e)⟩
 ·rw [z5];exact z00 (λ x y z=>PairOf.kept (L:=[]) (λ b o _ e=>c b o e) (λ b g=>absurd g L0) z) al
 ·exact z6o (c _ _ hd)
 ·rw [z] at e;exact absurd (T0 (a _ _ e)) (C4 _)
end
section
variable {X:Cx}
def zkl (K:o0):List V->Hp->VK->Prop:=λ xs H Q=>∃a ys kvs,xs=[.ref a]/\(H a=some (.lst ys)\/H a=some (.tup ys))/\All2 (λ (p:Key×V) y=>∃b,y=.ref b/\SqT K H b [kV p.1,p.2]) kvs ys/\∀p,H p=none->Q (.ref p) (upd H p (.dK (mergeK [] kvs)))
theorem zb4 {pins:List (Addr×Obj)} {σ:St} {H:Hp} {s:C0} (I:Inv X pins σ H s) :∀{kvs:List (Key×V)} {ys:List V} {its:List Value},All2 (λ (p:Key×V) y=>∃b,y=.ref b/\SqT X.K H b [kV p.1,p.2]) kvs ys->Vals ys its->
  ∃ps,KV kvs ps/\All2 (PairOf X.prog X.w s.heap) ps its
 | [],_,_,.nil,r=>by cases r;exact ⟨[],.nil,.nil⟩
 | p :: kvs,_,_,.cons ⟨b,e,sb⟩ al,r=>by
  cases r with
  | cons r1 r2=>
   subst e;obtain ⟨ps,c,d⟩:=zb4 I al r2;obtain ⟨its,a,f,_⟩:=I.tuple sb;cases a with
   | cons ra a=>
    cases a with
    | cons rb a=>cases a;rename_i u1 u2;exact ⟨(p.1,u2) :: ps,.cons ⟨rfl,rb⟩ c,.cons ⟨b,u1,r1,f,kV_is ra⟩ d⟩
theorem z49 (kvs:List (Key×V)) :∀more:List (Key×V),(mergeK kvs more).length<=kvs.length + more.length
 | []=>K0 _
 | p :: more=>by have a:=z49 (putK kvs p.1 p.2) more;have b:=z25 kvs p.1 p.2;show (mergeK (putK kvs p.1 p.2) more).length<=_;rw [Y0];omega
theorem zd2 (hc:X.calm=true):CallR X (.type "dict") (zkl X.K):=by
 intro N s σ H xs Y Q I r h;obtain ⟨a,O,k,rfl,l,v,q⟩:=h;obtain ⟨u,rfl,S⟩:=vals1 r;cases (show u=F1 a from S);have p:X.A.handled=none:=I.ok.hd hc;have T:H s.heap.objs.size=none:=I.hok.fresh (K0 _);have big:=I.big;have fin :∀(d:List (Key×Value)) (h':Heap) (c:Nat),KV k d->k.length<=sizeLine->w4 (z0j X.prog X.w) h' s.heap.objs.size (merged [] d)->(∀b o,b≠s.heap.objs.size->(s.heap.push { cls:=.type "dict",data:=.dict #[] }).get? b=some o->h'.get? b=some o)->
   EP X N σ Q (.ref s.heap.objs.size) { s with heap:=h',toks:=c }:=λ d h' c f P j i=>by
  refine ⟨.ref s.heap.objs.size,_,I.laid (a:=s.heap.objs.size) (o:=.dK (mergeK [] k)) (h':=h') (t':=c) (λ b o e=>i b o (A1 (T0 e)) (J0 _ e)) (K0 _) ?_,rfl,q _ T⟩;exact dk_new (N0 (z49 [] k) (by simpa using P)) (beq_eq_false_iff_ne.mpr (C2 (A1 big))) (KV.merge f .nil) j
 have len:O.length=k.length:=z03 v;rcases l with l|l
 ·obtain ⟨z,R,n,C,W,e⟩:=I.lstM l;obtain ⟨d,f,B⟩:=zb4 I v C;refine callType_codes F.kt_called_dict (F.kt_typeCall_dict_1 _) F.entry_dict_init (kt_code_dict_new _ (Q₁:=λ m g=>m=.ref s.heap.objs.size/\g={ s with heap:=s.heap.push { cls:=.type "dict",data:=.dict #[] } }) ⟨rfl,rfl⟩) ?_;rintro m g ⟨rfl,rfl⟩;refine ⟨⟨_,C1 _ rfl,rfl⟩,F.args_dict_init_2 _ _,?_⟩;refine z8m (s:={ s with heap:=s.heap.push { cls:=.type "dict",data:=.dict #[] } }) (C1 _ rfl) (J0 _ e) p p (by simpa using z00 (λ x y z=>PairOf.kept (L:=[]) (λ b o _ e=>J0 _ e) (λ b t=>absurd t L0) z) B) (by rw [<-W7 f,<-len];exact z) λ h' c j i=>fin d h' c f (by rw [<-len];exact z) j i
 ·obtain ⟨z,R,C,⟨o,J,D,n,M⟩,o2,G,E⟩:=I.hok a _ l;rw [J] at G;cases G;obtain ⟨d,f,B⟩:=zb4 I v C;obtain ⟨oc,V,U,Z⟩:=o;dsimp only at D M E;subst D M E;refine callType_codes F.kt_called_dict (F.kt_typeCall_dict_1 _) F.entry_dict_init (kt_code_dict_new _ (Q₁:=λ m g=>m=.ref s.heap.objs.size/\g={ s with heap:=s.heap.push { cls:=.type "dict",data:=.dict #[] } }) ⟨rfl,rfl⟩) ?_;rintro m g ⟨rfl,rfl⟩;refine ⟨⟨_,C1 _ rfl,rfl⟩,F.args_dict_init_2 _ _,?_⟩;refine z74 (s:={ s with heap:=s.heap.push { cls:=.type "dict",data:=.dict #[] } }) (C1 _ rfl) (J0 _ J) p p (by simpa using z00 (λ x y z=>PairOf.kept (L:=[]) (λ b o _ e=>J0 _ e) (λ b t=>absurd t L0) z) B) (by rw [<-W7 f,<-len];exact z) λ h' c j i=>fin d h' c f (by rw [<-len];exact z) j i
end
end L2
set_option maxHeartbeats 400000
namespace L2
open PySem PySem.Spec PyProof.Rows
structure RunsR (S:Hp->Hp->Prop) (J:It) (H1:Hp) (n:Nat) (Item:Nat->V->Hp->Prop):Prop where
 go :∀i,i < n->∀H,S H1 H->J.go i H
 stop :∀H,S H1 H->J.stop n H
 item :∀i,i < n->∀H v H',S H1 H->J.yld i H v H'->S H H'/\Item i v H'
theorem z3c {S:Hp->Hp->Prop} {J:It} {H1:Hp} {n m:Nat} {Item:Nat->V->Hp->Prop} {fr:List (Nat×Str)} {g:TG} {tc:TT} {te:TE} {σ:St} {Q:VK} (s0:S H1 H1) (st :∀a b c,S a b->S b c->S a c) (p:Nat->Bool) (R:Nat->V->Hp->Prop) (hR :∀i y H H',S H H'->R i y H->R i y H') (r:RunsR S J H1 n Item) (hn:n<=sizeLine)
  (body :∀i,i < n->∀v H,S H1 H->Item i v H->∀(KT:VK) (KF:Hp->Prop),(p i=true->∀y H',S H H'->R i y H'->KT y H')->(p i=false->∀H',S H H'->KF H')->
   g v (cStG σ fr (P0 m none)) H λ σ6 H6=>∃us,us.length=m/\σ6=cStG σ fr us/\tc (cStG σ fr us) H6 λ b H2=>if b=true then te (cStG σ fr us) H2 KT else KF H2)
  (hQ :∀l H' ys,S H1 H'->H' l=none->All2 (λ i y=>R i y H') ((W0 n).filter p) ys->Q (.ref l) (upd H' l (.lst ys))) :
  ∃W:Nat->Nat->List V->Hp->Prop,(∃m,W 0 m [] H1)/\∀i k ys H,W i k ys H->
   (J.stop i H/\ys.length<=sizeLine/\∀p,H p=none->Q (.ref p) (upd H p (.lst ys)))\/
   (J.go i H/\ys.length<=sizeLine/\∀v H',J.yld i H v H'->g v (cStG σ fr (P0 m none)) H' λ σ6 H6=>∃us,us.length=m/\σ6=cStG σ fr us/\tc (cStG σ fr us) H6 λ b H2=>if b=true then te (cStG σ fr us) H2 λ y H3=>∃m',m' < k/\W (i + 1) m' (ys++[y]) H3 else∃m',m' < k/\W (i + 1) m' ys H2):=by
 refine ⟨λ i k ys H'=>k=n - i/\i<=n/\S H1 H'/\All2 (λ i y=>R i y H') ((W0 i).filter p) ys,⟨n,by simp,J2 _,s0,.nil⟩,?_⟩;rintro i k ys H' ⟨rfl,hi,sm,fa⟩;have j:ys.length<=sizeLine:=by rw [z03 fa];have:=Q5 p (W0 i);rw [C3] at this;omega
 by_cases hlt:i < n
 ·refine .inr ⟨r.go i hlt H' sm,j,λ v H2 y=>?_⟩;obtain ⟨d,q⟩:=r.item i hlt H' v H2 sm y;refine body i hlt v H2 (st _ _ _ sm d) q _ _ (λ h y H3 f s=>⟨n - (i + 1),by omega,rfl,hlt,st _ _ _ (st _ _ _ sm d) f,?_⟩) (λ h H3 f=>⟨n - (i + 1),by omega,rfl,hlt,st _ _ _ (st _ _ _ sm d) f,?_⟩)
  ·rw [z2m,if_pos h];exact z5v (z00 (λ a b z=>hR a b _ _ (st _ _ _ d f) z) fa) s
  ·rw [z2m,if_neg (by rw [h];decide),L1];exact z00 (λ a b z=>hR a b _ _ (st _ _ _ d f) z) fa
 ·have e:i=n:=by omega
  subst e;exact .inl ⟨r.stop H' sm,j,λ l o=>hQ l H' ys sm o fa⟩
theorem z9g {S:Hp->Hp->Prop} {K:o0} {a:Addr} {xs:List V} {H1:Hp} (hs :∀H,S H1 H->S H H) (hq :∀H,S H1 H->SqL K H a xs):RunsR S (Itl K a) H1 xs.length (λ i v _=>xs[i]? = some v):=
 ⟨λ i b H s=>⟨xs,xs[i],hq H s,by simp [b]⟩,λ H s=>⟨xs,hq H s,K0 _⟩,λ i b H v c s y=>by obtain ⟨e,y⟩:=y;subst e;exact ⟨hs _ s,y xs (hq _ s)⟩⟩
theorem zg6 {S:Hp->Hp->Prop} {K:o0} {a:Addr} {xs:List V} {H1:Hp} (hs :∀H,S H1 H->S H H) (hq :∀H,S H1 H->SqT K H a xs):RunsR S (Itt K a) H1 xs.length (λ i v _=>xs[i]? = some v):=
 ⟨λ i b H s=>⟨xs,xs[i],hq H s,by simp [b]⟩,λ H s=>⟨xs,hq H s,K0 _⟩,λ i b H v c s y=>by obtain ⟨e,y⟩:=y;subst e;exact ⟨hs _ s,y xs (hq _ s)⟩⟩
theorem zh0 {S:Hp->Hp->Prop} {n:Nat} {H1:Hp} (hs :∀H,S H1 H->S H H):RunsR S (Itr 0 n) H1 n (λ i v _=>v=.int (i:Nat)):=
 ⟨λ i a H s=>a,λ H s=>K0 _,λ i a H v b s y=>by obtain ⟨e,y⟩:=y;subst e;exact ⟨hs _ s,by rw [y,V6]⟩⟩
def Ris (xs:Array Nat):Prop:=xs.toList.Pairwise (· < ·)
theorem Ris.lt {xs:Array Nat} (r:Ris xs) {i k:Nat} (h:i < k) (hk:k < xs.size):xs[i]'(Q7 h hk) < xs[k]:=by have:=(List.pairwise_iff_getElem.mp r) i k (by simpa using Q7 h hk) (by simpa using hk) h;simpa using this
theorem zjy {xs:Array Nat} {i d:Nat} (h:i < xs.size):xs.getD i d=xs[i]:=by simp [Array.getD,h]
theorem zac {xs:Array Nat} {j:Nat} (r:Ris xs) :∀(f lo hi:Nat),lo<=hi->hi<=xs.size->hi - lo<=f->(∀i (h:i < xs.size),i < lo->xs[i] < j)->(∀i (h:i < xs.size),hi<=i->j<=xs[i])->
  k7 xs j f lo hi<=xs.size/\(∀i (h:i < xs.size),i < k7 xs j f lo hi->xs[i] < j)/\(∀i (h:i < xs.size),k7 xs j f lo hi<=i->j<=xs[i])
 | 0,lo,hi,h1,h2,h3,ha,hb=>by
  have:lo=hi:=by omega
  subst this;exact ⟨h2,ha,hb⟩
 | f + 1,lo,hi,h1,h2,h3,ha,hb=>by
  unfold k7;by_cases z:lo < hi
  ·rw [if_pos z];have a:(lo + hi) / 2 < xs.size:=by omega
   dsimp only;rw [zjy a];by_cases y:xs[(lo + hi) / 2] < j
   ·rw [if_pos y];refine zac r f _ _ (by omega) h2 (by omega) (λ i h b=>?_) hb;by_cases e:i=(lo + hi) / 2
    ·subst e;exact y
    ·exact Q7 (r.lt (by omega) a) y
   ·rw [if_neg y];refine zac r f _ _ (by omega) (by omega) (by omega) ha λ i h b=>?_;by_cases e:i=(lo + hi) / 2
    ·subst e;omega
    ·exact N0 (Nat.not_lt.mp y) (R8 (r.lt (by omega) h))
  ·rw [if_neg z];have:lo=hi:=by omega
   subst this;exact ⟨h2,ha,hb⟩
theorem zee {xs:Array Nat} (r:Ris xs) (j:Nat):A3 xs j<=xs.size/\(∀i (h:i < xs.size),i < A3 xs j->xs[i] < j)/\(∀i (h:i < xs.size),A3 xs j<=i->j<=xs[i]):=
 zac r _ _ _ (J2 _) (K0 _) (K0 _) (λ i h z=>absurd z (j15 _)) (λ i h z=>absurd h (Nat.not_lt.mpr z))
theorem z6y {α:Type} (xs:Array α) (p:Nat) (x:α) (hp:p<=xs.size):(D9 xs p x).toList=xs.toList.take p++x :: xs.toList.drop p:=by unfold D9;simp [E5]
theorem Ris.insert {xs:Array Nat} (r:Ris xs) {j:Nat} (h:¬ xs[A3 xs j]? = some j):Ris (D9 xs (A3 xs j) j):=by
 obtain ⟨v,u,g⟩:=zee r j;unfold Ris;rw [z6y _ _ _ v];refine List.pairwise_append.mpr ⟨r.sublist (List.take_sublist _ _),List.pairwise_cons.mpr ⟨λ y s=>?_,r.sublist (List.drop_sublist _ _)⟩,λ a t b d=>?_⟩
 ·obtain ⟨i,f,e⟩:=List.mem_drop_iff_getElem.mp s;have l:A3 xs j + i < xs.size:=by simpa [j06] using f
  have c:xs[A3 xs j + i]=y:=by simpa using e
  have le:=g _ l (by omega);rw [c] at le;rcases Nat.lt_or_eq_of_le le with z|z
  ·exact z
  ·exfalso;have d:A3 xs j < xs.size:=by omega
   have x:=g _ d (K0 _);have:xs[A3 xs j]=j:=by
    by_cases i0:i=0
    ·subst i0;exact c.trans z.symm
    ·have:=r.lt (show A3 xs j < A3 xs j + i by omega) l;rw [c] at this;omega
   exact h (by rw [j1d d,this])
 ·obtain ⟨i,f,e⟩:=List.mem_take_iff_getElem.mp t;have w:i < xs.size:=by have:=f;simp at this;omega
  have o:i < A3 xs j:=by have:=f;simp at this;omega
  have lt:=u i w o;have c:xs[i]=a:=by simpa using e
  rw [c] at lt;rcases List.mem_cons.mp d with z|z
  ·rw [z];exact lt
  ·obtain ⟨k,q,m⟩:=List.mem_drop_iff_getElem.mp z;have n:A3 xs j + k < xs.size:=by simpa [j06] using q
   have p:xs[A3 xs j + k]=b:=by simpa using m
   have:=g _ n (by omega);rw [p] at this;omega
theorem zhh (n:Nat):Ris (Array.range n):=by unfold Ris;rw [Array.toList_range];exact J8
def z9n (t:P7) (j:Nat):Prop:=¬ t.place[A3 t.place j]? = some j
theorem z8w {t:P7} {j:Nat} (h :∀i,t.slot j≠.live i):z9n t j:=λ e=>by refine h (A3 t.place j) ?_;unfold SetTable.slot;dsimp only;rw [if_pos (by rw [e];exact beq_self_eq_true _)]
theorem z61 {t:P7} {hs:Nat->Int} {h:Int} :∀(f:Nat) (p:SetTable.Probe) (j:Nat) (d:Option Nat),(∀k,p.dummy=some k->z9n t k)->j12 t hs h f p=some (.empty j d)->z9n t j/\∀k,d=some k->z9n t k
 | 0,p,j,d,hd,e=>by cases e
 | f + 1,p,j,d,hd,e=>by
  unfold j12 at e;cases q:t.slot p.j with
  | empty=>rw [q] at e;cases e;exact ⟨z8w (λ i z=>by rw [q] at z;cases z),hd⟩
  | dummy=>rw [q] at e;refine z61 f _ j d (λ k z=>?_) e;unfold j41 at z;dsimp only at z;split at z<;>(cases z;exact z8w λ i z=>by rw [q] at z;cases z)
  | live i=>
   rw [q] at e;dsimp only at e;split at e
   ·cases e
   ·refine z61 f _ j d (λ k z=>?_) e;unfold j41 at z;dsimp only at z;split at z<;>exact hd k z
theorem zd7 {t:P7} {h:Int} {s:Nat} {b:Bool} (e:t.freeSlot h=some (s,b)):z9n t s:=by
 unfold SetTable.freeSlot at e;cases q:t.probe (λ _=>h + 1) h (t.probeStart h) with
 | none=>rw [q] at e;cases e
 | some m=>
  rw [q] at e;cases m with
  | candidate a b c=>cases e
  | empty j d=>
   have:=z61 _ _ j d (λ k z=>by cases z) q;cases e;cases d with
   | none=>exact this.1
   | some k=>exact this.2 k rfl
def Tidy (l:Bool) (t:P7):Prop:=t.led=l/\Ris t.place
theorem Tidy.standIn {l:Bool} {t:P7} (h:Tidy l t) (n:Nat):Tidy l (t.standIn n):=⟨h.1,zhh n⟩
theorem Tidy.layNew {l:Bool} {t:P7} (h:Tidy l t) (es:Array (Int×Value)) (k:Int) (x:Value):Tidy l (layNew t es k x).2.1:=by
 unfold PySem.layNew;cases q:t.freeSlot k with
 | none=>exact h.standIn _
 | some s=>
  obtain ⟨s,b⟩:=s;dsimp only;have a:Tidy l (t.put s).1:=⟨h.1,Ris.insert h.2 (zd7 q)⟩
  unfold SetTable.orStandIn;split
  ·exact a
  ·exact a.standIn _
theorem Tidy.relayAll {l:Bool} {t:P7} (h:Tidy l t) (es:Array (Int×Value)) (n:Nat):Tidy l (j38 t es n).2.1:=by
 unfold PySem.relayAll;cases q:t.relaid (es.map (·.1)) n with
 | none=>exact h.standIn _
 | some p=>
  obtain ⟨m,o⟩:=p;dsimp only;split
  ·unfold SetTable.relaid SetTable.laid at q;cases q2:SetTable.layClean (SetTable.sizeAbove n - 1) (es.map (·.1)) with
   | none=>rw [q2] at q;cases q
   | some ow=>rw [q2] at q;cases q;refine ⟨h.1,?_⟩;show (List.map _ _).Pairwise _;rw [X9];refine List.Pairwise.filterMap _ (λ a b j c e d i=>?_) (J8);obtain ⟨r,_,g⟩:=Option.map_eq_some_iff.mp e;obtain ⟨k,_,f⟩:=Option.map_eq_some_iff.mp i;rw [<-g,<-f];exact j
  ·exact h.standIn _
end L2
set_option maxHeartbeats 1000000
namespace L2
open PySem PySem.Spec PyProof.Rows
noncomputable def intOf:Value->Int
 | .int i _=>i
 | _=>0
theorem z7s {vs:List Value} {ns:List Int} (h:Y4 vs ns):ns=vs.map intOf/\∀v∈vs,∃i t,v=.int i t:=by
 induction h with
 | nil=>exact ⟨rfl,λ v a=>by cases a⟩
 | cons n t r ih=>
  refine ⟨by rw [ih.1];rfl,λ v a=>?_⟩;rcases List.mem_cons.mp a with e|a
  ·exact ⟨n,t,e⟩
  ·exact ih.2 v a
theorem zel :∀vs:List Value,(∀v∈vs,∃i t,v=.int i t)->Y4 vs (vs.map intOf)
 | [],_=>.nil
 | v :: vs,h=>by obtain ⟨i,t,e⟩:=h v (.head _);subst e;exact .cons i t (zel vs λ v a=>h v (.tail _ a))
theorem zcc {vs vs':List Value} {ns:List Int} (h:Y4 vs ns) (p:vs'.Perm vs) :∃ns',Y4 vs' ns'/\ns'.Perm ns:=by obtain ⟨e,k⟩:=z7s h;refine ⟨vs'.map intOf,zel vs' λ v a=>k v (p.mem_iff.mp a),?_⟩;rw [e];exact p.map _
theorem zf4 {vs:List Value} {ns:List Int} (h:Y4 vs ns):ns.length=vs.length:=by rw [(z7s h).1,I0]
theorem zhe {vs:List Value} {ns:List Int} (h:Y4 vs ns) (n:Int) (t:Tok):Y4 (vs++[.int n t]) (ns++[n]):=by
 induction h with
 | nil=>exact .cons n t .nil
 | cons m u r ih=>exact .cons m u ih
section
variable {prog:Program} {w:Z0} {A:P2} {E:Value->C0->Prop} {s:C0}
def SetAt (prog:Program) (w:Z0) (l:Bool) (h:Heap) (a:Addr) (ns:List Int):Prop:=
 ∃es ep t,h.get? a=some { cls:=.type "set",dict:=none,data:=.set es ep t,slots:=#[] }/\ElemsOf (o5 prog w) es.toList/\Y4 (es.toList.map (·.2)) ns/\ns.Nodup/\es.size < scanBound/\t.fits es.size=true/\Tidy l t
theorem zbp {l:Bool} {h:Heap} {a:Addr} {es0 es:Array (Int×Value)} {ep:Nat} {t0 t:P7} {ns:List Int} (ho:h.get? a=some { cls:=.type "set",dict:=none,data:=.set es0 ep t0,slots:=#[] })
  (hel:ElemsOf (o5 prog w) es.toList) (hi:Y4 (es.toList.map (·.2)) ns) (nd:ns.Nodup) (hb:es.size < scanBound) (hf:t.fits es.size=true) (ht:Tidy l t) :
  (h.update a (W9 es t)).get? a=some { cls:=.type "set",dict:=none,data:=.set es (ep + 1) t,slots:=#[] }/\SetAt prog w l (h.update a (W9 es t)) a ns:=by
 have g:(h.update a (W9 es t)).get? a=some { cls:=.type "set",dict:=none,data:=.set es (ep + 1) t,slots:=#[] }:=a7 (W9 es t) ho rfl;exact ⟨g,es,ep + 1,t,g,hel,hi,nd,hb,hf,ht⟩
theorem zj9 {es:List (Int×Value)} {ns:List Int} {v:Int} (hi:Y4 (es.map (·.2)) ns) (h:es.findIdx? (λ e=>(o5 prog w).is v e.2)=none):¬ v∈ns:=λ a=>by
 obtain ⟨e,k⟩:=z7s hi;rw [e] at a;obtain ⟨y,c,d⟩:=List.mem_map.mp a;obtain ⟨p,j,f⟩:=List.mem_map.mp c;obtain ⟨i,t,b⟩:=k y c;have:=List.findIdx?_eq_none_iff.mp h p j;have g:v=i:=by rw [<-d,b];rfl
 have:(o5 prog w).is v p.2=false:=by simpa using this
 rw [f,b,g,U6] at this;cases this
theorem zkv {es:List (Int×Value)} {ns:List Int} {v:Int} {j:Nat} (hi:Y4 (es.map (·.2)) ns) (h:es.findIdx? (λ e=>(o5 prog w).is v e.2)=some j):v∈ns:=by obtain ⟨b,a,_⟩:=List.findIdx?_eq_some_iff_getElem.mp h;obtain ⟨t,e⟩:=Value.isInt_shape (show j3c v es[j].2=true from a);rw [(z7s hi).1];exact List.mem_map.mpr ⟨es[j].2,List.mem_map.mpr ⟨es[j],D3 b,rfl⟩,by rw [e];rfl⟩
theorem zfd {ns:List Int} {v:Int} (h:ns.Nodup) (n:¬ v∈ns):(ns++[v]).Nodup:=by refine List.nodup_append.mpr ⟨h,by simp,λ a c b d e=>?_⟩;rw [List.mem_singleton.mp d] at e;exact n (e ▸ c)
noncomputable def addI (ns:List Int) (v:Int):List Int:=if v∈ns then ns else ns++[v]
theorem zk4 {l:Bool} {a:Addr} {v:Int} {tk:Tok} {ns:List Int} {Q:Bool->C0->Prop} (hS:SetAt prog w l s.heap a ns) (hroom:ns.length + 1 < scanBound)
  (h :∀b h' ns',S6 a s.heap h'->SetAt prog w l h' a ns'->ns'.Perm (addI ns v)->Q b { s with heap:=h' }):U0 (G1 prog w) A (setAddHashed a (.int v tk) ((o5 prog w).hash v)) Q E s:=by
 obtain ⟨f,ep,t,o,u,k,P,N,F,V⟩:=hS;have a1:f.size=ns.length:=by rw [zf4 k,I0,O2]
 have S:(o5 prog w).is v (.int v tk)=true:=U6 prog w v tk;unfold setAddHashed setAddHashedIn;refine Z1 (v0 (wpAny_setState_of o rfl F ?_));dsimp only;rw [byScan_of rfl N u];simp only [↓reduceIte];unfold setAddByScan;refine v0 (v0 (S5 (v0 (wpAny_setScan_of S o rfl F u ?_))));cases hr:List.findIdx? (λ e=>(o5 prog w).is v e.2) f.toList with
 | some j=>refine F0 (F0 ?_);have:=h false s.heap ns (j24 a s.heap) ⟨f,ep,t,o,u,k,P,N,F,V⟩ (by unfold addI;rw [if_pos (zkv k hr)]);exact this
 | none=>
  dsimp only;have g:=layNew_perm t f ((o5 prog w).hash v) (.int v tk);have C:=layNew_fits t f ((o5 prog w).hash v) (.int v tk);have p:=V.layNew f ((o5 prog w).hash v) (.int v tk);generalize layNew t f ((o5 prog w).hash v) (.int v tk)=L at g C p⊢;obtain ⟨c,d,wd,Z⟩:=L;dsimp only at g C p⊢;rw [Array.toList_push] at g;have K:ElemsOf (o5 prog w) c.toList:=(u.push S rfl).perm g;have y :∃i,Y4 (c.toList.map (·.2)) i/\i.Perm (ns++[v]):=zcc (zhe k v tk) (by have:=g.map (λ e:Int×Value=>e.2);rwa [V1] at this);obtain ⟨i,y,H⟩:=y;have X:=zj9 k hr;have R:i.Nodup:=H.nodup_iff.mpr (zfd P X);have W:addI ns v=ns++[v]:=if_neg X;have G:c.size < scanBound:=by rw [<-O2,g.length_eq,G0,O2,a1];exact hroom
  have T :∀(b:Bool) {B:C0} {Q':Unit->C0->Prop},Q' () B->U0 (G1 prog w) A (match b with|true=>rule "set.scan.the-table-gave-way" | false=>b4 ()) Q' E B:=λ b B Q' q=>by cases b with|false=>exact F0 q|true=>exact S5 q
  have a2:U0 (G1 prog w) A (do
    storeSet a c d
    if (!wd && d.tooFull)=true then do
      (match (j38 d c (P5 c.size)).2.2 with|true=>rule "set.scan.the-table-gave-way" | false=>b4 ())
      storeSet a (j38 d c (P5 c.size)).1 (j38 d c (P5 c.size)).2.1
      b4 (some true)
     else b4 (some true)) (λ r m=>∃b,r=some b/\Q b m) E s:=by
   obtain ⟨J,S1⟩:=zbp (prog:=prog) (w:=w) o K y R G C p;have U:=A8 s.heap a (W9 c d);refine v0 (wpAny_storeSet_of o rfl ?_ (fits_of_scanBound G));split
   ·have n:=relayAll_perm d c (P5 c.size);have D:=relayAll_fits d c (P5 c.size);have I:=p.relayAll c (P5 c.size);generalize j38 d c (P5 c.size)=L2 at n D I⊢;obtain ⟨a0,t2,g2⟩:=L2;dsimp only at n D I⊢;obtain ⟨Y,a3,M⟩:=zcc y (n.map (λ e:Int×Value=>e.2));have O:a0.size < scanBound:=by rw [<-O2,n.length_eq,O2];exact G
    refine v0 (T g2 (v0 (wpAny_storeSet_of J rfl ?_ (fits_of_scanBound O))));obtain ⟨_,S2⟩:=zbp (prog:=prog) (w:=w) J (K.perm n) a3 (M.nodup_iff.mpr R) O D I;exact F0 ⟨true,rfl,h true _ Y (U.trans (A8 _ a _)) S2 (by rw [W];exact M.trans H)⟩
   ·exact F0 ⟨true,rfl,h true _ i U S1 (by rw [W];exact H)⟩
  refine v0 (T Z ?_);have fin:=A4 a2 (Q':=λ r m=>U0 (G1 prog w) A (match r with|some added=>b4 added|none=>setAddHashedIn a (.int v tk) ((o5 prog w).hash v) 99999) Q E m) (E':=E) (λ r m x=>by obtain ⟨b,e,q⟩:=x;subst e;exact F0 q) (λ e m x=>x);by_cases z:d.plain=true
  ·rw [if_pos z];exact v0 (j25 (show hashByValue 8 (i9 v tk)=b4 true from rfl) fin)
  ·rw [if_neg z];exact v0 (F0 fin)
end
theorem zgr {ns ms:List Int} (p:ns.Perm ms) (v:Int):(addI ns v).Perm (addI ms v):=by
 unfold addI;by_cases z:v∈ns
 ·rw [if_pos z,if_pos (p.mem_iff.mp z)];exact p
 ·rw [if_neg z,if_neg (λ y=>z (p.mem_iff.mpr y))];exact p.append_right [v]
theorem z4k :∀(vs:List Int) {ns ms:List Int},ns.Perm ms->(vs.foldl addI ns).Perm (vs.foldl addI ms)
 | [],_,_,p=>p
 | v :: vs,_,_,p=>z4k vs (zgr p v)
theorem zfq (ns:List Int) (v:Int):(addI ns v).length<=ns.length + 1:=by
 unfold addI;split
 ·exact F3 _
 ·rw [G0];exact K0 _
section
variable {prog:Program} {w:Z0} {A:P2} {E:Value->C0->Prop} {s:C0}
theorem SetAt.at' {l:Bool} {h h':Heap} {a:Addr} {ns:List Int} (k :∀o,h.get? a=some o->h'.get? a=some o) (x:SetAt prog w l h a ns):SetAt prog w l h' a ns:=by obtain ⟨b,c,t,e,r⟩:=x;exact ⟨b,c,t,k _ e,r⟩
theorem zbt (a:Args):(L7 "set.update.loop" a).quiet=true:=J7 (by decide +kernel) _
noncomputable def set0 (w:Z0):Obj:={ cls:=.type "set",dict:=none,data:=.set #[] 0 (.fresh 0 0 (!w.params.followText "set-order")) }
theorem zhz (a:Value) {Q₁:Value->C0->Prop} (h:Q₁ (.ref s.heap.objs.size) { s with heap:=s.heap.push (set0 w) }):D5 (G1 prog w) A (.call (.builtin "set.__new__") ⟨[.type "set",a],[]⟩) (wants Q₁ E) s:=by refine U9 F.plain_set_new F.entry_set_new (j25 (F.newCall_set_1 a) ?_);show U0 _ _ (Builtin.Frozenset.newClass "set" ⟨[.type "set",a],[]⟩ >>= _) _ _ _;refine v0 (v0 (show U0 _ _ (b4 true) _ _ _ from F0 ?_));show U0 _ _ (isSubtype (.type "set") (.type "set") >>= _) _ _ _;refine v0 (j25 sub_set_self ?_);refine F0 ?_;show U0 _ _ (newSet (.type "set") >>= _) _ _ _;unfold newSet setsByText;refine v0 (v0 (v0 (wpAny_askSetting (F0 ?_))));exact v0 (wpAny_alloc (F0 (F0 h)))
theorem zkz {h:Heap} {a:Addr} (e:h.get? a=some (set0 w)):SetAt prog w (!w.params.followText "set-order") h a []:=
 ⟨#[],0,_,e,λ x b=>by simp at b,.nil,List.nodup_nil,by decide,by rfl,rfl,z7⟩
noncomputable abbrev setO (es:Array (Int×Value)) (ep:Nat) (t:P7):Obj:={ cls:=.type "set",dict:=none,data:=.set es ep t,slots:=#[] }
end
section
variable {X:Cx}
theorem z58 :∀(vs ns:List Int),(vs.foldl addI ns).length<=ns.length + vs.length
 | [],ns=>K0 _
 | v :: vs,ns=>by have a:=z58 vs (addI ns v);have b:=zfq ns v;show (vs.foldl addI (addI ns v)).length<=_;rw [Y0];omega
end
end L2
set_option maxHeartbeats 400000
namespace HT
open PySem PySem.Spec PyProof.Rows L2
variable {prog:Program} {w:Z0} {A:P2} {E:Value->C0->Prop} {s:C0}
theorem getItem_tuple_all {t sl:Addr} {items:Array Value} {vl vu:Value} {lo hi:Option Int} {Q:Value->C0->Prop} (ht:IsTup s.heap t items) (hs:s.heap.IsSliceOf sl vl vu .none) (pl:y9 vl lo) (pu:y9 vu hi)
  (h0:sIx items.size 0 lo=0) (h1:sIx items.size items.size hi=items.size) (h:Q (.ref t) s):U0 (G1 prog w) A (G8 (.ref t) (.ref sl)) Q E s:=by
 obtain ⟨a,c,b,f⟩:=id hs;have e:s.TypeIs (.ref sl) "slice":=⟨a,c,b⟩
 unfold G8;try with_reducible refine Z1 ?_
 first|refine v0 (F0 ?_)|skip
 refine v0 (wpAny_sequenceKey ht.typeIs (by decide) (v0 (wpAny_callSpecial?_slot (name:=M3 "__getitem__") ht.typeIs T4 (C7 T4 ht.typeIs entry_tuple_getitem ?_ (args_tuple_getitem _ _)))));refine (show U0 _ _ (N9 (.ref t) >>= _) _ _ s from v0 (tupleItemsOf_ ht (v0 (G6 e ?_))));rw [if_pos (by decide)];refine v0 (z2z hs pl pu ?_);have d:(((sIx items.size 0 lo:Nat):Int) == 0 && (1:Int) == 1 && (sIx items.size items.size hi - sIx items.size 0 lo) == items.size)=true:=by rw [h0,h1];simp
 refine (show U0 _ _ (if (((sIx items.size 0 lo:Nat):Int) == 0 && (1:Int) == 1 && (sIx items.size items.size hi - sIx items.size 0 lo) == items.size)=true then _ else _) _ _ s from ?_);rw [if_pos d];refine v0 (show U0 _ _ (typeOf (.ref t) >>= _) _ _ s from v0 (G6 ht.typeIs (F0 ?_)));rw [if_pos (by decide)];first
  | exact v0 (S5 (F0 ⟨_,rfl,F0 h⟩))
  | exact v0 (S5 (F0 (F0 ⟨_,rfl,F0 h⟩)))
  | (trace_state;exact v0 (S5 (F0 ⟨_,rfl,h⟩)))
end HT
namespace L2
open PySem PySem.Spec PyProof.Rows
section
variable {X:Cx}
def rSlW (K:o0):V->Option Int->Option Int->Hp->VK->Prop:=λ x lo hi H Q=>∃a xs,x=.ref a/\SqT K H a xs/\(HT.sIx xs.length 0 lo=0/\HT.sIx xs.length xs.length hi=xs.length)/\Q (.ref a) H
theorem zkh:SlR X (rSlW X.K):=by intro p s σ H x v y w t o n Q I i m e k h;obtain ⟨a,j,rfl,f,⟨g,d⟩,q⟩:=h;cases i;obtain ⟨l,r,c,u⟩:=I.tuple f;have b:l.toArray.size=j.length:=(V0 ..).trans r.length.symm;refine ⟨"tuple",_,PyProof.Rows.slot_tuple_getitem.lookup,c.typeIs,HT.getItem_tuple_all c m e k (by rw [b];exact g) (by rw [b];exact d) ⟨.ref a,H,I,rfl,q⟩⟩
theorem slSeqW:SlR X (λ x lo hi H Q=>(rSlL X.K x lo hi H Q\/rSlT X.K x lo hi H Q\/rSlS x lo hi H Q)\/rSlW X.K x lo hi H Q):=slSeq.or zkh
end
theorem zju {names:List (Str×F6)} {ns:List Str} {Q:Str×F6->Prop} (h:(names.all λ y=>y.2 != K2 || ns.contains y.1)=true) (q :∀n,n∈ns->∀k,Q (n,k)) :∀y∈names,y.2=K2->Q y:=λ y c e=>by
 have z:=List.all_eq_true.mp h y c;rw [e] at z;have z:ns.contains y.1=true:=by simpa using z
 obtain ⟨a,b⟩:=y;exact q a (by simpa using z) b
theorem z96 {S:Hp->Hp->Prop} {ta:TA} {te:TE} {tc:TT} {g:TG} {m n:Nat} {fr:List (Nat×Str)} {σ:St} {H H1:Hp} {Q:VK} (p:Nat->Bool) (R:Nat->V->Hp->Prop) (s0:S H1 H1) (st :∀a b c,S a b->S b c->S a c) (hs :∀H,S H1 H->S H H) (hR :∀i y H H',S H H'->R i y H->R i y H')
  (hta :∀T:List V->Hp->Prop,T [.int (n:Nat)] H1->ta σ H T) (hn:n<=sizeLine)
  (body :∀i,i < n->∀H,S H1 H->∀(KT:VK) (KF:Hp->Prop),(p i=true->∀y H',S H H'->R i y H'->KT y H')->(p i=false->∀H',S H H'->KF H')->
   g (.int (i:Nat)) (cStG σ fr (P0 m none)) H λ σ6 H6=>∃us,us.length=m/\σ6=cStG σ fr us/\tc (cStG σ fr us) H6 λ b H2=>if b=true then te (cStG σ fr us) H2 KT else KF H2)
  (hQ :∀l H' ys,S H1 H'->H' l=none->All2 (λ i y=>R i y H') ((W0 n).filter p) ys->Q (.ref l) (upd H' l (.lst ys))):tCompG (iRng1 ta) m fr g tc te σ H Q:=by
 have b:(n:Int) < 2 ^ 62:=Int.lt_of_le_of_lt (Int.ofNat_le.mpr hn) (by decide);refine hta _ ⟨n,rfl,by omega,b,?_⟩;exact z3c s0 st p R hR (zh0 hs) hn (λ i h v H s d KT KF f e=>by subst d;exact body i h H s KT KF f e) hQ
theorem zit {f:List V->Hp->VK->Prop} {te tb:TE} {r:R2} {σ:St} {H:Hp} {Q:Bool->Hp->Prop} (h:te σ H λ x H1=>f [x] H1 λ y H2=>tb σ H2 λ z H3=>r y z H3 λ b H4=>∃k,b=.bl k/\Q k H4):tTest (tOp r (tCB f (tCons te tNil)) tb) σ H Q:=h
theorem z15 {c:TT} {a b:TS} {D:Ends} {σ:St} {H:Hp} (h:c σ H λ k H1=>if k=true then a D σ H1 else b D σ H1):tIfS c a b D σ H:=h
theorem zcp {K:o0} {a:Addr} {xs:List V} {H1:Hp} (hq:SqL K H1 a xs):RunsR Same (IteL K a) H1 xs.length (λ i v H=>∃x p,xs[i]? = some x/\v=.ref p/\H p=some (.tup [.int (i:Nat),x])):=by refine ⟨λ i b H s=>⟨xs,xs[i],s.seq hq,by simp [b]⟩,λ H s=>⟨xs,s.seq hq,rfl⟩,λ i b H v e s y=>?_⟩;obtain ⟨p,d,rfl,f⟩:=y;obtain ⟨x,c,rfl⟩:=f xs (s.seq hq);exact ⟨Same.upd d,x,p,c,rfl,z04⟩
end L2
set_option maxHeartbeats 1000000
namespace L2
open PySem PySem.Spec PyProof.Rows
section
variable {prog:Program} {w:Z0} {A:P2} {E:Value->C0->Prop} {s:C0}
theorem zfr {b:Bool} {S it l:Addr} {items:Array Value} (nsi:S≠it) (nsl:S≠l) (nil':it≠l) :∀(ms:List Int) (i:Nat) (ns:List Int) (A:P2) (R:j1f->C0->Prop) (s:C0),A.handled=none->s.heap.IsListIter it l i->s.heap.IsList l items->
  Y4 (items.toList.drop i) ms->SetAt prog w b s.heap S ns->ns.length + ms.length < scanBound->
  (∀h' tk ns',SetAt prog w b h' S ns'->ns'.Perm (ms.foldl addI ns)->(∀c o,c≠S->c≠it->s.heap.get? c=some o->h'.get? c=some o)->R (.ok (.ret .none)) { s with heap:=h',toks:=tk })->
  D5 (G1 prog w) A (L7 "set.update.loop" { pos:=[.ref S,.ref it],kw:=[] }) R s
 | [],i,ns,A,R,s,hh,si,sl,al,dd,hz,q=>by
  have D:items[i]? = none:=by
   cases hd:items.toList.drop i with
   | nil=>have:=List.drop_eq_nil_iff.mp hd;rw [O2] at this;exact N4 this
   | cons u us=>rw [hd] at al;cases al
  refine K3 T6 ?_;show U0 _ _ (D7 (.ref it) >>= _) _ _ s;refine v0 (X4 (show (A.under _).handled=none from hh) si sl D λ h' t=>?_);exact F0 (q h' s.toks ns (dd.at' λ o e=>t S o nsi e) (j07 _) λ c o _ I e=>t c o I e)
 | m :: ms,i,ns,A,R,s,hh,si,sl,al,dd,hz,q=>by
  cases hd:items.toList.drop i with
  | nil=>rw [hd] at al;cases al
  | cons u us=>
   rw [hd] at al;cases al with
   | cons _ tk al=>
    have z:items.toList[i]? = some (.int m tk):=by have:=congrArg (λ l=>l[0]?) hd;simpa using this
    have J:items[i]? = some (.int m tk):=by simpa using z
    have C:items.toList.drop (i + 1)=us:=by have:=congrArg j0b hd;simpa using this
    refine K3 T6 ?_;show U0 _ _ (D7 (.ref it) >>= _) _ _ s;refine v0 (y4 si sl J λ h H f=>?_);have M:h.IsList l items:=by obtain ⟨o,d,a⟩:=sl;exact ⟨o,(f.2 l (C2 nil')).trans d,a⟩
    have K:SetAt prog w b h S ns:=dd.at' λ o e=>(f.2 S nsi).trans e;rw [Y0] at hz;refine v0 (Z1 (show U0 _ _ (setAdd S (.int m tk)) _ _ _ from ?_));unfold setAdd;refine Z1 (v0 ((o5 prog w).pyHash (k:=m) (U6 prog w m tk) ?_));refine zk4 (s:={ s with heap:=h,toks:=s.toks + 1 }) K (X0 (by omega) hz) λ c g p j G n=>?_;refine F0 ⟨zbt _,?_⟩;have B:g.IsListIter it l (i + 1):=by obtain ⟨o,d,a⟩:=H;exact ⟨o,(j.2 it (C2 nsi)).trans d,a⟩
    have E:g.IsList l items:=by obtain ⟨o,d,a⟩:=M;exact ⟨o,(j.2 l (C2 nsl)).trans d,a⟩
    have N:p.length<=ns.length + 1:=by rw [n.length_eq];exact zfq ns m
    refine zfr nsi nsl nil' ms (i + 1) p A R { s with heap:=g,toks:=s.toks + 1 } hh B E (by rw [C];exact al) G (by omega) λ h' L ns' x F y=>q h' L ns' x (F.trans (z4k ms n)) λ c o r v e=>y c o r v ((j.2 c r).trans ((f.2 c v).trans e))
theorem z8t:isSubtype (.type "list") (.type "set")=b4 false:=by rw [isSubtype_type];kernel_rfl
theorem z7c:isSubtype (.type "list") (.type "frozenset")=b4 false:=by rw [isSubtype_type];kernel_rfl
theorem zbi {l:Addr} {items:Array Value} {ns:List Int} {Q:Value->C0->Prop} (hh:A.handled=none) (ht:s.heap.IsList l items) (hi:Y4 items.toList ns) (hb:ns.length < scanBound)
  (h :∀h' tk ns',SetAt prog w (!w.params.followText "set-order") h' s.heap.objs.size ns'->ns'.Perm (ns.foldl addI [])->(∀b o,s.heap.get? b=some o->h'.get? b=some o)->Q (.ref s.heap.objs.size) { s with heap:=h',toks:=tk }) :
  U0 (G1 prog w) A (call (.type "set") [.ref l]) Q E s:=by
 obtain ⟨c,V,U⟩:=F.called_set.mro;have O:=F.called_set.made;have R:=F.called_set.sub;refine j36 (codeAny_of_tree (show U0 _ _ (callAny (.type "set") _) _ _ _ from F0 ⟨Code.quiet_builtin _ (by decide +kernel),K3 F.entry_type_call ?_⟩));rw [j4c (weight_type_call_type "set" [.ref l] []) rfl];have h1:=F.called_set.notType;have Z:=F.called_set.canCreate;have N:=F.typeCall_set_1 (.ref l)
 (repeat (any_goals (first|assumption|wp_step)));refine K6 (zhz (.ref l) (E:=E) (Q₁:=λ t j=>t=.ref s.heap.objs.size/\j={ s with heap:=s.heap.push (set0 w) }) ⟨rfl,rfl⟩) λ r j a=>?_
 cases r with
 | error e=>exact a
 | ok fl=>
  cases fl with
  | next=>exact a.elim
  | brk=>exact a.elim
  | cont=>exact a.elim
  | ret t=>
   obtain ⟨rfl,rfl⟩:=a;have f:(s.heap.push (set0 w)).get? s.heap.objs.size=some (set0 w):=C1 _ rfl;have C:Z6 { s with heap:=s.heap.push (set0 w) } (.ref s.heap.objs.size) "set":=⟨_,f,rfl⟩
   have T:=F.called_set.init.lookup;have L:=F.called_set.init.bind (.ref s.heap.objs.size)
   (repeat (any_goals (first|assumption|wp_step)))
   have H:D5 (G1 prog w) A.in1 (.call (.builtin "set.__init__") ⟨[.ref s.heap.objs.size,.ref l],[]⟩) (wants (λ r u=>r=.none/\Q (.ref s.heap.objs.size) u) E) { s with heap:=s.heap.push (set0 w) }:=by
    refine U9 F.called_set.init.plain F.entry_set_init (check_set_init_1 C ?_);obtain ⟨o,g,q,n,p⟩:=ht;obtain ⟨X,x,K,I⟩:=o;dsimp only at q p;subst q p;have v:(s.heap.push (set0 w)).get? l=some { cls:=.type "list",dict:=x,data:=.seq items n,slots:=I }:=J0 _ g;have Y:=z8t;have M:=z7c;have W:(G3 "list" == G3 "dict")=false:=by decide
    have P:(s.heap.push (set0 w)).get? s.heap.objs.size=some { cls:=.type "set",dict:=none,data:=.set #[] 0 (.fresh 0 0 (!w.params.followText "set-order")),slots:=#[] }:=f;have D:(s.heap.push (set0 w)).IsList l items:=⟨_,v,rfl,n,rfl⟩
    have k:l < s.heap.objs.size:=T0 g;unfold z9.«set.__init__» noKeywords T8;generalize hPI:pyIter=PI
    wp_walk
    subst hPI;refine b5 D (v0 (wpAny_runValue ?_));have m :∀b o,s.heap.get? b=some o->((s.heap.push (set0 w)).push { cls:=.type "list_iterator",data:=.fields #[.ref l,.int 0 0] }).get? b=some o:=λ b o e=>J0 _ (J0 _ e);have i:(s.heap.push (set0 w)).objs.size=s.heap.objs.size + 1:=R6 _ _;refine zfr (S:=s.heap.objs.size) (it:=(s.heap.push (set0 w)).objs.size) (l:=l) (items:=items) (by rw [i];exact A1 (J3 _)) (u4 k) (by rw [i];exact u4 (V2 k)) ns 0 [] _ _ _ (by simp [hh]) ⟨_,C1 _ rfl,rfl,rfl⟩ ⟨_,m _ _ g,rfl,n,rfl⟩ (by rw [z5];exact hi) (zkz (J0 _ f)) (by simpa using hb) λ h' tk ns' z J y=>?_;refine F0 (F0 ⟨rfl,h h' tk ns' z J λ b o e=>y b o (A1 (T0 e)) (by rw [i];exact A1 (V2 (T0 e))) (m b o e)⟩)
   refine K6 H λ B u d=>?_;cases B with
   | error e=>exact d
   | ok f2=>
    cases f2 with
    | next=>exact d.elim
    | brk=>exact d.elim
    | cont=>exact d.elim
    | ret r=>obtain ⟨rfl,G⟩:=d;exact F0 (F0 G)
end
section
variable {X:Cx}
noncomputable def tLSet (K:o0) (te:TE):TE:=λ σ H Q=>te σ H λ x H1=>∃(a:Addr) (ns:List Int),x=.ref a/\SqL K H1 a (ns.map V.int)/\ns.length < 100/\Q (.int ((ns.foldl addI []).length:Nat)) H1
theorem zhg {e:Expr} {te:TE} {p1 p2 c1 c2:Pos} (hcalm:X.calm=true) (g1:Gl X "len") (m1:X.mg "len" = none) (g2:Gl X "set") (m2:X.mg "set" = none) (b1:v5 "len" = some (.builtin "len")) (b2:v5 "set" = some (.type "set")) (ha:PE X e te)
  (he:K1 [e] X.env=[(false,V3 e X.env)]:=by rfl):PE X (.Call (.Name "len" p1) [.Call (.Name "set" p2) [e] [] c2] [] c1) (tLSet X.K te):=by
 intro j s σ H Q I h;have v:X.A.handled=none:=I.ok.hd hcalm;refine F4 (ld_blt I g1 m1 b1 ?_ (by decide) (by decide));refine L6 ?_ rfl rfl;refine (show U0 _ _ (j31 ((false,V3 (.Call (.Name "set" p2) [e] [] c2) X.env) :: [])) _ _ s from R4 ?_);refine F4 (ld_blt I g2 m2 b2 ?_ (by decide) (by decide));refine E4 ?_ he rfl;rw [he];refine (show U0 _ _ (j31 ((false,V3 e X.env) :: [])) _ _ s from R4 (thn (ha j s σ H _ I h) λ u k ⟨x,H1,I1,r1,a,ns,ex,sq,hl,q⟩=>?_));subst ex;cases r1;refine R5 ?_;obtain ⟨D,r,d,C⟩:=I1.list sq;refine zbi v d.isList (by simpa using zej r) (Q7 hl (by decide)) λ o b w n i l=>R5 ?_;obtain ⟨c,z,t,m,_,f,B,y,g,_⟩:=n;have p:c.size=(ns.foldl addI []).length:=by rw [<-i.length_eq,zf4 f,I0,O2]
 have E:(ns.foldl addI []).length < 100:=by have:=z58 ns [];rw [T3,G5] at this;omega
 refine call_len_set (s:={ k with heap:=o,toks:=b }) m ⟨rfl,rfl,rfl⟩ rfl g (by omega) ?_;rw [p];exact ⟨.int ((ns.foldl addI []).length:Nat),H1,(I1.kept (t':=b + 1 + 1) l),⟨_,rfl⟩,q⟩
end
section
variable {prog:Program} {w:Z0} {A:P2} {E:Value->C0->Prop}
theorem drawL {I l:Addr} {xs:Array Value} (nl:l≠I) :∀(m k:Nat) (s:C0) (R:List Value->C0->Prop),s.heap.IsListIter I l k->s.heap.IsList l xs->k + m<=xs.size->
  (∀g,g.IsListIter I l (k + m)->S6 I s.heap g->R ((xs.toList.drop k).take m) { s with heap:=g })->U0 (G1 prog w) A (draw (.ref I) m) R E s
 | 0,k,s,R,hI,_,_,hR=>(show U0 (G1 prog w) A (b4 ([]:List Value)) R E s from F0 (by simpa using hR s.heap hI (j24 ..)))
 | m + 1,k,s,R,hI,hl,le,hR=>by
  have lt:k < xs.size:=by omega
  refine (show U0 (G1 prog w) A (D7 (.ref I) >>= _) R E s from v0 (y4 hI hl (x:=xs[k]) (by simp [lt]) λ b h a=>?_));refine v0 (Z1 (drawL nl m (k + 1) { s with heap:=b } _ h (hl.extBut a.extBut nl) (by omega) λ f d c=>F0 ?_));have e:xs.toList.drop k=xs[k] :: xs.toList.drop (k + 1):=by simp [j23,lt]
  have z:=hR f (by rw [show k + (m + 1)=k + 1 + m by omega];exact d) (a.trans c);rw [e,List.take_succ_cons] at z;exact z
theorem zkm {l:Addr} {xs:Array Value} {ts:List (Bool×(Value->Sem Unit))} {R:Unit->C0->Prop} {s:C0} (hh:A.handled=none) (hl:s.heap.IsList l xs) (hn:ts.length=xs.size) (hst:ts.findIdx? (·.1)=none)
  (q :∀g,Heap.ExtBut s.heap.objs.size s.heap g->U0 (G1 prog w) A (assignInOrder (ts.map (·.2)) xs.toList) R E { s with heap:=g }):U0 (G1 prog w) A (unpack (.ref l) ts) R E s:=by
 have d:l≠s.heap.objs.size:=hl.elim λ o z=>A1 (T0 z.1);unfold unpack;rw [hn,hst];refine v0 (Z1 ?_);unfold unpackItems;refine v0 ?_;unfold notIterableAtAll;refine v0 (wpAny_specialOf hl.typeIs slot_list_iter.lookup (F0 ?_));simp only [Y2,if_false];refine v0 (Z1 (b5 hl (v0 (Z1 (drawL d xs.size 0 _ _ ⟨_,C1 _ rfl,rfl,rfl⟩ (hl.push _) (by omega) λ f j a=>?_)))));have all:List.take xs.size (List.drop 0 xs.toList)=xs.toList:=by rw [z5,E5 (by simp)]
 rw [all,if_neg (by simp)];have k:f.IsList l xs:=(hl.push _).extBut a.extBut d;refine v0 (Z1 (X4 hh j k (by simp) λ i h=>?_));simp only [Option.isSome_none,Y2,if_false];exact F0 (q i λ b o c e=>h b o c (a.extBut b o c (J0 _ e)))
end
section
variable {X:Cx} {pos:Pos}
noncomputable def gLst (K:o0) (n:Nat) (t:TGs):TG:=λ v σ H Q=>∃a xs,v=.ref a/\SqL K H a xs/\xs.length=n/\t xs σ H Q
theorem pg_lst {es:List Expr} {k:Nat} {t:TGs} {n:Nat} (hc:X.calm=true) (h:PGs X es t) (hn:(E7 es X.env).length=n:=by rfl) (hst:(E7 es X.env).findIdx? (·.1)=none:=by rfl):PG X (.Tuple es k pos) (gLst X.K n t):=by intro i s σ H v u Q I r ⟨a,xs,e1,hq,hl,hw⟩;subst e1;cases r;obtain ⟨j,c,d,l⟩:=I.list hq;rw [assign_Tuple];refine v0 (j08 (zkm (I.ok.hd hc) d.isList (by simp [hn,<-hl,c.length]) hst λ g f=>?_));exact h i _ σ H xs _ Q (I.kept (t':=s.toks) λ b o e=>f b o (A1 (T0 e)) e) (by simpa using c) hw
end
theorem z2c {K:o0} {a:Addr} {xs:List V} {tl te:TE} {tc:TT} {g:TG} {m:Nat} {fr:List (Nat×Str)} {σ:L2.St} {H H1:Hp} {Q:VK} (p:Nat->Bool) (R:Nat->V->Hp->Prop) (hR :∀i y H H',Same H H'->R i y H->R i y H') (htl :∀R:VK,R (.ref a) H1->tl σ H R) (hq:SqL K H1 a xs) (hn:xs.length<=sizeLine)
  (body :∀i,i < xs.length->∀v H,Same H1 H->xs[i]? = some v->∀(KT:VK) (KF:Hp->Prop),(p i=true->∀y H',Same H H'->R i y H'->KT y H')->(p i=false->∀H',Same H H'->KF H')->
   g v (cStG σ fr (P0 m none)) H λ σ6 H6=>∃us,us.length=m/\σ6=cStG σ fr us/\tc (cStG σ fr us) H6 λ b H2=>if b=true then te (cStG σ fr us) H2 KT else KF H2)
  (hQ :∀l H' ys,Same H1 H'->H' l=none->All2 (λ i y=>R i y H') ((W0 xs.length).filter p) ys->Q (.ref l) (upd H' l (.lst ys))):tCompG (iList K tl) m fr g tc te σ H Q:=
 htl _ ⟨a,rfl,⟨xs,hq⟩,z3c (Same.refl _) (λ _ _ _ a b=>a.trans b) p R hR (z9g (S:=Same) (λ _ _=>Same.refl _) λ H s=>s.seq hq) hn body hQ⟩
theorem zhl {K:o0} {a:Addr} {xs:List V} {ta:TA} {te:TE} {tc:TT} {g:TG} {m:Nat} {fr:List (Nat×Str)} {σ:L2.St} {H H1:Hp} {Q:VK} (p:Nat->Bool) (R:Nat->V->Hp->Prop) (hR :∀i y H H',Same H H'->R i y H->R i y H') (hta :∀T:List V->Hp->Prop,T [.ref a] H1->ta σ H T) (hq:SqL K H1 a xs) (hn:xs.length<=sizeLine)
  (body :∀i,i < xs.length->∀v H,Same H1 H->(∃x p,xs[i]? = some x/\v=.ref p/\H p=some (.tup [.int (i:Nat),x]))->∀(KT:VK) (KF:Hp->Prop),(p i=true->∀y H',Same H H'->R i y H'->KT y H')->(p i=false->∀H',Same H H'->KF H')->
   g v (cStG σ fr (P0 m none)) H λ σ6 H6=>∃us,us.length=m/\σ6=cStG σ fr us/\tc (cStG σ fr us) H6 λ b H2=>if b=true then te (cStG σ fr us) H2 KT else KF H2)
  (hQ :∀l H' ys,Same H1 H'->H' l=none->All2 (λ i y=>R i y H') ((W0 xs.length).filter p) ys->Q (.ref l) (upd H' l (.lst ys))):tCompG (ieL K ta) m fr g tc te σ H Q:=
 hta _ ⟨a,xs,rfl,hq,z3c (Same.refl _) (λ _ _ _ a b=>a.trans b) p R hR (zcp hq) hn body hQ⟩
theorem zja {K:o0} {tl te:TE} {tc:TT} {g:TG} {m:Nat} {fr:List (Nat×Str)} {σ:L2.St} {H:Hp} {Q:VK} (Pr:Addr->List V->Hp->Prop) (htl :∀R:VK,(∀a xs H1,Pr a xs H1->R (.ref a) H1)->tl σ H R) (hq :∀a xs H1,Pr a xs H1->SqL K H1 a xs/\xs.length<=sizeLine)
  (p:Nat->Bool) (R:Nat->V->Hp->Prop) (hR :∀i y H H',Same H H'->R i y H->R i y H')
  (body :∀a xs H1,Pr a xs H1->∀i,i < xs.length->∀v H,Same H1 H->xs[i]? = some v->∀(KT:VK) (KF:Hp->Prop),(p i=true->∀y H',Same H H'->R i y H'->KT y H')->(p i=false->∀H',Same H H'->KF H')->
   g v (cStG σ fr (P0 m none)) H λ σ6 H6=>∃us,us.length=m/\σ6=cStG σ fr us/\tc (cStG σ fr us) H6 λ b H2=>if b=true then te (cStG σ fr us) H2 KT else KF H2)
  (hQ :∀a xs H1,Pr a xs H1->∀l H' ys,Same H1 H'->H' l=none->All2 (λ i y=>R i y H') ((W0 xs.length).filter p) ys->Q (.ref l) (upd H' l (.lst ys))):tCompG (iList K tl) m fr g tc te σ H Q:=
 htl _ λ a xs H1 c=>⟨a,rfl,⟨xs,(hq a xs H1 c).1⟩,z3c (Same.refl _) (λ _ _ _ a b=>a.trans b) p R hR (z9g (S:=Same) (λ _ _=>Same.refl _) λ H s=>s.seq (hq a xs H1 c).1) (hq a xs H1 c).2 (body a xs H1 c) (hQ a xs H1 c)⟩
theorem zc1 {K:o0} {a:Addr} {xs:List V} {tl te:TE} {tc:TT} {g:TG} {m:Nat} {fr:List (Nat×Str)} {σ:L2.St} {H H1:Hp} {Q:VK} (p:Nat->Bool) (R:Nat->V->Hp->Prop) (hR :∀i y H H',Same H H'->R i y H->R i y H') (htl :∀R:VK,R (.ref a) H1->tl σ H R) (hq:SqT K H1 a xs) (hn:xs.length<=sizeLine)
  (body :∀i,i < xs.length->∀v H,Same H1 H->xs[i]? = some v->∀(KT:VK) (KF:Hp->Prop),(p i=true->∀y H',Same H H'->R i y H'->KT y H')->(p i=false->∀H',Same H H'->KF H')->
   g v (cStG σ fr (P0 m none)) H λ σ6 H6=>∃us,us.length=m/\σ6=cStG σ fr us/\tc (cStG σ fr us) H6 λ b H2=>if b=true then te (cStG σ fr us) H2 KT else KF H2)
  (hQ :∀l H' ys,Same H1 H'->H' l=none->All2 (λ i y=>R i y H') ((W0 xs.length).filter p) ys->Q (.ref l) (upd H' l (.lst ys))):tCompG (iTup K tl) m fr g tc te σ H Q:=
 htl _ ⟨a,rfl,⟨xs,hq⟩,z3c (Same.refl _) (λ _ _ _ a b=>a.trans b) p R hR (zg6 (S:=Same) (λ _ _=>Same.refl _) λ H s=>s.seqT hq) hn body hQ⟩
theorem e_cb1 {f:List V->Hp->VK->Prop} {te:TE} {σ:L2.St} {H:Hp} {Q:VK} (h:te σ H λ x H1=>f [x] H1 Q):tCB f (tCons te tNil) σ H Q:=h
theorem t_test {r:R2} {ta tb:TE} {σ:L2.St} {H:Hp} {Q:Bool->Hp->Prop} (h:ta σ H λ x H1=>tb σ H1 λ y H2=>r x y H2 λ x H3=>∃c,x=.bl c/\Q c H3):tTest (tOp r ta tb) σ H Q:=h
theorem t_or {t u:TT} {σ:L2.St} {H:Hp} {Q:Bool->Hp->Prop} (h:t σ H λ c H1=>if c=true then Q true H1 else u σ H1 Q):tOr t u σ H Q:=h
theorem sq_if {c:TT} {a b rest:TS} {D:Ends} {σ:L2.St} {H:Hp} (h:c σ H λ k H1=>if k=true then a { D with nx:=rest D } σ H1 else b { D with nx:=rest D } σ H1):tSeq (tIfS c a b) rest D σ H:=h
theorem sq_ret {te:TE} {D:Ends} {σ:L2.St} {H:Hp} (h:te σ H D.rt):tRet te D σ H:=h
def TupI (h:Heap) (v:Value) (x:Int×Int):Prop:=∃(p:Addr) (o:Obj) (n:Nat) (t u:Tok),v=.ref p/\h.get? p=some o/\o.cls=.type "tuple"/\o.data=.seq #[.int x.1 t,.int x.2 u] n
noncomputable def gtI (x y:Int×Int):Bool:=if x.1=y.1 then decide (y.2 < x.2) else decide (y.1 < x.1)
section
variable {prog:Program} {w:Z0} {A:P2} {E:Value->C0->Prop} {s:C0}
theorem tup_gt {v z:Value} {x y:Int×Int} {Q:Value->C0->Prop} (hx:TupI s.heap v x) (hy:TupI s.heap z y) (hu:A.units < cLine) (h:Q (.bool (gtI x y)) s):U0 (G1 prog w) A (E8 .Gt v z) Q E s:=by
 obtain ⟨p,o,n,t,u,rfl,c,e,l⟩:=hx;obtain ⟨m,k,D,B,C,rfl,d,g,r⟩:=hy;refine j2j (op:=.Gt) (T:="tuple") ⟨o,c,e⟩ ⟨k,d,g⟩ m9 (C7 m9 ⟨o,c,e⟩ F.entry_tuple_gt ?_ (F.args_tuple_gt_2 _ _)) hu;refine (show U0 _ _ (j39 (.ref m) (.type "tuple") >>= _) _ _ s from v0 (J6 (T:="tuple") ⟨k,d,g⟩ isSubtype_tuple_tuple ?_));simp only [O5,Y2,if_false];refine v0 (n8 c l (v0 (n8 d r (v0 ?_))));simp only [R9,List.zip_nil_left,A7,S7];refine v0 (v0 ((o5 prog w).eqBool (a:=x.1) (b:=y.1) (U6 prog w _ _) (U6 prog w _ _) ?_));have f :∀{i j:Int} {a b:Tok} {R:Value->C0->Prop},R (.bool (decide (j < i))) s->U0 (G1 prog w) A.in1 (E8 .Gt (.int i a) (.int j b)) R E s:=λ q=>(show U0 _ _ (X2 .Gt _ _) _ _ _ from gt_int q)
 by_cases e1:x.1=y.1
 ·rw [decide_eq_true e1];simp only [O5,Y2,if_false];refine F0 (v0 (v0 ((o5 prog w).eqBool (a:=x.2) (b:=y.2) (U6 prog w _ _) (U6 prog w _ _) ?_)));unfold gtI at h;rw [if_pos e1] at h;by_cases e2:x.2=y.2
  ·rw [decide_eq_true e2];simp only [O5,Y2,if_false];rw [decide_eq_false (by omega)] at h;exact F0 (F0 (F0 ⟨_,rfl,(λ z=>nomatch z),h⟩))
  ·rw [decide_eq_false e2];simp only [n9,if_true];exact v0 (S5 (v0 (f (v0 (F0 (F0 (F0 (F0 ⟨_,rfl,(λ z=>nomatch z),h⟩))))))))
 ·rw [decide_eq_false e1];simp only [n9,if_true];unfold gtI at h;rw [if_neg e1] at h;exact v0 (S5 (v0 (f (v0 (F0 (F0 (F0 (F0 ⟨_,rfl,(λ z=>nomatch z),h⟩))))))))
theorem TupI.kept {h h':Heap} {v:Value} {x:Int×Int} {c:Addr} {oc:Obj} (q:TupI h v x) (e:h.get? c=some oc) (nc:oc.cls≠.type "tuple") (k :∀b o,b≠c->h.get? b=some o->h'.get? b=some o):TupI h' v x:=by obtain ⟨p,o,n,t,u,rfl,a,d,f⟩:=q;exact ⟨p,o,n,t,u,rfl,k p o (λ z=>by rw [z,e] at a;cases a;exact nc d) a,d,f⟩
end
section
variable {X:Cx}
theorem gtI_iff {x y:Int×Int}:gtI x y=true↔y.1 < x.1\/(x.1=y.1/\y.2 < x.2):=by
 unfold gtI;by_cases e:x.1=y.1
 ·rw [if_pos e,decide_eq_true_iff];omega
 ·rw [if_neg e,decide_eq_true_iff];omega
end
noncomputable def kasRun {α:Type} (c:Nat->Nat->Bool) (n:Nat):j1i α->Option α
 | .ret a=>some a
 | .ask i j k=>if i < n/\j < n/\i≠j then kasRun c n (k (c i j)) else none
theorem zbs {α:Type} {c:Nat->Nat->Bool} {n:Nat} {cmp:Nat->Nat->(Bool->C0->Prop)->C0->Prop} {s:C0} {Q:α->C0->Prop} (hc :∀i j C,i < n->j < n->i≠j->C (c i j) s->cmp i j C s) :∀(t:j1i α) (a:α),kasRun c n t=some a->Q a s->t.kasWp cmp Q s
 | .ret b,a,h,q=>by cases h;exact q
 | .ask i j k,a,h,q=>by
  unfold kasRun at h;by_cases z:i < n/\j < n/\i≠j
  ·rw [if_pos z] at h;exact hc i j _ z.1 z.2.1 z.2.2 (zbs hc (k (c i j)) a h q)
  ·rw [if_neg z] at h;cases h
theorem z5w {α:Type} {c d:Nat->Nat->Bool} {n:Nat} (h :∀i j,i < n->j < n->c i j=d i j) :∀t:j1i α,kasRun c n t=kasRun d n t
 | .ret _=>rfl
 | .ask i j k=>by
  unfold kasRun;by_cases z:i < n/\j < n/\i≠j
  ·rw [if_pos z,if_pos z,h i j z.1 z.2.1];exact z5w h _
  ·rw [if_neg z,if_neg z]
noncomputable def z2k:Nat->List Nat->List (List Nat)
 | 0,_=>[[]]
 | n + 1,l=>l.flatMap λ x=>(z2k n (l.erase x)).map (x :: ·)
noncomputable def z3u (n:Nat) (r:List Nat):Bool:=match kasRun (λ i j=>decide (r.getD i 0 < r.getD j 0)) n (g6 n) with
 | some p=>(p.toList.map (λ i=>r.getD i 0) == W0 n) && p.toList.isPerm (W0 n)
 | none=>false
theorem good2:(z2k 2 (W0 2)).all (z3u 2)=true:=by decide +kernel
theorem good3:(z2k 3 (W0 3)).all (z3u 3)=true:=by decide +kernel
theorem good4:(z2k 4 (W0 4)).all (z3u 4)=true:=by decide +kernel
theorem good5:(z2k 5 (W0 5)).all (z3u 5)=true:=by decide +kernel
theorem good6:(z2k 6 (W0 6)).all (z3u 6)=true:=by decide +kernel
theorem zjx :∀n,2<=n->n<=6->(z2k n (W0 n)).all (z3u n)=true
 | 2,_,_=>good2
 | 3,_,_=>good3
 | 4,_,_=>good4
 | 5,_,_=>good5
 | 6,_,_=>good6
 | 0,h,_=>absurd h (by decide)
 | 1,h,_=>absurd h (by decide)
 | n + 7,_,h=>absurd h (by omega)
theorem zbr :∀(r l:List Nat),r.Nodup->(∀x∈r,x∈l)->r∈z2k r.length l
 | [],l,_,_=>List.mem_singleton.mpr rfl
 | x :: r,l,nd,h=>by rw [K5] at nd;refine List.mem_flatMap.mpr ⟨x,h x (.head _),List.mem_map.mpr ⟨r,zbr r (l.erase x) nd.2 λ y a=>?_,rfl⟩⟩;exact (j48 (show y≠x from λ e=>nd.1 (e ▸ a))).mpr (h y (.tail _ a))
noncomputable def ltS (a b:Str):Bool:=decide (a.cps.toList < b.cps.toList)
theorem z6v (a:Str):ltS a a=false:=decide_eq_false (List.lt_irrefl _)
theorem zhf {a b c:Str} (h:ltS a b=true) (k:ltS b c=true):ltS a c=true:=decide_eq_true (List.lt_trans (of_decide_eq_true h) (of_decide_eq_true k))
theorem zid {a b:Str} (h:ltS a b=false) (k:ltS b a=false):a=b:=by have e:a.cps.toList=b.cps.toList:=List.le_antisymm (List.not_lt.mp (of_decide_eq_false k)) (List.not_lt.mp (of_decide_eq_false h));cases a;cases b;congr;exact Array.toList_inj.mp e
noncomputable def rkS (ks:List Str) (z:Str):Nat:=(ks.filter λ x=>ltS x z).length
theorem z5g {α:Type} {p q:α->Bool} :∀{l:List α},(∀x∈l,p x=true->q x=true)->(l.filter p).length<=(l.filter q).length
 | [],_=>K0 _
 | x :: l,h=>by
  have a:=z5g (l:=l) λ y b=>h y (.tail _ b);cases hp:p x with
  | true=>rw [u3 hp,u3 (h x (.head _) hp)];exact Nat.succ_le_succ a
  | false=>
   rw [N3 (by rw [hp];decide)];cases hq:q x with
   | true=>rw [u3 hq];exact Nat.le_succ_of_le a
   | false=>rw [N3 (by rw [hq];decide)];exact a
theorem z33 {α:Type} {p q:α->Bool} {y:α} :∀{l:List α},(∀x∈l,p x=true->q x=true)->y∈l->p y=false->q y=true->(l.filter p).length < (l.filter q).length
 | [],_,h,_,_=>absurd h L0
 | x :: l,h,hy,hp,hq=>by
  rcases List.mem_cons.mp hy with rfl|hy
  ·rw [N3 (by rw [hp];decide),u3 hq];exact Nat.lt_succ_of_le (z5g λ z a=>h z (.tail _ a))
  ·have b:=z33 (l:=l) (λ z a=>h z (.tail _ a)) hy hp hq;cases hpx:p x with
   | true=>rw [u3 hpx,u3 (h x (.head _) hpx)];exact Nat.succ_lt_succ b
   | false=>
    rw [N3 (by rw [hpx];decide)];cases hqx:q x with
    | true=>rw [u3 hqx];exact V2 b
    | false=>rw [N3 (by rw [hqx];decide)];exact b
theorem rk_lt {ks:List Str} {a b:Str} (ha:a∈ks) (h:ltS a b=true):rkS ks a < rkS ks b:=z33 (λ x _ z=>zhf z h) ha (z6v a) h
theorem rk_iff {ks:List Str} {a b:Str} (ha:a∈ks) (hb:b∈ks):ltS a b=decide (rkS ks a < rkS ks b):=by
 cases h:ltS a b with
 | true=>exact (decide_eq_true (rk_lt ha h)).symm
 | false=>
  refine (decide_eq_false λ z=>?_).symm;cases k:ltS b a with
  | true=>have:=rk_lt hb k;omega
  | false=>rw [zid h k] at z;exact C4 _ z
theorem rk_inj {ks:List Str} {a b:Str} (ha:a∈ks) (hb:b∈ks) (e:rkS ks a=rkS ks b):a=b:=zid (by rw [rk_iff ha hb];exact decide_eq_false (by omega)) (by rw [rk_iff hb ha];exact decide_eq_false (by omega))
theorem zjd {ks:List Str} {a:Str} (ha:a∈ks):rkS ks a < ks.length:=by have h:=z33 (l:=ks) (p:=λ x=>ltS x a) (q:=λ _=>true) (λ _ _ _=>rfl) ha (z6v a) rfl;rw [List.filter_eq_self.mpr (λ _ _=>rfl)] at h;exact h
theorem nodup_map_on {α β:Type} {f:α->β} :∀{l:List α},(∀a∈l,∀b∈l,f a=f b->a=b)->l.Nodup->(l.map f).Nodup
 | [],_,_=>.nil
 | x :: l,h,nd=>by rw [K5] at nd;rw [Y1,K5];refine ⟨λ z=>?_,nodup_map_on (λ a d b g=>h a (.tail _ d) b (.tail _ g)) nd.2⟩;obtain ⟨y,c,e⟩:=List.mem_map.mp z;exact nd.1 (h x (.head _) y (.tail _ c) e.symm ▸ c)
theorem zha {ks:List Str} (nd:ks.Nodup) (h2:2<=ks.length) (h6:ks.length<=6) :∃p:Array Nat,kasRun (λ i j=>ltS (ks.getD i "") (ks.getD j "")) ks.length (g6 ks.length)=some p/\p.toList.Perm (W0 ks.length)/\(p.toList.map λ i=>ks.getD i "").Pairwise λ x y=>ltS x y=true:=by
 have o :∀i,i < ks.length->ks.getD i ""∈ks:=λ i g=>by rw [P1,A0 g];exact D3 g
 have u:(ks.map (rkS ks)).length=ks.length:=I0 ..;have m :∀i,i < ks.length->(ks.map (rkS ks)).getD i 0=rkS ks (ks.getD i ""):=λ i g=>by rw [P1,P1,S0,A0 g];rfl
 have t:ks.map (rkS ks)∈z2k ks.length (W0 ks.length):=by
  have:=zbr (ks.map (rkS ks)) (W0 ks.length) (nodup_map_on (λ a f b h e=>rk_inj f h e) nd) λ x v=>by obtain ⟨a,f,rfl⟩:=List.mem_map.mp v;exact List.mem_range.mpr (zjd f)
  rwa [u] at this
 have k:=List.all_eq_true.mp (zjx _ h2 h6) _ t;unfold z3u at k;have w:=z5w (c:=λ i j=>ltS (ks.getD i "") (ks.getD j "")) (d:=λ i j=>decide ((ks.map (rkS ks)).getD i 0 < (ks.map (rkS ks)).getD j 0)) (n:=ks.length) (λ i j g r=>by rw [m i g,m j r];exact rk_iff (o i g) (o j r)) (g6 ks.length);rw [w];cases hk:kasRun (λ i j=>decide ((ks.map (rkS ks)).getD i 0 < (ks.map (rkS ks)).getD j 0)) ks.length (g6 ks.length) with
 | none=>rw [hk] at k;cases k
 | some p=>
  rw [hk] at k;obtain ⟨q,l⟩:=Bool.and_eq_true_iff.mp k;have q:=eq_of_beq q;have l:=List.isPerm_iff.mp l;refine ⟨p,rfl,l,?_⟩;rw [X9];have s:(p.toList.map λ i=>(ks.map (rkS ks)).getD i 0).Pairwise (· < ·):=by rw [q];exact J8
  rw [X9] at s;refine s.imp_of_mem λ {a b} f h z=>?_;have f:=List.mem_range.mp (l.mem_iff.mp f);have h:=List.mem_range.mp (l.mem_iff.mp h);rw [m a f,m b h] at z;rw [rk_iff (o a f) (o b h)];exact decide_eq_true z
def TupS (h:Heap) (v:Value) (k:Str):Prop:=∃(p:Addr) (o:Obj) (xs:Array Value) (n:Nat) (t:Tok),v=.ref p/\h.get? p=some o/\o.cls=.type "tuple"/\o.data=.seq xs n/\xs[0]? = some (.str k t)
theorem TupS.kept {h h':Heap} {v:Value} {x:Str} {c:Addr} {oc:Obj} (q:TupS h v x) (e:h.get? c=some oc) (nc:oc.cls≠.type "tuple") (k :∀b o,b≠c->h.get? b=some o->h'.get? b=some o):TupS h' v x:=by obtain ⟨p,o,f,n,t,rfl,a,d,g⟩:=q;exact ⟨p,o,f,n,t,rfl,k p o (λ z=>by rw [z,e] at a;cases a;exact nc d) a,d,g⟩
section
variable {prog:Program} {w:Z0} {A:P2} {E:Value->C0->Prop} {s:C0}
theorem zl0 {v z:Value} {x y:Str} {Q:Bool->C0->Prop} (hx:TupS s.heap v x) (hy:TupS s.heap z y) (ne:x≠y) (h:Q (ltS x y) s):U0 (G1 prog w) A (keyLt' (tuples' true) v z) Q E s:=by
  obtain ⟨p,o,f,n,t,rfl,B,L,u,g⟩:=hx;obtain ⟨F,J,d,G,c,rfl,m,K,D,i⟩:=hy;have l :∃r,f.toList=.str x t :: r:=by
    cases hl:f.toList with
    | nil => have : f.toList[0]? = some (.str x t) := by simpa using g
             rw [hl] at this;cases this
    | cons a r => have : f.toList[0]? = some (.str x t) := by simpa using g
                  rw [hl] at this;cases this;exact ⟨r,rfl⟩
  have j :∃r,d.toList=.str y c :: r:=by
    cases hl:d.toList with
    | nil => have : d.toList[0]? = some (.str y c) := by simpa using i
             rw [hl] at this;cases this
    | cons a r => have : d.toList[0]? = some (.str y c) := by simpa using i
                  rw [hl] at this;cases this;exact ⟨r,rfl⟩
  obtain ⟨H,C⟩:=l;obtain ⟨I,q⟩:=j;refine PySem.W.kat_lt B u m D ?_;rw [C,q,R9];refine PySem.W.kat_cons ((z0j prog w).eqBool (a:=.inr x) (b:=.inr y) (kV_is (k:=.inr x) (show RelV (kV (.inr x)) (.str x t) from ⟨t,rfl⟩)) (kV_is (k:=.inr y) (show RelV (kV (.inr y)) (.str y c) from ⟨c,rfl⟩)) ?_);rw [decide_eq_false (λ e=>ne (j2e e))];exact PySem.W.kat_no (oneLt_str h)
theorem z92 {h:Heap} :∀{vs:List Value} {ks:List Str},All2 (λ v k=>TupS h v k) vs ks->∃fs,PySem.W.KatTups h vs fs/\fs.length=vs.length/\∀f∈fs,∃k t,f=g9 k t
 | _,_,.nil=>⟨[],trivial,rfl,λ _ h=>absurd h L0⟩
 | _,_,.cons a r=>by obtain ⟨fs,j,g,i⟩:=z92 r;obtain ⟨p,o,q,n,t,rfl,b,c,m,l⟩:=a;exact ⟨_ :: fs,PySem.W.KatTups.cons b c m l j,by rw [Y0,Y0,g],λ f d=>(List.mem_cons.mp d).elim (λ e=>⟨_,_,e⟩) (i f)⟩
theorem zji {a:Addr} {vs:List Value} {ks:List Str} {n0:Nat} {P:j05->C0->Prop} (ho:s.heap.get? a=some (q9 "list" vs.toArray n0)) (l6:vs.length<=6) (al:All2 (λ v k=>TupS s.heap v k) vs ks) (nd:ks.Nodup)
  (h :∀(p:List Nat) (h':Heap) (e:Nat),p.Perm (W0 vs.length)->(p.map λ i=>ks.getD i "").Pairwise (λ x y=>ltS x y=true)->(∀b o,b≠a->s.heap.get? b=some o->h'.get? b=some o)->h'.get? a=some (q9 "list" (p.map λ i=>vs.getD i P3).toArray e)->P (.done (.ret .none)) { s with heap:=h' }) :
  U0 (G1 prog w) A (z9.«list.sort» ⟨[.ref a],[]⟩) P E s:=by
 have lk:ks.length=vs.length:=z03 al;have la:a < s.heap.objs.size:=T0 ho;have sz:vs.length<=sizeLine:=N0 l6 (by decide);obtain ⟨J,Z⟩ :∃J,(s.heap.update a (B4 λ _=>(#[]:Array Value))).get? a=some (q9 "list" #[] J):=⟨_,get?_update_seq ho λ _=>#[]⟩
 rw [list_sort_plain];refine v0 (listItems_at ho rfl (v0 (listUpdate_at ho rfl (v0 (seqEpoch_at Z rfl (v0 (wpAny_newTuple (v0 (wpAny_newList (Z1 ?_) (J2 _))) (by simpa using sz))))) (by simpa using sz) (J2 _))));dsimp only;generalize hh3:((s.heap.update a (B4 λ _=>(#[]:Array Value))).push (q9 "tuple" vs.toArray 0)).push (q9 "list" #[] 0)=h3;have s1:=A8 s.heap a (B4 λ _=>(#[]:Array Value));have X :∀b o,b≠a->s.heap.get? b=some o->h3.get? b=some o:=λ b o n e=>by rw [<-hh3];exact J0 _ (J0 _ ((s1.2 b n).trans e))
 have u:h3.get? a=some (q9 "list" #[] J):=by rw [<-hh3];exact J0 _ (J0 _ Z)
 have O:All2 (λ v k=>TupS h3 v k) vs ks:=z00 (λ _ _ z=>z.kept ho (show G3 "list"≠.type "tuple" by decide) X) al;have fin :∀(m:Array Value) (p:List Nat),m=(p.map λ i=>vs.getD i P3).toArray->p.Perm (W0 vs.length)->(p.map λ i=>ks.getD i "").Pairwise (λ x y=>ltS x y=true)->P (.done (.ret .none)) { s with heap:=h3.update a (B4 λ _=>m) }:=λ m p g l r=>by
  obtain ⟨I,V⟩ :∃I,(h3.update a (B4 λ _=>m)).get? a=some (q9 "list" m I):=⟨_,get?_update_seq u λ _=>m⟩
  rw [g] at V⊢;exact h p _ I l r (λ b o n e=>(O4 _ _ (C2 n)).trans (X b o n e)) V
 have M :∀(p:List Nat),p.Perm (W0 vs.length)->(p.map λ i=>vs.getD i P3).toArray.size<=sizeLine + 1:=λ p l=>by rw [V0,I0,l.length_eq,C3];exact N0 sz (F3 _)
 by_cases d:vs.toArray.size < 2
 ·rw [if_pos d];have H:vs.length < 2:=by simpa using d
  have G:(W0 vs.length).map (λ i=>vs.getD i P3)=vs:=by
   apply b7
   ·simp
   ·intro i K d;simp [P1,A0 d]
  have r:((W0 vs.length).map λ i=>ks.getD i "").Pairwise (λ x y=>ltS x y=true):=by
   match Y:vs.length,H with
   | 0,_=>exact z7
   | 1,_=>exact List.pairwise_singleton _ _
  refine v0 (F0 ?_);rw [if_pos d];refine (show U0 _ _ (b4 ((),SortSt.mk' general' (vs.toArray.zip vs.toArray) #[] 7 none) >>= _) _ _ _ from v0 (F0 ?_));dsimp only;have g:Array.map (λ x=>x.snd) (arrOf (SortSt.mk' general' (vs.toArray.zip vs.toArray) #[] 7 none))=((W0 vs.length).map λ i=>vs.getD i P3).toArray:=by
   rw [G];show Array.map (λ x=>x.snd) (vs.toArray.zip vs.toArray)=vs.toArray;apply Array.ext
   ·simp
   ·intro i K d;simp
  refine v0 (seqEpoch_at u rfl (v0 (listUpdate_at u rfl ?_ (J2 _) ?_)))
  ·simp only [bne_self_eq_false,Y2,if_false];exact F0 (fin _ _ g (j07 _) r)
  ·rw [g];exact M _ (j07 _)
 ·rw [if_neg d];have H:2<=vs.length:=by simpa using Nat.not_lt.mp d
  obtain ⟨fs,kt,lf,a0⟩:=z92 O;refine v0 (PySem.W.kat_kind (T:=.type "str") kt (by omega) (λ f D=>?_) (by decide) ?_)
  ·obtain ⟨k,t,rfl⟩:=a0 f D;exact PySem.W.Looks.now
  ·rw [if_neg d];obtain ⟨p,G,l,r⟩:=zha nd (by omega) (by omega);rw [lk] at G l;rw [show (G3 "str" != G3 "tuple")=true by decide];have L :∀i,i < vs.length->TupS h3 (vs.getD i P3) (ks.getD i ""):=λ i N=>by have U:ks[i]? = some (ks[i]'(by omega)):=A0 (by omega);obtain ⟨v,Y,z⟩:=z0k O U;rw [P1,P1,Y,U];exact z
   have ask:(g6 vs.length).kasWp (PySem.W.kas_ask prog w A (tuples' true) vs) (λ R B=>B={ s with heap:=h3 }/\R=p) { s with heap:=h3 }:=zbs (c:=λ i j=>ltS (ks.getD i "") (ks.getD j "")) (n:=vs.length) (λ i j C N hj ne q=>zl0 (s:={ s with heap:=h3 }) (L i N) (L j hj) (λ e=>ne ?_) q) (g6 vs.length) p G ⟨rfl,rfl⟩
   ·refine v0 (A4 (PySem.W.kat_run (κ:=tuples' true) (ks:=vs) (vs:=vs) (Q:=λ F B=>B={ s with heap:=h3 }/\failedOf F=none/\Array.map (λ x=>x.snd) (arrOf F)=(p.toList.map λ i=>vs.getD i P3).toArray) rfl H (by omega) (λ R F B a1 a2 a3 S=>⟨S.1,a3,by rw [<-S.2];exact PySem.W.kat_snds rfl a2⟩) ask) ?_ λ _ _ z=>z);rintro ⟨⟨⟩,F⟩ B ⟨rfl,D,g⟩;dsimp only at D g⊢;refine v0 (seqEpoch_at u rfl (v0 (listUpdate_at u rfl ?_ (J2 _) ?_)))
    ·rw [D];simp only [bne_self_eq_false,Y2,if_false];exact F0 (fin _ _ g l r)
    ·rw [g];exact M _ l
   ·have K:i < ks.length:=by omega
    have d:j < ks.length:=by omega
    rw [P1,P1,A0 K,A0 d] at e;exact (List.getElem_inj nd).mp e
end
section
variable {X:Cx}
theorem zbj:CallR X (.builtin "sorted") (λ xs H Q=>∃(a:Addr) (ys:List V) (ks:List Str),xs=[.ref a]/\SqL X.K H a ys/\All2 (λ y k=>∃(p:Addr) (r:List V),y=V.ref p/\SqT X.K H p (.str k :: r)) ys ks/\ys.length<=6/\ks.Nodup/\
  ∀(l:Addr) (p:List Nat),H l=none->p.Perm (W0 ys.length)->(p.map λ i=>ks.getD i "").Pairwise (λ x y=>ltS x y=true)->Q (.ref l) (upd H l (.lst (p.map λ i=>ys.getD i .non)))):=by
 intro Y s σ H xs us Q I rv h;obtain ⟨a,ys,ks,rfl,O,al,l6,nd,q⟩:=h;obtain ⟨u,rfl,rx⟩:=vals1 rv;cases rx;obtain ⟨d,g,P,M⟩:=I.list O;have Z:d.length=ys.length:=g.length.symm;refine Calls.call_function_entry kind_sorted plain_sorted entry_sorted (args_sorted1 _) ?_;unfold z9.«sorted»;obtain ⟨o,f,D,n,C⟩:=P.isList;refine v0 (m:=checkCount "sorted" 1 1 _) (F0 (v0 (wpAny_collect_seq a (.inl rfl) f D C (λ c L=>?_) (by rw [V0,<-g.length];exact M))));have ht :∀{B:List Value} {ys:List V} {ks:List Str},Vals ys B->All2 (λ y k=>∃(p:Addr) (r:List V),y=V.ref p/\SqT X.K H p (.str k :: r)) ys ks->All2 (λ v k=>TupS s.heap v k) B ks:=by
  intro B ys;induction ys generalizing B with
  | nil=>intro ks c E;cases c;cases E;exact .nil
  | cons y ys ih=>
   intro ks c E;cases c with
   | cons ra rb=>
    cases E with
    | cons a b=>
     refine .cons ?_ (ih rb b);obtain ⟨p,r,rfl,sp⟩:=a;obtain ⟨js,W,⟨o,f,D,n,C⟩,_⟩:=I.tuple sp;cases W with
     | cons r0 _=>obtain ⟨t,rfl⟩:=r0;cases (show _=F1 p from ra);exact ⟨p,o,_,n,t,rfl,f,D,C,by simp⟩
 have vg :∀p:List Nat,(∀i∈p,i < ys.length)->Vals (p.map λ i=>ys.getD i .non) (p.map λ i=>d.getD i P3):=by
  intro p;induction p with
  | nil=>intro _;exact .nil
  | cons i p ih=>intro N;refine .cons ?_ (ih λ j hj=>N j (.tail _ hj));have w:=N i (.head _);obtain ⟨u,hu,ru⟩:=g.get (A0 w);show RelV (ys.getD i .non) (d.getD i P3);rw [P1,P1,A0 w,hu];exact ru
 have J:d.length<=6:=by omega
 have F:(c.push (q9 "list" d.toArray 0)).get? c.objs.size=some (q9 "list" d.toArray 0):=C1 _ rfl;have a1:All2 (λ v k=>TupS (c.push (q9 "list" d.toArray 0)) v k) d ks:=z00 (λ _ _ z=>by obtain ⟨p,o,xs,n,t,e,f,r⟩:=z;exact ⟨p,o,xs,n,t,e,J0 _ (L _ _ f),r⟩) (ht g al);have G:Inv X Y σ H { s with heap:=c }:=I.kept (t':=s.toks) L;refine v0 (wpAny_newList (v0 (Z1 (C7 slot_list_sort ⟨_,F,rfl⟩ entry_list_sort (zji (s:={ s with heap:=c.push (q9 "list" d.toArray 0) }) F J a1 nd λ p T e A S R U=>⟨_,rfl,?_⟩) (args_list_sort _)))) (by simpa using N0 J (by decide)));rw [Z] at A;have a0 :∀i∈p,i < ys.length:=λ i w=>List.mem_range.mp (A.mem_iff.mp w);have k2 :∀b o,c.get? b=some o->T.get? b=some o:=λ b o z=>R b o (A1 (T0 z)) (J0 _ z);refine F0 ⟨_,rfl,.ref c.objs.size,_,G.laid (t':=s.toks) (o:=.lst (p.map λ i=>ys.getD i .non)) k2 (K0 _) ⟨?_,_,e,vg p a0,U⟩,rfl,q _ p (G.hok.fresh (K0 _)) A S⟩;rw [I0,A.length_eq,C3];exact M
end
noncomputable def addT (ns:List Str) (v:Str):List Str:=if v∈ns then ns else ns++[v]
theorem zas (ns:List Str) (v:Str):(addT ns v).length=if v∈ns then ns.length else ns.length + 1:=by
 unfold addT;by_cases z:v∈ns
 ·rw [if_pos z,if_pos z]
 ·rw [if_neg z,if_neg z,G0];rfl
theorem zj4 (ns:List Str) (v k:Str):(decide (k∈ns) || decide (k=v))=decide (k∈addT ns v):=by
 unfold addT;by_cases z:v∈ns
 ·rw [if_pos z];by_cases y:k=v
  ·rw [y,decide_eq_true z];rfl
  ·rw [decide_eq_false y,P9]
 ·rw [if_neg z];by_cases y:k=v
  ·rw [decide_eq_true y,Bool.or_true,decide_eq_true (by rw [y];exact List.mem_append.mpr (.inr (List.mem_singleton.mpr rfl)))]
  ·rw [decide_eq_false y,P9];by_cases x:k∈ns
   ·rw [decide_eq_true x,decide_eq_true (List.mem_append.mpr (.inl x))]
   ·rw [decide_eq_false x,decide_eq_false (λ w=>(List.mem_append.mp w).elim x λ u=>y (List.mem_singleton.mp u))]
section
variable {prog:Program} {w:Z0} {A:P2} {E:Value->C0->Prop} {s:C0}
theorem z99 {h h':Heap} {a:Addr} {M:Str->Bool} {n:Nat} (k :∀o,h.get? a=some o->h'.get? a=some o) (x:T7 (Z4 prog w) h a M n):T7 (Z4 prog w) h' a M n:=by obtain ⟨o,b,c,t,e,r⟩:=x;exact ⟨o,b,c,t,k _ e,r⟩
theorem zj7 {h:Heap} {a:Addr} (e:h.get? a=some (set0 w)):T7 (Z4 prog w) h a (λ k=>decide (k∈([]:List Str))) ([]:List Str).length:=
 ⟨_,#[],0,_,e,⟨rfl,rfl,rfl⟩,rfl,λ x b=>by simp at b,λ k=>⟨λ z=>absurd (of_decide_eq_true z) L0,λ ⟨e,he,_⟩=>by simp at he⟩,by decide,by rfl,rfl⟩
theorem zek {S it l:Addr} {items:Array Value} (nsi:S≠it) (nsl:S≠l) (nil':it≠l) :∀(ms:List Str) (i:Nat) (ns:List Str) (A:P2) (R:j1f->C0->Prop) (s:C0),A.handled=none->s.heap.IsListIter it l i->s.heap.IsList l items->
  StrsAre (items.toList.drop i) ms->T7 (Z4 prog w) s.heap S (λ k=>decide (k∈ns)) ns.length->ns.length + ms.length < scanBound->
  (∀h' tk ns',T7 (Z4 prog w) h' S (λ k=>decide (k∈ns')) ns'.length->ns'=ms.foldl addT ns->(∀c o,c≠S->c≠it->s.heap.get? c=some o->h'.get? c=some o)->R (.ok (.ret .none)) { s with heap:=h',toks:=tk })->
  D5 (G1 prog w) A (L7 "set.update.loop" { pos:=[.ref S,.ref it],kw:=[] }) R s
 | [],i,ns,A,R,s,hh,si,sl,al,dd,hz,q=>by
  have E:items[i]? = none:=by
   cases hd:items.toList.drop i with
   | nil=>have:=List.drop_eq_nil_iff.mp hd;rw [O2] at this;exact N4 this
   | cons u us=>rw [hd] at al;cases al
  refine K3 T6 ?_;show U0 _ _ (D7 (.ref it) >>= _) _ _ s;refine v0 (X4 (show (A.under _).handled=none from hh) si sl E λ h' n=>?_);exact F0 (q h' s.toks ns (z99 (λ o e=>n S o nsi e) dd) rfl λ c o _ J e=>n c o J e)
 | m :: ms,i,ns,A,R,s,hh,si,sl,al,dd,hz,q=>by
  cases hd:items.toList.drop i with
  | nil=>rw [hd] at al;cases al
  | cons u us=>
   rw [hd] at al;cases al with
   | cons _ tk al=>
    have B:items.toList[i]? = some (.str m tk):=by have:=congrArg (λ l=>l[0]?) hd;simpa using this
    have K:items[i]? = some (.str m tk):=by simpa using B
    have D:items.toList.drop (i + 1)=us:=by have:=congrArg j0b hd;simpa using this
    refine K3 T6 ?_;show U0 _ _ (D7 (.ref it) >>= _) _ _ s;refine v0 (y4 si sl K λ v I g=>?_);have N:v.IsList l items:=by obtain ⟨o,a,b⟩:=sl;exact ⟨o,(g.2 l (C2 nil')).trans a,b⟩
    have L:=z99 (prog:=prog) (w:=w) (λ o e=>(g.2 S nsi).trans e) dd;rw [Y0] at hz;refine v0 (Z1 (show U0 _ _ (setAdd S (.str m tk)) _ _ _ from ?_));unfold setAdd;have r:(Z4 prog w).is m (.str m tk)=true:=PySem.strKind_is prog w m tk;refine Z1 (v0 ((Z4 prog w).pyHash (k:=m) r ?_));refine wpAny_setAddHashed_of (s:={ s with heap:=v,toks:=s.toks + 1 }) r rfl L (X0 (by omega) hz) λ f h d=>?_;refine F0 ⟨zbt _,?_⟩;have G:T7 (Z4 prog w) f S (λ k=>decide (k∈addT ns m)) (addT ns m).length:=by
     rw [zas];have a:(λ p=>decide (p∈ns) || decide (p=m))=λ k=>decide (k∈addT ns m):=funext λ k=>zj4 ns m k;rw [a] at d;by_cases z:m∈ns
     ·rw [if_pos z];rw [if_pos (decide_eq_true z)] at d;exact d
     ·rw [if_neg z];rw [if_neg (by rw [decide_eq_false z];decide)] at d;exact d
    have C:f.IsListIter it l (i + 1):=by obtain ⟨o,a,b⟩:=I;exact ⟨o,(h.2 it (C2 nsi)).trans a,b⟩
    have F:f.IsList l items:=by obtain ⟨o,a,b⟩:=N;exact ⟨o,(h.2 l (C2 nsl)).trans a,b⟩
    have O:(addT ns m).length<=ns.length + 1:=by rw [zas];split<;>omega
    refine zek nsi nsl nil' ms (i + 1) (addT ns m) A R { s with heap:=f,toks:=s.toks + 1 } hh C F (by rw [D];exact al) G (by omega) λ h' M ns' x H y=>q h' M ns' x H λ c o j t e=>y c o j t ((h.2 c j).trans ((g.2 c t).trans e))
theorem z8x {l:Addr} {items:Array Value} {ns:List Str} {Q:Value->C0->Prop} (hh:A.handled=none) (ht:s.heap.IsList l items) (hi:StrsAre items.toList ns) (hb:ns.length < scanBound)
  (h :∀h' tk ns',T7 (Z4 prog w) h' s.heap.objs.size (λ k=>decide (k∈ns')) ns'.length->ns'=ns.foldl addT []->(∀b o,s.heap.get? b=some o->h'.get? b=some o)->Q (.ref s.heap.objs.size) { s with heap:=h',toks:=tk }) :
  U0 (G1 prog w) A (call (.type "set") [.ref l]) Q E s:=by
 obtain ⟨c,W,V⟩:=F.called_set.mro;have P:=F.called_set.made;have T:=F.called_set.sub;refine j36 (codeAny_of_tree (show U0 _ _ (callAny (.type "set") _) _ _ _ from F0 ⟨Code.quiet_builtin _ (by decide +kernel),K3 F.entry_type_call ?_⟩));rw [j4c (weight_type_call_type "set" [.ref l] []) rfl];have h1:=F.called_set.notType;have h2:=F.called_set.canCreate;have O:=F.typeCall_set_1 (.ref l)
 (repeat (any_goals (first|assumption|wp_step)));refine K6 (zhz (.ref l) (E:=E) (Q₁:=λ u j=>u=.ref s.heap.objs.size/\j={ s with heap:=s.heap.push (set0 w) }) ⟨rfl,rfl⟩) λ r j a=>?_
 cases r with
 | error e=>exact a
 | ok fl=>
  cases fl with
  | next=>exact a.elim
  | brk=>exact a.elim
  | cont=>exact a.elim
  | ret u=>
   obtain ⟨rfl,rfl⟩:=a;have f:(s.heap.push (set0 w)).get? s.heap.objs.size=some (set0 w):=C1 _ rfl;have D:Z6 { s with heap:=s.heap.push (set0 w) } (.ref s.heap.objs.size) "set":=⟨_,f,rfl⟩
   have U:=F.called_set.init.lookup;have M:=F.called_set.init.bind (.ref s.heap.objs.size)
   (repeat (any_goals (first|assumption|wp_step)))
   have I:D5 (G1 prog w) A.in1 (.call (.builtin "set.__init__") ⟨[.ref s.heap.objs.size,.ref l],[]⟩) (wants (λ r v=>r=.none/\Q (.ref s.heap.objs.size) v) E) { s with heap:=s.heap.push (set0 w) }:=by
    refine U9 F.called_set.init.plain F.entry_set_init (check_set_init_1 D ?_);obtain ⟨o,g,t,n,q⟩:=ht;obtain ⟨Y,y,L,J⟩:=o;dsimp only at t q;subst t q;have x:(s.heap.push (set0 w)).get? l=some { cls:=.type "list",dict:=y,data:=.seq items n,slots:=J }:=J0 _ g;have Z:=z8t;have N:=z7c;have X:(G3 "list" == G3 "dict")=false:=by decide
    have R:(s.heap.push (set0 w)).get? s.heap.objs.size=some { cls:=.type "set",dict:=none,data:=.set #[] 0 (.fresh 0 0 (!w.params.followText "set-order")),slots:=#[] }:=f;have G:(s.heap.push (set0 w)).IsList l items:=⟨_,x,rfl,n,rfl⟩
    have m:l < s.heap.objs.size:=T0 g;unfold z9.«set.__init__» noKeywords T8;generalize hPI:pyIter=PI
    wp_walk
    subst hPI;refine b5 G (v0 (wpAny_runValue ?_));have p :∀b o,s.heap.get? b=some o->((s.heap.push (set0 w)).push { cls:=.type "list_iterator",data:=.fields #[.ref l,.int 0 0] }).get? b=some o:=λ b o e=>J0 _ (J0 _ e);have i:(s.heap.push (set0 w)).objs.size=s.heap.objs.size + 1:=R6 _ _;refine zek (S:=s.heap.objs.size) (it:=(s.heap.push (set0 w)).objs.size) (l:=l) (items:=items) (by rw [i];exact A1 (J3 _)) (u4 m) (by rw [i];exact u4 (V2 m)) ns 0 [] _ _ _ (by simp [hh]) ⟨_,C1 _ rfl,rfl,rfl⟩ ⟨_,p _ _ g,rfl,n,rfl⟩ (by rw [z5];exact hi) (zj7 (J0 _ f)) (by simpa using hb) λ h' tk ns' B K z=>?_;refine F0 (F0 ⟨rfl,h h' tk ns' B K λ b o e=>z b o (A1 (T0 e)) (by rw [i];exact A1 (V2 (T0 e))) (p b o e)⟩)
   refine K6 I λ C v d=>?_;cases C with
   | error e=>exact d
   | ok f2=>
    cases f2 with
    | next=>exact d.elim
    | brk=>exact d.elim
    | cont=>exact d.elim
    | ret r=>obtain ⟨rfl,H⟩:=d;exact F0 (F0 H)
end
section
variable {X:Cx}
noncomputable def tLSetS (K:o0) (te:TE):TE:=λ σ H Q=>te σ H λ x H1=>∃(a:Addr) (ns:List Str),x=.ref a/\SqL K H1 a (ns.map V.str)/\ns.length < 100/\Q (.int ((ns.foldl addT []).length:Nat)) H1
theorem z56 :∀(vs ns:List Str),(vs.foldl addT ns).length<=ns.length + vs.length
 | [],ns=>K0 _
 | v :: vs,ns=>by
  have a:=z56 vs (addT ns v);have b:(addT ns v).length<=ns.length + 1:=by rw [zas];split<;>omega
  show (vs.foldl addT (addT ns v)).length<=_;rw [Y0];omega
theorem z8y :∀{ns:List Str} {us:List Value},Vals (ns.map V.str) us->StrsAre us ns
 | [],_,.nil=>.nil
 | n :: ns,_,.cons a r=>by obtain ⟨t,rfl⟩:=a;exact .cons n t (z8y r)
theorem zeg {e:Expr} {te:TE} {p1 p2 c1 c2:Pos} (hcalm:X.calm=true) (g1:Gl X "len") (m1:X.mg "len" = none) (g2:Gl X "set") (m2:X.mg "set" = none) (b1:v5 "len" = some (.builtin "len")) (b2:v5 "set" = some (.type "set")) (ha:PE X e te)
  (he:K1 [e] X.env=[(false,V3 e X.env)]:=by rfl):PE X (.Call (.Name "len" p1) [.Call (.Name "set" p2) [e] [] c2] [] c1) (tLSetS X.K te):=by
 intro g s σ H Q I h;have w:X.A.handled=none:=I.ok.hd hcalm;refine F4 (ld_blt I g1 m1 b1 ?_ (by decide) (by decide));refine L6 ?_ rfl rfl;refine (show U0 _ _ (j31 ((false,V3 (.Call (.Name "set" p2) [e] [] c2) X.env) :: [])) _ _ s from R4 ?_);refine F4 (ld_blt I g2 m2 b2 ?_ (by decide) (by decide));refine E4 ?_ he rfl;rw [he];refine (show U0 _ _ (j31 ((false,V3 e X.env) :: [])) _ _ s from R4 (thn (ha g s σ H _ I h) λ u i ⟨x,H1,I1,r1,a,ns,ex,sq,hl,q⟩=>?_));subst ex;cases r1;refine R5 ?_;obtain ⟨E,r,c,D⟩:=I1.list sq;refine z8x w c.isList (by simpa using z8y r) (Q7 hl (by decide)) λ p b z n f j=>R5 ?_;subst f;obtain ⟨o,y,C,t,m,v,l,_,_,B,d,k⟩:=n;have F:(ns.foldl addT []).length < 100:=by have:=z56 ns [];rw [T3,G5] at this;omega
 refine call_len_set (s:={ i with heap:=p,toks:=b }) m v l d (by omega) ?_;rw [k];exact ⟨.int ((ns.foldl addT []).length:Nat),H1,(I1.kept (t':=b + 1 + 1) j),⟨_,rfl⟩,q⟩
end
noncomputable def Itc (x:Str):It:=⟨λ i _=>i < x.cps.size,λ i H v H'=>H'=H/\∃c,x.cps[i]? = some c/\v=.str ⟨#[c]⟩,λ i _=>x.cps.size<=i⟩
theorem zjj {P:Program} {w:Z0} {K:o0} {tg:Expr} {x:Str} {it:Addr} {t:Tok}:Turn P w K tg (Itc x) [it] it (λ i h=>h.IsStrIter it "str_ascii_iterator" x t i) where
 mem:=by simp
 obj:=λ i h a b f=>by
  obtain rfl:b=it:=by simpa using f
  obtain ⟨o,e,c,d⟩:=a;exact ⟨o,e,λ v z=>by rw [d] at z;cases z⟩
 keep:=λ i h g a k=>by obtain ⟨o,e,r⟩:=a;exact ⟨o,k it (by simp) o e,r⟩
 item:=by intro X u n m G i D s σ H E I j a l;subst u n m;obtain ⟨q,p,N,y,A,B⟩:=j it (by simp);have C:x.cps[i]? = some x.cps[i]:=j1d l;refine wpAny_pyNext_ascii_item a C λ g F M=>?_;have J:Inv X D σ H { s with heap:=g,toks:=s.toks + 1 }:=I.turned (t':=s.toks + 1) (λ b o f e=>(M.2 b f).trans e) q p y A B;obtain ⟨o,e,c,d⟩:=id F;exact ⟨_,rfl,go_of (s:={ s with heap:=g,toks:=s.toks + 1 }) e c d (by decide) ⟨.str ⟨#[x.cps[i]]⟩,H,J,⟨_,rfl⟩,⟨rfl,_,C,rfl⟩,F,λ b f=>(j b f).1⟩⟩
 done:=by intro X u n m G i D s σ H E I j a l;subst u n m;obtain ⟨q,p,N,y,A,B⟩:=j it (by simp);exact wpAny_pyNext_ascii_end (I.ok.hd G) a (N4 l) λ g L=>⟨rfl,I.turned (t':=s.toks) (λ b o f e=>L b o f e) q p y A B⟩
 self:=λ _ _ _ _ _ a h=>wpAny_pyIter_striter_ascii a h
noncomputable def iStr (tl:TE):TI:=λ σ H R=>tl σ H λ v H1=>∃x:Str,v=.str x/\x.cps.all (· < 128)=true/\R (Itc x) H1
theorem pi_str {X:Cx} {tg l:Expr} {tl:TE} (hl:PE X l tl):PI X tg l (iStr tl):=by
 intro d s σ H R I h;refine thn (hl d s σ H _ I h) λ v a ⟨y,H1,I1,r1,x,e,ha,q⟩=>?_;subst e;obtain ⟨t,rfl⟩:=r1;refine wpAny_pyIter_ascii ha ?_;refine ⟨a.heap.objs.size,[a.heap.objs.size],_,_,H1,rfl,I1.kept (t':=a.toks) λ b o e=>J0 _ e,zjj,⟨_,C1 _ rfl,rfl,rfl⟩,λ b c=>?_,q⟩;obtain rfl:b=a.heap.objs.size:=by simpa using c
 exact I1.fpOk (K0 _) (I1.hok.fresh (K0 _))
theorem zgm {x:Str} {H1:Hp}:RunsR Same (Itc x) H1 x.cps.size (λ i v _=>∃c,x.cps[i]? = some c/\v=.str ⟨#[c]⟩):=
 ⟨λ i a H s=>a,λ H s=>K0 _,λ i a H v b s y=>by obtain ⟨e,y⟩:=y;subst e;exact ⟨Same.refl _,y⟩⟩
theorem tcompS {x:Str} {tl te:TE} {tc:TT} {g:TG} {m:Nat} {fr:List (Nat×Str)} {σ:L2.St} {H H1:Hp} {Q:VK} (p:Nat->Bool) (R:Nat->V->Hp->Prop) (hR :∀i y H H',Same H H'->R i y H->R i y H') (htl :∀R:VK,R (.str x) H1->tl σ H R) (ha:x.cps.all (· < 128)=true) (hn:x.cps.size<=sizeLine)
  (body :∀i,i < x.cps.size->∀v H,Same H1 H->(∃c,x.cps[i]? = some c/\v=.str ⟨#[c]⟩)->∀(KT:VK) (KF:Hp->Prop),(p i=true->∀y H',Same H H'->R i y H'->KT y H')->(p i=false->∀H',Same H H'->KF H')->
   g v (cStG σ fr (P0 m none)) H λ σ6 H6=>∃us,us.length=m/\σ6=cStG σ fr us/\tc (cStG σ fr us) H6 λ b H2=>if b=true then te (cStG σ fr us) H2 KT else KF H2)
  (hQ :∀l H' ys,Same H1 H'->H' l=none->All2 (λ i y=>R i y H') ((W0 x.cps.size).filter p) ys->Q (.ref l) (upd H' l (.lst ys))):tCompG (iStr tl) m fr g tc te σ H Q:=
 htl _ ⟨x,rfl,ha,z3c (Same.refl _) (λ _ _ _ a b=>a.trans b) p R hR zgm hn body hQ⟩
theorem zkg {K:o0} {te:TE} {σ:L2.St} {H:Hp} {Q:VK} (h:te σ H λ x H1=>∃(a:Addr) (ns:List Str),x=.ref a/\SqL K H1 a (ns.map V.str)/\ns.length < 100/\Q (.int ((ns.foldl addT []).length:Nat)) H1):tLSetS K te σ H Q:=h
theorem tB_not {te:TE} {σ:L2.St} {H:Hp} {Q:Bool->Hp->Prop} (h:te σ H λ x H1=>∃c,x=.bl c/\Q (!c) H1):tNot (tB te) σ H Q:=h
end L2
set_option maxHeartbeats 400000
namespace L2
open PySem PySem.Spec PyProof.Rows
end L2
set_option maxHeartbeats 1000000
namespace L2
open PySem PySem.Spec PyProof.Rows
section
variable {X:Cx}
noncomputable def rNeL0 (K:o0):R2:=λ x y H Q=>∃a b xs,x=.ref a/\y=.ref b/\SqL K H a xs/\SqL K H b []/\Q (.bl (decide (xs≠[]))) H
theorem zkp {k:Nat} (hr:Room k X.A):OpR X (X2 .NotEq) (rNeL0 X.K):=by
 intro C s σ H x y v u Q I n l h;obtain ⟨a,b,o,rfl,rfl,p,i,q⟩:=h;cases n;cases l;obtain ⟨t,f,c,_⟩:=I.list p;obtain ⟨B,rb,d,_⟩:=I.list i;cases rb;have g:X.A.units < cLine:=Nat.lt_of_succ_lt (hu_of hr);have m:=f.length;cases o with
 | nil=>cases f;exact j18 (e:=λ _=>true) c.isList d.isList rfl g (λ j r _=>absurd r (j15 _)) X.prog X.w _ _ ⟨.bl _,H,I,rfl,q⟩
 | cons z zs=>refine SeqAt.RcNeAt.lists_lengths c.isList d.isList ?_ g X.prog X.w _ _ ⟨.bl _,H,I,rfl,q⟩;rw [V0,<-m];rfl
end
structure ZLAt (h:Heap) (z T U i j a b:Addr) (n:Nat) (f:Value):Prop where
 z:IsZip h z T U f
 t:IsPair h T (.ref i) (.ref j)
 u :∃p q,IsPair h U p q
 i:h.IsListIter i a n
 j:h.IsListIter j b n
end L2
namespace L2
open PySem PySem.Spec PyProof.Rows PySem.NumText
end L2
namespace L2
open PySem PySem.Spec PyProof.Rows
def TupN (h:Heap) (v:Value) (x:(Int×Int)×Int):Prop:=∃(p:Addr) (o:Obj) (n:Nat) (q:Value) (u:Tok),v=.ref p/\h.get? p=some o/\o.cls=.type "tuple"/\o.data=.seq #[q,.int x.2 u] n/\TupI h q x.1
noncomputable def gtN (x y:(Int×Int)×Int):Bool:=if x.1=y.1 then decide (y.2 < x.2) else gtI x.1 y.1
theorem gtN_iff {x y:(Int×Int)×Int}:gtN x y=true↔gtI x.1 y.1=true\/(x.1=y.1/\y.2 < x.2):=by
 unfold gtN;by_cases e:x.1=y.1
 ·rw [if_pos e,decide_eq_true_iff,e];constructor
  ·exact λ h=>.inr ⟨rfl,h⟩
  ·rintro (h|h)
   ·have:=gtI_iff.mp h;omega
   ·exact h.2
 ·rw [if_neg e];exact ⟨.inl,λ h=>h.elim id λ z=>absurd z.1 e⟩
theorem zjz {x y:Int×Int} (h1:gtI x y=false) (h2:gtI y x=false):x=y:=by
 have h1:¬ _:=λ z=>Bool.eq_false_iff.mp h1 (gtI_iff.mpr z);have h2:¬ _:=λ z=>Bool.eq_false_iff.mp h2 (gtI_iff.mpr z);obtain ⟨a,b⟩:=x;obtain ⟨c,d⟩:=y;simp only at h1 h2;have f:a=c:=by omega
 have e:b=d:=by omega
 rw [f,e]
theorem zk2 {x y:(Int×Int)×Int} (h1:gtN x y=false) (h2:gtN y x=false):x=y:=by
 have h1:¬ _:=λ z=>Bool.eq_false_iff.mp h1 (gtN_iff.mpr z);have h2:¬ _:=λ z=>Bool.eq_false_iff.mp h2 (gtN_iff.mpr z);have e:x.1=y.1:=zjz (Bool.eq_false_iff.mpr λ z=>h1 (.inl z)) (Bool.eq_false_iff.mpr λ z=>h2 (.inl z));have a:x.2=y.2:=by have b:¬ y.2 < x.2:=λ z=>h1 (.inr ⟨e,z⟩);have c:¬ x.2 < y.2:=λ z=>h2 (.inr ⟨e.symm,z⟩);omega
 exact j46 e a
theorem gtN_tr {x y z:(Int×Int)×Int} (h:gtN x y=false) (k:gtN y z=false):gtN x z=false:=by have h:¬ _:=λ q=>Bool.eq_false_iff.mp h (gtN_iff.mpr q);have k:¬ _:=λ q=>Bool.eq_false_iff.mp k (gtN_iff.mpr q);refine Bool.eq_false_iff.mpr λ q=>?_;obtain ⟨⟨d,c⟩,a⟩:=x;obtain ⟨⟨f,j⟩,e⟩:=y;obtain ⟨⟨i,g⟩,b⟩:=z;have q:=gtN_iff.mp q;rw [gtI_iff,k9] at h k q;simp only at h k q;omega
theorem TupI.kept2 {h h':Heap} {v:Value} {x:Int×Int} (q:TupI h v x) (k :∀b o,h.get? b=some o->o.cls=.type "tuple"->h'.get? b=some o):TupI h' v x:=by obtain ⟨p,o,n,t,u,rfl,c,a,d⟩:=q;exact ⟨p,o,n,t,u,rfl,k p o c a,a,d⟩
theorem TupN.kept {h h':Heap} {v:Value} {x:(Int×Int)×Int} {c:Addr} {oc:Obj} (q:TupN h v x) (e:h.get? c=some oc) (nc:oc.cls≠.type "tuple") (k :∀b o,b≠c->h.get? b=some o->h'.get? b=some o):TupN h' v x:=by obtain ⟨p,o,n,q,u,rfl,a,d,g,f⟩:=q;exact ⟨p,o,n,q,u,rfl,k p o (λ z=>by rw [z,e] at a;cases a;exact nc d) a,d,g,f.kept e nc k⟩
section
variable {prog:Program} {w:Z0} {A:P2} {E:Value->C0->Prop} {s:C0}
theorem zkc {v z:Value} {x y:Int×Int} {Q:Bool->C0->Prop} (hx:TupI s.heap v x) (hy:TupI s.heap z y) (hu:A.units + 1 < cLine) (h:Q (decide (x=y)) s):U0 (G1 prog w) A (eqBool v z) Q E s:=by
 obtain ⟨p,o,n,t,u,rfl,c,f,g⟩:=hx;obtain ⟨i,q,m,k,l,rfl,d,a,j⟩:=hy;have b:Reads s.heap (.ref p) (.tuple [.int x.1,.int x.2]) _:=.tuple c f g (.cons (.int _ _) (.cons (.int _ _) .nil));have rb:Reads s.heap (.ref i) (.tuple [.int y.1,.int y.2]) _:=.tuple d a j (.cons (.int _ _) (.cons (.int _ _) .nil));have e:PyData.eqv (.tuple [.int x.1,.int x.2]) (.tuple [.int y.1,.int y.2])=decide (x=y):=by show ((x.1 == y.1) && ((x.2 == y.2) && true))=_;rw [Bool.eq_iff_iff];simp [Prod.ext_iff]
 exact SeqAt.eqAt_reads _ _ A s _ _ _ _ b rb rfl rfl (X0 (Nat.add_le_add_left (Nat.min_le_left _ _) _) hu) prog w E Q (by rw [e];exact h)
theorem zks {v z:Value} {x y:(Int×Int)×Int} {Q:Value->C0->Prop} (hx:TupN s.heap v x) (hy:TupN s.heap z y) (hu:A.units + 3 < cLine) (h:Q (.bool (gtN x y)) s):U0 (G1 prog w) A (E8 .Gt v z) Q E s:=by
 obtain ⟨p,o,n,q,u,rfl,d,k,t,e⟩:=hx;obtain ⟨m,f,D,C,G,rfl,c,g,B,l⟩:=hy;refine j2j (op:=.Gt) (T:="tuple") ⟨o,d,k⟩ ⟨f,c,g⟩ m9 (C7 m9 ⟨o,d,k⟩ F.entry_tuple_gt ?_ (F.args_tuple_gt_2 _ _)) (by omega);refine (show U0 _ _ (j39 (.ref m) (.type "tuple") >>= _) _ _ s from v0 (J6 (T:="tuple") ⟨f,c,g⟩ isSubtype_tuple_tuple ?_));simp only [O5,Y2,if_false];refine v0 (n8 d t (v0 (n8 c B (v0 ?_))));simp only [R9,List.zip_nil_left,A7,S7];refine v0 (v0 (zkc e l (show A.units + 1 + 1 < cLine by omega) ?_));have r :∀{i j:Int} {a b:Tok} {R:Value->C0->Prop},R (.bool (decide (j < i))) s->U0 (G1 prog w) A.in1 (E8 .Gt (.int i a) (.int j b)) R E s:=λ q=>(show U0 _ _ (X2 .Gt _ _) _ _ _ from gt_int q)
 unfold gtN at h;by_cases e1:x.1=y.1
 ·rw [decide_eq_true e1];simp only [O5,Y2,if_false];refine F0 (v0 (v0 ((o5 prog w).eqBool (a:=x.2) (b:=y.2) (U6 prog w _ _) (U6 prog w _ _) ?_)));rw [if_pos e1] at h;by_cases e2:x.2=y.2
  ·rw [decide_eq_true e2];simp only [O5,Y2,if_false];rw [decide_eq_false (by omega)] at h;exact F0 (F0 (F0 ⟨_,rfl,(λ z=>nomatch z),h⟩))
  ·rw [decide_eq_false e2];simp only [n9,if_true];exact v0 (S5 (v0 (r (v0 (F0 (F0 (F0 (F0 ⟨_,rfl,(λ z=>nomatch z),h⟩))))))))
 ·rw [decide_eq_false e1];simp only [n9,if_true];rw [if_neg e1] at h;exact v0 (S5 (v0 (tup_gt e l (show A.units + 1 < cLine by omega) (v0 (F0 (F0 (F0 (F0 ⟨_,rfl,(λ z=>nomatch z),h⟩))))))))
noncomputable def bestN (m:Value×((Int×Int)×Int)):List (Value×((Int×Int)×Int))->Value×((Int×Int)×Int)
 | []=>m
 | x :: r=>bestN (if gtN x.2 m.2=true then x else m) r
theorem z80 {I l S:Addr} {its:Array Value} (nl:l≠I) (ns:S≠I) (nsl:l≠S) :∀(xs:List (Value×((Int×Int)×Int))) (k c:Nat) (m:Value×((Int×Int)×Int)) (A:P2) (R:j1f->C0->Prop) (s:C0),A.handled=none->A.units + 9 < cLine->s.heap.IsListIter I l k->s.heap.IsList l its->its.toList.drop k=xs.map (·.1)->
  s.heap.get? S=some { cls:=.type "list",dict:=none,data:=.seq #[m.1,m.1] c,slots:=#[] }->TupN s.heap m.1 m.2->(∀x∈xs,TupN s.heap x.1 x.2)->
  (∀h' tk,(∀b o,b≠I->b≠S->s.heap.get? b=some o->h'.get? b=some o)->R (.ok (.ret (bestN m xs).1)) { s with heap:=h',toks:=tk })->
  D5 (G1 prog w) A (.builtin "max.loop" ⟨[.ref I,.none,.ref S],[]⟩) R s
 | [],k,c,m,A,R,s,hh,hu,hI,hl,hd,hS,hm,hx,q=>by
  have J:its[k]? = none:=by have:=List.drop_eq_nil_iff.mp hd;rw [O2] at this;exact N4 this
  refine K3 j16 ?_;rw [Y8 C5 _];refine (show U0 _ A.in1 (seqItems? (.ref S) >>= _) _ _ s from v0 (T9 hS rfl ?_));refine (show U0 _ A.in1 (tryCatch (D7 (.ref I)) _ >>= _) _ _ s from v0 (f7 (X4 (show A.in1.handled=none from hh) hI hl J λ h' d=>?_)));have a:=d S _ ns hS;refine (show U0 _ A.in1 (updateSeq S (λ _=>#[]) >>= _) _ _ _ from v0 (j2d a rfl (v0 (j26 (F0 ?_)))));exact q _ _ λ b o f g e=>(O4 _ _ (C2 g)).trans (d b o f e)
 | x :: xs,k,c,m,A,R,s,hh,hu,hI,hl,hd,hS,hm,hx,q=>by
  have u:its.toList[k]? = some x.1:=by have:=congrArg (λ z=>z[0]?) hd;simpa using this
  have u:its[k]? = some x.1:=by simpa using u
  have E:its.toList.drop (k + 1)=xs.map (·.1):=by have:=congrArg j0b hd;simpa using this
  have G:(toString "max"++toString ".loop" : String) = "max.loop":=by decide
  obtain ⟨L,B,H,_⟩:=id hI;have D:L.cls≠.type "tuple":=by rw [H];decide
  refine K3 j16 ?_;rw [Y8 C5 _];refine (show U0 _ A.in1 (seqItems? (.ref S) >>= _) _ _ s from v0 (T9 hS rfl ?_));refine (show U0 _ A.in1 (tryCatch (D7 (.ref I)) _ >>= _) _ _ s from v0 (f7 (y4 hI hl u λ h' F K=>?_)));have h :∀b o,b≠I->s.heap.get? b=some o->h'.get? b=some o:=λ b o n e=>(K.2 b n).trans e;have a:=h S _ ns hS;have v:h'.IsList l its:=hl.elim λ o z=>⟨o,h l o nl z.1,z.2⟩
  have C:TupN h' m.1 m.2:=hm.kept B D h;have p :∀y∈x :: xs,TupN h' y.1 y.2:=λ y j=>(hx y j).kept B D h;refine (show U0 _ A.in1 (tryCatch (r9 [x.1,x.1] (E8 .Gt x.1 m.1 >>= _)) _ >>= _) _ _ _ from v0 (f7 (Z1 (v0 (zks (s:={ s with heap:=h' }) (p x (.head _)) C (show A.units + 1 + 3 < cLine by omega) (v0 (Z1 (O3 (v0 (j26 (F0 ?_)))))))))));have d:bestN m (x :: xs)=bestN (if gtN x.2 m.2=true then x else m) xs:=rfl;cases hg:gtN x.2 m.2 with
  | true=>rw [hg,if_pos rfl] at d;simp only [if_true];refine v0 (j2d a rfl (v0 (j26 ?_)));rw [G];have i :∀b o,b≠S->h'.get? b=some o->(h'.update S (B4 λ _=>#[x.1,x.1])).get? b=some o:=λ b o n e=>(O4 _ _ (C2 n)).trans e;refine F0 ⟨J7 C5 _,z80 nl ns nsl xs (k + 1) _ x A R { s with heap:=h'.update S (B4 λ _=>#[x.1,x.1]) } hh hu (F.elim λ o z=>⟨o,i I o (C2 ns) z.1,z.2⟩) (v.elim λ o z=>⟨o,i l o nsl z.1,z.2⟩) E (a7 _ a rfl) ((p x (.head _)).kept a (show G3 "list"≠.type "tuple" by decide) i) (λ y j=>(p y (.tail _ j)).kept a (show G3 "list"≠.type "tuple" by decide) i) λ t tk r=>?_⟩;rw [<-d];exact q t tk λ b o f g e=>r b o f g (i b o g (h b o f e))
  | false=>rw [hg,if_neg (by decide)] at d;simp only [Y2,if_false];refine v0 (j26 ?_);rw [G];refine F0 ⟨J7 C5 _,z80 nl ns nsl xs (k + 1) c m A R { s with heap:=h' } hh hu F v E a C (λ y j=>p y (.tail _ j)) λ t tk r=>?_⟩;rw [<-d];exact q t tk λ b o f g e=>r b o f g (h b o f e)
theorem zh8 {l:Addr} {its:Array Value} {m:Value×((Int×Int)×Int)} {xs:List (Value×((Int×Int)×Int))} {Q:Value->C0->Prop} (hh:A.handled=none) (hu:A.units + 9 < cLine) (hl:s.heap.IsList l its) (hi:its.toList=(m :: xs).map (·.1)) (ht :∀x∈m :: xs,TupN s.heap x.1 x.2)
  (q :∀h' tk,(∀b o,s.heap.get? b=some o->h'.get? b=some o)->Q (bestN m xs).1 { s with heap:=h',toks:=tk }):U0 (G1 prog w) A (call (.builtin "max") [.ref l]) Q E s:=by
 have K:(toString "max"++toString ".loop" : String) = "max.loop":=by decide
 refine call_function_tree F.kind_max F.plain_max F.entry_max (F.args_max1 _) ?_;refine (show U0 _ A.in1 (f9 "max" ["key","default"] 0 ⟨[],[]⟩ >>= _) _ _ s from v0 (j25 (show f9 "max" ["key","default"] 0 ⟨[],[]⟩=b4 [none,none] from rfl) (v0 (F0 ?_))));refine v0 (b5 hl ?_);refine v0 (y6 ?_);rw [K];dsimp only;generalize hI0:s.heap.push { cls:=.type "list_iterator",data:=.fields #[.ref l,.int 0 0] }=h1;have v:h1.get? s.heap.objs.size=some { cls:=.type "list_iterator",data:=.fields #[.ref l,.int 0 0] }:=by rw [<-hI0];exact C1 _ rfl
 have i:h1.objs.size=s.heap.objs.size + 1:=by rw [<-hI0];exact R6 _ _
 have f :∀b o,s.heap.get? b=some o->h1.get? b=some o:=λ b o e=>by rw [<-hI0];exact J0 _ e
 generalize hS0:h1.push { cls:=.type "list",data:=.seq #[] }=h2;have j:h2.get? h1.objs.size=some { cls:=.type "list",data:=.seq #[] }:=by rw [<-hS0];exact C1 _ rfl
 have a :∀b o,h1.get? b=some o->h2.get? b=some o:=λ b o e=>by rw [<-hS0];exact J0 _ e
 have r:l < s.heap.objs.size:=hl.elim λ o z=>T0 z.1;generalize hI:s.heap.objs.size=I at v i r;generalize hSS:h1.objs.size=S at j i;have k:S≠I:=by omega
 have G:l≠I:=A1 r;have C:l≠S:=A1 (by rw [i];exact V2 r);have V :∀x∈m :: xs,TupN h2 x.1 x.2:=λ x c=>by obtain ⟨p,o,n,t,u,e,P,T,N,M⟩:=ht x c;exact ⟨p,o,n,t,u,e,a _ _ (f _ _ P),T,N,M.kept2 λ b o e _=>a _ _ (f _ _ e)⟩
 refine F0 ⟨J7 C5 _,K3 j16 ?_⟩;rw [Y8 C5 _];refine (show U0 _ A.in1 (seqItems? (.ref S) >>= _) _ _ _ from v0 (T9 j rfl ?_));have O:its[0]? = some m.1:=by have:=congrArg (λ z=>z[0]?) hi;simpa using this
 refine (show U0 _ A.in1 (tryCatch (D7 (.ref I)) _ >>= _) _ _ _ from v0 (f7 (y4 (l:=l) ⟨_,a _ _ v,rfl,rfl⟩ (hl.elim λ o z=>⟨o,a _ _ (f _ _ z.1),z.2⟩) O λ d U R=>?_)));have h :∀b o,b≠I->h2.get? b=some o->d.get? b=some o:=λ b o n e=>(R.2 b n).trans e;have y:=h S _ k j;refine (show U0 _ A.in1 (updateSeq S (λ _=>#[m.1,m.1]) >>= _) _ _ _ from v0 (j2d y rfl ?_));rw [K];have g :∀b o,b≠S->d.get? b=some o->(d.update S (B4 λ _=>#[m.1,m.1])).get? b=some o:=λ b o n e=>(O4 _ _ (C2 n)).trans e;have J :∀x∈m :: xs,TupN (d.update S (B4 λ _=>#[m.1,m.1])) x.1 x.2:=λ x c=>((V x c).kept (a _ _ v) (show G3 "list_iterator"≠.type "tuple" by decide) h).kept y (show G3 "list"≠.type "tuple" by decide) g;refine F0 ⟨J7 C5 _,z80 G k C xs 1 _ m A _ { s with heap:=d.update S (B4 λ _=>#[m.1,m.1]) } hh hu (U.elim λ o z=>⟨o,g I o (C2 k) z.1,z.2⟩) (hl.elim λ o z=>⟨o,g l o C (h _ _ G (a _ _ (f _ _ z.1))),z.2⟩) ?_ (a7 _ y rfl) (J m (.head _)) (λ x c=>J x (.tail _ c)) λ h' tk L=>?_⟩
 ·rw [hi];rfl
 ·refine q h' tk λ b o e=>?_;have B:b < I:=by rw [<-hI];exact T0 e
  have H:b≠I:=A1 B;have D:b≠S:=A1 (by rw [i];exact V2 B);exact L b o H D (g _ _ D (h _ _ H (a _ _ (f _ _ e))))
end
section
variable {X:Cx}
theorem zi0 (x:(Int×Int)×Int):gtN x x=false:=Bool.eq_false_iff.mpr λ z=>by
 rcases gtN_iff.mp z with z|z
 ·have:=gtI_iff.mp z;omega
 ·omega
theorem zi7 {x y:(Int×Int)×Int} (h:gtN x y=true):gtN y x=false:=Bool.eq_false_iff.mpr λ z=>by obtain ⟨⟨d,b⟩,a⟩:=x;obtain ⟨⟨e,f⟩,c⟩:=y;have h:=gtN_iff.mp h;have z:=gtN_iff.mp z;rw [gtI_iff,k9] at h z;simp only at h z;omega
theorem zao :∀(xs:List (Value×((Int×Int)×Int))) (m:Value×((Int×Int)×Int)),bestN m xs∈m :: xs/\∀x∈m :: xs,gtN x.2 (bestN m xs).2=false
 | [],m=>⟨.head _,λ x a=>by rw [List.mem_singleton.mp a];exact zi0 _⟩
 | y :: xs,m=>by
  show bestN (if gtN y.2 m.2=true then y else m) xs∈m :: y :: xs/\∀x∈m :: y :: xs,gtN x.2 (bestN (if gtN y.2 m.2=true then y else m) xs).2=false;by_cases z:gtN y.2 m.2=true
  ·rw [if_pos z];obtain ⟨c,b⟩:=zao xs y;refine ⟨.tail _ c,λ x a=>?_⟩;rcases List.mem_cons.mp a with e|a
   ·rw [e];exact gtN_tr (zi7 z) (b y (.head _))
   ·exact b x a
  ·rw [if_neg z];obtain ⟨c,b⟩:=zao xs m;refine ⟨?_,λ x a=>?_⟩
   ·rcases List.mem_cons.mp c with e|e
    ·rw [e];exact .head _
    ·exact .tail _ (.tail _ e)
   ·rcases List.mem_cons.mp a with e|a
    ·rw [e];exact b m (.head _)
    ·rcases List.mem_cons.mp a with e|a
     ·rw [e];exact gtN_tr (Bool.eq_false_iff.mpr z) (b m (.head _))
     ·exact b x (.tail _ a)
theorem zfn {pins:List (Addr×Obj)} {σ:St} {H:Hp} {s:C0} (I:Inv X pins σ H s) {q:Addr} {i j:Int} (st:SqT X.K H q [.int i,.int j]):TupI s.heap (.ref q) (i,j):=by obtain ⟨l,f,⟨o,c,e,n,g⟩,_⟩:=I.tuple st;obtain ⟨m,k,rfl,a,d⟩:=vals2 f;obtain ⟨h,rfl⟩:=a;obtain ⟨b,rfl⟩:=d;exact ⟨q,o,n,h,b,rfl,c,e,g⟩
noncomputable def rGtT (K:o0):R2:=λ x y H Q=>∃(p q:Addr) (a b:Int×Int),x=.ref p/\y=.ref q/\SqT K H p [.int a.1,.int a.2]/\SqT K H q [.int b.1,.int b.2]/\Q (.bl (gtI a b)) H
theorem op_gtT {k:Nat} (hr:Room k X.A):OpR X (X2 .Gt) (rGtT X.K):=by intro i s σ H x y v u Q I g e h;obtain ⟨p,q,a,b,rfl,rfl,f,c,d⟩:=h;cases g;cases e;exact (show U0 _ _ (E8 .Gt _ _) _ _ _ from tup_gt (zfn I f) (zfn I c) (by have:=hr.units;omega) ⟨.bl _,H,I,rfl,d⟩)
theorem zci (hcalm:X.calm=true) {k:Nat} (hr:Room k X.A):CallR X (.builtin "max") (λ xs H Q=>∃(l:Addr) (m:Addr×((Int×Int)×Int)) (r:List (Addr×((Int×Int)×Int))),xs=[.ref l]/\SqL X.K H l ((m :: r).map λ x=>V.ref x.1)/\(∀x∈m :: r,∃q,SqT X.K H x.1 [.ref q,.int x.2.2]/\SqT X.K H q [.int x.2.1.1,.int x.2.1.2])/\
  ∀b,(b∈m :: r)->(∀x∈m :: r,gtN x.2 b.2=false)->Q (.ref b.1) H):=by
 intro Z s σ H xs f Q I T h;obtain ⟨l,m,r,rfl,t,U,q⟩:=h;obtain ⟨u,rfl,O⟩:=vals1 T;cases O;obtain ⟨j,z,w,hz⟩:=I.list t;have D:j.toArray.toList=(((F1 m.1,m.2) :: r.map λ x=>(F1 x.1,x.2)):List (Value×((Int×Int)×Int))).map (·.1):=by
  have go :∀(g:List (Addr×((Int×Int)×Int))) (f:List Value),Vals (g.map λ x=>V.ref x.1) f->f=(g.map λ x=>(F1 x.1,x.2)).map (·.1):=by
   intro g;induction g with
   | nil=>intro f h;cases h;rfl
   | cons y g ih=>
    intro f h;cases h with
    | cons a b=>cases (show _=F1 y.1 from a);rw [Y1,Y1,<-ih _ b]
  simpa using go (m :: r) j z
 have S :∀x∈(((F1 m.1,m.2) :: r.map λ x=>(F1 x.1,x.2)):List (Value×((Int×Int)×Int))),TupN s.heap x.1 x.2:=λ x c=>by
  obtain ⟨y,d,rfl⟩ :∃y∈m :: r,x=(F1 y.1,y.2):=by
   rcases List.mem_cons.mp c with e|c
   ·exact ⟨m,.head _,e⟩
   ·obtain ⟨y,d,e⟩:=List.mem_map.mp c;exact ⟨y,.tail _ d,e.symm⟩
  obtain ⟨q,M,v⟩:=U y d;obtain ⟨Y,C,⟨o,P,R,n,N⟩,_⟩:=I.tuple M;obtain ⟨E,u2,rfl,G,L⟩:=vals2 C;cases (show E=.ref q from G);obtain ⟨F,rfl⟩:=L;exact ⟨y.1,o,n,.ref q,F,rfl,P,R,N,zfn I v⟩
 refine zh8 (I.ok.hd hcalm) (by have:=hr.units;omega) w.isList D S λ W B k=>?_;obtain ⟨J,i⟩:=zao (r.map λ x=>(F1 x.1,x.2)) (F1 m.1,m.2);obtain ⟨y,d,p⟩ :∃y∈m :: r,bestN (F1 m.1,m.2) (r.map λ x=>(F1 x.1,x.2))=(F1 y.1,y.2):=by
  rcases List.mem_cons.mp J with e|c
  ·exact ⟨m,.head _,e⟩
  ·obtain ⟨y,d,e⟩:=List.mem_map.mp c;exact ⟨y,.tail _ d,e.symm⟩
 rw [p] at i⊢;refine ⟨.ref y.1,H,I.kept (t':=B) k,rfl,q y d λ x c=>?_⟩;rcases List.mem_cons.mp c with e|c
 ·rw [e];exact i _ (.head _)
 ·exact i (F1 x.1,x.2) (.tail _ (List.mem_map.mpr ⟨x,c,rfl⟩))
end
end L2
open PySem PySem.W PyProof.Rows
set_option maxHeartbeats 4000000
namespace TJ
section
variable (p:Program) (w:Z0) (n₀:Nat) (ann:Option Value) (code:Code) (q:Pos)
theorem zhp {n m:Nat} :∀{s s' s'':C0} {t t' t'':j3e},segGo W3 p w n₀ ann 1 n s t=some (s',t')->segGo W3 p w n₀ ann 1 m s' t'=some (s'',t'')->
  segGo W3 p w n₀ ann 1 (n + m) s t=some (s'',t''):=by
 induction n with
 | zero=>
  intro s s' s'' t t' t'' h k;obtain ⟨rfl,rfl⟩:s=s'/\t=t':=by simpa [segGo] using h
  rw [G5];exact k
 | succ n ih=>
  intro s s' s'' t t' t'' h k;rw [show n + 1 + m=n + m + 1 by omega];unfold segGo at h⊢;cases he:endAt 1 t with
  | some f=>rw [he] at h;cases h
  | none=>
   rw [he] at h;cases hk:stepOk n₀ ann t with
   | false=>rw [hk] at h;cases h
   | true=>
    rw [hk] at h;cases hs:step (denote W3) p w s t with
    | halt o s₂=>rw [hs] at h;cases h
    | go s₂ t₂=>rw [hs] at h;exact ih h k
def Steps (c:Nat) (s:C0) (t:j3e) (s':C0) (t':j3e):Prop:=∃n,n<=c/\segGo W3 p w n₀ ann 1 n s t=some (s',t')
def Goes {α:Type} (c:Nat) (x:Sem α) (s:C0) (pos:Pos) (a:α) (s':C0) (pos':Pos):Prop:=
 ∀(K:α->Sem Fin) (H:Value->Sem Fin) (gd:Bool->Bool) (lv:List Value->List Value),
  Steps p w n₀ ann c s ⟨x.wrap K H gd lv,code,pos,[topFrame q]⟩ s' ⟨K a,code,pos',[topFrame q]⟩
end
section
variable {p:Program} {w:Z0} {n₀:Nat} {ann:Option Value} {code:Code} {q:Pos}
theorem Steps.trans {c d:Nat} {s s' s'':C0} {t t' t'':j3e} (h:Steps p w n₀ ann c s t s' t') (k:Steps p w n₀ ann d s' t' s'' t''):Steps p w n₀ ann (c + d) s t s'' t'':=by obtain ⟨n,a,h⟩:=h;obtain ⟨m,b,k⟩:=k;exact ⟨n + m,by omega,zhp p w n₀ ann h k⟩
theorem Steps.refl {s:C0} {t:j3e}:Steps p w n₀ ann 0 s t s t:=⟨0,K0 _,rfl⟩
theorem Steps.le {c d:Nat} {s s':C0} {t t':j3e} (h:Steps p w n₀ ann c s t s' t') (l:c<=d):Steps p w n₀ ann d s t s' t':=let ⟨n,a,b⟩:=h;⟨n,N0 a l,b⟩
theorem Steps.one {s s':C0} {t t':j3e} (he:endAt 1 t=none) (hk:stepOk n₀ ann t=true) (hs:step (denote W3) p w s t=.go s' t'):Steps p w n₀ ann 1 s t s' t':=by refine ⟨1,K0 _,?_⟩;unfold segGo;rw [he,hk,hs];rfl
variable {α β:Type} {s s' s'':C0} {pos pos' pos'':Pos} {a:α} {b:β} {c d:Nat}
theorem Goes.pure:Goes p w n₀ ann code q 0 (j2h a:Sem α) s pos a s pos:=λ _ _ _ _=>.refl
theorem Goes.le {x:Sem α} (h:Goes p w n₀ ann code q c x s pos a s' pos') (l:c<=d):Goes p w n₀ ann code q d x s pos a s' pos':=λ K H e b=>(h K H e b).le l
theorem Goes.bind {x:Sem α} {f:α->Sem β} (h:Goes p w n₀ ann code q c x s pos a s' pos') (k:Goes p w n₀ ann code q d (f a) s' pos' b s'' pos''):Goes p w n₀ ann code q (c + d) (x >>= f) s pos b s'' pos'':=by
 intro K H i g;have e:(x >>= f).wrap K H i g=x.wrap (λ a=>(f a).wrap K H i g) H i g:=by rw [Sem.bind_eq_wrap',Sem.wrap_wrap];rfl
 rw [e];exact (h _ H i g).trans (k K H i g)
theorem Goes.keep {x:Sem α} {vs:List Value} (h:Goes p w n₀ ann code q c x s pos a s' pos'):Goes p w n₀ ann code q c (x.keep vs) s pos a s' pos':=by intro K H d b;rw [Sem.keep_eq_wrap,Sem.wrap_wrap];exact h K H _ _
theorem Goes.holding {x:Sem α} {vs:List Value} (h:Goes p w n₀ ann code q c x s pos a s' pos'):Goes p w n₀ ann code q c (r9 vs x) s pos a s' pos':=by rw [holding_eq_keep];exact h.keep
theorem Goes.rule {tag:String}:Goes p w n₀ ann code q 1 (PySem.rule tag) s pos () s pos:=λ _ _ _ _=>.one rfl rfl rfl
theorem Goes.at' {pos₁:Pos}:Goes p w n₀ ann code q 1 (j30 pos₁) s pos () s pos₁:=λ _ _ _ _=>.one rfl rfl rfl
theorem Goes.loadPart {A:Addr} {o:Obj} {part:Option Value} (ho:s.heap.get? A=some o):Goes p w n₀ ann code q 1 (loadPart A part) s pos o s pos:=λ K H c b=>.one rfl rfl (by obtain ⟨heap,f,e,d,a⟩:=s;show (match heap.get? A with|some o=>Step.go _ _|none=>_)=_;have ho:heap.get? A=some o:=ho;rw [ho];rfl)
theorem Goes.updatePart {A:Addr} {o:Obj} {f:Obj->Obj} {part:Option Value} (ho:s.heap.get? A=some o) (hn:Nat.ble n₀ A=true):Goes p w n₀ ann code q 1 (updatePart A part f) s pos () { s with heap:=s.heap.update A f } pos:=λ K H c b=>
 .one rfl (by
  show (_ && (Nat.ble n₀ A || _ || _ || _))=true;rw [hn];rfl) (by
  obtain ⟨heap,g,e,d,a⟩:=s;have ho:heap.get? A=some o:=ho;show (if (heap.get? A).isSome=true then Step.go _ _ else _)=_;rw [ho];rfl)
theorem Goes.leaf {x:Sem α} {sT sT':SharedT} (n:Nat) (h :∀K H gd lv,segGoT W3 p w n₀ ann 1 n sT ⟨x.wrap K H gd lv,code,pos,[topFrame q]⟩=some (sT',⟨K a,code,pos',[topFrame q]⟩)) :
  Goes p w n₀ ann code q n x sT.abs pos a sT'.abs pos':=λ K H gd lv=>⟨n,K0 _,segGo_of (h K H gd lv)⟩
end
end TJ
open PySem PySem.W PyProof.Rows
namespace TJ
section
variable {p:Program} {w:Z0} {n₀:Nat} {ann:Option Value} {code:Code} {q:Pos} {s:C0} {pos:Pos}
theorem Goes.forIn {γ β:Type} {c:Nat} {f:γ->β->Sem (ForInStep β)} {b:β} :∀{l:List γ},(∀x∈l,Goes p w n₀ ann code q c (f x b) s pos (.yield b) s pos)->Goes p w n₀ ann code q (l.length * c) (ForIn.forIn l b f) s pos b s pos
 | [],_=>by rw [S7];exact Goes.pure.le (J2 _)
 | x :: l,h=>by rw [A7];have k:=Goes.forIn (l:=l) λ y a=>h y (U1 _ a);have e:=Goes.bind (f:=λ r=>match r with | .done b=>(j2h b:Sem β) | .yield b=>ForIn.forIn l b f) (h x W1) k;exact e.le (by rw [Y0,Nat.add_mul];omega)
theorem Goes.entries {d:Addr} {o:Obj} {es:Array DictEntry} {ep:Nat} {part:Option Value} (ho:s.heap.get? d=some o) (hd:o.data=.dict es ep):Goes p w n₀ ann code q 1 (dictEntries d part) s pos es s pos:=by unfold dictEntries;refine (Goes.bind (d:=0) (Goes.loadPart ho) ?_);rw [hd];exact Goes.pure
theorem Goes.epoch {d:Addr} {o:Obj} {es:Array DictEntry} {ep:Nat} {part:Option Value} (ho:s.heap.get? d=some o) (hd:o.data=.dict es ep):Goes p w n₀ ann code q 1 (dictEpoch d part) s pos ep s pos:=by unfold dictEpoch;refine (Goes.bind (d:=0) (Goes.loadPart ho) ?_);rw [hd];exact Goes.pure
theorem Goes.mayTell {a:Addr} {stored:List Value} {cq:Nat} (hq:Goes p w n₀ ann code q cq (Y6 8 (.ref a)) s pos true s pos) (hs :∀v∈stored,Goes p w n₀ ann code q cq (Y6 8 v) s pos true s pos) :
  Goes p w n₀ ann code q (cq + stored.length * cq) (tableMayTell (.ref a) stored) s pos false s pos:=by
 unfold tableMayTell;split
 ·exact Goes.pure.le (J2 _)
 ·refine Goes.bind hq ?_;simp only [O5,Y2,if_false];refine (Goes.bind (a:=(none,())) (d:=0) (Goes.forIn λ v b=>?_) ?_).le (K0 _)
  ·refine (Goes.bind (d:=0) (hs v b) ?_).le (K0 _);simp only [O5,Y2,if_false];exact Goes.pure
  ·exact Goes.pure
theorem Goes.find_none {d a:Addr} {o:Obj} {es:Array DictEntry} {ep:Nat} {h:Int} {cq ce:Nat} (ho:s.heap.get? d=some o) (hd:o.data=.dict es ep)
  (hq:Goes p w n₀ ann code q cq (Y6 8 (.ref a)) s pos true s pos)
  (hk :∀e∈es.toList,∃b,e.key=.ref b/\b≠a/\Goes p w n₀ ann code q cq (Y6 8 (.ref b)) s pos true s pos/\Goes p w n₀ ann code q ce (eqBool (.ref b) (.ref a)) s pos false s pos) :
  Goes p w n₀ ann code q (2 + cq + es.size * (cq + ce + 10)) (dictFind d (.ref a) h) s pos none s pos:=by
 have l :∀(i:Nat) (e:DictEntry),es[i]? = some e->e∈es.toList:=λ i e y=>Array.mem_toList_iff.mpr (j35 y);have r:¬ (es.any λ e=>e.key == F1 a && e.hash != h)=true:=by rw [<-Array.any_toList,List.any_eq_true];rintro ⟨e,hin,hc⟩;obtain ⟨b,f,g,_⟩:=hk e hin;simp only [f,Q4,beq_iff_eq,Value.ref.injEq] at hc;exact g hc.1
 have n :∀v∈(g7 es.size (λ i=>es[i]?.map (·.hash)) h).filterMap (λ i=>es[i]?.map (·.key)),∃b,v=.ref b/\b≠a/\Goes p w n₀ ann code q cq (Y6 8 v) s pos true s pos:=by
  intro v k;obtain ⟨i,_,j⟩:=List.mem_filterMap.mp k;cases hei:es[i]? with
  | none=>rw [hei] at j;cases j
  | some e=>
   rw [hei] at j;obtain rfl:e.key=v:=by simpa using j
   obtain ⟨b,f,g,A,_⟩:=hk e (l i e hei);exact ⟨b,f,g,f ▸ A⟩
 have m:(g7 es.size (λ i=>es[i]?.map (·.hash)) h).length<=es.size:=by unfold g7;exact N0 (Q5 _ _) (by rw [C3];exact K0 _)
 have x:((g7 es.size (λ i=>es[i]?.map (·.hash)) h).filterMap (λ i=>es[i]?.map (·.key))).length<=es.size:=N0 (g8 _ _) m;unfold dictFind;refine Goes.holding ?_;refine (Goes.bind (d:=1 + cq + es.size * (cq + ce + 10)) (Goes.entries ho hd) ?_).le (by omega);dsimp only;rw [if_neg (show ¬ ((F1 a :: (g7 es.size (λ i=>es[i]?.map (·.hash)) h).filterMap (λ i=>es[i]?.map (·.key))).all carriedByValue)=true by simp [carriedByValue])];rw [if_neg r];have t:¬ (((g7 es.size (λ i=>es[i]?.map (·.hash)) h).filterMap (λ i=>es[i]?.map (·.key))) == [F1 a])=true:=by intro e;have e:=eq_of_beq e;obtain ⟨b,f,g,_⟩:=n (.ref a) (by rw [e];exact List.mem_singleton.mpr rfl);exact g (by injection f with f;exact f.symm)
 rw [if_neg t];refine (Goes.bind (d:=1 + es.size * (ce + 10)) (Goes.mayTell hq λ v k=>(let ⟨_,_,_,z⟩:=n v k;z)) ?_).le ?_
 ·rw [if_neg (by simp)];refine (Goes.bind (a:=(none,none)) (d:=0) (Goes.forIn (c:=ce + 10) λ i j=>?_) ?_).le ?_
  ·cases hei:es[i]? with
   | none=>exact Goes.pure.le (J2 _)
   | some e=>
    dsimp only;split
    ·obtain ⟨b,f,g,_,B⟩:=hk e (l i e hei);rw [f];refine (Goes.bind (d:=ce + 2) (Goes.epoch ho hd) (Goes.bind (d:=2) B (Goes.bind (d:=1) (Goes.epoch ho hd) ?_))).le (by omega);rw [if_neg (by simp)];rw [if_neg (by simp)];refine Goes.bind (d:=0) Goes.rule ?_;rw [if_neg (by simp)];exact Goes.pure
    ·exact Goes.pure.le (J2 _)
  ·exact Goes.pure
  ·have:=w9 (ce + 10) m;omega
 ·have:=w9 cq x;have u:es.size * (cq + ce + 10)=es.size * cq + es.size * (ce + 10):=by rw [<-Nat.mul_add,Nat.add_assoc]
  rw [u];omega
end
end TJ
open PySem PySem.W PyProof.Rows
namespace TJ
noncomputable abbrev dObj (es:Array DictEntry) (ep:Nat):Obj:={ cls:=.type "dict",data:=.dict es ep }
noncomputable abbrev KV3:=Addr×Value×Int
noncomputable def ent (x:KV3):DictEntry:=⟨x.2.2,.ref x.1,x.2.1⟩
noncomputable def unh (a:Addr):Sem Value:=do rule "hash.unhashable";raiseError "TypeError" s!"unhashable type: '{← typeNameOf (.ref a)}'"
noncomputable def zbk (d:Addr) (vs:List (Value×Value)):Sem PUnit:=forIn vs J9 λ (x:Value×Value) (_:PUnit)=>(do j32 d x.1 x.2;b4 (D4 J9):Sem (ForInStep PUnit))
section
variable {p:Program} {w:Z0} {n₀:Nat} {ann:Option Value} {code:Code} {q:Pos} {pos:Pos} {F:Obj->Nat->SharedT} {d:Addr}
structure Fam (n₀:Nat) (d:Addr) (F:Obj->Nat->SharedT):Prop where
 le:Nat.ble n₀ d=true
 get :∀es ep tk,(F (dObj es ep) tk).abs.heap.get? d=some (dObj es ep)
 upd :∀es ep tk (e:DictEntry),({ (F (dObj es ep) tk).abs with heap:=(F (dObj es ep) tk).abs.heap.update d (V8 (·.push e)) }:C0)=(F (dObj (es.push e) (ep + 1)) tk).abs
theorem Goes.updKeys (Z:Fam n₀ d F) {es:Array DictEntry} {ep tk:Nat} {e:DictEntry} {part:Option Value} (hsz:es.size < sizeLine) :
  Goes p w n₀ ann code q 3 (updateDictKeys d (·.push e) part) (F (dObj es ep) tk).abs pos () (F (dObj (es.push e) (ep + 1)) tk).abs pos:=by
 unfold updateDictKeys;refine (Goes.bind (d:=2) (Goes.loadPart (Z.get es ep tk)) ?_);dsimp only;have u:=Goes.updatePart (p:=p) (w:=w) (ann:=ann) (code:=code) (q:=q) (pos:=pos) (part:=part) (f:=V8 (·.push e)) (Z.get es ep tk) Z.le;rw [Z.upd es ep tk e] at u;refine Goes.bind (d:=1) u ?_;unfold lookBehind;refine Goes.bind (d:=0) (Goes.loadPart (Z.get _ _ tk)) ?_;have a:(dObj (es.push e) (ep + 1)).data.pastItsLine=none:=by unfold Data.pastItsLine;dsimp only;rw [if_neg (by rw [Array.size_push];omega)]
 rw [a];exact Goes.pure
theorem Goes.set (Z:Fam n₀ d F) {a:Addr} {v:Value} {es:Array DictEntry} {ep tk k cp cq ce:Nat} {hsh:Int} (hsz:es.size < sizeLine)
  (hpy:Goes p w n₀ ann code q cp (pyHash (.ref a)) (F (dObj es ep) tk).abs pos hsh (F (dObj es ep) (tk + k)).abs pos)
  (hq:Goes p w n₀ ann code q cq (Y6 8 (.ref a)) (F (dObj es ep) (tk + k)).abs pos true (F (dObj es ep) (tk + k)).abs pos)
  (hk :∀e∈es.toList,∃b,e.key=.ref b/\b≠a/\Goes p w n₀ ann code q cq (Y6 8 (.ref b)) (F (dObj es ep) (tk + k)).abs pos true (F (dObj es ep) (tk + k)).abs pos/\
   Goes p w n₀ ann code q ce (eqBool (.ref b) (.ref a)) (F (dObj es ep) (tk + k)).abs pos false (F (dObj es ep) (tk + k)).abs pos) :
  Goes p w n₀ ann code q (cp + (2 + cq + es.size * (cq + ce + 10)) + 4) (j32 d (.ref a) v) (F (dObj es ep) tk).abs pos () (F (dObj (es.push ⟨hsh,.ref a,v⟩) (ep + 1)) (tk + k)).abs pos:=by
 unfold j32;refine Goes.holding ?_;refine (Goes.bind (d:=(2 + cq + es.size * (cq + ce + 10)) + 4) hpy ?_).le (by omega);unfold dictSetHashed;refine Goes.holding ?_;refine Goes.bind (d:=4) (Goes.find_none (h:=hsh) (Z.get es ep (tk + k)) rfl hq hk) ?_;exact Goes.bind (d:=3) Goes.rule (Goes.updKeys Z hsz)
theorem zkw {γ β:Type} {f:γ->β->Sem (ForInStep β)} {x:γ} {xs:List γ} {b b' b'':β} {c c':Nat} {s s' s'':C0} (h:Goes p w n₀ ann code q c (f x b) s pos (.yield b') s' pos) (k:Goes p w n₀ ann code q c' (forIn xs b' f) s' pos b'' s'' pos) :
  Goes p w n₀ ann code q (c + c') (forIn (x :: xs) b f) s pos b'' s'' pos:=by
 rw [A7];exact Goes.bind (f:=λ r=>match r with | .done b=>(j2h b:Sem β) | .yield b=>forIn xs b f) h k
theorem Goes.loop (Z:Fam n₀ d F) {cp cq ce N:Nat} (all:List KV3) (hN:all.length<=N) (hN':N < sizeLine) (hnd:(all.map (·.1)).Nodup)
  (hQ :∀x∈all,∀oD tk,Goes p w n₀ ann code q cq (Y6 8 (.ref x.1)) (F oD tk).abs pos true (F oD tk).abs pos)
  (hE:all.Pairwise λ x y=>∀oD tk,Goes p w n₀ ann code q ce (eqBool (.ref x.1) (.ref y.1)) (F oD tk).abs pos false (F oD tk).abs pos)
  (hH :∀x∈all,∀oD tk,Goes p w n₀ ann code q cp (pyHash (.ref x.1)) (F oD tk).abs pos x.2.2 (F oD (tk + 3)).abs pos) :
  ∀(todo done:List KV3) (tk:Nat),all=done++todo->
   Goes p w n₀ ann code q (todo.length * (cp + (2 + cq + N * (cq + ce + 10)) + 4)) (zbk d (todo.map λ x=>(F1 x.1,x.2.1)))
    (F (dObj (done.map ent).toArray done.length) tk).abs pos () (F (dObj (all.map ent).toArray all.length) (tk + 3 * todo.length)).abs pos:=by
 intro todo;induction todo with
 | nil=>intro done tk e;rw [L1] at e;subst e;unfold zbk;rw [K7,S7];exact Goes.pure.le (J2 _)
 | cons x todo ih=>
  intro done tk e;have g:x∈all:=by rw [e];exact Q1 _ W1
  have h:=ih (done++[x]) (tk + 3) (by rw [e,E2];rfl);unfold zbk at h⊢;rw [Y1];have f:(done.map ent).toArray.size<=N:=by rw [V0,I0];rw [e,G0] at hN;omega
  have c:=Goes.set (p:=p) (w:=w) (ann:=ann) (code:=code) (q:=q) (pos:=pos) (v:=x.2.1) (ep:=done.length) Z (X0 f hN') (hH x g _ tk) (hQ x g _ _) (es:=(done.map ent).toArray) (ce:=ce) (by
   intro s i;obtain ⟨y,a,rfl⟩:=List.mem_map.mp i;have j:y∈all:=by rw [e];exact v7 _ a
   have n:y.1≠x.1:=by rw [e,V1,Y1] at hnd;intro q;exact (List.nodup_append.mp hnd).2.2 y.1 (List.mem_map.mpr ⟨y,a,rfl⟩) x.1 W1 q
   rw [e] at hE;exact ⟨y.1,rfl,n,hQ y j _ _,(List.pairwise_append.mp hE).2.2 y a x W1 _ _⟩)
  have k:((done.map ent).toArray.push ⟨x.2.2,.ref x.1,x.2.1⟩)=((done++[x]).map ent).toArray:=by rw [List.push_toArray,V1];rfl
  have l:done.length + 1=(done++[x]).length:=by rw [G0];rfl
  rw [k,l] at c;have o:tk + 3 * (x :: todo).length=(tk + 3) + 3 * todo.length:=by rw [Y0];omega
  rw [o];have m:Goes p w n₀ ann code q (_ + 0) (do j32 d (F1 x.1,x.2.1).1 (F1 x.1,x.2.1).2;j2h (D4 J9):Sem (ForInStep PUnit)) _ pos (D4 J9) _ pos:=Goes.bind c Goes.pure;have r:=zkw (b:=J9) (xs:=todo.map λ x=>(F1 x.1,x.2.1)) m h;refine r.le ?_;rw [Y0,Nat.add_mul];have:=w9 (cq + ce + 10) f;omega
noncomputable def zai (acc:Nat):Int:=if acc == 2 ^ 64 - 1 then 1546275796 else if acc < 2 ^ 63 then acc else (acc:Int) - (2 ^ 64:Nat)
theorem z7u (acc:Nat) (h:acc < 2 ^ 64):-(2:Int) ^ 63<=zai acc/\zai acc < 2 ^ 63:=by
 unfold zai;split
 ·constructor<;>decide
 ·split
  ·constructor<;>omega
  ·constructor<;>omega
theorem z79 (hs:List Int):-(2:Int) ^ 63<=B0 hs/\B0 hs < 2 ^ 63:=
 z7u _ (j21 _ (by decide))
theorem Goes.pyHashT {a:Addr} {s s':C0} {hs:List Int} {tok:Tok} (h1:Goes p w n₀ ann code q 1 (cRoomFor "hash" [.ref a]) s pos () s pos)
  (h2:Goes p w n₀ ann code q 1 (specialOf (.ref a) "__hash__") s pos (some (.builtin "tuple.__hash__")) s pos)
  (h3:Goes p w n₀ ann code q 22 (O7 (.ref a) "__hash__" (unh a)) s pos (some (.int (B0 hs) tok)) s' pos) :
  Goes p w n₀ ann code q 25 (pyHash (.ref a)) s pos (R1 (B0 hs)) s' pos:=by
 have e:pyHash (.ref a)=pyHashByItsType (.ref a):=rfl;rw [e];unfold pyHashByItsType;refine Goes.bind (d:=24) h1 ?_;refine Goes.bind (d:=23) h2 ?_;rw [if_neg (by rw [beq_builtin_none];exact E1)];refine Goes.bind (d:=22) h2 ?_;show Goes p w n₀ ann code q 22 (O7 (.ref a) "__hash__" (unh a) >>= _) s pos _ s' pos;refine Goes.bind (d:=0) h3 ?_;have r:(decide (-(2:Int) ^ 63<=B0 hs) && decide (B0 hs < 2 ^ 63))=true:=by have r:=z79 hs;rw [decide_eq_true r.1,decide_eq_true r.2];rfl
 show Goes p w n₀ ann code q 0 (if (decide (-(2:Int) ^ 63<=B0 hs) && decide (B0 hs < 2 ^ 63))=true then _ else _) s' pos _ s' pos;have b:R1 (B0 hs)=(if (B0 hs == -1)=true then -2 else B0 hs):=by unfold R1;rw [if_pos r]
 rw [if_pos r,b];exact Goes.pure
theorem Goes.subDict {pairs:List (Sem Value×Sem Value)} {s s₁ s':C0} {vs:List (Value×Value)} {c c':Nat} {d:Addr} (hlen:pairs.length<=15) (hd:s.heap.objs.size=d)
  (h1:Goes p w n₀ ann code q c (evalPairs pairs) { s with heap:=s.heap.push { cls:=.type "dict",data:=.dict #[] } } pos vs s₁ pos)
  (h2:Goes p w n₀ ann code q c' (zbk d vs) s₁ pos () s' pos):Goes p w n₀ ann code q (1 + (c + c')) (subDict pairs) s pos d s' pos:=by
 subst hd;unfold PySem.subDict;refine Goes.bind (a:=s.heap.objs.size) (λ _ _ _ _=>.one rfl rfl rfl) ?_;refine (Goes.bind (d:=0) (a:=()) (Goes.holding ?_) Goes.pure);rw [if_pos hlen];refine Goes.bind h1 ?_;exact Goes.holding (Goes.bind (d:=0) h2 Goes.pure)
theorem Goes.execs1 {st:Stmt} {env:Env} {s s':C0} {pos':Pos} {c:Nat} (h:Goes p w n₀ ann code q c (exec st env) s pos .next s' pos'):Goes p w n₀ ann code q c (execs [st] env) s pos .next s' pos':=by rw [execs_cons];exact Goes.bind (d:=0) h Goes.pure
theorem Goes.seg {l:List Stmt} {env:Env} {s s':C0} {pos':Pos} {c:Nat} (h:Goes p w n₀ ann code q c (execs l env) s pos .next s' pos') :∃n,n<=c + 1/\segRun W3 p w n₀ ann 1 n s (piecesOf l env code pos [topFrame q])=some (.next,s',code,pos'):=by obtain ⟨n,a,h⟩:=h doneF deadEnd id id;exact ⟨n + 1,by omega,seg_go h rfl⟩
end
theorem zih {p q:Program} {loose:List Str} {Xt:C0->Bool} {α:Type} {Yf:C0->α} {Ya:Z0->α} {N:Nat} {H₀:Q0->Heap} {gs₀:Array GenState} {d₀:Drawn} {k₀ m₀:Nat} {ann:Option Value} {S:Z0->L3->C0}
  (opens :∀w:Z0,(fencedOpening W3 p w N).map (λ s=>(s.heap,s.gens,s.drawn,s.toks))=some (H₀ w.params,gs₀,d₀,k₀))
  (sizes :∀w:Z0,(((H₀ w.params).isNs U2 && gs₀.size == 0),(H₀ w.params).objs.size,(H₀ w.params).nsMap U2 "__annotations__")=(true,m₀,ann))
  (runs :∀(w:Z0) (os:L3),∃M,M<=N/\topRun W3 p w m₀ ann M ⟨H₀ w.params,gs₀,d₀,k₀,os⟩ (topStub p)=some (S w os))
  (looks1 :∀(w:Z0) (os:L3),(staticsOk (V7 p.main.body) (H₀ w.params) (S w os).heap && namesBound p (S w os).heap && gensDone (S w os) && laidKept (H₀ w.params) (S w os).heap)=true)
  (looks2 :∀(w:Z0) (os:L3),openSeen q loose (V7 p.main.body) Xt true (S w os)=openGood q loose) (looks3 :∀(w:Z0) (os:L3),Yf (S w os)=Ya w):LeftO p q loose Xt Yf Ya N:=by
 intro w;obtain ⟨⟨h,i,d,k,os⟩,e,a⟩:=Option.map_eq_some_iff.mp (opens w);simp only [k9] at a;obtain ⟨rfl,rfl,rfl,rfl⟩:=a;have z:=sizes w;simp only [k9] at z;obtain ⟨g,f,b⟩:=z;obtain ⟨M,c,r⟩:=runs w os;have r:=topRun_mono (N - M) _ _ _ _ r;rw [Nat.add_sub_cancel' c] at r;have t:topFrom W3 p w N ⟨H₀ w.params,i,d,k,os⟩=some (S w os):=by unfold topFrom;dsimp only;rw [g,f,b,r];show (match (staticsOk (V7 p.main.body) (H₀ w.params) (S w os).heap && namesBound p (S w os).heap && gensDone (S w os) && laidKept (H₀ w.params) (S w os).heap) with|true=>some (S w os)|false=>none)=_;rw [looks1 w os]
 unfold openEnds;rw [e];show (topFrom W3 p w N _).map _=_;rw [t];show some (_,_)=some (_,_);rw [looks2 w os,looks3 w os]
theorem zfe {p:Program} {w:Z0} {n₀:Nat} {ann:Option Value} {env:Env} {q:Pos} {c N:Nat} {s s' r:C0} {l rest:List Stmt} {b:Code} {pos pos':Pos} (h:Goes p w n₀ ann b q c (execs l env) s pos .next s' pos')
  (k:topRun W3 p w n₀ ann N s' (restOf rest env b pos' [topFrame q])=some r) :∃M,M<=c + 1 + N/\topRun W3 p w n₀ ann M s (restOf (l++rest) env b pos [topFrame q])=some r:=by
 obtain ⟨n,a,g⟩:=Goes.seg h;exact ⟨n + N,by omega,piece_app g k⟩
end TJ
open PySem PySem.Spec PyProof.Rows
namespace L2
noncomputable abbrev fnX (x q:Str) (s:Stmt) (m:Str) (k c:Nat):FuncData:=O6 x q (z9y s) (z6l s) (z07 s) .none .none .none (.str m k) none (.ref c) .none
noncomputable abbrev fY (x q:Str) (s:Stmt):=fnX x q s "law_talejudge_k29_beginnings_by_choices" 778
noncomputable abbrev fO (x q:Str) (s:Stmt) (m:Str) (k c:Nat):Obj:=⟨.type "function",none,.func (fnX x q s m k c),#[]⟩
noncomputable abbrev fL (x q:Str) (s:Stmt):=fO x q s "law_talejudge_k29_beginnings_by_choices" 778
noncomputable abbrev cO (x q:Str) (i l n a j:Nat):Obj:=
 ⟨.type "code",none,.fields #[.str x i,.str q (i + 1),.str "/claim/cut.py" (i + 2),.int l 0,.int n 0,.int 0 0,.int 0 0,.int 3 0,.ref a,.bool true,.int 181 0,.ref (a + 1),.none,.ref (a + 2),.ref (a + 3),.ref (a + 4),.int j 0,.int l 0,.str "/claim/cut.py" (j + 1)],#[]⟩
noncomputable abbrev cP (x q:Str) (i l n a j:Nat):Obj:=
 ⟨.type "code",none,.fields #[.str x i,.str q (i + 1),.str "/claim/cut.py" (i + 2),.int l 0,.int n 0,.int 0 0,.int 0 0,.int 3 0,.ref a,.bool true,.int 181 0,.ref (a + 1),.none,.none,.none,.ref (a + 2),.int j 0,.int l 0,.str "/claim/cut.py" (j + 1)],#[]⟩
noncomputable abbrev kR (P:Q0) (x:Str) (i a:Nat):DictEntry:=⟨j0 P x,.str x i,.ref a⟩
section
variable {P:Program} {w:Z0} {K:o0} {mg:Str->Option Value} {base:Heap} {x q:Str} {st:Stmt} {f:Addr} {fd:FuncData} {k:Nat} {ps:List Str} {sp:Sp}
theorem z0c {m:Str} {i c:Nat} (l:K.lookup f=some (fO x q st m i c):=by kernel_rfl) (hc:P8 K (.ref c) q=true:=by kernel_rfl) (hk:a5 K (.ref f)=true:=by kernel_rfl):Fun K x q st f (fnX x q st m i c):=fun_mk l hc hk
theorem cal_mk (T:TX K mg) (F:Fun K x q st f fd) (g:Q3 K U2 x=some (some (.ref f))) (b:Binds K fd ps []) (G:FnOk P w K mg base CX0 k f fd ps sp):Cal P w K mg base x ps k sp:=⟨⟨f,fd,G,T.of g,F.kp,b⟩⟩
theorem zkb (T:TX K mg) (F:Fun K x q st f fd) (g:Q3 K U2 x=some (some (.ref f))) (b:Binds K fd ps []) (G:FnOk P w K mg base (CXE P w base) k f fd ps sp):CalE P w K mg base x ps k sp:=⟨⟨f,fd,G,T.of g,F.kp,b⟩⟩
end
section
variable {p:List Value->Prop}
theorem us1 (h :∀a,p [a]) :∀us:List Value,us.length=1->p us | [a],_=>h a
theorem us2 (h :∀a b,p [a,b]) :∀us:List Value,us.length=2->p us | [a,b],_=>h a b
theorem us3 (h :∀a b c,p [a,b,c]) :∀us:List Value,us.length=3->p us | [a,b,c],_=>h a b c
theorem us4 (h :∀a b c d,p [a,b,c,d]) :∀us:List Value,us.length=4->p us | [a,b,c,d],_=>h a b c d
theorem us5 (h :∀a b c d e,p [a,b,c,d,e]) :∀us:List Value,us.length=5->p us | [a,b,c,d,e],_=>h a b c d e
end
end L2
set_option maxHeartbeats 0
namespace K29
open PySem PySem.W PyProof.Rows TJ L2
noncomputable abbrev PX:Program:=PySem.Challenge.pw_talejudge_k29_beginnings_by_choices
noncomputable abbrev annX:Option Value:=some (.ref 6)
noncomputable def tp (a b:Str) (t:Nat):Obj:={ cls:=.type "tuple",data:=.seq #[.str a t,.str b (t + 1)] 0 }
noncomputable def tups:List Obj:=[tp "register" "read" 394,tp "register" "write" 396,tp "counter" "read" 398,tp "counter" "add" 400,tp "queue" "put" 402,tp "queue" "take" 404,tp "set" "put" 406,tp "set" "cut" 408,tp "set" "has" 410,tp "cell" "read" 412,tp "cell" "write" 414,tp "cell" "swap" 416]
noncomputable def insAll:List Obj->Nat->BT->BT
 | [],_,t=>t
 | x :: r,n,t=>insAll r (n + 1) (t.ins n x)
noncomputable def treeD (P:Q0) (oD:Obj):BT:=insAll tups 151 ((K29.pre.tree_167 P).ins 150 oD)
noncomputable def FX (w:Z0) (os:L3) (oD:Obj) (tk:Nat):SharedT:=⟨treeD w.params oD,163,{},⟨[]⟩,{},tk,os⟩
noncomputable abbrev cdX:Code:=.body (behindTheImports PX) K29.pre.env_1
noncomputable abbrev qX:Pos:=⟨0,0,0,0⟩
noncomputable abbrev BX:List Frame:=[topFrame qX]
noncomputable abbrev GX {α:Type} (w:Z0) (c:Nat) (x:Sem α) (s:C0) (pos:Pos) (a:α) (s':C0) (pos':Pos):Prop:=Goes PX w 11 annX cdX qX c x s pos a s' pos'
def LX (n:Nat) {α:Type} (x:Sem α) (w:Z0) (pos:Pos) (s:L3->Obj->Nat->SharedT) (a:Nat->α) (s':L3->Obj->Nat->SharedT) (pos':Pos):Prop:=
 ∀(os:L3) (oD:Obj) (tk:Nat) (K:α->Sem j05) (H:Value->Sem j05) (gd:Bool->Bool) (lv:List Value->List Value),
  PySem.W.Fast.tw10295753902157049106 B8 PX w 11 annX 1 n (s os oD tk) ⟨x.wrap K H gd lv,cdX,pos,BX⟩=some (s' os oD tk,⟨K (a tk),cdX,pos',BX⟩)
theorem LX.goes {n:Nat} {α:Type} {x:Sem α} {w:Z0} {pos pos':Pos} {s s':L3->Obj->Nat->SharedT} {a:Nat->α} (h:LX n x w pos s a s' pos') (os:L3) (oD:Obj) (tk:Nat):GX w n x (s os oD tk).abs pos (a tk) (s' os oD tk).abs pos':=by refine Goes.leaf n λ K H c b=>?_;have e:=h os oD tk K H c b;rw [<-PySem.W.Fast.te10295753902157049106,<-Y5] at e;exact e
noncomputable abbrev stay (w:Z0):L3->Obj->Nat->SharedT:=FX w
noncomputable abbrev plus3 (w:Z0):L3->Obj->Nat->SharedT:=λ os oD tk=>FX w os oD (tk + 3)
theorem qtH (a:Addr) (h :∀(w:Z0) (pos:Pos),LX 3 (PySem.W.Fast.tw13066428366354244818 8 (.ref a)) w pos (stay w) (λ _=>true) (stay w) pos:=by intro w pos os oD tk K H gd lv;kernel_rfl) (w:Z0) (pos:Pos):LX 3 (Y6 8 (.ref a)) w pos (stay w) (λ _=>true) (stay w) pos:=by rw [PySem.W.Fast.te13066428366354244818];exact h w pos
noncomputable def qt0:=qtH 151
noncomputable def qt1:=qtH 152
noncomputable def qt2:=qtH 153
noncomputable def qt3:=qtH 154
noncomputable def qt4:=qtH 155
noncomputable def qt5:=qtH 156
noncomputable def qt6:=qtH 157
noncomputable def qt7:=qtH 158
noncomputable def qt8:=qtH 159
noncomputable def qt9:=qtH 160
noncomputable def qt10:=qtH 161
noncomputable def qt11:=qtH 162
theorem eqH (n:Nat) (a b:Addr) (hf :∀(w:Z0) (pos:Pos),LX n (W5 (.ref a) (.ref b)) (w.withFollow "special-get-raises" false) pos (stay (w.withFollow "special-get-raises" false)) (λ _=>false) (stay (w.withFollow "special-get-raises" false)) pos:=by intro w pos os oD tk K H gd lv;kernel_rfl) (ht :∀(w:Z0) (pos:Pos),LX n (W5 (.ref a) (.ref b)) (w.withFollow "special-get-raises" true) pos (stay (w.withFollow "special-get-raises" true)) (λ _=>false) (stay (w.withFollow "special-get-raises" true)) pos:=by intro w pos os oD tk K H gd lv;kernel_rfl) (w:Z0) (pos:Pos):LX n (eqBool (.ref a) (.ref b)) w pos (stay w) (λ _=>false) (stay w) pos:=by rw [PySem.W.Fast.te13926502685295537346];exact byRow2 "special-get-raises" (P:=λ w=>LX n (W5 (.ref a) (.ref b)) w pos (stay w) (λ _=>false) (stay w) pos) (λ w=>hf w pos) (λ w=>ht w pos) w
noncomputable def eq0_1:=eqH 20 151 152
noncomputable def eq0_2:=eqH 16 151 153
noncomputable def eq0_3:=eqH 16 151 154
noncomputable def eq0_4:=eqH 16 151 155
noncomputable def eq0_5:=eqH 16 151 156
noncomputable def eq0_6:=eqH 16 151 157
noncomputable def eq0_7:=eqH 16 151 158
noncomputable def eq0_8:=eqH 16 151 159
noncomputable def eq0_9:=eqH 16 151 160
noncomputable def eq0_10:=eqH 16 151 161
noncomputable def eq0_11:=eqH 16 151 162
noncomputable def eq1_2:=eqH 16 152 153
noncomputable def eq1_3:=eqH 16 152 154
noncomputable def eq1_4:=eqH 16 152 155
noncomputable def eq1_5:=eqH 16 152 156
noncomputable def eq1_6:=eqH 16 152 157
noncomputable def eq1_7:=eqH 16 152 158
noncomputable def eq1_8:=eqH 16 152 159
noncomputable def eq1_9:=eqH 16 152 160
noncomputable def eq1_10:=eqH 16 152 161
noncomputable def eq1_11:=eqH 16 152 162
noncomputable def eq2_3:=eqH 20 153 154
noncomputable def eq2_4:=eqH 16 153 155
noncomputable def eq2_5:=eqH 16 153 156
noncomputable def eq2_6:=eqH 16 153 157
noncomputable def eq2_7:=eqH 16 153 158
noncomputable def eq2_8:=eqH 16 153 159
noncomputable def eq2_9:=eqH 16 153 160
noncomputable def eq2_10:=eqH 16 153 161
noncomputable def eq2_11:=eqH 16 153 162
noncomputable def eq3_4:=eqH 16 154 155
noncomputable def eq3_5:=eqH 16 154 156
noncomputable def eq3_6:=eqH 16 154 157
noncomputable def eq3_7:=eqH 16 154 158
noncomputable def eq3_8:=eqH 16 154 159
noncomputable def eq3_9:=eqH 16 154 160
noncomputable def eq3_10:=eqH 16 154 161
noncomputable def eq3_11:=eqH 16 154 162
noncomputable def eq4_5:=eqH 20 155 156
noncomputable def eq4_6:=eqH 16 155 157
noncomputable def eq4_7:=eqH 16 155 158
noncomputable def eq4_8:=eqH 16 155 159
noncomputable def eq4_9:=eqH 16 155 160
noncomputable def eq4_10:=eqH 16 155 161
noncomputable def eq4_11:=eqH 16 155 162
noncomputable def eq5_6:=eqH 16 156 157
noncomputable def eq5_7:=eqH 16 156 158
noncomputable def eq5_8:=eqH 16 156 159
noncomputable def eq5_9:=eqH 16 156 160
noncomputable def eq5_10:=eqH 16 156 161
noncomputable def eq5_11:=eqH 16 156 162
noncomputable def eq6_7:=eqH 20 157 158
noncomputable def eq6_8:=eqH 20 157 159
noncomputable def eq6_9:=eqH 16 157 160
noncomputable def eq6_10:=eqH 16 157 161
noncomputable def eq6_11:=eqH 16 157 162
noncomputable def eq7_8:=eqH 20 158 159
noncomputable def eq7_9:=eqH 16 158 160
noncomputable def eq7_10:=eqH 16 158 161
noncomputable def eq7_11:=eqH 16 158 162
noncomputable def eq8_9:=eqH 16 159 160
noncomputable def eq8_10:=eqH 16 159 161
noncomputable def eq8_11:=eqH 16 159 162
noncomputable def eq9_10:=eqH 20 160 161
noncomputable def eq9_11:=eqH 20 160 162
noncomputable def zkx:=eqH 20 161 162
theorem crH (a:Addr) (hf :∀(w:Z0) (pos:Pos),LX 1 (X5 "hash" [.ref a]) (w.withFollow "special-get-raises" false) pos (stay (w.withFollow "special-get-raises" false)) (λ _=>()) (stay (w.withFollow "special-get-raises" false)) pos:=by intro w pos os oD tk K H gd lv;kernel_rfl) (ht :∀(w:Z0) (pos:Pos),LX 1 (X5 "hash" [.ref a]) (w.withFollow "special-get-raises" true) pos (stay (w.withFollow "special-get-raises" true)) (λ _=>()) (stay (w.withFollow "special-get-raises" true)) pos:=by intro w pos os oD tk K H gd lv;kernel_rfl) (w:Z0) (pos:Pos):LX 1 (cRoomFor "hash" [.ref a]) w pos (stay w) (λ _=>()) (stay w) pos:=by rw [PySem.W.Fast.te13383273872528276517];exact byRow2 "special-get-raises" (P:=λ w=>LX 1 (X5 "hash" [.ref a]) w pos (stay w) (λ _=>()) (stay w) pos) (λ w=>hf w pos) (λ w=>ht w pos) w
theorem soH (a:Addr) (hf :∀(w:Z0) (pos:Pos),LX 1 (o6 (.ref a) "__hash__") (w.withFollow "special-get-raises" false) pos (stay (w.withFollow "special-get-raises" false)) (λ _=>some (.builtin "tuple.__hash__")) (stay (w.withFollow "special-get-raises" false)) pos:=by intro w pos os oD tk K H gd lv;kernel_rfl) (ht :∀(w:Z0) (pos:Pos),LX 1 (o6 (.ref a) "__hash__") (w.withFollow "special-get-raises" true) pos (stay (w.withFollow "special-get-raises" true)) (λ _=>some (.builtin "tuple.__hash__")) (stay (w.withFollow "special-get-raises" true)) pos:=by intro w pos os oD tk K H gd lv;kernel_rfl) (w:Z0) (pos:Pos):LX 1 (specialOf (.ref a) "__hash__") w pos (stay w) (λ _=>some (.builtin "tuple.__hash__")) (stay w) pos:=by rw [PySem.W.Fast.te4214721358667687652];exact byRow2 "special-get-raises" (P:=λ w=>LX 1 (o6 (.ref a) "__hash__") w pos (stay w) (λ _=>some (.builtin "tuple.__hash__")) (stay w) pos) (λ w=>hf w pos) (λ w=>ht w pos) w
theorem csH (a:Addr) (k l:Str) (hf :∀(w:Z0) (pos:Pos),LX 22 (V5 (.ref a) "__hash__" (unh a)) (w.withFollow "special-get-raises" false) pos (stay (w.withFollow "special-get-raises" false)) (λ tk=>some (.int (B0 [j0 (w.withFollow "special-get-raises" false).params k,j0 (w.withFollow "special-get-raises" false).params l]) (tk + 2))) (plus3 (w.withFollow "special-get-raises" false)) pos:=by intro w pos os oD tk K H gd lv;kernel_rfl) (ht :∀(w:Z0) (pos:Pos),LX 22 (V5 (.ref a) "__hash__" (unh a)) (w.withFollow "special-get-raises" true) pos (stay (w.withFollow "special-get-raises" true)) (λ tk=>some (.int (B0 [j0 (w.withFollow "special-get-raises" true).params k,j0 (w.withFollow "special-get-raises" true).params l]) (tk + 2))) (plus3 (w.withFollow "special-get-raises" true)) pos:=by intro w pos os oD tk K H gd lv;kernel_rfl) (w:Z0) (pos:Pos):LX 22 (O7 (.ref a) "__hash__" (unh a)) w pos (stay w) (λ tk=>some (.int (B0 [j0 w.params k,j0 w.params l]) (tk + 2))) (plus3 w) pos:=by rw [PySem.W.Fast.te16697807410369149715];exact byRow2 "special-get-raises" (P:=λ w=>LX 22 (V5 (.ref a) "__hash__" (unh a)) w pos (stay w) (λ tk=>some (.int (B0 [j0 w.params k,j0 w.params l]) (tk + 2))) (plus3 w) pos) (λ w=>hf w pos) (λ w=>ht w pos) w
noncomputable def cr0:=crH 151
noncomputable def so0:=soH 151
noncomputable def cs0:=csH 151 "register" "read"
noncomputable def cr1:=crH 152
noncomputable def so1:=soH 152
noncomputable def cs1:=csH 152 "register" "write"
noncomputable def cr2:=crH 153
noncomputable def so2:=soH 153
noncomputable def cs2:=csH 153 "counter" "read"
noncomputable def cr3:=crH 154
noncomputable def so3:=soH 154
noncomputable def cs3:=csH 154 "counter" "add"
noncomputable def cr4:=crH 155
noncomputable def so4:=soH 155
noncomputable def cs4:=csH 155 "queue" "put"
noncomputable def cr5:=crH 156
noncomputable def so5:=soH 156
noncomputable def cs5:=csH 156 "queue" "take"
noncomputable def cr6:=crH 157
noncomputable def so6:=soH 157
noncomputable def cs6:=csH 157 "set" "put"
noncomputable def cr7:=crH 158
noncomputable def so7:=soH 158
noncomputable def cs7:=csH 158 "set" "cut"
noncomputable def cr8:=crH 159
noncomputable def so8:=soH 159
noncomputable def cs8:=csH 159 "set" "has"
noncomputable def cr9:=crH 160
noncomputable def so9:=soH 160
noncomputable def cs9:=csH 160 "cell" "read"
noncomputable def cr10:=crH 161
noncomputable def so10:=soH 161
noncomputable def cs10:=csH 161 "cell" "write"
noncomputable def cr11:=crH 162
noncomputable def so11:=soH 162
noncomputable def cs11:=csH 162 "cell" "swap"
noncomputable def allX (P:Q0):List KV3:=[(151,(.ref 95),(R1 (B0 [j0 P "register",j0 P "read"]))),(152,(.ref 102),(R1 (B0 [j0 P "register",j0 P "write"]))),(153,(.ref 95),(R1 (B0 [j0 P "counter",j0 P "read"]))),(154,(.ref 109),(R1 (B0 [j0 P "counter",j0 P "add"]))),(155,(.ref 116),(R1 (B0 [j0 P "queue",j0 P "put"]))),(156,(.ref 123),(R1 (B0 [j0 P "queue",j0 P "take"]))),(157,(.ref 130),(R1 (B0 [j0 P "set",j0 P "put"]))),(158,(.ref 135),(R1 (B0 [j0 P "set",j0 P "cut"]))),(159,(.ref 142),(R1 (B0 [j0 P "set",j0 P "has"]))),(160,(.ref 95),(R1 (B0 [j0 P "cell",j0 P "read"]))),(161,(.ref 102),(R1 (B0 [j0 P "cell",j0 P "write"]))),(162,(.ref 149),(R1 (B0 [j0 P "cell",j0 P "swap"])))]
theorem zk8 (w:Z0) (os:L3) (pos:Pos):(allX w.params).Pairwise λ x y=>∀oD tk,GX w 20 (eqBool (.ref x.1) (.ref y.1)) (FX w os oD tk).abs pos false (FX w os oD tk).abs pos:=by
 unfold allX;refine
 .cons (λ y a oD tk=>(by
  revert y;simp only [Q2,L0,false_implies,implies_true,and_true];exact ⟨(eq0_1 w pos).goes os oD tk |>.le (by decide),(eq0_2 w pos).goes os oD tk |>.le (by decide),(eq0_3 w pos).goes os oD tk |>.le (by decide),(eq0_4 w pos).goes os oD tk |>.le (by decide),(eq0_5 w pos).goes os oD tk |>.le (by decide),(eq0_6 w pos).goes os oD tk |>.le (by decide),(eq0_7 w pos).goes os oD tk |>.le (by decide),(eq0_8 w pos).goes os oD tk |>.le (by decide),(eq0_9 w pos).goes os oD tk |>.le (by decide),(eq0_10 w pos).goes os oD tk |>.le (by decide),(eq0_11 w pos).goes os oD tk |>.le (by decide)⟩))
  (.cons (λ y a oD tk=>(by
  revert y;simp only [Q2,L0,false_implies,implies_true,and_true];exact ⟨(eq1_2 w pos).goes os oD tk |>.le (by decide),(eq1_3 w pos).goes os oD tk |>.le (by decide),(eq1_4 w pos).goes os oD tk |>.le (by decide),(eq1_5 w pos).goes os oD tk |>.le (by decide),(eq1_6 w pos).goes os oD tk |>.le (by decide),(eq1_7 w pos).goes os oD tk |>.le (by decide),(eq1_8 w pos).goes os oD tk |>.le (by decide),(eq1_9 w pos).goes os oD tk |>.le (by decide),(eq1_10 w pos).goes os oD tk |>.le (by decide),(eq1_11 w pos).goes os oD tk |>.le (by decide)⟩))
  (.cons (λ y a oD tk=>(by
  revert y;simp only [Q2,L0,false_implies,implies_true,and_true];exact ⟨(eq2_3 w pos).goes os oD tk |>.le (by decide),(eq2_4 w pos).goes os oD tk |>.le (by decide),(eq2_5 w pos).goes os oD tk |>.le (by decide),(eq2_6 w pos).goes os oD tk |>.le (by decide),(eq2_7 w pos).goes os oD tk |>.le (by decide),(eq2_8 w pos).goes os oD tk |>.le (by decide),(eq2_9 w pos).goes os oD tk |>.le (by decide),(eq2_10 w pos).goes os oD tk |>.le (by decide),(eq2_11 w pos).goes os oD tk |>.le (by decide)⟩))
  (.cons (λ y a oD tk=>(by
  revert y;simp only [Q2,L0,false_implies,implies_true,and_true];exact ⟨(eq3_4 w pos).goes os oD tk |>.le (by decide),(eq3_5 w pos).goes os oD tk |>.le (by decide),(eq3_6 w pos).goes os oD tk |>.le (by decide),(eq3_7 w pos).goes os oD tk |>.le (by decide),(eq3_8 w pos).goes os oD tk |>.le (by decide),(eq3_9 w pos).goes os oD tk |>.le (by decide),(eq3_10 w pos).goes os oD tk |>.le (by decide),(eq3_11 w pos).goes os oD tk |>.le (by decide)⟩))
  (.cons (λ y a oD tk=>(by
  revert y;simp only [Q2,L0,false_implies,implies_true,and_true];exact ⟨(eq4_5 w pos).goes os oD tk |>.le (by decide),(eq4_6 w pos).goes os oD tk |>.le (by decide),(eq4_7 w pos).goes os oD tk |>.le (by decide),(eq4_8 w pos).goes os oD tk |>.le (by decide),(eq4_9 w pos).goes os oD tk |>.le (by decide),(eq4_10 w pos).goes os oD tk |>.le (by decide),(eq4_11 w pos).goes os oD tk |>.le (by decide)⟩))
  (.cons (λ y a oD tk=>(by
  revert y;simp only [Q2,L0,false_implies,implies_true,and_true];exact ⟨(eq5_6 w pos).goes os oD tk |>.le (by decide),(eq5_7 w pos).goes os oD tk |>.le (by decide),(eq5_8 w pos).goes os oD tk |>.le (by decide),(eq5_9 w pos).goes os oD tk |>.le (by decide),(eq5_10 w pos).goes os oD tk |>.le (by decide),(eq5_11 w pos).goes os oD tk |>.le (by decide)⟩))
  (.cons (λ y a oD tk=>(by
  revert y;simp only [Q2,L0,false_implies,implies_true,and_true];exact ⟨(eq6_7 w pos).goes os oD tk |>.le (by decide),(eq6_8 w pos).goes os oD tk |>.le (by decide),(eq6_9 w pos).goes os oD tk |>.le (by decide),(eq6_10 w pos).goes os oD tk |>.le (by decide),(eq6_11 w pos).goes os oD tk |>.le (by decide)⟩))
  (.cons (λ y a oD tk=>(by
  revert y;simp only [Q2,L0,false_implies,implies_true,and_true];exact ⟨(eq7_8 w pos).goes os oD tk |>.le (by decide),(eq7_9 w pos).goes os oD tk |>.le (by decide),(eq7_10 w pos).goes os oD tk |>.le (by decide),(eq7_11 w pos).goes os oD tk |>.le (by decide)⟩))
  (.cons (λ y a oD tk=>(by
  revert y;simp only [Q2,L0,false_implies,implies_true,and_true];exact ⟨(eq8_9 w pos).goes os oD tk |>.le (by decide),(eq8_10 w pos).goes os oD tk |>.le (by decide),(eq8_11 w pos).goes os oD tk |>.le (by decide)⟩))
  (.cons (λ y a oD tk=>(by
  revert y;simp only [Q2,L0,false_implies,implies_true,and_true];exact ⟨(eq9_10 w pos).goes os oD tk |>.le (by decide),(eq9_11 w pos).goes os oD tk |>.le (by decide)⟩))
  (.cons (λ y a oD tk=>(by
  revert y;simp only [Q2,L0,false_implies,implies_true,and_true];exact (zkx w pos).goes os oD tk |>.le (by decide)))
  (.cons (λ y a=>nomatch a)
  (z7))))))))))))
theorem allX_q (w:Z0) (os:L3) (pos:Pos) :∀x∈allX w.params,∀oD tk,GX w 3 (Y6 8 (.ref x.1)) (FX w os oD tk).abs pos true (FX w os oD tk).abs pos:=by unfold allX;simp only [Q2,L0,false_implies,implies_true,and_true];exact ⟨λ oD tk=>(qt0 w pos).goes os oD tk,λ oD tk=>(qt1 w pos).goes os oD tk,λ oD tk=>(qt2 w pos).goes os oD tk,λ oD tk=>(qt3 w pos).goes os oD tk,λ oD tk=>(qt4 w pos).goes os oD tk,λ oD tk=>(qt5 w pos).goes os oD tk,λ oD tk=>(qt6 w pos).goes os oD tk,λ oD tk=>(qt7 w pos).goes os oD tk,λ oD tk=>(qt8 w pos).goes os oD tk,λ oD tk=>(qt9 w pos).goes os oD tk,λ oD tk=>(qt10 w pos).goes os oD tk,λ oD tk=>(qt11 w pos).goes os oD tk⟩
theorem allX_h (w:Z0) (os:L3) (pos:Pos) :∀x∈allX w.params,∀oD tk,GX w 25 (pyHash (.ref x.1)) (FX w os oD tk).abs pos x.2.2 (FX w os oD (tk + 3)).abs pos:=by unfold allX;simp only [Q2,L0,false_implies,implies_true,and_true];exact ⟨λ oD tk=>Goes.pyHashT ((cr0 w pos).goes os oD tk) ((so0 w pos).goes os oD tk) ((cs0 w pos).goes os oD tk),λ oD tk=>Goes.pyHashT ((cr1 w pos).goes os oD tk) ((so1 w pos).goes os oD tk) ((cs1 w pos).goes os oD tk),λ oD tk=>Goes.pyHashT ((cr2 w pos).goes os oD tk) ((so2 w pos).goes os oD tk) ((cs2 w pos).goes os oD tk),λ oD tk=>Goes.pyHashT ((cr3 w pos).goes os oD tk) ((so3 w pos).goes os oD tk) ((cs3 w pos).goes os oD tk),λ oD tk=>Goes.pyHashT ((cr4 w pos).goes os oD tk) ((so4 w pos).goes os oD tk) ((cs4 w pos).goes os oD tk),λ oD tk=>Goes.pyHashT ((cr5 w pos).goes os oD tk) ((so5 w pos).goes os oD tk) ((cs5 w pos).goes os oD tk),λ oD tk=>Goes.pyHashT ((cr6 w pos).goes os oD tk) ((so6 w pos).goes os oD tk) ((cs6 w pos).goes os oD tk),λ oD tk=>Goes.pyHashT ((cr7 w pos).goes os oD tk) ((so7 w pos).goes os oD tk) ((cs7 w pos).goes os oD tk),λ oD tk=>Goes.pyHashT ((cr8 w pos).goes os oD tk) ((so8 w pos).goes os oD tk) ((cs8 w pos).goes os oD tk),λ oD tk=>Goes.pyHashT ((cr9 w pos).goes os oD tk) ((so9 w pos).goes os oD tk) ((cs9 w pos).goes os oD tk),λ oD tk=>Goes.pyHashT ((cr10 w pos).goes os oD tk) ((so10 w pos).goes os oD tk) ((cs10 w pos).goes os oD tk),λ oD tk=>Goes.pyHashT ((cr11 w pos).goes os oD tk) ((so11 w pos).goes os oD tk) ((cs11 w pos).goes os oD tk)⟩
theorem famX (w:Z0) (os:L3):Fam 11 150 (FX w os):=by
 have g :∀c,(treeD w.params c).get 150=some c:=λ c=>by kernel_rfl
 refine ⟨by decide,λ a b d=>abs_get (show 150 < 163 by decide) (g _),λ a b d e=>?_⟩;have u:(absHeap (treeD w.params (dObj a b)) 163 {}).update 150 (V8 (·.push e))=absHeap (treeD w.params (dObj (a.push e) (b + 1))) 163 {}:=by
  rw [<-absHeap_set (g _)];have v:(treeD w.params (dObj a b)).set 150 (V8 (·.push e))=treeD w.params (dObj (a.push e) (b + 1)):=by kernel_rfl
  rw [v]
 exact congrArg (λ h=>(⟨h,⟨[]⟩,{},d,os⟩:C0)) u
noncomputable def stD:Stmt:=(behindTheImports PX).getD 25 (.Pass ⟨0,0,0,0⟩)
noncomputable def sufX:List Stmt:=(behindTheImports PX).drop 26
theorem bodyX:behindTheImports PX=K29.pre.sts_7++(K29.pre.sts_59++(K29.pre.sts_78++(K29.pre.sts_102++([stD]++sufX)))):=by kernel_rfl
noncomputable def dKeys:Stmt->List (Option Expr)
 | .Assign _ (.Dict ks _ _) _=>ks
 | _=>[]
noncomputable def dVals:Stmt->List Expr
 | .Assign _ (.Dict _ vs _) _=>vs
 | _=>[]
noncomputable def dPos:Stmt->Pos
 | .Assign _ (.Dict _ _ p) _=>p
 | _=>⟨0,0,0,0⟩
noncomputable def sPos:Stmt->Pos
 | .Assign _ _ p=>p
 | _=>⟨0,0,0,0⟩
noncomputable abbrev p1X:Pos:=sPos stD
noncomputable abbrev p2X:Pos:=dPos stD
noncomputable abbrev p3X:Pos:=⟨53,0,53,5⟩
noncomputable def runX:List (Sem Value×Sem Value):=(((evalEachOpt (dKeys stD) K29.pre.env_1).zip ((evalEach (dVals stD) K29.pre.env_1).map λ v=>do let x <-v;j30 p2X;b4 x))).filterMap λ x=>x.1.map (·,x.2)
theorem stD_eq:stD=.Assign [.Name "DOERS" p3X] (.Dict (dKeys stD) (dVals stD) p2X) p1X:=by kernel_rfl
theorem evD:V3 (.Dict (dKeys stD) (dVals stD) p2X) K29.pre.env_1=(do j30 p2X;let r <-(do let x <-subDict runX;b4 (some x));match r with|some x=>b4 (F1 x)|none=>newDict):=by kernel_rfl
theorem swD:Z8 (.Dict (dKeys stD) (dVals stD) p2X) (some (.Name "DOERS" p3X)) p1X.line K29.pre.env_1=b4 false:=by kernel_rfl
noncomputable def F0X (w:Z0) (os:L3):SharedT:=⟨K29.pre.tree_167 w.params,150,{},⟨[]⟩,{},394,os⟩
noncomputable def F1X (w:Z0) (os:L3):SharedT:=⟨(K29.pre.tree_167 w.params).ins 150 (dObj #[] 0),151,{},⟨[]⟩,{},394,os⟩
noncomputable def vsX:List (Value×Value):=[(.ref 151,(.ref 95)),(.ref 152,(.ref 102)),(.ref 153,(.ref 95)),(.ref 154,(.ref 109)),(.ref 155,(.ref 116)),(.ref 156,(.ref 123)),(.ref 157,(.ref 130)),(.ref 158,(.ref 135)),(.ref 159,(.ref 142)),(.ref 160,(.ref 95)),(.ref 161,(.ref 102)),(.ref 162,(.ref 149))]
theorem ze1 (w:Z0):LX 84 (evalPairs runX) w p2X (λ os _ _=>F1X w os) (λ _=>vsX) (λ os _ _=>FX w os (dObj #[] 0) 418) p2X:=by rw [PySem.W.Fast.te1788576489739465902];exact λ os c d K H b a=>by kernel_rfl
noncomputable def F2X (w:Z0) (os:L3) (oD:Obj) (tk:Nat):SharedT:=⟨(treeD w.params oD).set 3 (Obj.putName "DOERS" (j0 w.params "DOERS") (.str "DOERS" tk) (.ref 150)),163,{},⟨[]⟩,{},tk + 1,os⟩
theorem zh7 (w:Z0) (pos:Pos):LX 6 (bindName K29.pre.env_1 "DOERS" (.ref 150)) w pos (stay w) (λ _=>()) (λ os oD tk=>F2X w os oD tk) pos:=by
 rw [PySem.W.Fast.te7536695828754713326];exact byRow2 "special-get-raises" (P:=λ w=>LX 6 (PySem.W.Fast.tw7536695828754713326 K29.pre.env_1 "DOERS" (.ref 150)) w pos (stay w) (λ _=>()) (λ os oD tk=>F2X w os oD tk) pos)
  (λ w os oD tk K H b a=>by kernel_rfl) (λ w os oD tk K H b a=>by kernel_rfl) w
noncomputable abbrev oDX (P:Q0):Obj:=dObj ((allX P).map ent).toArray 12
noncomputable abbrev S2X (w:Z0) (os:L3):SharedT:=F2X w os (oDX w.params) 454
theorem stD_go (w:Z0) (os:L3) (pos:Pos):GX w 100000 (exec stD K29.pre.env_1) (F0X w os).abs pos .next (S2X w os).abs p3X:=by
 rw [stD_eq,exec_Assign_Name _ _ _ _ _ swD];have l:=Goes.loop (p:=PX) (w:=w) (ann:=annX) (code:=cdX) (q:=qX) (pos:=p2X) (famX w os) (N:=12) (allX w.params) (show 12<=12 by decide) (by decide) (show ([151,152,153,154,155,156,157,158,159,160,161,162]:List Nat).Nodup by decide) (allX_q w os p2X) (zk8 w os p2X) (allX_h w os p2X) (allX w.params) [] 418 rfl;have b:=(ze1 w).goes os (dObj #[] 0) 0;have d:GX w _ (subDict runX) (F0X w os).abs p2X 150 (FX w os (oDX w.params) 454).abs p2X:=
  Goes.subDict (by decide +kernel) (absHeap_size _ _ _) (show GX w _ (evalPairs runX) _ p2X vsX _ p2X from by
   have e:({ (F0X w os).abs with heap:=(F0X w os).abs.heap.push { cls:=.type "dict",data:=.dict #[] } }:C0)=(F1X w os).abs:=by have i:=absHeap_ins (t:=K29.pre.tree_167 w.params) (n:=150) (life:={}) (o:=dObj #[] 0) (by kernel_rfl);exact congrArg (λ h=>(⟨h,⟨[]⟩,{},394,os⟩:C0)) i.symm
   rw [e];exact b) l
 refine (Goes.bind Goes.at' (Goes.bind (a:=F1 150) (pos':=p2X) ?_ (Goes.bind Goes.at' (Goes.bind (f:=λ _=>b4 Flow.next) ((zh7 w p3X).goes os (oDX w.params) 454) Goes.pure)))).le (c:=1 + (((1 + ((1 + (84 + 12 * (25 + (2 + 3 + 12 * (3 + 20 + 10)) + 4))) + 0 + 0)) + (1 + (6 + 0))))) (by decide);rw [evD];exact Goes.bind Goes.at' (Goes.bind (Goes.bind d Goes.pure) Goes.pure)
noncomputable abbrev pLX:Pos:=⟨374,0,394,49⟩
noncomputable def R3X (w:Z0) (os:L3):Option (Flow×SharedT×Code×Pos):=PySem.W.Fast.tw10110043849684766642 B8 PX w 11 annX 1 2183 (S2X w os) ⟨(PySem.W.Fast.tw12563942051412417395 sufX K29.pre.env_1).wrap doneF deadEnd id id,cdX,p3X,BX⟩
noncomputable def S3X (w:Z0) (os:L3):SharedT:=match R3X w os with|some r=>r.2.1|none=>S2X w os
theorem R3X_eq (w:Z0) (os:L3):R3X w os=some (.next,S3X w os,cdX,pLX):=by kernel_rfl
theorem zkf (w:Z0) (os:L3):segRun W3 PX w 11 annX 1 2183 (S2X w os).abs (piecesOf sufX K29.pre.env_1 cdX p3X BX)=some (.next,(S3X w os).abs,cdX,pLX):=by have e:=R3X_eq w os;unfold R3X at e;rw [<-PySem.W.Fast.te10110043849684766642,<-Y5,<-PySem.W.Fast.te12563942051412417395] at e;exact segRun_of e
noncomputable def S0X (w:Z0) (os:L3):SharedT:=⟨K29.pre.tree_6 w.params,15,{},⟨[]⟩,{},187,os⟩
theorem pre_go (w:Z0) (os:L3):topGo W3 PX w 11 annX 12 ⟨boot_heap w.params,Array.mk [],boot_drawn,boot_toks,os⟩ (topStub PX)=some ((S0X w os).abs,⟨denote W3 cdX,cdX,qX,BX⟩):=by rw [PySem.W.Fast.te15667345088766844465,Y5,PySem.W.Fast.te11892475500146522536];kernel_rfl
theorem zj2 (w:Z0) (os:L3) :∃M,M<=200000/\topRun W3 PX w 11 annX M ⟨boot_heap w.params,Array.mk [],boot_drawn,boot_toks,os⟩ (topStub PX)=some (S3X w os).abs:=by have g:topRun W3 PX w 11 annX 2 (S3X w os).abs (restOf [] K29.pre.env_1 cdX pLX BX)=some (S3X w os).abs:=rfl;have b:=piece_app (zkf w os) g;rw [L1] at b;obtain ⟨M,h,d⟩:=zfe (Goes.execs1 (stD_go w os ⟨49,0,52,21⟩)) b;have a:=K29.pre.chain PX (behindTheImports PX) w os _ M _ d;rw [<-bodyX] at a;have c:segRun W3 PX w 11 annX 1 1 (S0X w os).abs (blockOf (behindTheImports PX) K29.pre.env_1 cdX qX BX)=some (.next,(S0X w os).abs,cdX,qX):=rfl;have f:=piece_block c a;have e:=go_top (pre_go w os) f;refine ⟨_,?_,e⟩;simp only [Nat.add_eq];omega
noncomputable def looseX:List Str:=[("GREATEST_WORTH" : Str),("LONGEST_NAME" : Str),("SMALL_LETTERS" : Str),("is_whole" : Str),("is_within" : Str),("is_worth" : Str),("is_name" : Str),("is_tuple_of" : Str),("TaleError" : Str),("NoTale" : Str),("NoPlan" : Str),("FIRST_STATES" : Str),("WORTHS_OF_VERBS" : Str),("read_state" : Str),("write_state" : Str),("add_to_number" : Str),("put_behind" : Str),("take_first" : Str),("put_into_set" : Str),("cut_from_set" : Str),("has_in_set" : Str),("swap_state" : Str),("DOERS" : Str),("is_kind" : Str),("is_deed" : Str),("planned" : Str),("is_plan" : Str),("is_planned" : Str),("MOST_THINGS" : Str),("MOST_BEGINS" : Str),("LAST_HAND" : Str),("GREATEST_ANSWER" : Str),("ANSWER_WORDS" : Str),("make_tale" : Str),("make_things" : Str),("is_thing" : Str),("make_events" : Str),("is_begin" : Str),("is_end" : Str),("is_event" : Str),("is_hand" : Str),("is_answer" : Str),("go_by_turns" : Str),("MOST_HANDS" : Str),("MOST_DEEDS" : Str),("FIRST_HELD" : Str),("Errand" : Str),("Letter" : Str),("Copies" : Str),("check_plan" : Str),("run_copies" : Str),("_law_cell_at" : Str),("_law_mix" : Str),("_law_parts" : Str),("_law_plan" : Str),("_law_copied" : Str),("_law_begun" : Str),("_law_free" : Str),("_law_sent" : Str),("_law_ended" : Str),("_law_gone_on" : Str),("_law_come" : Str),("_law_moved" : Str),("_law_choice" : Str),("_law_guided" : Str),("_law_raw" : Str),("_law_hand_right" : Str),("_law_answers_right" : Str),("_law_run_out" : Str)]
noncomputable def viewX:Program:={ PX with main:={ PX.main with body:=(PX.main.body[76]?).toList } }
noncomputable def top (i:Nat):Stmt:=PX.main.body.getD i (.Pass ⟨0,0,0,0⟩)
noncomputable def subS (s:Stmt) (j:Nat):Stmt:=match s with
 | .ClassDef _ _ _ b _ _ _ _ _ _ _=>b.getD j s
 | _=>s
noncomputable def asX:List Addr:=[3,20,21,27,28,34,35,39,40,46,47,48,50,55,56,57,61,63,68,69,70,73,75,80,81,82,85,86,87,88,150,151,152,153,154,155,156,157,158,159,160,161,162,168,169,173,174,180,181,185,186,192,193,194,200,201,205,206,212,213,217,218,224,225,231,232,238,239,245,246,252,253,259,260,261,262,263,265,275,276,277,278,279,284,286,296,297,298,299,300,305,307,315,316,320,321,327,328,334,335,341,342,348,349,355,356,362,363,369,370,371,372,373,381,382,388,389,395,396,402,403,409,410,414,415,419,420,424,425,429,430,436,437,443,444,450,451,457,458,464,465,471,472,478,479,485,486,490,491,497,498,504,505,511,512]
noncomputable def KX (P:Q0):Frag:=[
 (3,⟨(.type "dict"),none,(.dict #[⟨(j0 P "__name__"),(.str "__name__" 165),(.str "law_talejudge_k29_beginnings_by_choices" 778)⟩,⟨(j0 P "__doc__"),(.str "__doc__" 166),.none⟩,⟨(j0 P "__package__"),(.str "__package__" 167),.none⟩,⟨(j0 P "__loader__"),(.str "__loader__" 168),(.builtin "__main__.__loader__#opaque")⟩,⟨(j0 P "__spec__"),(.str "__spec__" 169),.none⟩,kR P "__annotations__" 170 6,kR P "__builtins__" 171 4,⟨(j0 P "__file__"),(.str "__file__" 173),(.str "/claim/cut.py" 172)⟩,⟨(j0 P "__cached__"),(.str "__cached__" 174),.none⟩,⟨(j0 P "GREATEST_WORTH"),(.str "GREATEST_WORTH" 190),(.int (1000000000) 189)⟩,⟨(j0 P "LONGEST_NAME"),(.str "LONGEST_NAME" 192),(.int (8) 191)⟩,⟨(j0 P "SMALL_LETTERS"),(.str "SMALL_LETTERS" 194),(.str "abcdefghijklmnopqrstuvwxyz" 193)⟩,kR P "is_whole" 201 21,kR P "is_within" 209 28,kR P "is_worth" 216 35,kR P "is_name" 222 40,kR P "is_tuple_of" 230 47,kR P "TaleError" 250 57,kR P "NoTale" 266 70,kR P "NoPlan" 282 82,kR P "FIRST_STATES" 298 85,kR P "WORTHS_OF_VERBS" 323 88,kR P "read_state" 331 95,kR P "write_state" 339 102,kR P "add_to_number" 347 109,kR P "put_behind" 355 116,kR P "take_first" 363 123,kR P "put_into_set" 371 130,kR P "cut_from_set" 377 135,kR P "has_in_set" 385 142,kR P "swap_state" 393 149,kR P "DOERS" 454 150,kR P "is_kind" 461 169,kR P "is_deed" 467 174,kR P "planned" 478 181,kR P "is_plan" 484 186,kR P "is_planned" 492 193,⟨(j0 P "MOST_THINGS"),(.str "MOST_THINGS" 496),(.int (6) 495)⟩,⟨(j0 P "MOST_BEGINS"),(.str "MOST_BEGINS" 498),(.int (24) 497)⟩,⟨(j0 P "LAST_HAND"),(.str "LAST_HAND" 500),(.int (5) 499)⟩,⟨(j0 P "GREATEST_ANSWER"),(.str "GREATEST_ANSWER" 502),(.int (1000000000000) 501)⟩,kR P "ANSWER_WORDS" 505 194,kR P "make_tale" 514 201,kR P "make_things" 520 206,kR P "is_thing" 527 213,kR P "make_events" 533 218,kR P "is_begin" 541 225,kR P "is_end" 548 232,kR P "is_event" 557 239,kR P "is_hand" 564 246,kR P "is_answer" 571 253,kR P "go_by_turns" 581 260,⟨(j0 P "MOST_HANDS"),(.str "MOST_HANDS" 585),(.int (6) 584)⟩,⟨(j0 P "MOST_DEEDS"),(.str "MOST_DEEDS" 587),(.int (24) 586)⟩,kR P "FIRST_HELD" 592 262,kR P "Errand" 626 279,kR P "Letter" 659 300,kR P "Copies" 759 373,kR P "check_plan" 765 382,kR P "run_copies" 777 389,kR P "_law_cell_at" 787 396,kR P "_law_mix" 796 403,kR P "_law_parts" 807 410,kR P "_law_plan" 813 415,kR P "_law_copied" 819 420,kR P "_law_begun" 825 425,kR P "_law_free" 831 430,kR P "_law_sent" 842 437,kR P "_law_ended" 851 444,kR P "_law_gone_on" 863 451,kR P "_law_come" 879 458,kR P "_law_moved" 895 465,kR P "_law_choice" 908 472,kR P "_law_guided" 925 479,kR P "_law_raw" 935 486,kR P "_law_hand_right" 941 491,kR P "_law_answers_right" 950 498,kR P "_law_run_out" 965 505,kR P "law" 984 512] 79),#[]⟩),
 (20,cO "is_whole" "is_whole" 195 5 1 15 199),
 (21,fO "is_whole" "is_whole" (top 4) "talejudge.basics" 187 20),
 (27,cO "is_within" "is_within" 202 7 2 22 207),
 (28,fO "is_within" "is_within" (top 5) "talejudge.basics" 187 27),
 (34,cO "is_worth" "is_worth" 210 9 1 29 214),
 (35,fO "is_worth" "is_worth" (top 6) "talejudge.basics" 187 34),
 (39,cP "is_name" "is_name" 217 11 1 36 220),
 (40,fO "is_name" "is_name" (top 7) "talejudge.basics" 187 39),
 (46,cO "is_tuple_of" "is_tuple_of" 223 15 2 41 228),
 (47,fO "is_tuple_of" "is_tuple_of" (top 8) "talejudge.basics" 187 46),
 (48,⟨(.type "tuple"),none,(.seq #[(.type "ValueError")] 0),#[]⟩),
 (50,⟨(.type "dict"),none,(.dict #[⟨(j0 P "__module__"),(.str "__module__" 240),(.str "talejudge.errors" 231)⟩,⟨(j0 P "__qualname__"),(.str "__qualname__" 242),(.str "TaleError" 241)⟩,⟨(j0 P "__firstlineno__"),(.str "__firstlineno__" 244),(.int (18) 243)⟩,kR P "__static_attributes__" 245 55] 4),#[]⟩),
 (55,⟨(.type "tuple"),none,(.seq #[] 0),#[]⟩),
 (56,⟨(.type "dict"),none,(.dict #[⟨(j0 P "__module__"),(.str "__module__" 240),(.str "talejudge.errors" 231)⟩,⟨(j0 P "__firstlineno__"),(.str "__firstlineno__" 244),(.int (18) 243)⟩,kR P "__static_attributes__" 245 55,kR P "__weakref__" 247 58,⟨(j0 P "__doc__"),(.str "__doc__" 248),.none⟩] 3),#[]⟩),
 (57,⟨(.type "type"),none,(.cls ⟨"TaleError",[(.type "ValueError")],[(.ref 57),(.type "ValueError"),(.type "Exception"),(.type "BaseException"),(.type "object")],56,"TaleError",true,[],[(.ref 70),(.ref 82)],false,none,false⟩),#[some (.ref 48),none,some (.str "TaleError" 233),some (.str "TaleError" 241),some (.builtin "ValueError.__new__"),some (.bool true)]⟩),
 (61,⟨(.type "tuple"),none,(.seq #[(.ref 57)] 0),#[]⟩),
 (63,⟨(.type "dict"),none,(.dict #[⟨(j0 P "__module__"),(.str "__module__" 258),(.str "talejudge.errors" 231)⟩,⟨(j0 P "__qualname__"),(.str "__qualname__" 260),(.str "NoTale" 259)⟩,⟨(j0 P "__firstlineno__"),(.str "__firstlineno__" 262),(.int (20) 261)⟩,kR P "__static_attributes__" 263 68] 4),#[]⟩),
 (68,⟨(.type "tuple"),none,(.seq #[] 0),#[]⟩),
 (69,⟨(.type "dict"),none,(.dict #[⟨(j0 P "__module__"),(.str "__module__" 258),(.str "talejudge.errors" 231)⟩,⟨(j0 P "__firstlineno__"),(.str "__firstlineno__" 262),(.int (20) 261)⟩,kR P "__static_attributes__" 263 68,⟨(j0 P "__doc__"),(.str "__doc__" 264),.none⟩] 2),#[]⟩),
 (70,⟨(.type "type"),none,(.cls ⟨"NoTale",[(.ref 57)],[(.ref 70),(.ref 57),(.type "ValueError"),(.type "Exception"),(.type "BaseException"),(.type "object")],69,"NoTale",true,[],[],false,none,false⟩),#[some (.ref 61),none,some (.str "NoTale" 251),some (.str "NoTale" 259),some (.builtin "ValueError.__new__"),some (.bool true)]⟩),
 (73,⟨(.type "tuple"),none,(.seq #[(.ref 57)] 0),#[]⟩),
 (75,⟨(.type "dict"),none,(.dict #[⟨(j0 P "__module__"),(.str "__module__" 274),(.str "talejudge.errors" 231)⟩,⟨(j0 P "__qualname__"),(.str "__qualname__" 276),(.str "NoPlan" 275)⟩,⟨(j0 P "__firstlineno__"),(.str "__firstlineno__" 278),(.int (22) 277)⟩,kR P "__static_attributes__" 279 80] 4),#[]⟩),
 (80,⟨(.type "tuple"),none,(.seq #[] 0),#[]⟩),
 (81,⟨(.type "dict"),none,(.dict #[⟨(j0 P "__module__"),(.str "__module__" 274),(.str "talejudge.errors" 231)⟩,⟨(j0 P "__firstlineno__"),(.str "__firstlineno__" 278),(.int (22) 277)⟩,kR P "__static_attributes__" 279 80,⟨(j0 P "__doc__"),(.str "__doc__" 280),.none⟩] 2),#[]⟩),
 (82,⟨(.type "type"),none,(.cls ⟨"NoPlan",[(.ref 57)],[(.ref 82),(.ref 57),(.type "ValueError"),(.type "Exception"),(.type "BaseException"),(.type "object")],81,"NoPlan",true,[],[],false,none,false⟩),#[some (.ref 73),none,some (.str "NoPlan" 267),some (.str "NoPlan" 275),some (.builtin "ValueError.__new__"),some (.bool true)]⟩),
 (85,⟨(.type "dict"),none,(.dict #[⟨(j0 P "register"),(.str "register" 285),(.int (0) 286)⟩,⟨(j0 P "counter"),(.str "counter" 287),(.int (0) 288)⟩,kR P "queue" 289 86,kR P "set" 290 87,⟨(j0 P "cell"),(.str "cell" 291),(.int (0) 292)⟩] 5),#[]⟩),
 (86,⟨(.type "tuple"),none,(.seq #[] 0),#[]⟩),
 (87,⟨(.type "tuple"),none,(.seq #[] 0),#[]⟩),
 (88,⟨(.type "dict"),none,(.dict #[⟨(j0 P "read"),(.str "read" 299),(.int (0) 300)⟩,⟨(j0 P "take"),(.str "take" 301),(.int (0) 302)⟩,⟨(j0 P "write"),(.str "write" 303),(.int (1) 304)⟩,⟨(j0 P "add"),(.str "add" 305),(.int (1) 306)⟩,⟨(j0 P "put"),(.str "put" 307),(.int (1) 308)⟩,⟨(j0 P "cut"),(.str "cut" 309),(.int (1) 310)⟩,⟨(j0 P "has"),(.str "has" 311),(.int (1) 312)⟩,⟨(j0 P "swap"),(.str "swap" 313),(.int (2) 314)⟩] 8),#[]⟩),
 (150,⟨(.type "dict"),none,(.dict #[⟨(R1 (B0 [j0 P "register",j0 P "read"])),(.ref 151),(.ref 95)⟩,⟨(R1 (B0 [j0 P "register",j0 P "write"])),(.ref 152),(.ref 102)⟩,⟨(R1 (B0 [j0 P "counter",j0 P "read"])),(.ref 153),(.ref 95)⟩,⟨(R1 (B0 [j0 P "counter",j0 P "add"])),(.ref 154),(.ref 109)⟩,⟨(R1 (B0 [j0 P "queue",j0 P "put"])),(.ref 155),(.ref 116)⟩,⟨(R1 (B0 [j0 P "queue",j0 P "take"])),(.ref 156),(.ref 123)⟩,⟨(R1 (B0 [j0 P "set",j0 P "put"])),(.ref 157),(.ref 130)⟩,⟨(R1 (B0 [j0 P "set",j0 P "cut"])),(.ref 158),(.ref 135)⟩,⟨(R1 (B0 [j0 P "set",j0 P "has"])),(.ref 159),(.ref 142)⟩,⟨(R1 (B0 [j0 P "cell",j0 P "read"])),(.ref 160),(.ref 95)⟩,⟨(R1 (B0 [j0 P "cell",j0 P "write"])),(.ref 161),(.ref 102)⟩,⟨(R1 (B0 [j0 P "cell",j0 P "swap"])),(.ref 162),(.ref 149)⟩] 12),#[]⟩),
 (151,⟨(.type "tuple"),none,(.seq #[(.str "register" 394),(.str "read" 395)] 0),#[]⟩),
 (152,⟨(.type "tuple"),none,(.seq #[(.str "register" 396),(.str "write" 397)] 0),#[]⟩),
 (153,⟨(.type "tuple"),none,(.seq #[(.str "counter" 398),(.str "read" 399)] 0),#[]⟩),
 (154,⟨(.type "tuple"),none,(.seq #[(.str "counter" 400),(.str "add" 401)] 0),#[]⟩),
 (155,⟨(.type "tuple"),none,(.seq #[(.str "queue" 402),(.str "put" 403)] 0),#[]⟩),
 (156,⟨(.type "tuple"),none,(.seq #[(.str "queue" 404),(.str "take" 405)] 0),#[]⟩),
 (157,⟨(.type "tuple"),none,(.seq #[(.str "set" 406),(.str "put" 407)] 0),#[]⟩),
 (158,⟨(.type "tuple"),none,(.seq #[(.str "set" 408),(.str "cut" 409)] 0),#[]⟩),
 (159,⟨(.type "tuple"),none,(.seq #[(.str "set" 410),(.str "has" 411)] 0),#[]⟩),
 (160,⟨(.type "tuple"),none,(.seq #[(.str "cell" 412),(.str "read" 413)] 0),#[]⟩),
 (161,⟨(.type "tuple"),none,(.seq #[(.str "cell" 414),(.str "write" 415)] 0),#[]⟩),
 (162,⟨(.type "tuple"),none,(.seq #[(.str "cell" 416),(.str "swap" 417)] 0),#[]⟩),
 (168,cO "is_kind" "is_kind" 455 54 1 163 459),
 (169,fO "is_kind" "is_kind" (top 26) "talejudge.store" 283 168),
 (173,cP "is_deed" "is_deed" 462 56 3 170 465),
 (174,fO "is_deed" "is_deed" (top 27) "talejudge.store" 283 173),
 (180,cO "planned" "planned" 470 66 1 175 476),
 (181,fO "planned" "planned" (top 29) "talejudge.plans" 468 180),
 (185,cP "is_plan" "is_plan" 479 71 4 182 482),
 (186,fO "is_plan" "is_plan" (top 30) "talejudge.plans" 468 185),
 (192,cO "is_planned" "is_planned" 485 76 2 187 490),
 (193,fO "is_planned" "is_planned" (top 31) "talejudge.plans" 468 192),
 (194,⟨(.type "tuple"),none,(.seq #[(.str "ok" 503),(.str "none" 504)] 0),#[]⟩),
 (200,cO "make_tale" "make_tale" 506 84 2 195 512),
 (201,fO "make_tale" "make_tale" (top 38) "talejudge.tales" 493 200),
 (205,cP "make_things" "make_things" 515 87 1 202 518),
 (206,fO "make_things" "make_things" (top 39) "talejudge.tales" 493 205),
 (212,cO "is_thing" "is_thing" 521 95 1 207 525),
 (213,fO "is_thing" "is_thing" (top 40) "talejudge.tales" 493 212),
 (217,cP "make_events" "make_events" 528 97 2 214 531),
 (218,fO "make_events" "make_events" (top 41) "talejudge.tales" 493 217),
 (224,cO "is_begin" "is_begin" 534 105 2 219 539),
 (225,fO "is_begin" "is_begin" (top 42) "talejudge.tales" 493 224),
 (231,cO "is_end" "is_end" 542 109 1 226 546),
 (232,fO "is_end" "is_end" (top 43) "talejudge.tales" 493 231),
 (238,cO "is_event" "is_event" 549 111 3 233 555),
 (239,fO "is_event" "is_event" (top 44) "talejudge.tales" 493 238),
 (245,cO "is_hand" "is_hand" 558 113 1 240 562),
 (246,fO "is_hand" "is_hand" (top 45) "talejudge.tales" 493 245),
 (252,cO "is_answer" "is_answer" 565 115 1 247 569),
 (253,fO "is_answer" "is_answer" (top 46) "talejudge.tales" 493 252),
 (259,cO "go_by_turns" "go_by_turns" 572 119 1 254 579),
 (260,fO "go_by_turns" "go_by_turns" (top 47) "talejudge.tales" 493 259),
 (261,⟨(.type "tuple"),none,(.seq #[(.int (0) 588),(.int (-1) 590)] 0),#[]⟩),
 (262,⟨(.type "tuple"),none,(.seq #[(.ref 261),(.int (0) 591)] 0),#[]⟩),
 (263,⟨(.type "tuple"),none,(.seq #[] 0),#[]⟩),
 (265,⟨(.type "dict"),none,(.dict #[⟨(j0 P "__module__"),(.str "__module__" 600),(.str "talejudge.copies" 582)⟩,⟨(j0 P "__qualname__"),(.str "__qualname__" 602),(.str "Errand" 601)⟩,⟨(j0 P "__firstlineno__"),(.str "__firstlineno__" 604),(.int (131) 603)⟩,kR P "__init__" 614 276,kR P "__static_attributes__" 619 277] 5),#[]⟩),
 (275,cO "__init__" "Errand.__init__" 605 133 4 270 612),
 (276,fO "__init__" "Errand.__init__" (subS (top 52) 0) "talejudge.copies" 582 275),
 (277,⟨(.type "tuple"),none,(.seq #[(.str "deed" 615),(.str "hand" 616),(.str "heard" 617),(.str "kept" 618)] 0),#[]⟩),
 (278,⟨(.type "dict"),none,(.dict #[⟨(j0 P "__module__"),(.str "__module__" 600),(.str "talejudge.copies" 582)⟩,⟨(j0 P "__firstlineno__"),(.str "__firstlineno__" 604),(.int (131) 603)⟩,kR P "__init__" 614 276,kR P "__static_attributes__" 619 277,kR P "__dict__" 621 280,kR P "__weakref__" 623 281,⟨(j0 P "__doc__"),(.str "__doc__" 624),.none⟩] 4),#[]⟩),
 (279,⟨(.type "type"),none,(.cls ⟨"Errand",[(.type "object")],[(.ref 279),(.type "object")],278,"Errand",true,[],[],false,none,false⟩),#[none,none,some (.str "Errand" 593),some (.str "Errand" 601),some (.builtin "object.__new__"),some (.bool true)]⟩),
 (284,⟨(.type "tuple"),none,(.seq #[] 0),#[]⟩),
 (286,⟨(.type "dict"),none,(.dict #[⟨(j0 P "__module__"),(.str "__module__" 634),(.str "talejudge.copies" 582)⟩,⟨(j0 P "__qualname__"),(.str "__qualname__" 636),(.str "Letter" 635)⟩,⟨(j0 P "__firstlineno__"),(.str "__firstlineno__" 638),(.int (138) 637)⟩,kR P "__init__" 648 297,kR P "__static_attributes__" 652 298] 5),#[]⟩),
 (296,cO "__init__" "Letter.__init__" 639 140 4 291 646),
 (297,fO "__init__" "Letter.__init__" (subS (top 53) 0) "talejudge.copies" 582 296),
 (298,⟨(.type "tuple"),none,(.seq #[(.str "errand" 649),(.str "held" 650),(.str "number" 651)] 0),#[]⟩),
 (299,⟨(.type "dict"),none,(.dict #[⟨(j0 P "__module__"),(.str "__module__" 634),(.str "talejudge.copies" 582)⟩,⟨(j0 P "__firstlineno__"),(.str "__firstlineno__" 638),(.int (138) 637)⟩,kR P "__init__" 648 297,kR P "__static_attributes__" 652 298,kR P "__dict__" 654 301,kR P "__weakref__" 656 302,⟨(j0 P "__doc__"),(.str "__doc__" 657),.none⟩] 4),#[]⟩),
 (300,⟨(.type "type"),none,(.cls ⟨"Letter",[(.type "object")],[(.ref 300),(.type "object")],299,"Letter",true,[],[],false,none,false⟩),#[none,none,some (.str "Letter" 627),some (.str "Letter" 635),some (.builtin "object.__new__"),some (.bool true)]⟩),
 (305,⟨(.type "tuple"),none,(.seq #[] 0),#[]⟩),
 (307,⟨(.type "dict"),none,(.dict #[⟨(j0 P "__module__"),(.str "__module__" 667),(.str "talejudge.copies" 582)⟩,⟨(j0 P "__qualname__"),(.str "__qualname__" 669),(.str "Copies" 668)⟩,⟨(j0 P "__firstlineno__"),(.str "__firstlineno__" 671),(.int (144) 670)⟩,kR P "__init__" 677 316,kR P "go_on" 683 321,kR P "begin_deed" 692 328,kR P "send" 701 335,kR P "bring" 709 342,kR P "bring_to_copy" 718 349,kR P "bring_back" 727 356,kR P "go_on_from_asking" 736 363,kR P "end_deed" 745 370,kR P "__static_attributes__" 752 371] 13),#[]⟩),
 (315,cP "__init__" "Copies.__init__" 672 146 4 312 675),
 (316,fO "__init__" "Copies.__init__" (subS (top 54) 0) "talejudge.copies" 582 315),
 (320,cP "go_on" "Copies.go_on" 678 154 2 317 681),
 (321,fO "go_on" "Copies.go_on" (subS (top 54) 1) "talejudge.copies" 582 320),
 (327,cO "begin_deed" "Copies.begin_deed" 684 167 2 322 690),
 (328,fO "begin_deed" "Copies.begin_deed" (subS (top 54) 2) "talejudge.copies" 582 327),
 (334,cO "send" "Copies.send" 693 173 2 329 699),
 (335,fO "send" "Copies.send" (subS (top 54) 3) "talejudge.copies" 582 334),
 (341,cO "bring" "Copies.bring" 702 177 2 336 707),
 (342,fO "bring" "Copies.bring" (subS (top 54) 4) "talejudge.copies" 582 341),
 (348,cO "bring_to_copy" "Copies.bring_to_copy" 710 183 3 343 716),
 (349,fO "bring_to_copy" "Copies.bring_to_copy" (subS (top 54) 5) "talejudge.copies" 582 348),
 (355,cO "bring_back" "Copies.bring_back" 719 188 3 350 725),
 (356,fO "bring_back" "Copies.bring_back" (subS (top 54) 6) "talejudge.copies" 582 355),
 (362,cO "go_on_from_asking" "Copies.go_on_from_asking" 728 197 2 357 734),
 (363,fO "go_on_from_asking" "Copies.go_on_from_asking" (subS (top 54) 7) "talejudge.copies" 582 362),
 (369,cO "end_deed" "Copies.end_deed" 737 206 3 364 743),
 (370,fO "end_deed" "Copies.end_deed" (subS (top 54) 8) "talejudge.copies" 582 369),
 (371,⟨(.type "tuple"),none,(.seq #[(.str "back" 746),(.str "events" 747),(.str "idle" 748),(.str "left" 749),(.str "letters" 750),(.str "stock" 751)] 0),#[]⟩),
 (372,⟨(.type "dict"),none,(.dict #[⟨(j0 P "__module__"),(.str "__module__" 667),(.str "talejudge.copies" 582)⟩,⟨(j0 P "__firstlineno__"),(.str "__firstlineno__" 671),(.int (144) 670)⟩,kR P "__init__" 677 316,kR P "go_on" 683 321,kR P "begin_deed" 692 328,kR P "send" 701 335,kR P "bring" 709 342,kR P "bring_to_copy" 718 349,kR P "bring_back" 727 356,kR P "go_on_from_asking" 736 363,kR P "end_deed" 745 370,kR P "__static_attributes__" 752 371,kR P "__dict__" 754 374,kR P "__weakref__" 756 375,⟨(j0 P "__doc__"),(.str "__doc__" 757),.none⟩] 4),#[]⟩),
 (373,⟨(.type "type"),none,(.cls ⟨"Copies",[(.type "object")],[(.ref 373),(.type "object")],372,"Copies",true,[],[],false,none,false⟩),#[none,none,some (.str "Copies" 660),some (.str "Copies" 668),some (.builtin "object.__new__"),some (.bool true)]⟩),
 (381,cP "check_plan" "check_plan" 760 209 2 378 763),
 (382,fO "check_plan" "check_plan" (top 55) "talejudge.copies" 582 381),
 (388,cO "run_copies" "run_copies" 766 217 4 383 775),
 (389,fO "run_copies" "run_copies" (top 56) "talejudge.copies" 582 388),
 (395,cO "_law_cell_at" "_law_cell_at" 780 224 2 390 785),
 (396,fL "_law_cell_at" "_law_cell_at" (top 58) 395),
 (402,cO "_law_mix" "_law_mix" 788 228 2 397 794),
 (403,fL "_law_mix" "_law_mix" (top 59) 402),
 (409,cO "_law_parts" "_law_parts" 797 232 2 404 805),
 (410,fL "_law_parts" "_law_parts" (top 60) 409),
 (414,cP "_law_plan" "_law_plan" 808 242 4 411 811),
 (415,fL "_law_plan" "_law_plan" (top 61) 414),
 (419,cP "_law_copied" "_law_copied" 814 253 1 416 817),
 (420,fL "_law_copied" "_law_copied" (top 62) 419),
 (424,cP "_law_begun" "_law_begun" 820 255 2 421 823),
 (425,fL "_law_begun" "_law_begun" (top 63) 424),
 (429,cP "_law_free" "_law_free" 826 260 2 426 829),
 (430,fL "_law_free" "_law_free" (top 64) 429),
 (436,cO "_law_sent" "_law_sent" 832 262 4 431 840),
 (437,fL "_law_sent" "_law_sent" (top 65) 436),
 (443,cO "_law_ended" "_law_ended" 843 269 3 438 849),
 (444,fL "_law_ended" "_law_ended" (top 66) 443),
 (450,cO "_law_gone_on" "_law_gone_on" 852 272 3 445 861),
 (451,fL "_law_gone_on" "_law_gone_on" (top 67) 450),
 (457,cO "_law_come" "_law_come" 864 286 3 452 877),
 (458,fL "_law_come" "_law_come" (top 68) 457),
 (464,cO "_law_moved" "_law_moved" 880 298 4 459 893),
 (465,fL "_law_moved" "_law_moved" (top 69) 464),
 (471,cO "_law_choice" "_law_choice" 896 312 4 466 906),
 (472,fL "_law_choice" "_law_choice" (top 70) 471),
 (478,cO "_law_guided" "_law_guided" 909 321 5 473 923),
 (479,fL "_law_guided" "_law_guided" (top 71) 478),
 (485,cO "_law_raw" "_law_raw" 926 333 1 480 933),
 (486,fL "_law_raw" "_law_raw" (top 72) 485),
 (490,cP "_law_hand_right" "_law_hand_right" 936 340 3 487 939),
 (491,fL "_law_hand_right" "_law_hand_right" (top 73) 490),
 (497,cO "_law_answers_right" "_law_answers_right" 942 352 1 492 948),
 (498,fL "_law_answers_right" "_law_answers_right" (top 74) 497),
 (504,cO "_law_run_out" "_law_run_out" 951 360 4 499 963),
 (505,fL "_law_run_out" "_law_run_out" (top 75) 504),
 (511,cO "law" "law" 966 374 1 506 982),
 (512,fL "law" "law" (top 76) 511)]
noncomputable def HX:Hook:=kHook KX asX (λ _=>by kernel_rfl)
noncomputable abbrev XtX:C0->Bool:=λ s=>xlAt viewX [] s && recOk (RowW.records (OpenRow.toRowW PySem.Challenge.rw_talejudge_k29_beginnings_by_choices.row)) s
theorem look1 (w:Z0) (os:L3):(staticsOk (V7 PX.main.body) (boot_heap w.params) (S3X w os).abs.heap && namesBound PX (S3X w os).abs.heap && gensDone (S3X w os).abs && laidKept (boot_heap w.params) (S3X w os).abs.heap)=true:=by kernel_rfl
theorem look2 (w:Z0) (os:L3):openSeen viewX looseX (V7 PX.main.body) XtX true (S3X w os).abs=openGood viewX looseX:=by rw [PySem.W.Fast.te4187177175401517315];kernel_rfl
theorem look3 (w:Z0) (os:L3):Hook.obs HX (S3X w os).abs=Hook.val HX w:=by kernel_rfl
theorem leftX:LeftO PX viewX looseX XtX (Hook.obs HX) (Hook.val HX) 200000:=
 zih (H₀:=boot_heap) (gs₀:=Array.mk []) (boot_open (by kernel_rfl) (by decide) (λ s=>rfl)) (λ w=>by kernel_rfl) zj2 look1 look2 look3
end K29
set_option maxHeartbeats 4000000
namespace L2
open PySem PySem.Spec PyProof.Rows
theorem FnScope.k {N P:List Str} {sc:Scope} (a:sc.kind=.function:=by exact rfl) (b:sc.isCoroutine=false:=by exact rfl) (c:sc.isGenerator=false:=by exact rfl) (d:N.Nodup:=by decide +kernel) (e:N.take P.length=P:=by exact rfl) (f :∀x∈P,sc.names.lookup x=some .local\/sc.names.lookup x=some .cell:=by decide +kernel) (g :∀y∈sc.names,y.2≠.free:=by decide +kernel):FnScope N P sc:=⟨a,b,c,d,e,f,g⟩
theorem newA {H:Hp} {p:Addr} (o:HO) (h:H p=none) :∃H',H'=upd H p o/\Same H H'/\H' p=some o:=⟨_,rfl,Same.upd h,z04⟩
theorem iteK {c A B:Prop} [Decidable c] (h:B) (hc:¬ c:=by decide +kernel):if c then A else B:=iteN hc h
theorem pg_cn {X:Cx} {scope:Scope} {cl:List (Str×Addr)} {N:List Str} {C:Addr} {s₂:C0} {H₂:Hp} {fp:List Addr} {x:Str} {px:Pos} (i:Nat) (hN:N.Nodup:=by decide +kernel) (hi:N[i]? = some x:=by exact rfl) (hx:scope.names.lookup x=some .local:=by exact rfl):PG (cxComp X scope cl N C s₂ H₂ fp) (.Name x px) (gName i):=zix i hN hi hx
theorem pe_cg {X:Cx} {xs:List Str} {tg:Expr} {g:TG} {pos:Pos} {elt iter:Expr} {ifs:List Expr} {scope:Scope} {fr:List (Nat×Str)} {wi:TI} {tc:TT} {te:TE} (hi:PI X tg iter wi)
  (hg :∀cl C s₂ H₂ fp,PG (cxComp X scope cl (xs++fr.map (·.2)) C s₂ H₂ fp) tg g)
  (ht :∀cl C s₂ H₂ fp,PF (cxComp X scope cl (xs++fr.map (·.2)) C s₂ H₂ fp) ifs tc) (he :∀cl C s₂ H₂ fp,PE (cxComp X scope cl (xs++fr.map (·.2)) C s₂ H₂ fp) elt te) (hcalm:X.calm=true:=by exact rfl)
  (hfr :∀p∈fr,X.N[p.1]? = some p.2/\(X.env.kindOf p.2=some .cell\/X.env.kindOf p.2=some .free):=by first|exact λ _ z=>absurd z L0|(intro p hp;obtain rfl:=List.mem_singleton.mp hp;first|exact ⟨rfl,.inl rfl⟩|exact ⟨rfl,.inr rfl⟩))
  (hin:(scope.names.all λ y=>y.2 != K2 || fr.any λ p=>p.2 == y.1)=true:=by decide +kernel)
  (hfs :∀p∈fr,(p.2,K2)∈scope.names/\((F8 scope X.env).names.lookup p.2=some .cell\/(F8 scope X.env).names.lookup p.2=some .free):=by first|exact λ _ z=>absurd z L0|(intro p hp;obtain rfl:=List.mem_singleton.mp hp;exact ⟨by decide +kernel,by first|exact .inl rfl|exact .inr rfl⟩))
  (hcell :∀y∈scope.names,y.2≠NameKind.cell:=by decide +kernel) (hkind:scope.kind=.function:=by exact rfl) (hnames :∀y∈scope.names,y.2=NameKind.local->scope.names.lookup y.1=some .local:=by decide +kernel)
  (hs :∀x,z6 iter X.env x=b4 x:=by intro _;rfl):PE X (.ListComp elt [⟨tg,iter,ifs,0⟩] scope pos) (tCompG wi xs.length fr g tc te):=
 zec hcalm hi hfr (λ y a e=>by
  have h:=List.all_eq_true.mp hin y a;rw [e] at h;obtain ⟨p,hp,z⟩:=List.any_eq_true.mp (show fr.any (λ p=>p.2 == y.1)=true from h);have:=(hfr p hp).2
  rwa [eq_of_beq z] at this) hfs hcell hkind hnames hg ht he hs
end L2
namespace K29
open PySem PySem.Spec PyProof.Rows TJ L2
abbrev Gg (n:Str) (a:Addr):Prop:=∀P,Q3 (KX P) U2 n=some (some (.ref a))
abbrev Gn (n:Str):Prop:=∀P,Q3 (KX P) U2 n=some none
noncomputable abbrev kx (w:Z0):=KX w.params
noncomputable abbrev Ca (P:Program) (w:Z0) (mg:Str->Option Value) (base:Heap):=Cal P w (KX w.params) mg base
noncomputable abbrev CaE (P:Program) (w:Z0) (mg:Str->Option Value) (base:Heap):=CalE P w (KX w.params) mg base
noncomputable abbrev Fo (P:Program) (w:Z0) (mg:Str->Option Value) (base:Heap):=FnOk P w (KX w.params) mg base
theorem z0l:Gn "isinstance":=λ _=>by kernel_rfl
theorem n_len:Gn "len":=λ _=>by kernel_rfl
theorem n_all:Gn "all":=λ _=>by kernel_rfl
theorem n_max:Gn "max":=λ _=>by kernel_rfl
theorem n_int:Gn "int":=λ _=>by kernel_rfl
theorem n_str:Gn "str":=λ _=>by kernel_rfl
theorem n_bool:Gn "bool":=λ _=>by kernel_rfl
theorem zdq:Gn "tuple":=λ _=>by kernel_rfl
theorem n_list:Gn "list":=λ _=>by kernel_rfl
theorem z2a:Gn "range":=λ _=>by kernel_rfl
theorem zjm:Gn "sorted":=λ _=>by kernel_rfl
theorem n_dict:Gn "dict":=λ _=>by kernel_rfl
theorem n_set:Gn "set":=λ _=>by kernel_rfl
theorem zcm:Gn "enumerate":=λ _=>by kernel_rfl
theorem z5u (P:Q0):Q3 (KX P) U2 "GREATEST_WORTH" = some (some (.int (1000000000) 189)):=by kernel_rfl
theorem z82 (P:Q0):Q3 (KX P) U2 "LONGEST_NAME" = some (some (.int (8) 191)):=by kernel_rfl
theorem z6w (P:Q0):Q3 (KX P) U2 "SMALL_LETTERS" = some (some (.str "abcdefghijklmnopqrstuvwxyz" 193)):=by kernel_rfl
theorem zeh:Gg "is_whole" 21:=λ _=>by kernel_rfl
theorem zd6:Gg "is_within" 28:=λ _=>by kernel_rfl
theorem zfa:Gg "is_worth" 35:=λ _=>by kernel_rfl
theorem zg7:Gg "is_name" 40:=λ _=>by kernel_rfl
theorem z9m:Gg "is_tuple_of" 47:=λ _=>by kernel_rfl
theorem zbc:Gg "NoPlan" 82:=λ _=>by kernel_rfl
theorem z7x:Gg "FIRST_STATES" 85:=λ _=>by kernel_rfl
theorem z5l:Gg "WORTHS_OF_VERBS" 88:=λ _=>by kernel_rfl
theorem zkj:Gg "DOERS" 150:=λ _=>by kernel_rfl
theorem zgf:Gg "is_kind" 169:=λ _=>by kernel_rfl
theorem zge:Gg "is_deed" 174:=λ _=>by kernel_rfl
theorem zhj:Gg "planned" 181:=λ _=>by kernel_rfl
theorem zgo:Gg "is_plan" 186:=λ _=>by kernel_rfl
theorem zae:Gg "is_planned" 193:=λ _=>by kernel_rfl
theorem z9w (P:Q0):Q3 (KX P) U2 "MOST_THINGS" = some (some (.int (6) 495)):=by kernel_rfl
theorem z91 (P:Q0):Q3 (KX P) U2 "MOST_BEGINS" = some (some (.int (24) 497)):=by kernel_rfl
theorem zcz (P:Q0):Q3 (KX P) U2 "LAST_HAND" = some (some (.int (5) 499)):=by kernel_rfl
theorem z5i (P:Q0):Q3 (KX P) U2 "GREATEST_ANSWER" = some (some (.int (1000000000000) 501)):=by kernel_rfl
theorem z8b:Gg "ANSWER_WORDS" 194:=λ _=>by kernel_rfl
theorem zdj:Gg "make_tale" 201:=λ _=>by kernel_rfl
theorem z9u:Gg "make_things" 206:=λ _=>by kernel_rfl
theorem zf3:Gg "is_thing" 213:=λ _=>by kernel_rfl
theorem za0:Gg "make_events" 218:=λ _=>by kernel_rfl
theorem zet:Gg "is_begin" 225:=λ _=>by kernel_rfl
theorem zjb:Gg "is_end" 232:=λ _=>by kernel_rfl
theorem zff:Gg "is_event" 239:=λ _=>by kernel_rfl
theorem zgz:Gg "is_hand" 246:=λ _=>by kernel_rfl
theorem zcs:Gg "is_answer" 253:=λ _=>by kernel_rfl
theorem z8z:Gg "go_by_turns" 260:=λ _=>by kernel_rfl
theorem zba (P:Q0):Q3 (KX P) U2 "MOST_HANDS" = some (some (.int (6) 584)):=by kernel_rfl
theorem zaj (P:Q0):Q3 (KX P) U2 "MOST_DEEDS" = some (some (.int (24) 586)):=by kernel_rfl
theorem zbd:Gg "FIRST_HELD" 262:=λ _=>by kernel_rfl
theorem zbf:Gg "Errand" 279:=λ _=>by kernel_rfl
theorem zfw:Gg "Letter" 300:=λ _=>by kernel_rfl
theorem zj3:Gg "Copies" 373:=λ _=>by kernel_rfl
theorem zaa:Gg "check_plan" 382:=λ _=>by kernel_rfl
theorem zab:Gg "run_copies" 389:=λ _=>by kernel_rfl
theorem z7v:Gg "_law_cell_at" 396:=λ _=>by kernel_rfl
theorem zep:Gg "_law_mix" 403:=λ _=>by kernel_rfl
theorem zay:Gg "_law_parts" 410:=λ _=>by kernel_rfl
theorem zcq:Gg "_law_plan" 415:=λ _=>by kernel_rfl
theorem zad:Gg "_law_begun" 425:=λ _=>by kernel_rfl
theorem zd5:Gg "_law_free" 430:=λ _=>by kernel_rfl
theorem zcy:Gg "_law_sent" 437:=λ _=>by kernel_rfl
theorem za7:Gg "_law_ended" 444:=λ _=>by kernel_rfl
theorem z83:Gg "_law_gone_on" 451:=λ _=>by kernel_rfl
theorem zdd:Gg "_law_come" 458:=λ _=>by kernel_rfl
theorem zb5:Gg "_law_moved" 465:=λ _=>by kernel_rfl
theorem z8u:Gg "_law_choice" 472:=λ _=>by kernel_rfl
theorem z9i:Gg "_law_guided" 479:=λ _=>by kernel_rfl
theorem zfv:Gg "_law_raw" 486:=λ _=>by kernel_rfl
theorem z5j:Gg "_law_hand_right" 491:=λ _=>by kernel_rfl
theorem z3v:Gg "_law_answers_right" 498:=λ _=>by kernel_rfl
theorem z89:Gg "_law_run_out" 505:=λ _=>by kernel_rfl
theorem g_law:Gg "law" 512:=λ _=>by kernel_rfl
theorem zap (P:Q0):j9 (KX P) 82 [.type "ValueError",.type "Exception",.type "BaseException",.type "object"] "ValueError.__new__" = true:=by kernel_rfl
noncomputable def kl_FIRST_STATES:List (Str×V):=[("register",.int (0)),("counter",.int (0)),("queue",.ref 86),("set",.ref 87),("cell",.int (0))]
theorem z73 (P:Q0):KDict (KX P) P 85 kl_FIRST_STATES:=⟨⟨#[⟨(j0 P "register"),(.str "register" 285),(.int (0) 286)⟩,⟨(j0 P "counter"),(.str "counter" 287),(.int (0) 288)⟩,⟨(j0 P "queue"),(.str "queue" 289),(.ref 86)⟩,⟨(j0 P "set"),(.str "set" 290),(.ref 87)⟩,⟨(j0 P "cell"),(.str "cell" 291),(.int (0) 292)⟩],5,by kernel_rfl,(.cons ⟨⟨_,rfl⟩,rfl,⟨_,rfl⟩⟩ (.cons ⟨⟨_,rfl⟩,rfl,⟨_,rfl⟩⟩ (.cons ⟨⟨_,rfl⟩,rfl,rfl⟩ (.cons ⟨⟨_,rfl⟩,rfl,rfl⟩ (.cons ⟨⟨_,rfl⟩,rfl,⟨_,rfl⟩⟩ .nil)))))⟩,by decide⟩
noncomputable def kl_WORTHS_OF_VERBS:List (Str×V):=[("read",.int (0)),("take",.int (0)),("write",.int (1)),("add",.int (1)),("put",.int (1)),("cut",.int (1)),("has",.int (1)),("swap",.int (2))]
theorem z53 (P:Q0):KDict (KX P) P 88 kl_WORTHS_OF_VERBS:=⟨⟨#[⟨(j0 P "read"),(.str "read" 299),(.int (0) 300)⟩,⟨(j0 P "take"),(.str "take" 301),(.int (0) 302)⟩,⟨(j0 P "write"),(.str "write" 303),(.int (1) 304)⟩,⟨(j0 P "add"),(.str "add" 305),(.int (1) 306)⟩,⟨(j0 P "put"),(.str "put" 307),(.int (1) 308)⟩,⟨(j0 P "cut"),(.str "cut" 309),(.int (1) 310)⟩,⟨(j0 P "has"),(.str "has" 311),(.int (1) 312)⟩,⟨(j0 P "swap"),(.str "swap" 313),(.int (2) 314)⟩],8,by kernel_rfl,(.cons ⟨⟨_,rfl⟩,rfl,⟨_,rfl⟩⟩ (.cons ⟨⟨_,rfl⟩,rfl,⟨_,rfl⟩⟩ (.cons ⟨⟨_,rfl⟩,rfl,⟨_,rfl⟩⟩ (.cons ⟨⟨_,rfl⟩,rfl,⟨_,rfl⟩⟩ (.cons ⟨⟨_,rfl⟩,rfl,⟨_,rfl⟩⟩ (.cons ⟨⟨_,rfl⟩,rfl,⟨_,rfl⟩⟩ (.cons ⟨⟨_,rfl⟩,rfl,⟨_,rfl⟩⟩ (.cons ⟨⟨_,rfl⟩,rfl,⟨_,rfl⟩⟩ .nil))))))))⟩,by decide⟩
noncomputable def kl_DOERS:List ((Str×Str)×V):=[(("register","read"),.ref 95),(("register","write"),.ref 102),(("counter","read"),.ref 95),(("counter","add"),.ref 109),(("queue","put"),.ref 116),(("queue","take"),.ref 123),(("set","put"),.ref 130),(("set","cut"),.ref 135),(("set","has"),.ref 142),(("cell","read"),.ref 95),(("cell","write"),.ref 102),(("cell","swap"),.ref 149)]
theorem zjk (P:Q0):KDictT (KX P) P 150 kl_DOERS:=⟨⟨#[⟨(R1 (B0 [j0 P "register",j0 P "read"])),(.ref 151),(.ref 95)⟩,⟨(R1 (B0 [j0 P "register",j0 P "write"])),(.ref 152),(.ref 102)⟩,⟨(R1 (B0 [j0 P "counter",j0 P "read"])),(.ref 153),(.ref 95)⟩,⟨(R1 (B0 [j0 P "counter",j0 P "add"])),(.ref 154),(.ref 109)⟩,⟨(R1 (B0 [j0 P "queue",j0 P "put"])),(.ref 155),(.ref 116)⟩,⟨(R1 (B0 [j0 P "queue",j0 P "take"])),(.ref 156),(.ref 123)⟩,⟨(R1 (B0 [j0 P "set",j0 P "put"])),(.ref 157),(.ref 130)⟩,⟨(R1 (B0 [j0 P "set",j0 P "cut"])),(.ref 158),(.ref 135)⟩,⟨(R1 (B0 [j0 P "set",j0 P "has"])),(.ref 159),(.ref 142)⟩,⟨(R1 (B0 [j0 P "cell",j0 P "read"])),(.ref 160),(.ref 95)⟩,⟨(R1 (B0 [j0 P "cell",j0 P "write"])),(.ref 161),(.ref 102)⟩,⟨(R1 (B0 [j0 P "cell",j0 P "swap"])),(.ref 162),(.ref 149)⟩],12,by kernel_rfl,(.cons ⟨⟨151,394,395,0,rfl,by kernel_rfl⟩,rfl,rfl⟩ (.cons ⟨⟨152,396,397,0,rfl,by kernel_rfl⟩,rfl,rfl⟩ (.cons ⟨⟨153,398,399,0,rfl,by kernel_rfl⟩,rfl,rfl⟩ (.cons ⟨⟨154,400,401,0,rfl,by kernel_rfl⟩,rfl,rfl⟩ (.cons ⟨⟨155,402,403,0,rfl,by kernel_rfl⟩,rfl,rfl⟩ (.cons ⟨⟨156,404,405,0,rfl,by kernel_rfl⟩,rfl,rfl⟩ (.cons ⟨⟨157,406,407,0,rfl,by kernel_rfl⟩,rfl,rfl⟩ (.cons ⟨⟨158,408,409,0,rfl,by kernel_rfl⟩,rfl,rfl⟩ (.cons ⟨⟨159,410,411,0,rfl,by kernel_rfl⟩,rfl,rfl⟩ (.cons ⟨⟨160,412,413,0,rfl,by kernel_rfl⟩,rfl,rfl⟩ (.cons ⟨⟨161,414,415,0,rfl,by kernel_rfl⟩,rfl,rfl⟩ (.cons ⟨⟨162,416,417,0,rfl,by kernel_rfl⟩,rfl,rfl⟩ .nil))))))))))))⟩,by decide +kernel,by decide⟩
noncomputable abbrev y2e:Stmt:=top 4
noncomputable abbrev y1f:FuncData:=fnX "is_whole" "is_whole" (top 4) "talejudge.basics" 187 20
theorem z60 (P:Q0):Fun (KX P) "is_whole" "is_whole" y2e 21 y1f:=z0c
theorem zfu (P:Q0):Binds (KX P) y1f ["value"] []:=(z60 P).binds λ _ _ _ _ _ _=>us1 λ _=>rfl
theorem zcw:FnScope ["value"] ["value"] (z07 y2e):=.k
noncomputable abbrev y26:Stmt:=top 5
noncomputable abbrev y13:FuncData:=fnX "is_within" "is_within" (top 5) "talejudge.basics" 187 27
theorem z4p (P:Q0):Fun (KX P) "is_within" "is_within" y26 28 y13:=z0c
theorem zdh (P:Q0):Binds (KX P) y13 ["value","greatest"] []:=(z4p P).binds λ _ _ _ _ _ _=>us2 λ _ _=>rfl
theorem zb0:FnScope ["value","greatest"] ["value","greatest"] (z07 y26):=.k
noncomputable abbrev y2f:Stmt:=top 6
noncomputable abbrev y1g:FuncData:=fnX "is_worth" "is_worth" (top 6) "talejudge.basics" 187 34
theorem z6q (P:Q0):Fun (KX P) "is_worth" "is_worth" y2f 35 y1g:=z0c
theorem zfl (P:Q0):Binds (KX P) y1g ["value"] []:=(z6q P).binds λ _ _ _ _ _ _=>us1 λ _=>rfl
theorem zcl:FnScope ["value"] ["value"] (z07 y2f):=.k
noncomputable abbrev y2l:Stmt:=top 7
noncomputable abbrev y1t:FuncData:=fnX "is_name" "is_name" (top 7) "talejudge.basics" 187 39
theorem z81 (P:Q0):Fun (KX P) "is_name" "is_name" y2l 40 y1t:=z0c
theorem zgj (P:Q0):Binds (KX P) y1t ["value"] []:=(z81 P).binds λ _ _ _ _ _ _=>us1 λ _=>rfl
theorem zem:FnScope ["value"] ["value"] (z07 y2l):=.k
noncomputable abbrev y1m:Stmt:=top 8
noncomputable abbrev y0l:FuncData:=fnX "is_tuple_of" "is_tuple_of" (top 8) "talejudge.basics" 187 46
theorem z31 (P:Q0):Fun (KX P) "is_tuple_of" "is_tuple_of" y1m 47 y0l:=z0c
theorem z90 (P:Q0):Binds (KX P) y0l ["value","many"] []:=(z31 P).binds λ _ _ _ _ _ _=>us2 λ _ _=>rfl
theorem z8i:FnScope ["value","many"] ["value","many"] (z07 y1m):=.k
noncomputable abbrev y2m:Stmt:=top 26
noncomputable abbrev y1u:FuncData:=fnX "is_kind" "is_kind" (top 26) "talejudge.store" 283 168
theorem z88 (P:Q0):Fun (KX P) "is_kind" "is_kind" y2m 169 y1u:=z0c
theorem zgd (P:Q0):Binds (KX P) y1u ["kind"] []:=(z88 P).binds λ _ _ _ _ _ _=>us1 λ _=>rfl
theorem zf7:FnScope ["kind"] ["kind"] (z07 y2m):=.k
noncomputable abbrev y2n:Stmt:=top 27
noncomputable abbrev y1v:FuncData:=fnX "is_deed" "is_deed" (top 27) "talejudge.store" 283 173
theorem z7y (P:Q0):Fun (KX P) "is_deed" "is_deed" y2n 174 y1v:=z0c
theorem zgx (P:Q0):Binds (KX P) y1v ["kind","verb","worth"] []:=(z7y P).binds λ _ _ _ _ _ _=>us3 λ _ _ _=>rfl
theorem sc_is_deed:FnScope ["kind","verb","worth","many"] ["kind","verb","worth"] (z07 y2n):=.k
noncomputable abbrev y2o:Stmt:=top 29
noncomputable abbrev y1w:FuncData:=fnX "planned" "planned" (top 29) "talejudge.plans" 468 180
theorem z8k (P:Q0):Fun (KX P) "planned" "planned" y2o 181 y1w:=z0c
theorem zgq (P:Q0):Binds (KX P) y1w ["plan"] []:=(z8k P).binds λ _ _ _ _ _ _=>us1 λ _=>rfl
theorem sc_planned:FnScope ["plan","told","own"] ["plan"] (z07 y2o):=.k
noncomputable abbrev y2p:Stmt:=top 30
noncomputable abbrev y1x:FuncData:=fnX "is_plan" "is_plan" (top 30) "talejudge.plans" 468 185
theorem z7p (P:Q0):Fun (KX P) "is_plan" "is_plan" y2p 186 y1x:=z0c
theorem zgl (P:Q0):Binds (KX P) y1x ["kind","plan","most_hands","most_deeds"] []:=(z7p P).binds λ _ _ _ _ _ _=>us4 λ _ _ _ _=>rfl
theorem sc_is_plan:FnScope ["kind","plan","most_hands","most_deeds","told"] ["kind","plan","most_hands","most_deeds"] (z07 y2p):=.k
noncomputable abbrev y1z:Stmt:=top 31
noncomputable abbrev y0w:FuncData:=fnX "is_planned" "is_planned" (top 31) "talejudge.plans" 468 192
theorem z42 (P:Q0):Fun (KX P) "is_planned" "is_planned" y1z 193 y0w:=z0c
theorem zal (P:Q0):Binds (KX P) y0w ["kind","deed"] []:=(z42 P).binds λ _ _ _ _ _ _=>us2 λ _ _=>rfl
theorem z9l:FnScope ["kind","deed"] ["kind","deed"] (z07 y1z):=.k
noncomputable abbrev y27:Stmt:=top 38
noncomputable abbrev y14:FuncData:=fnX "make_tale" "make_tale" (top 38) "talejudge.tales" 493 200
theorem z4m (P:Q0):Fun (KX P) "make_tale" "make_tale" y27 201 y14:=z0c
theorem zdb (P:Q0):Binds (KX P) y14 ["things","events"] []:=(z4m P).binds λ _ _ _ _ _ _=>us2 λ _ _=>rfl
theorem sc_make_tale:FnScope ["things","events","own_things"] ["things","events"] (z07 y27):=.k
noncomputable abbrev y1n:Stmt:=top 39
noncomputable abbrev y0m:FuncData:=fnX "make_things" "make_things" (top 39) "talejudge.tales" 493 205
theorem z2w (P:Q0):Fun (KX P) "make_things" "make_things" y1n 206 y0m:=z0c
theorem z97 (P:Q0):Binds (KX P) y0m ["things"] []:=(z2w P).binds λ _ _ _ _ _ _=>us1 λ _=>rfl
theorem z8d:FnScope ["things"] ["things"] (z07 y1n):=.k
noncomputable abbrev y2g:Stmt:=top 40
noncomputable abbrev y1h:FuncData:=fnX "is_thing" "is_thing" (top 40) "talejudge.tales" 493 212
theorem z6j (P:Q0):Fun (KX P) "is_thing" "is_thing" y2g 213 y1h:=z0c
theorem ze8 (P:Q0):Binds (KX P) y1h ["thing"] []:=(z6j P).binds λ _ _ _ _ _ _=>us1 λ _=>rfl
theorem zdi:FnScope ["thing"] ["thing"] (z07 y2g):=.k
noncomputable abbrev y1o:Stmt:=top 41
noncomputable abbrev y0n:FuncData:=fnX "make_events" "make_events" (top 41) "talejudge.tales" 493 217
theorem z35 (P:Q0):Fun (KX P) "make_events" "make_events" y1o 218 y0n:=z0c
theorem z98 (P:Q0):Binds (KX P) y0n ["events","kinds"] []:=(z35 P).binds λ _ _ _ _ _ _=>us2 λ _ _=>rfl
theorem z87:FnScope ["events","kinds"] ["events","kinds"] (z07 y1o):=.k
noncomputable abbrev y2h:Stmt:=top 42
noncomputable abbrev y1i:FuncData:=fnX "is_begin" "is_begin" (top 42) "talejudge.tales" 493 224
theorem z68 (P:Q0):Fun (KX P) "is_begin" "is_begin" y2h 225 y1i:=z0c
theorem zdz (P:Q0):Binds (KX P) y1i ["event","kinds"] []:=(z68 P).binds λ _ _ _ _ _ _=>us2 λ _ _=>rfl
theorem zct:FnScope ["event","kinds"] ["event","kinds"] (z07 y2h):=.k
noncomputable abbrev y2r:Stmt:=top 43
noncomputable abbrev y28:FuncData:=fnX "is_end" "is_end" (top 43) "talejudge.tales" 493 231
theorem zav (P:Q0):Fun (KX P) "is_end" "is_end" y2r 232 y28:=z0c
theorem ziw (P:Q0):Binds (KX P) y28 ["event"] []:=(zav P).binds λ _ _ _ _ _ _=>us1 λ _=>rfl
theorem zhb:FnScope ["event"] ["event"] (z07 y2r):=.k
noncomputable abbrev y2i:Stmt:=top 44
noncomputable abbrev y1j:FuncData:=fnX "is_event" "is_event" (top 44) "talejudge.tales" 493 238
theorem z6t (P:Q0):Fun (KX P) "is_event" "is_event" y2i 239 y1j:=z0c
theorem zey (P:Q0):Binds (KX P) y1j ["event","word","many"] []:=(z6t P).binds λ _ _ _ _ _ _=>us3 λ _ _ _=>rfl
theorem zco:FnScope ["event","word","many"] ["event","word","many"] (z07 y2i):=.k
noncomputable abbrev y2q:Stmt:=top 45
noncomputable abbrev y1y:FuncData:=fnX "is_hand" "is_hand" (top 45) "talejudge.tales" 493 245
theorem z7q (P:Q0):Fun (KX P) "is_hand" "is_hand" y2q 246 y1y:=z0c
theorem zhd (P:Q0):Binds (KX P) y1y ["hand"] []:=(z7q P).binds λ _ _ _ _ _ _=>us1 λ _=>rfl
theorem zfo:FnScope ["hand"] ["hand"] (z07 y2q):=.k
noncomputable abbrev y29:Stmt:=top 46
noncomputable abbrev y15:FuncData:=fnX "is_answer" "is_answer" (top 46) "talejudge.tales" 493 252
theorem z50 (P:Q0):Fun (KX P) "is_answer" "is_answer" y29 253 y15:=z0c
theorem zcn (P:Q0):Binds (KX P) y15 ["answer"] []:=(z50 P).binds λ _ _ _ _ _ _=>us1 λ _=>rfl
theorem za9:FnScope ["answer"] ["answer"] (z07 y29):=.k
noncomputable abbrev y1p:Stmt:=top 47
noncomputable abbrev y0o:FuncData:=fnX "go_by_turns" "go_by_turns" (top 47) "talejudge.tales" 493 259
theorem z38 (P:Q0):Fun (KX P) "go_by_turns" "go_by_turns" y1p 260 y0o:=z0c
theorem z9v (P:Q0):Binds (KX P) y0o ["events"] []:=(z38 P).binds λ _ _ _ _ _ _=>us1 λ _=>rfl
theorem sc_go_by_turns:FnScope ["events","busy","event","begins"] ["events"] (z07 y1p):=.k
noncomputable abbrev y20:Stmt:=top 55
noncomputable abbrev y0x:FuncData:=fnX "check_plan" "check_plan" (top 55) "talejudge.copies" 582 381
theorem z3r (P:Q0):Fun (KX P) "check_plan" "check_plan" y20 382 y0x:=z0c
theorem zat (P:Q0):Binds (KX P) y0x ["many","plan"] []:=(z3r P).binds λ _ _ _ _ _ _=>us2 λ _ _=>rfl
theorem sc_check_plan:FnScope ["many","plan","worths"] ["many","plan"] (z07 y20):=.k
noncomputable abbrev y21:Stmt:=top 56
noncomputable abbrev y0y:FuncData:=fnX "run_copies" "run_copies" (top 56) "talejudge.copies" 582 388
theorem z46 (P:Q0):Fun (KX P) "run_copies" "run_copies" y21 389 y0y:=z0c
theorem zb7 (P:Q0):Binds (KX P) y0y ["many","plan","choices","back"] []:=(z46 P).binds λ _ _ _ _ _ _=>us4 λ _ _ _ _=>rfl
theorem sc_run_copies:FnScope ["many","plan","choices","back","copies","choice"] ["many","plan","choices","back"] (z07 y21):=.k
noncomputable abbrev y1a:Stmt:=top 58
noncomputable abbrev y0g:FuncData:=fY "_law_cell_at" "_law_cell_at" (top 58) 395
theorem z2e (P:Q0):Fun (KX P) "_law_cell_at" "_law_cell_at" y1a 396 y0g:=z0c
theorem z8c (P:Q0):Binds (KX P) y0g ["script","k"] []:=(z2e P).binds λ _ _ _ _ _ _=>us2 λ _ _=>rfl
theorem z77:FnScope ["script","k"] ["script","k"] (z07 y1a):=.k
noncomputable abbrev y2j:Stmt:=top 59
noncomputable abbrev y1k:FuncData:=fY "_law_mix" "_law_mix" (top 59) 402
theorem z69 (P:Q0):Fun (KX P) "_law_mix" "_law_mix" y2j 403 y1k:=z0c
theorem zex (P:Q0):Binds (KX P) y1k ["cell","k"] []:=(z69 P).binds λ _ _ _ _ _ _=>us2 λ _ _=>rfl
theorem sc__law_mix:FnScope ["cell","k","one"] ["cell","k"] (z07 y2j):=.k
noncomputable abbrev y22:Stmt:=top 60
noncomputable abbrev y0z:FuncData:=fY "_law_parts" "_law_parts" (top 60) 409
theorem z3l (P:Q0):Fun (KX P) "_law_parts" "_law_parts" y22 410 y0z:=z0c
theorem zaw (P:Q0):Binds (KX P) y0z ["cell","least"] []:=(z3l P).binds λ _ _ _ _ _ _=>us2 λ _ _=>rfl
theorem sc__law_parts:FnScope ["cell","least","xs","rest","k"] ["cell","least"] (z07 y22):=.k
noncomputable abbrev y2a:Stmt:=top 61
noncomputable abbrev y16:FuncData:=fY "_law_plan" "_law_plan" (top 61) 414
theorem z4u (P:Q0):Fun (KX P) "_law_plan" "_law_plan" y2a 415 y16:=z0c
theorem zde (P:Q0):Binds (KX P) y16 ["script","hands","most","writers"] []:=(z4u P).binds λ _ _ _ _ _ _=>us4 λ _ _ _ _=>rfl
theorem sc__law_plan:FnScope ["script","hands","most","writers","start","step","sign","plan","xs","k","hand","deed"] ["script","hands","most","writers"] (z07 y2a):=.k
noncomputable abbrev y23:Stmt:=top 63
noncomputable abbrev y10:FuncData:=fY "_law_begun" "_law_begun" (top 63) 424
theorem z41 (P:Q0):Fun (KX P) "_law_begun" "_law_begun" y23 425 y10:=z0c
theorem zbe (P:Q0):Binds (KX P) y10 ["many","plan"] []:=(z41 P).binds λ _ _ _ _ _ _=>us2 λ _ _=>rfl
theorem sc__law_begun:FnScope ["many","plan","state"] ["many","plan"] (z07 y23):=.k
noncomputable abbrev y2b:Stmt:=top 64
noncomputable abbrev y17:FuncData:=fY "_law_free" "_law_free" (top 64) 429
theorem z4x (P:Q0):Fun (KX P) "_law_free" "_law_free" y2b 430 y17:=z0c
theorem zcr (P:Q0):Binds (KX P) y17 ["state","plan"] []:=(z4x P).binds λ _ _ _ _ _ _=>us2 λ _ _=>rfl
theorem zau:FnScope ["state","plan"] ["state","plan"] (z07 y2b):=.k
noncomputable abbrev y2c:Stmt:=top 65
noncomputable abbrev y18:FuncData:=fY "_law_sent" "_law_sent" (top 65) 436
theorem z4w (P:Q0):Fun (KX P) "_law_sent" "_law_sent" y2c 437 y18:=z0c
theorem zcx (P:Q0):Binds (KX P) y18 ["state","hand","stamp","worth"] []:=(z4w P).binds λ _ _ _ _ _ _=>us4 λ _ _ _ _=>rfl
theorem sc__law_sent:FnScope ["state","hand","stamp","worth","copy"] ["state","hand","stamp","worth"] (z07 y2c):=.k
noncomputable abbrev y24:Stmt:=top 66
noncomputable abbrev y11:FuncData:=fY "_law_ended" "_law_ended" (top 66) 443
theorem z3x (P:Q0):Fun (KX P) "_law_ended" "_law_ended" y24 444 y11:=z0c
theorem zb9 (P:Q0):Binds (KX P) y11 ["state","hand","answer"] []:=(z3x P).binds λ _ _ _ _ _ _=>us3 λ _ _ _=>rfl
theorem z94:FnScope ["state","hand","answer"] ["state","hand","answer"] (z07 y24):=.k
noncomputable abbrev y1b:Stmt:=top 67
noncomputable abbrev y0h:FuncData:=fY "_law_gone_on" "_law_gone_on" (top 67) 450
theorem z2h (P:Q0):Fun (KX P) "_law_gone_on" "_law_gone_on" y1b 451 y0h:=z0c
theorem z8l (P:Q0):Binds (KX P) y0h ["state","hand","back"] []:=(z2h P).binds λ _ _ _ _ _ _=>us3 λ _ _ _=>rfl
theorem sc__law_gone_on:FnScope ["state","hand","back","deed","stamp","worth"] ["state","hand","back"] (z07 y1b):=.k
noncomputable abbrev y2d:Stmt:=top 68
noncomputable abbrev y19:FuncData:=fY "_law_come" "_law_come" (top 68) 457
theorem z4v (P:Q0):Fun (KX P) "_law_come" "_law_come" y2d 458 y19:=z0c
theorem zd8 (P:Q0):Binds (KX P) y19 ["state","letter","back"] []:=(z4v P).binds λ _ _ _ _ _ _=>us3 λ _ _ _=>rfl
theorem sc__law_come:FnScope ["state","letter","back","copy","hand","turn","side","stamp","worth","deed"] ["state","letter","back"] (z07 y2d):=.k
noncomputable abbrev y25:Stmt:=top 69
noncomputable abbrev y12:FuncData:=fY "_law_moved" "_law_moved" (top 69) 464
theorem z40 (P:Q0):Fun (KX P) "_law_moved" "_law_moved" y25 465 y12:=z0c
theorem zaz (P:Q0):Binds (KX P) y12 ["state","plan","number","back"] []:=(z40 P).binds λ _ _ _ _ _ _=>us4 λ _ _ _ _=>rfl
theorem sc__law_moved:FnScope ["state","plan","number","back","free","hand","verb","worth","at","letter"] ["state","plan","number","back"] (z07 y25):=.k
noncomputable abbrev y1q:Stmt:=top 70
noncomputable abbrev y0p:FuncData:=fY "_law_choice" "_law_choice" (top 70) 471
theorem z34 (P:Q0):Fun (KX P) "_law_choice" "_law_choice" y1q 472 y0p:=z0c
theorem z9k (P:Q0):Binds (KX P) y0p ["state","plan","x","sure"] []:=(z34 P).binds λ _ _ _ _ _ _=>us4 λ _ _ _ _=>rfl
theorem sc__law_choice:FnScope ["state","plan","x","sure","come","every","number"] ["state","plan","x","sure"] (z07 y1q):=.k
noncomputable abbrev y1r:Stmt:=top 71
noncomputable abbrev y0q:FuncData:=fY "_law_guided" "_law_guided" (top 71) 478
theorem z3a (P:Q0):Fun (KX P) "_law_guided" "_law_guided" y1r 479 y0q:=z0c
theorem z9h (P:Q0):Binds (KX P) y0q ["script","many","plan","back","sure"] []:=(z3a P).binds λ _ _ _ _ _ _=>us5 λ _ _ _ _ _=>rfl
theorem sc__law_guided:FnScope ["script","many","plan","back","sure","state","choices","cell","k","choice","every"] ["script","many","plan","back","sure"] (z07 y1r):=.k
noncomputable abbrev y2k:Stmt:=top 72
noncomputable abbrev y1l:FuncData:=fY "_law_raw" "_law_raw" (top 72) 485
theorem z6i (P:Q0):Fun (KX P) "_law_raw" "_law_raw" y2k 486 y1l:=z0c
theorem zea (P:Q0):Binds (KX P) y1l ["script"] []:=(z6i P).binds λ _ _ _ _ _ _=>us1 λ _=>rfl
theorem sc__law_raw:FnScope ["script","choices","cell","k"] ["script"] (z07 y2k):=.k
noncomputable abbrev y0r:Stmt:=top 73
noncomputable abbrev y0d:FuncData:=fY "_law_hand_right" "_law_hand_right" (top 73) 490
theorem z1k (P:Q0):Fun (KX P) "_law_hand_right" "_law_hand_right" y0r 491 y0d:=z0c
theorem z5k (P:Q0):Binds (KX P) y0d ["events","row","hand"] []:=(z1k P).binds λ _ _ _ _ _ _=>us3 λ _ _ _=>rfl
theorem sc__law_hand_right:FnScope ["events","row","hand","own","k"] ["events","row","hand"] (z07 y0r):=.k
noncomputable abbrev y0f:Stmt:=top 74
noncomputable abbrev y08:FuncData:=fY "_law_answers_right" "_law_answers_right" (top 74) 497
theorem z12 (P:Q0):Fun (KX P) "_law_answers_right" "_law_answers_right" y0f 498 y08:=z0c
theorem z3p (P:Q0):Binds (KX P) y08 ["events"] []:=(z12 P).binds λ _ _ _ _ _ _=>us1 λ _=>rfl
theorem sc__law_answers_right:FnScope ["events","begun","event"] ["events"] (z07 y0f):=.k
noncomputable abbrev y1c:Stmt:=top 75
noncomputable abbrev y0i:FuncData:=fY "_law_run_out" "_law_run_out" (top 75) 504
theorem z2d (P:Q0):Fun (KX P) "_law_run_out" "_law_run_out" y1c 505 y0i:=z0c
theorem z8q (P:Q0):Binds (KX P) y0i ["script","many","plan","back"] []:=(z2d P).binds λ _ _ _ _ _ _=>us4 λ _ _ _ _=>rfl
theorem sc__law_run_out:FnScope ["script","many","plan","back","state","choices","every","tale","choice"] ["script","many","plan","back"] (z07 y1c):=.k
noncomputable abbrev y2s:Stmt:=top 76
noncomputable abbrev fd_law:FuncData:=fY "law" "law" (top 76) 511
theorem F_law (P:Q0):Fun (KX P) "law" "law" y2s 512 fd_law:=z0c
theorem sc_law:FnScope ["script","way","hands","plan","many","back","choices","things","events","hand","k","some","begun"] ["script"] (z07 y2s):=.k
noncomputable abbrev y0s:Stmt:=subS (top 52) 0
noncomputable abbrev y02:FuncData:=fnX "__init__" "Errand.__init__" (subS (top 52) 0) "talejudge.copies" 582 275
theorem z2l (P:Q0):Fun (KX P) "__init__" "Errand.__init__" y0s 276 y02:=z0c
theorem z1j (P:Q0):Binds (KX P) y02 ["self","hand","deed","kept"] []:=(z2l P).binds λ _ _ _ _ _ _=>us4 λ _ _ _ _=>rfl
theorem z4z:FnScope ["self","hand","deed","kept"] ["self","hand","deed","kept"] (z07 y0s):=.k
theorem z8f (P:Q0):Mk (KX P) 279 276:=⟨by kernel_rfl,by kernel_rfl,by kernel_rfl,by kernel_rfl⟩
theorem z0g (P:Q0):Cls (KX P) 279:=⟨by kernel_rfl,by kernel_rfl,by kernel_rfl,by kernel_rfl⟩
theorem z0z (P:Q0):NoAttr (KX P) 279 "hand":=by unfold NoAttr;kernel_rfl
theorem z0w (P:Q0):NoAttr (KX P) 279 "deed":=by unfold NoAttr;kernel_rfl
theorem z0y (P:Q0):NoAttr (KX P) 279 "kept":=by unfold NoAttr;kernel_rfl
theorem z1h (P:Q0):NoAttr (KX P) 279 "heard":=by unfold NoAttr;kernel_rfl
noncomputable abbrev y0t:Stmt:=subS (top 53) 0
noncomputable abbrev y03:FuncData:=fnX "__init__" "Letter.__init__" (subS (top 53) 0) "talejudge.copies" 582 296
theorem z2n (P:Q0):Fun (KX P) "__init__" "Letter.__init__" y0t 297 y03:=z0c
theorem z2q (P:Q0):Binds (KX P) y03 ["self","errand","number","held"] []:=(z2n P).binds λ _ _ _ _ _ _=>us4 λ _ _ _ _=>rfl
theorem z4t:FnScope ["self","errand","number","held"] ["self","errand","number","held"] (z07 y0t):=.k
theorem zc9 (P:Q0):Mk (KX P) 300 297:=⟨by kernel_rfl,by kernel_rfl,by kernel_rfl,by kernel_rfl⟩
theorem z20 (P:Q0):Cls (KX P) 300:=⟨by kernel_rfl,by kernel_rfl,by kernel_rfl,by kernel_rfl⟩
theorem z1s (P:Q0):NoAttr (KX P) 300 "errand":=by unfold NoAttr;kernel_rfl
theorem z39 (P:Q0):NoAttr (KX P) 300 "number":=by unfold NoAttr;kernel_rfl
theorem z2j (P:Q0):NoAttr (KX P) 300 "held":=by unfold NoAttr;kernel_rfl
noncomputable abbrev y0u:Stmt:=subS (top 54) 0
noncomputable abbrev y07:FuncData:=fnX "__init__" "Copies.__init__" (subS (top 54) 0) "talejudge.copies" 582 315
theorem z2r (P:Q0):Fun (KX P) "__init__" "Copies.__init__" y0u 316 y07:=z0c
theorem z5h (P:Q0):Binds (KX P) y07 ["self","many","plan","back"] []:=(z2r P).binds λ _ _ _ _ _ _=>us4 λ _ _ _ _=>rfl
theorem z4o:FnScope ["self","many","plan","back"] ["self","many","plan","back"] (z07 y0u):=.k
theorem zgi (P:Q0):Mk (KX P) 373 316:=⟨by kernel_rfl,by kernel_rfl,by kernel_rfl,by kernel_rfl⟩
theorem z0a (P:Q0):Cls (KX P) 373:=⟨by kernel_rfl,by kernel_rfl,by kernel_rfl,by kernel_rfl⟩
theorem z0u (P:Q0):NoAttr (KX P) 373 "stock":=by unfold NoAttr;kernel_rfl
theorem z4b (P:Q0):NoAttr (KX P) 373 "back":=by unfold NoAttr;kernel_rfl
theorem z2f (P:Q0):NoAttr (KX P) 373 "left":=by unfold NoAttr;kernel_rfl
theorem z1p (P:Q0):NoAttr (KX P) 373 "idle":=by unfold NoAttr;kernel_rfl
theorem z0t (P:Q0):NoAttr (KX P) 373 "letters":=by unfold NoAttr;kernel_rfl
theorem z13 (P:Q0):NoAttr (KX P) 373 "events":=by unfold NoAttr;kernel_rfl
noncomputable abbrev y1d:Stmt:=subS (top 54) 1
noncomputable abbrev y0b:FuncData:=fnX "go_on" "Copies.go_on" (subS (top 54) 1) "talejudge.copies" 582 320
theorem z4c (P:Q0):Fun (KX P) "go_on" "Copies.go_on" y1d 321 y0b:=z0c
theorem z8g (P:Q0):Binds (KX P) y0b ["self","choice"] []:=(z4c P).binds λ _ _ _ _ _ _=>us2 λ _ _=>rfl
theorem sc_Copies_go_on:FnScope ["self","choice","ready","many","chosen","letter"] ["self","choice"] (z07 y1d):=.k
theorem z72 (P:Q0):Meth (KX P) 373 "go_on" 321:=⟨by kernel_rfl,by kernel_rfl,by kernel_rfl⟩
noncomputable abbrev y0j:Stmt:=subS (top 54) 2
noncomputable abbrev y05:FuncData:=fnX "begin_deed" "Copies.begin_deed" (subS (top 54) 2) "talejudge.copies" 582 327
theorem z1y (P:Q0):Fun (KX P) "begin_deed" "Copies.begin_deed" y0j 328 y05:=z0c
theorem z4j (P:Q0):Binds (KX P) y05 ["self","hand"] []:=(z1y P).binds λ _ _ _ _ _ _=>us2 λ _ _=>rfl
theorem sc_Copies_begin_deed:FnScope ["self","hand","deed"] ["self","hand"] (z07 y0j):=.k
theorem z3o (P:Q0):Meth (KX P) 373 "begin_deed" 328:=⟨by kernel_rfl,by kernel_rfl,by kernel_rfl⟩
noncomputable abbrev y1s:Stmt:=subS (top 54) 3
noncomputable abbrev y09:FuncData:=fnX "send" "Copies.send" (subS (top 54) 3) "talejudge.copies" 582 334
theorem z5d (P:Q0):Fun (KX P) "send" "Copies.send" y1s 335 y09:=z0c
theorem z36 (P:Q0):Binds (KX P) y09 ["self","errand"] []:=(z5d P).binds λ _ _ _ _ _ _=>us2 λ _ _=>rfl
theorem sc_Copies_send:FnScope ["self","errand","number"] ["self","errand"] (z07 y1s):=.k
theorem z2b (P:Q0):Meth (KX P) 373 "send" 335:=⟨by kernel_rfl,by kernel_rfl,by kernel_rfl⟩
noncomputable abbrev y1e:Stmt:=subS (top 54) 4
noncomputable abbrev y0c:FuncData:=fnX "bring" "Copies.bring" (subS (top 54) 4) "talejudge.copies" 582 341
theorem z4d (P:Q0):Fun (KX P) "bring" "Copies.bring" y1e 342 y0c:=z0c
theorem z7r (P:Q0):Binds (KX P) y0c ["self","letter"] []:=(z4d P).binds λ _ _ _ _ _ _=>us2 λ _ _=>rfl
theorem z7a:FnScope ["self","letter"] ["self","letter"] (z07 y1e):=.k
theorem z6x (P:Q0):Meth (KX P) 373 "bring" 342:=⟨by kernel_rfl,by kernel_rfl,by kernel_rfl⟩
noncomputable abbrev y0e:Stmt:=subS (top 54) 5
noncomputable abbrev y01:FuncData:=fnX "bring_to_copy" "Copies.bring_to_copy" (subS (top 54) 5) "talejudge.copies" 582 348
theorem z1i (P:Q0):Fun (KX P) "bring_to_copy" "Copies.bring_to_copy" y0e 349 y01:=z0c
theorem z32 (P:Q0):Binds (KX P) y01 ["self","errand","number"] []:=(z1i P).binds λ _ _ _ _ _ _=>us3 λ _ _ _=>rfl
theorem z2t:FnScope ["self","errand","number"] ["self","errand","number"] (z07 y0e):=.k
theorem z2u (P:Q0):Meth (KX P) 373 "bring_to_copy" 349:=⟨by kernel_rfl,by kernel_rfl,by kernel_rfl⟩
noncomputable abbrev y0k:Stmt:=subS (top 54) 6
noncomputable abbrev y06:FuncData:=fnX "bring_back" "Copies.bring_back" (subS (top 54) 6) "talejudge.copies" 582 355
theorem z1x (P:Q0):Fun (KX P) "bring_back" "Copies.bring_back" y0k 356 y06:=z0c
theorem z47 (P:Q0):Binds (KX P) y06 ["self","errand","held"] []:=(z1x P).binds λ _ _ _ _ _ _=>us3 λ _ _ _=>rfl
theorem z3w:FnScope ["self","errand","held"] ["self","errand","held"] (z07 y0k):=.k
theorem z45 (P:Q0):Meth (KX P) 373 "bring_back" 356:=⟨by kernel_rfl,by kernel_rfl,by kernel_rfl⟩
noncomputable abbrev y0a:Stmt:=subS (top 54) 7
noncomputable abbrev y00:FuncData:=fnX "go_on_from_asking" "Copies.go_on_from_asking" (subS (top 54) 7) "talejudge.copies" 582 362
theorem z11 (P:Q0):Fun (KX P) "go_on_from_asking" "Copies.go_on_from_asking" y0a 363 y00:=z0c
theorem z21 (P:Q0):Binds (KX P) y00 ["self","errand"] []:=(z11 P).binds λ _ _ _ _ _ _=>us2 λ _ _=>rfl
theorem sc_Copies_go_on_from_asking:FnScope ["self","errand","greatest"] ["self","errand"] (z07 y0a):=.k
theorem z1w (P:Q0):Meth (KX P) 373 "go_on_from_asking" 363:=⟨by kernel_rfl,by kernel_rfl,by kernel_rfl⟩
noncomputable abbrev y0v:Stmt:=subS (top 54) 8
noncomputable abbrev y04:FuncData:=fnX "end_deed" "Copies.end_deed" (subS (top 54) 8) "talejudge.copies" 582 369
theorem z2s (P:Q0):Fun (KX P) "end_deed" "Copies.end_deed" y0v 370 y04:=z0c
theorem z2o (P:Q0):Binds (KX P) y04 ["self","errand","worth"] []:=(z2s P).binds λ _ _ _ _ _ _=>us3 λ _ _ _=>rfl
theorem z52:FnScope ["self","errand","worth"] ["self","errand","worth"] (z07 y0v):=.k
theorem z23 (P:Q0):Meth (KX P) 373 "end_deed" 370:=⟨by kernel_rfl,by kernel_rfl,by kernel_rfl⟩
section
variable {P:Program} {w:Z0} {mg:Str->Option Value} {base:Heap}
def z3b:Sp:=λ vs H Q _=>∃x T,vs=[x]/\TagOf H x T/\Q (.bl (decide (T = "int"))) H
theorem zd0 (T:TX (kx w) mg):Fo P w mg base CX0 1 21 y1f ["value"] z3b:=by
 refine (z60 w.params).ok zcw (λ b H Q E h=>?_) (λ d A c s H b Q E e h=>?_)
 ·obtain ⟨x,t,rfl,_⟩:=h;rfl
 ·obtain ⟨x,t,rfl,a,q⟩:=h;refine ⟨_,(z05 (ps_ret (pe_and (z06 z0n rfl (T.no (z0l _)) R3 (z01 (pv 0) (z01 (z2p (v:=.ty "int") rfl (T.no (n_int _)) boot_int rfl) pa_nil))) (pe_one (pe_not (z06 z0n rfl (T.no (z0l _)) R3 (z01 (pv 0) (z01 (z2p (v:=.ty "bool") rfl (T.no (n_bool _)) boot_bool rfl) pa_nil)))))))),?_⟩;refine ⟨_,rfl,_,_,_,rfl,a,by decide,_,rfl,?_⟩;by_cases h1:instB t "int" = true
  ·rw [if_pos h1];refine ⟨_,rfl,_,_,_,rfl,a,by decide,_,rfl,?_⟩;rw [z6p a (by decide)];have:(!decide (t = "bool"))=decide (t = "int"):=by rcases a.one with rfl|rfl|rfl|rfl|rfl|rfl|rfl<;>revert h1<;>decide
   rw [this];exact q
  ·rw [if_neg h1];have:decide (t = "int")=false:=by rcases a.one with rfl|rfl|rfl|rfl|rfl|rfl|rfl<;>revert h1<;>decide
   rw [this] at q;exact q
def z3m:Sp:=λ vs H Q _=>∃x T g,vs=[x,.int g]/\TagOf H x T/\Q (.bl (z0h x g)) H
theorem zb3 (T:TX (kx w) mg) (c0:Ca P w mg base "is_whole" ["value"] 1 z3b):Fo P w mg base CX0 2 28 y13 ["value","greatest"] z3m:=by
 refine (z4p w.params).ok zb0 (λ c H Q E h=>?_) (λ e A d s H c Q E b h=>?_)
 ·obtain ⟨x,t,g,rfl,_⟩:=h;rfl
 ·obtain ⟨x,t,g,rfl,a,q⟩:=h;refine ⟨_,(z05 (ps_ret (pe_and (pe_cal c0 (b.mono (by decide)) rfl (z01 (pv 0) pa_nil)) (pe_one (zf9 op_le op_le (pe_un un_neg (pv 1)) (pv 0) (pv 1)))))),?_⟩;refine ⟨_,rfl,x,t,rfl,a,_,rfl,?_⟩;by_cases h1:t = "int"
  ·subst h1;obtain ⟨i,rfl⟩:=a.int;refine iteT ?_;refine ⟨_,rfl,_,rfl,_,rfl,_,_,rfl,rfl,_,rfl,?_⟩;unfold z0h at q;dsimp only at q;by_cases h2:-g<=i
   ·rw [decide_eq_true h2] at q⊢;refine iteT ⟨_,rfl,_,_,rfl,rfl,?_⟩;rw [N5] at q;exact q
   ·rw [decide_eq_false h2] at q⊢;refine iteF ?_;rw [U7] at q;exact q
  ·rw [decide_eq_false h1];refine iteF ?_;rw [noInt a h1] at q;exact q
def z7j:Sp:=λ vs H Q _=>∃x T,vs=[x]/\TagOf H x T/\Q (.bl (z0h x 1000000000)) H
theorem zd3 (T:TX (kx w) mg) (c0:Ca P w mg base "is_within" ["value","greatest"] 2 z3m):Fo P w mg base CX0 3 35 y1g ["value"] z7j:=by
 refine (z6q w.params).ok zcl (λ c H Q E h=>?_) (λ e A d s H c Q E a h=>?_)
 ·obtain ⟨x,t,rfl,_⟩:=h;rfl
 ·obtain ⟨x,t,rfl,b,q⟩:=h;refine ⟨_,(z05 (ps_ret (pe_cal c0 (a.mono (by decide)) rfl (z01 (pv 0) (z01 (z1z (v:=.int (1000000000)) rfl (T.of (z5u _)) ⟨_,rfl⟩) pa_nil))))),?_⟩;exact ⟨_,rfl,x,t,1000000000,rfl,b,q⟩
def z14:Sp:=λ vs H Q _=>∃x T m,vs=[x,.int m]/\TagOf H x T/\Q (.bl (match tupOf H x with|some xs=>decide ((xs.length:Int)=m)|none=>false)) H
theorem z85 (T:TX (kx w) mg):Fo P w mg base CX0 1 47 y0l ["value","many"] z14:=by
 refine (z31 w.params).ok z8i (λ i H Q E h=>?_) (λ j A l s H i Q E k h=>?_)
 ·obtain ⟨x,t,g,rfl,_⟩:=h;rfl
 ·obtain ⟨x,t,g,rfl,c,q⟩:=h;refine ⟨_,(z05 (ps_ret (pe_and (z06 z0n rfl (T.no (z0l _)) R3 (z01 (pv 0) (z01 (z2p (v:=.ty "tuple") rfl (T.no (zdq _)) boot_tuple rfl) pa_nil))) (pe_one (z28 opEq (z06 z0i rfl (T.no (n_len _)) A2 (z01 (pv 0) pa_nil)) (pv 1) (nomark _)))))),?_⟩;refine ⟨_,rfl,_,_,_,rfl,c,by decide,_,rfl,?_⟩;rw [z6p c (by decide)];by_cases h1:t = "tuple"
  ·subst h1;obtain ⟨a,b,rfl,d⟩:=c.tuple;refine iteT ⟨_,rfl,.inl ⟨a,b,rfl,.inr (SqT.of d),_,rfl,rfl,?_⟩⟩;have e:tupOf H (.ref a)=some b:=by unfold tupOf;dsimp only;rw [d]
   rw [e] at q;have f:decide (V.int (b.length:Int)=V.int g)=decide ((b.length:Int)=g):=by simp
   rw [f];exact q
  ·rw [decide_eq_false h1];refine iteF ?_;rw [noTup c h1] at q;exact q
noncomputable def kindB (x:V):Bool:=match x with
 | .str z=>(kl_FIRST_STATES.lookup z).isSome
 | _=>false
def z6k:Sp:=λ vs H Q _=>∃x T,vs=[x]/\TagOf H x T/\Q (.bl (kindB x)) H
theorem zfb (T:TX (kx w) mg):Fo P w mg base CX0 1 169 y1u ["kind"] z6k:=by
 refine (z88 w.params).ok zf7 (λ b H Q E h=>?_) (λ d A c s H b Q E e h=>?_)
 ·obtain ⟨x,t,rfl,_⟩:=h;rfl
 ·obtain ⟨x,t,rfl,a,q⟩:=h;refine ⟨_,(z05 (ps_ret (pe_and (z06 z0n rfl (T.no (z0l _)) R3 (z01 (pv 0) (z01 (z2p (v:=.ty "str") rfl (T.no (n_str _)) j3b rfl) pa_nil))) (pe_one (z28 (zii (z73 _)) (pv 0) (z1z (v:=.ref 85) rfl (T.of (z7x _)) rfl) (by with_unfolding_all rfl)))))),?_⟩;refine ⟨_,rfl,_,_,_,rfl,a,by decide,_,rfl,?_⟩;rw [z6p a (by decide)];by_cases h1:t = "str"
  ·subst h1;obtain ⟨z,rfl⟩:=a.str;exact iteT ⟨_,rfl,z,rfl,rfl,q⟩
  ·rw [decide_eq_false h1];refine iteF ?_;cases x with
   | str z=>exact absurd a h1
   | _=>exact q
noncomputable def formOf (k v:Str):Int:=match kl_DOERS.lookup (k,v) with
 | none=>-1
 | some _=>(match kl_WORTHS_OF_VERBS.lookup v with|some (.int i)=>i|_=>-1)
noncomputable def deedB (H:Hp) (k v x:V):Bool:=match k,v with
 | .str a,.str b=>if formOf a b=0 then decide (x=.non) else if formOf a b=1 then z0h x 1000000000 else if formOf a b=2 then
   (match tupOf H x with|some xs=>decide (xs.length=2) && xs.all λ y=>z0h y 1000000000|none=>false) else false
 | _,_=>false
theorem z8s {a b:Str} {v:V} (h:kl_DOERS.lookup (a,b)=some v):(kl_FIRST_STATES.lookup a).isSome=true/\∃i,kl_WORTHS_OF_VERBS.lookup b=some (.int i)/\(i=0\/i=1\/i=2):=by
 have m:=z6n h;have all :∀p∈kl_DOERS,(kl_FIRST_STATES.lookup p.1.1).isSome=true/\(kl_WORTHS_OF_VERBS.lookup p.1.2=some (.int 0)\/kl_WORTHS_OF_VERBS.lookup p.1.2=some (.int 1)\/kl_WORTHS_OF_VERBS.lookup p.1.2=some (.int 2)):=by decide +kernel
 obtain ⟨d,c⟩:=all _ m;refine ⟨d,?_⟩;rcases c with c|c|c
 ·exact ⟨0,c,.inl rfl⟩
 ·exact ⟨1,c,.inr (.inl rfl)⟩
 ·exact ⟨2,c,.inr (.inr rfl)⟩
def z6r:Sp:=λ vs H Q _=>∃k v x Tk Tv Tx,vs=[k,v,x]/\TagOf H k Tk/\TagOf H v Tv/\TagOf H x Tx/\Flat H x/\∀H',Same H H'->Q (.bl (deedB H k v x)) H'
theorem zdm (T:TX (kx w) mg) (c0:Ca P w mg base "is_kind" ["kind"] 1 z6k) (c1:Ca P w mg base "is_worth" ["value"] 3 z7j) (c2:Ca P w mg base "is_tuple_of" ["value","many"] 1 z14):Fo P w mg base CX0 4 174 y1v ["kind","verb","worth"] z6r:=by
 refine (z7y w.params).ok sc_is_deed (λ vs H Q E h=>?_) (λ a1 A a2 s H vs Q E m h=>?_)
 ·obtain ⟨k,v,x,I,S,B,rfl,_⟩:=h;rfl
 ·obtain ⟨k,v,x,I,S,B,rfl,hk,o,t,hf,q⟩:=h;refine ⟨_,(z02 (ps_if (PW.pt (pw_or (pt_not (pt_val (pe_cal c0 (m.mono (by decide)) rfl (z01 (pv 0) pa_nil)) (λ _=>rfl))) (pw_or (pt_not (pt_val (z06 z0n rfl (T.no (z0l _)) R3 (z01 (pv 1) (z01 (z2p (v:=.ty "str") rfl (T.no (n_str _)) j3b rfl) pa_nil))) (λ _=>rfl))) (pw_or1 (z09 (zan (hu_of m) (zjk _)) (pe_tup (z01 (pv 0) (z01 (pv 1) pa_nil))) (z1z (v:=.ref 150) rfl (T.of (zkj _)) rfl) (by with_unfolding_all rfl))))))
   (z05 (ps_ret pe_bl))
   z0d)
   (z02 (ps_set (i:=3) sc_is_deed.nd rfl (O1 rfl) (pe_ix (ix_kd (z53 _)) (z1z (v:=.ref 88) rfl (T.of (z5l _)) rfl) (pv 1) (λ _ _=>rfl)))
   (z02 (ps_if (z09 opEq (pv 3) pe_int (nomark _))
   (z05 (ps_ret (z28 op_isN (pv 2) pe_non (nomark _))))
   z0d)
   (z02 (ps_if (z09 opEq (pv 3) pe_int (nomark _))
   (z05 (ps_ret (pe_cal c1 (m.mono (by decide)) rfl (z01 (pv 2) pa_nil))))
   z0d)
   (z05 (ps_ret (pe_and (pe_cal c2 (m.mono (by decide)) rfl (z01 (pv 2) (z01 (pv 3) pa_nil))) (pe_one (z06 (z3e rfl) rfl (T.no (n_all _)) j11 (z01 (pe_cg (xs:=["part"]) (g:=gName 0) (fr:=[]) (pi_tup (pv 2)) (λ _ _ _ _ _=>(pg_cn (N:=["part"]) 0)) (λ _ _ _ _ _=>pf_nil) (λ _ _ _ _ _=>(pe_cal c1 (m.mono (by decide)) rfl (z01 (pv 0) pa_nil)))) pa_nil)))))))))),?_⟩
  refine ⟨_,rfl,k,I,rfl,hk,_,rfl,?_⟩;have G:deedB H k v x=false->Q (.bl false) H:=λ e=>by have:=q H (Same.refl H);rw [e] at this;exact this
  by_cases j :∃a,k=.str a/\(kl_FIRST_STATES.lookup a).isSome=true
  ·obtain ⟨a,rfl,j⟩:=j;have X:kindB (.str a)=true:=j;rw [X];refine iteF ?_;refine ⟨_,rfl,_,_,_,rfl,o,by decide,_,rfl,?_⟩;rw [z6p o (by decide)];by_cases r:S = "str"
   ·subst r;obtain ⟨b,rfl⟩:=o.str;refine iteF ?_;refine ⟨_,rfl,_,rfl,?_⟩;refine ⟨w_2,λ p hp=>⟨p,a,b,rfl,z04,rfl,_,rfl,?_⟩⟩;have d:Same H (upd H p (.tup [.str a,.str b])):=Same.upd hp;cases h3:kl_DOERS.lookup (a,b) with
    | none=>
     refine iteT ?_;have:=q _ d;have e:deedB H (.str a) (.str b) x=false:=by unfold deedB formOf;dsimp only;rw [h3];rfl
     rw [e] at this;exact this
    | some z=>
     refine iteF ?_;obtain ⟨_,i,M,h5⟩:=z8s h3;have D:formOf a b=i:=by unfold formOf;rw [h3];dsimp only;rw [M]
     refine ⟨_,rfl,b,.int i,rfl,rfl,M,?_⟩;refine ⟨_,rfl,rfl,_,rfl,?_⟩;rcases h5 with rfl|rfl|rfl
     ·refine iteT ⟨_,rfl,rfl,?_⟩;have:=q _ d;have e:deedB H (.str a) (.str b) x=decide (x=.non):=by unfold deedB;dsimp only;rw [D];rfl
      rw [e] at this;exact this
     ·refine iteF ⟨_,rfl,rfl,_,rfl,?_⟩;refine iteT ⟨_,rfl,x,B,rfl,t.same d,?_⟩;have:=q _ d;have e:deedB H (.str a) (.str b) x=z0h x 1000000000:=by unfold deedB;dsimp only;rw [D];rfl
      rw [e] at this;exact this
     ·refine iteF ⟨_,rfl,rfl,_,rfl,?_⟩;refine iteF ⟨_,rfl,_,rfl,x,B,2,rfl,t.same d,_,rfl,?_⟩;rw [ze3 t d];have e:deedB H (.str a) (.str b) x=(match tupOf H x with|some xs=>decide (xs.length=2) && xs.all λ y=>z0h y 1000000000|none=>false):=by unfold deedB;dsimp only;rw [D];rfl
      rw [e] at q;cases ht:tupOf H x with
      | none=>rw [ht] at q;exact iteF (q _ d)
      | some xs=>
       rw [ht] at q;dsimp only at q⊢;by_cases n:xs.length=2
       ·have u:((xs.length:Nat):Int)=2:=by omega
        rw [if_pos (decide_eq_true u)];rw [decide_eq_true n,N5] at q;obtain ⟨c,rfl,hc⟩:=zft ht;have a0:xs.length<=sizeLine:=by rw [n];decide
        refine e_cb1 ?_;refine zc1 (K:=KX w.params) (a:=c) (xs:=xs) (H1:=upd H p (.tup [.str a,.str b])) (λ _=>true) (λ i y _=>y=.bl (z0h (xs[i]?.getD .non) 1000000000)) (λ _ _ _ _ _ z=>z) (λ R h=>⟨_,rfl,h⟩) (SqT.of (d _ _ hc)) a0 ?_ ?_
        ·intro i J F Y C L KT KF k1 k2;obtain ⟨Z,ty⟩:=(hf xs ht).2 F (B1 L);refine ⟨[some F],rfl,rfl,iteT ?_⟩;exact ⟨_,rfl,F,Z,rfl,(ty.same d).same C,k1 rfl _ _ (Same.refl _) (by rw [L];rfl)⟩
        ·intro l Y ys C n O;rw [List.filter_eq_self.mpr (λ _ _=>rfl)] at O;have W:ys=xs.map λ y=>V.bl (z0h y 1000000000):=by
          rw [z1q (f:=λ i=>V.bl (z0h (xs[i]?.getD .non) 1000000000)) O];apply b7
          ·simp
          ·intro i j r;have J:i < xs.length:=by simpa using j
           simp [A0 J]
         subst W;refine ⟨l,_,rfl,SqL.of z04,λ y hy=>?_,?_⟩
         ·obtain ⟨z,_,rfl⟩:=List.mem_map.mp hy;exact ⟨_,rfl⟩
         ·have U:((xs.map λ y=>V.bl (z0h y 1000000000)).all λ y=>decide (y=V.bl true))=xs.all λ y=>z0h y 1000000000:=by rw [K8];congr 1;funext y;simp
          rw [U];exact q _ ((d.trans C).trans (Same.upd n))
       ·have u:¬ ((xs.length:Nat):Int)=2:=by omega
        rw [if_neg (by rw [decide_eq_false u];exact E1)];rw [decide_eq_false n,U7] at q;exact q _ d
   ·rw [decide_eq_false r];refine iteT ?_;exact G (by unfold deedB;cases v with|str z=>exact absurd o r|_=>rfl)
  ·have e1:kindB k=false:=by
    cases k with
    | str z=>exact Bool.eq_false_iff.mpr λ e=>j ⟨z,rfl,e⟩
    | _=>rfl
   rw [e1];refine iteT ?_;refine G ?_;cases k with
   | str a=>
    cases v with
    | str b=>
     unfold deedB formOf;dsimp only;cases h3:kl_DOERS.lookup (a,b) with
     | none=>rfl
     | some z=>exact absurd ⟨a,rfl,(z8s h3).1⟩ j
    | _=>rfl
   | _=>rfl
inductive Ev
 | beg (h:Int) (n v x:V)
 | fin (h:Int) (a:V)
structure Rc where
 h:Int
 n:V
 v:V
 x:V
 a:V
 b:Nat
 e:Option Nat
noncomputable def endV:Option Nat->V
 | none=>.non
 | some i=>.int i
def RcAt (K:o0) (H:Hp) (r:Rc) (y:V):Prop:=∃p,y=.ref p/\SqT K H p [.int r.h,r.n,r.v,r.x,r.a,.int r.b,endV r.e]
theorem z5r {n j:Nat} (h:j < n):ixN n (j:Nat)=some j:=by unfold ixN;rw [if_pos (by omega),if_pos (by omega)];rfl
theorem Same.keep {H H':Hp} {l:Addr} {o:HO} (s:Same H H') (n:H l=none):Same H (upd H' l o):=λ a x e=>by rw [upd_ne (z0p e n)];exact s a x e
theorem z1g {α β:Type} {R:α->β->Prop} {x:α} {y:β} :∀{xs:List α} {ys:List β},All2 R xs ys->R x y->All2 R (xs++[x]) (ys++[y])
 | _,_,.nil,h=>.cons h .nil
 | _,_,.cons a r,h=>.cons a (z1g r h)
theorem zin {κ:Type} [DecidableEq κ] {kvs:List (κ×V)} {k:κ} {v:V}:(putK kvs k v).length<=kvs.length + 1:=by
 unfold putK;by_cases z:(kvs.any λ a=>decide (a.1=k))=true
 ·rw [if_pos z,I0];omega
 ·rw [if_neg z,G0];exact K0 _
theorem z0r {α β:Type} {R:α->β->Prop} :∀{xs:List α} {ys:List β} {i:Nat} {x:α},All2 R xs ys->xs[i]? = some x->∃y,ys[i]? = some y/\R x y
 | _,_,i,x,.nil,e=>by simp at e
 | _,_,0,x,.cons a _,e=>by rw [G4] at e;cases e;exact ⟨_,G4,a⟩
 | _,_,i + 1,x,.cons _ r,e=>by rw [E3] at e;obtain ⟨y,b,c⟩:=z0r r e;exact ⟨y,by rw [E3];exact b,c⟩
end
section
noncomputable def oStep (os:List Int):Ev->List Int
 | .beg h _ _ _=>os++[h]
 | .fin h _=>os.filter λ k=>decide (k≠h)
noncomputable def oOk (os:List Int):Ev->Prop
 | .beg h _ _ _=>h∉os
 | .fin h _=>h∈os
noncomputable def EWf:List Int->List Ev->Prop
 | _,[]=>True
 | os,e :: es=>oOk os e/\EWf (oStep os e) es
theorem EWf.snoc :∀{es:List Ev} {os:List Int} {e:Ev},EWf os es->oOk (es.foldl oStep os) e->EWf os (es++[e])
 | [],os,e,_,h=>⟨h,trivial⟩
 | x :: es,os,e,w,h=>⟨w.1,EWf.snoc w.2 h⟩
structure DInv (i:Nat) (rs:List Rc) (os:List Int):Prop where
 b :∀r∈rs,r.b < i
 e :∀r∈rs,∀e,r.e=some e->e < i
 p :∀(x y:Nat) (r q:Rc),x < y->rs[x]? = some r->rs[y]? = some q->r.b < q.b/\(r.h=q.h->∃e,r.e=some e/\e < q.b)
 o :∀r∈rs,r.h∉os->r.e.isSome=true
 m :∀h∈os,h∈rs.map Rc.h
theorem zdf {kvs:List (Key×V)} {k:Key}:(valV kvs k).isSome=true↔k∈kvs.map (·.1):=by
 induction kvs with
 | nil=>simp [valV]
 | cons p r ih=>
  obtain ⟨a,pv⟩:=p;by_cases y:a=k
  ·subst y;rw [z1c rfl];simp
  ·rw [z19 y,ih,Y1,Z3];exact ⟨λ z=>.inr z,λ z=>z.resolve_left λ x=>y x.symm⟩
theorem zeu {kvs:List (Key×V)} {k:Key} {v:V} (h:k∉kvs.map (·.1)):putK kvs k v=kvs++[(k,v)]:=by unfold putK;rw [if_neg];intro z;obtain ⟨p,a,e⟩:=List.any_eq_true.mp z;exact h (List.mem_map.mpr ⟨p,a,of_decide_eq_true e⟩)
theorem z22 {α β:Type} {R:α->β->Prop} :∀{xs:List α} {ys:List β},ys.length=xs.length->(∀(k:Nat) a b,xs[k]? = some a->ys[k]? = some b->R a b)->All2 R xs ys
 | [],[],_,_=>.nil
 | [],y :: ys,h,_=>by cases h
 | x :: xs,[],h,_=>by cases h
 | x :: xs,y :: ys,h,f=>.cons (f 0 x y rfl rfl) (z22 (by simpa using h) λ k a b d c=>f (k + 1) a b (by rw [E3];exact d) (by rw [E3];exact c))
end
section
variable {P:Program} {w:Z0} {mg:Str->Option Value} {base:Heap}
structure NameOk (z:Str):Prop where
 l1:1<=z.length
 l8:z.length<=8
 s :∀c∈z.cps.toList,97<=c/\c<=122
theorem NameOk.ascii {z:Str} (h:NameOk z):z.cps.all (· < 128)=true:=by rw [Array.all_eq_true_iff_forall_mem];intro c a;have:=h.s c (Array.mem_toList_iff.mpr a);exact decide_eq_true (by omega)
theorem zhq :∀k:Fin 26,(R7 ("abcdefghijklmnopqrstuvwxyz" : Str) ⟨#[97 + k.val]⟩ 0 ("abcdefghijklmnopqrstuvwxyz" : Str).length 1).isEmpty=false:=by decide +kernel
theorem zh5 {c:Nat} (h:97<=c/\c<=122):(R7 ("abcdefghijklmnopqrstuvwxyz" : Str) ⟨#[c]⟩ 0 ("abcdefghijklmnopqrstuvwxyz" : Str).length 1).isEmpty=false:=by have:=zhq ⟨c - 97,by omega⟩;rw [show 97 + (c - 97)=c by omega] at this;exact this
def z64:Sp:=λ vs H Q _=>∃z:Str,vs=[.str z]/\NameOk z/\∀H',Same H H'->Q (.bl true) H'
theorem zfj (T:TX (kx w) mg):Fo P w mg base CX0 1 40 y1t ["value"] z64:=by
 refine (z81 w.params).ok zem (λ u H Q E h=>?_) (λ B A I s H u Q E C h=>?_)
 ·obtain ⟨z,rfl,_⟩:=h;rfl
 ·obtain ⟨z,rfl,b,q⟩:=h;refine ⟨_,(z02 (ps_if (PW.pt (pw_or (pt_not (pt_val (z06 z0n rfl (T.no (z0l _)) R3 (z01 (pv 0) (z01 (z2p (v:=.ty "str") rfl (T.no (n_str _)) j3b rfl) pa_nil))) (λ _=>rfl))) (pw_or1 (pt_not (zj6 op_le op_le pe_int (z06 z0i rfl (T.no (n_len _)) A2 (z01 (pv 0) pa_nil)) (z1z (v:=.int (8)) rfl (T.of (z82 _)) ⟨_,rfl⟩))))))
   (z05 (ps_ret pe_bl))
   z0d)
   (z05 (ps_ret (z06 (z3e rfl) rfl (T.no (n_all _)) j11 (z01 (pe_cg (xs:=["sign"]) (g:=gName 0) (fr:=[]) (pi_str (pv 0)) (λ _ _ _ _ _=>(pg_cn (N:=["sign"]) 0)) (λ _ _ _ _ _=>pf_nil) (λ _ _ _ _ _=>(z28 zgv (pv 0) (z1z (v:=.str "abcdefghijklmnopqrstuvwxyz") rfl (T.of (z6w _)) ⟨_,rfl⟩) (by with_unfolding_all rfl)))) pa_nil))))),?_⟩
  have J:=b.l1;have e:=b.l8;refine sq_if (t_or ?_);refine ⟨_,rfl,_,_,"str",rfl,rfl,by decide,_,rfl,iteN (by decide) ?_⟩;refine ⟨_,rfl,.inr ⟨z,rfl,N0 e (by decide),_,_,rfl,rfl,_,rfl,?_⟩⟩;refine iteP (decide_eq_true (by omega)) ?_;refine ⟨_,_,rfl,rfl,_,rfl,iteN (by rw [decide_eq_true (show (z.length:Int)<=8 by omega)];decide) ?_⟩;refine t_nx (sq_ret (e_cb1 ?_));refine tcompS (x:=z) (H1:=H) (λ _=>true) (λ _ y _=>y=.bl true) (λ _ _ _ _ _ z=>z) (λ R h=>⟨_,rfl,h⟩) b.ascii (N0 (m:=8) e (by decide)) ?_ ?_
  ·intro i D v H1 f p KT F o G;obtain ⟨c,r,rfl⟩:=p;have j:c∈z.cps.toList:=Array.mem_toList_iff.mpr (j35 r);refine ⟨[some (.str ⟨#[c]⟩)],rfl,rfl,iteT ?_⟩;refine ⟨_,rfl,_,_,rfl,rfl,?_⟩;rw [zh5 (b.s c j)];exact o rfl _ _ (Same.refl _) rfl
  intro l H1 bs f t n;have d :∀y∈bs,y=.bl true:=λ y a=>by obtain ⟨m,k⟩:=List.mem_iff_getElem?.mp a;obtain ⟨_,_,z⟩:=z0k n k;exact z
  refine ⟨l,bs,rfl,SqL.of z04,λ y a=>⟨true,d y a⟩,?_⟩;rw [List.all_eq_true.mpr (λ y a=>decide_eq_true (d y a))];exact q _ (f.trans (Same.upd t))
structure ThingOk (t:Str×Str):Prop where
 n:NameOk t.1
 k:kindB (.str t.2)=true
def ThV (H:Hp) (t:Str×Str) (y:V):Prop:=∃p,y=.ref p/\H p=some (.tup [.str t.1,.str t.2])
theorem ThV.same {H H':Hp} {t:Str×Str} {y:V} (s:Same H H') (h:ThV H t y):ThV H' t y:=h.elim λ p z=>⟨p,z.1,s _ _ z.2⟩
theorem z4n {H:Hp} {p:Addr} {xs:List V} (e:H p=some (.tup xs)):tupOf H (.ref p)=some xs:=by unfold tupOf;dsimp only;rw [e]
def z7m:Sp:=λ vs H Q _=>∃t y,vs=[y]/\ThV H t y/\ThingOk t/\∀H',Same H H'->Q (.bl true) H'
theorem zcv (T:TX (kx w) mg) (c0:Ca P w mg base "is_tuple_of" ["value","many"] 1 z14) (c1:Ca P w mg base "is_name" ["value"] 1 z64) (c2:Ca P w mg base "is_kind" ["kind"] 1 z6k):Fo P w mg base CX0 2 213 y1h ["thing"] z7m:=by
 refine (z6j w.params).ok zdi (λ d H Q E h=>?_) (λ f A e s H d Q E b h=>?_)
 ·obtain ⟨t,y,rfl,_⟩:=h;rfl
 ·obtain ⟨t,y,rfl,⟨p,rfl,a⟩,ok,q⟩:=h;refine ⟨_,(z05 (ps_ret (pe_and (pe_cal c0 (b.mono (by decide)) rfl (z01 (pv 0) (z01 pe_int pa_nil))) (pe_and (pe_cal c1 (b.mono (by decide)) rfl (z01 (pe_ix ix_seq (pv 0) pe_int (λ _ _=>rfl)) pa_nil)) (pe_one (pe_cal c2 (b.mono (by decide)) rfl (z01 (pe_ix ix_seq (pv 0) pe_int (λ _ _=>rfl)) pa_nil))))))),?_⟩;refine ⟨_,rfl,_,"tuple",2,rfl,.inr (.inl ⟨⟨_,a⟩,rfl⟩),?_⟩;rw [z4n a];refine ⟨_,rfl,iteP (by simp) ?_⟩;refine ⟨_,rfl,.inr (.inl ⟨p,_,0,.str t.1,rfl,rfl,SqT.of a,z08 (j:=0) rfl,t.1,rfl,ok.n,λ g c=>⟨true,rfl,iteP rfl ?_⟩⟩)⟩;refine ⟨_,rfl,.inr (.inl ⟨p,_,1,.str t.2,rfl,rfl,SqT.of (c _ _ a),z08 (j:=1) rfl,_,"str",rfl,rfl,?_⟩)⟩;rw [ok.k];exact q _ c
theorem zg0 {H:Hp} {ts:List (Str×Str)} {ys zs:List V}:All2 (ThV H) ts ys->(All2 (λ (i:Nat) z=>z=V.str ((ts[i]?.getD ("","")).1)) (W0 ys.length) zs)->zs=(ts.map (·.1)).map V.str:=λ e d=>by
 have c:ys.length=ts.length:=z03 e;rw [z1q d,c];apply b7
 ·simp
 ·intro i a b;have f:i < ts.length:=by simpa using a
  simp [A0 f]
theorem z9j :∀(us ns:List Str),us.Nodup->(∀u∈us,u∉ns)->(us.foldl addT ns).length=ns.length + us.length
 | [],ns,_,_=>rfl
 | u :: us,ns,nd,h=>by
  rw [K5] at nd;have e:addT ns u=ns++[u]:=by unfold addT;rw [if_neg (h u (.head _))]
  rw [U3,e,z9j us (ns++[u]) nd.2 λ v a z=>?_]
  ·simp only [G0,Y0,T3];omega
  ·rcases List.mem_append.mp z with z|z
   ·exact h v (.tail _ a) z
   ·rw [List.mem_singleton.mp z] at a;exact nd.1 a
theorem zhx {K:o0} {H:Hp} :∀{ts:List (Str×Str)} {ys:List V},All2 (ThV H) ts ys->All2 (λ y k=>∃(p:Addr) (r:List V),y=V.ref p/\SqT K H p (.str k :: r)) ys (ts.map (·.1))
 | _,_,.nil=>.nil
 | _,_,.cons a r=>.cons (a.elim λ p z=>⟨p,_,z.1,SqT.of z.2⟩) (zhx r)
def z4e (K:o0):Sp:=λ vs H Q _=>∃a ys ts,vs=[.ref a]/\H a=some (.lst ys)/\All2 (ThV H) ts ys/\ts.length<=6/\(ts.map (·.1)).Nodup/\(∀t∈ts,ThingOk t)/\∀(p:List Nat) c H',Same H H'->H' c=some (.tup (p.map λ i=>ys.getD i .non))->p.Perm (W0 ys.length)->(p.map λ i=>(ts.map (·.1)).getD i ("" : Str)).Pairwise (λ x y=>ltS x y=true)->Q (.ref c) H'
theorem z8o (T:TX (kx w) mg) (c0:Ca P w mg base "is_thing" ["thing"] 2 z7m):Fo P w mg base CX0 3 206 y0m ["things"] (z4e (kx w)):=by
 refine (z2w w.params).ok z8d (λ vs H Q E h=>?_) (λ a4 A a5 s H vs Q E hr h=>?_)
 ·obtain ⟨a,f,b,rfl,_⟩:=h;rfl
 ·obtain ⟨a,f,b,rfl,J,B,l6,W,ok,q⟩:=h;refine ⟨_,(z02 (ps_if (PW.pt (pw_or (pt_not (pt_val (z06 z0n rfl (T.no (z0l _)) R3 (z01 (pv 0) (z01 (z2p (v:=.ty "list") rfl (T.no (n_list _)) j1e rfl) pa_nil))) (λ _=>rfl))) (pw_or1 (pt_not (pt_val (z06 (z3e rfl) rfl (T.no (n_all _)) j11 (z01 (pe_cg (xs:=["thing"]) (g:=gName 0) (fr:=[]) (z1l (pv 0)) (λ _ _ _ _ _=>(pg_cn (N:=["thing"]) 0)) (λ _ _ _ _ _=>pf_nil) (λ _ _ _ _ _=>(pe_cal c0 (hr.mono (by decide)) rfl (z01 (pv 0) pa_nil)))) pa_nil)) (λ _=>rfl))))))
   (z05 z4q)
   z0d)
   (z02 (ps_if (z09 op_gt (z06 z0i rfl (T.no (n_len _)) A2 (z01 (pv 0) pa_nil)) (z1z (v:=.int (6)) rfl (T.of (z9w _)) ⟨_,rfl⟩) (nomark _))
   (z05 z4q)
   z0d)
   (z02 (ps_if (z09 op_lt (zeg rfl rfl (T.no (n_len _)) rfl (T.no (n_set _)) A2 boot_set (pe_cg (xs:=["thing"]) (g:=gName 0) (fr:=[]) (z1l (pv 0)) (λ _ _ _ _ _=>(pg_cn (N:=["thing"]) 0)) (λ _ _ _ _ _=>pf_nil) (λ _ _ _ _ _=>(pe_ix (z5z (K:=KX w.params) rfl) (pv 0) pe_int (λ _ _=>rfl))))) (z06 z0i rfl (T.no (n_len _)) A2 (z01 (pv 0) pa_nil)) (nomark _))
   (z05 z4q)
   z0d)
   (z05 (ps_ret (z5m z55 rfl (T.no (zdq _)) boot_tuple (z01 (z06 zbj rfl (T.no (zjm _)) boot_sorted (z01 (pv 0) pa_nil)) pa_nil))))))),?_⟩
  have ly:f.length=b.length:=z03 B;refine sq_if (t_or ?_);refine ⟨_,rfl,_,_,"list",rfl,.inl ⟨⟨_,J⟩,rfl⟩,by decide,_,rfl,iteN (by decide) ?_⟩;refine tB_not (e_cb1 ?_);refine z2c (K:=KX w.params) (a:=a) (xs:=f) (H1:=H) (λ _=>true) (λ _ y _=>y=.bl true) (λ _ _ _ _ _ z=>z) (λ R h=>⟨_,rfl,h⟩) (SqL.of J) (N0 (m:=6) (by omega) (by decide)) ?_ ?_
  ·intro i hi v H1 C G KT KF F k2;obtain ⟨t,I,tv⟩:=z0k B G;refine ⟨[some v],rfl,rfl,iteT ?_⟩;exact ⟨_,rfl,t,v,rfl,tv.same C,ok t (B1 I),λ L d=>F rfl _ _ d rfl⟩
  intro U H1 bs C a3 a2;have O :∀y∈bs,y=.bl true:=λ y k=>by obtain ⟨m,hm⟩:=List.mem_iff_getElem?.mp k;obtain ⟨_,_,z⟩:=z0k a2 hm;exact z
  refine ⟨U,bs,rfl,SqL.of z04,λ y k=>⟨true,O y k⟩,?_⟩;rw [List.all_eq_true.mpr (λ y k=>decide_eq_true (O y k))];refine ⟨_,rfl,iteN (by decide) ?_⟩;have d:=C.trans (Same.upd (o:=.lst bs) a3);generalize upd H1 U (.lst bs)=L at d⊢;have D:=d _ _ J;have x:=z00 (λ _ _ z=>ThV.same d z) B;refine t_nx (sq_if ?_);refine ⟨_,rfl,.inl ⟨a,_,rfl,.inl (SqL.of D),_,_,rfl,rfl,_,rfl,iteN (λ e=>absurd (of_decide_eq_true e) (by omega)) ?_⟩⟩;refine t_nx (sq_if (t_test (zkg ?_)));refine z2c (K:=KX w.params) (a:=a) (xs:=f) (H1:=L) (λ _=>true) (λ i y _=>y=.str ((b[i]?.getD ("","")).1)) (λ _ _ _ _ _ z=>z) (λ R h=>⟨_,rfl,h⟩) (SqL.of D) (N0 (m:=6) (by omega) (by decide)) ?_ ?_
  ·intro i hi v u r G KT KF F k2;obtain ⟨t,I,p,rfl,ep⟩:=z0k x G;refine ⟨[some (.ref p)],rfl,rfl,iteT ?_⟩;exact ⟨_,rfl,.inr (.inl ⟨p,_,0,.str t.1,rfl,rfl,SqT.of (r _ _ ep),z08 (j:=0) rfl,F rfl _ _ (Same.refl _) (by rw [I];rfl)⟩)⟩
  intro l u zs r a0 S;rw [List.filter_eq_self.mpr (λ _ _=>rfl)] at S;have ez:=zg0 x S;subst ez;have n:=r.trans (Same.upd (o:=.lst ((b.map (·.1)).map V.str)) a0);have M:upd u l (.lst ((b.map (·.1)).map V.str)) l=some (.lst ((b.map (·.1)).map V.str)):=z04;generalize upd u l (.lst ((b.map (·.1)).map V.str))=H4 at n M⊢;have X:=n _ _ D;have a1:=z00 (λ _ _ z=>ThV.same n z) x;refine ⟨l,b.map (·.1),rfl,SqL.of M,by rw [I0];omega,_,rfl,.inl ⟨a,_,rfl,.inl (SqL.of X),_,_,rfl,rfl,_,rfl,iteN (λ e=>absurd (of_decide_eq_true e) ?_) ?_⟩⟩
  ·rw [z9j _ [] W (λ _ _=>L0),T3,I0];omega
  refine t_nx (sq_ret ?_);refine ⟨_,rfl,a,f,b.map (·.1),rfl,SqL.of X,zhx a1,by omega,W,λ Y p Z pp pw=>?_⟩;have s5:=n.trans (Same.upd (o:=.lst (p.map λ i=>f.getD i .non)) Z);refine ⟨Y,_,rfl,.inl ⟨SqL.of z04,λ c hc=>?_⟩⟩;exact q p c _ (d.trans (s5.trans (Same.upd hc))) z04 pp pw
def za3:Sp:=λ vs H Q _=>∃h:Int,vs=[.int h]/\0<=h/\h<=5/\Q (.bl true) H
theorem ze4 (T:TX (kx w) mg) (c0:Ca P w mg base "is_whole" ["value"] 1 z3b):Fo P w mg base CX0 2 246 y1y ["hand"] za3:=by
 refine (z7q w.params).ok zfo (λ d H Q E h=>?_) (λ g A f s H d Q E a h=>?_)
 ·obtain ⟨h,rfl,_⟩:=h;rfl
 ·obtain ⟨h,rfl,c,e,q⟩:=h;refine ⟨_,(z05 (ps_ret (pe_and (pe_cal c0 (a.mono (by decide)) rfl (z01 (pv 0) pa_nil)) (pe_one (zf9 op_le op_le pe_int (pv 0) (z1z (v:=.int (5)) rfl (T.of (zcz _)) ⟨_,rfl⟩)))))),?_⟩;refine ⟨_,rfl,_,"int",rfl,rfl,_,rfl,iteP (by decide) ?_⟩;refine ⟨_,rfl,_,_,rfl,rfl,_,rfl,?_⟩;rw [decide_eq_true c];refine iteT ⟨_,_,rfl,rfl,?_⟩;have b:decide (h<=5)=true:=decide_eq_true e;show Q (.bl (decide (h<=5))) H;rw [b];exact q
def z4y:Sp:=λ vs H Q _=>∃(p:Addr) (xs:List V) (z wd:Str) (h m:Int),vs=[.ref p,.str wd,.int m]/\H p=some (.tup (.str z :: .int h :: xs))/\0<=h/\h<=5/\Q (.bl (decide (((xs.length + 2:Nat):Int)=m) && decide (z=wd))) H
theorem zdg (T:TX (kx w) mg) (c0:Ca P w mg base "is_tuple_of" ["value","many"] 1 z14) (c1:Ca P w mg base "is_hand" ["hand"] 2 za3):Fo P w mg base CX0 3 239 y1j ["event","word","many"] z4y:=by
 refine (z6t w.params).ok zco (λ i H Q E h=>?_) (λ k A l s H i Q E c h=>?_)
 ·obtain ⟨p,d,z,b,h,m,rfl,_⟩:=h;rfl
 ·obtain ⟨p,d,z,b,h,m,rfl,a,f,g,q⟩:=h;refine ⟨_,(z05 (ps_ret (pe_and (pe_cal c0 (c.mono (by decide)) rfl (z01 (pv 0) (z01 (pv 2) pa_nil))) (pe_and (z06 z0n rfl (T.no (z0l _)) R3 (z01 (pe_ix ix_seq (pv 0) pe_int (λ _ _=>rfl)) (z01 (z2p (v:=.ty "str") rfl (T.no (n_str _)) j3b rfl) pa_nil))) (pe_and (z28 opEq (pe_ix ix_seq (pv 0) pe_int (λ _ _=>rfl)) (pv 1) (nomark _)) (pe_one (pe_cal c1 (c.mono (by decide)) rfl (z01 (pe_ix ix_seq (pv 0) pe_int (λ _ _=>rfl)) pa_nil)))))))),?_⟩;refine ⟨_,rfl,_,rfl,_,"tuple",m,rfl,.inr (.inl ⟨⟨_,a⟩,rfl⟩),?_⟩;rw [z4n a];refine ⟨_,rfl,?_⟩;by_cases hm:((d.length + 2:Nat):Int)=m;rotate_left
  ·rw [decide_eq_false hm,U7] at q;exact iteN (λ e=>hm (of_decide_eq_true e)) q
  rw [decide_eq_true hm,N5] at q;refine iteP (decide_eq_true hm) ?_;refine ⟨_,rfl,.inr (.inl ⟨p,_,0,.str z,rfl,rfl,SqT.of a,z08 (j:=0) rfl,_,_,"str",rfl,rfl,by decide,_,rfl,iteP (by decide) ?_⟩)⟩;refine ⟨_,rfl,.inr (.inl ⟨p,_,0,.str z,rfl,rfl,SqT.of a,z08 (j:=0) rfl,_,rfl,rfl,_,rfl,?_⟩)⟩;by_cases hz:z=b
  ·subst hz;refine iteP (decide_eq_true rfl) ?_;rw [decide_eq_true rfl] at q;exact ⟨_,rfl,.inr (.inl ⟨p,_,1,.int h,rfl,rfl,SqT.of a,z08 (j:=1) rfl,h,rfl,f,g,q⟩)⟩
  ·refine iteN (λ e=>hz (by have:=of_decide_eq_true e;injection this)) ?_;rw [decide_eq_false hz] at q;exact q
def AnsOk (a:V):Prop:=a=.str "ok"\/a=.str "none"\/∃i,a=.int i/\z0h (.int i) 1000000000000=true
theorem zdv {H:Hp}:SqT (kx w) H 194 [.str "ok",.str "none"]:=
 .inr ⟨⟨(.type "tuple"),none,(.seq #[(.str "ok" 503),(.str "none" 504)] 0),#[]⟩,#[(.str "ok" 503),(.str "none" 504)],0,by kernel_rfl,rfl,rfl,w_2,.cons ⟨_,rfl⟩ (.cons ⟨_,rfl⟩ .nil)⟩
def z5s:Sp:=λ vs H Q _=>∃a,vs=[a]/\AnsOk a/\Q (.bl true) H
theorem zbh (T:TX (kx w) mg) (c0:Ca P w mg base "is_within" ["value","greatest"] 2 z3m):Fo P w mg base CX0 3 253 y15 ["answer"] z5s:=by
 refine (z50 w.params).ok za9 (λ c H Q E h=>?_) (λ e A d s H c Q E b h=>?_)
 ·obtain ⟨a,rfl,_⟩:=h;rfl
 ·obtain ⟨a,rfl,ok,q⟩:=h;refine ⟨_,(z02 (ps_if (pt_val (z06 z0n rfl (T.no (z0l _)) R3 (z01 (pv 0) (z01 (z2p (v:=.ty "str") rfl (T.no (n_str _)) j3b rfl) pa_nil))) (λ _=>rfl))
   (z05 (ps_ret (z28 zc7 (pv 0) (z1z (v:=.ref 194) rfl (T.of (z8b _)) rfl) (by with_unfolding_all rfl))))
   z0d)
   (z05 (ps_ret (pe_cal c0 (b.mono (by decide)) rfl (z01 (pv 0) (z01 (z1z (v:=.int (1000000000000)) rfl (T.of (z5i _)) ⟨_,rfl⟩) pa_nil)))))),?_⟩
  refine sq_if ?_;rcases ok with rfl|rfl|⟨i,rfl,hi⟩
  ·refine ⟨_,rfl,_,_,"str",rfl,rfl,by decide,_,rfl,iteP (by decide) ?_⟩;exact ⟨_,rfl,194,_,rfl,.inr zdv,rfl,rfl,q⟩
  ·refine ⟨_,rfl,_,_,"str",rfl,rfl,by decide,_,rfl,iteP (by decide) ?_⟩;exact ⟨_,rfl,194,_,rfl,.inr zdv,rfl,rfl,q⟩
  ·refine ⟨_,rfl,_,_,"int",rfl,rfl,by decide,_,rfl,iteN (by decide) ?_⟩;refine t_nx (sq_ret ?_);refine ⟨_,rfl,_,"int",_,rfl,rfl,?_⟩;rw [hi];exact q
inductive XOk (H:Hp):Str->Str->V->Prop
 | none {k v:Str}:formOf k v=0->XOk H k v .non
 | one {k v:Str} {i:Int}:formOf k v=1->z0h (.int i) 1000000000=true->XOk H k v (.int i)
 | two {k v:Str} {i j:Int} {p:Addr}:formOf k v=2->H p=some (.tup [.int i,.int j])->z0h (.int i) 1000000000=true->z0h (.int j) 1000000000=true->XOk H k v (.ref p)
theorem XOk.same {H H':Hp} {k v:Str} {x:V} (s:Same H H') (h:XOk H k v x):XOk H' k v x:=by
 cases h with
 | none e=>exact .none e
 | one e h=>exact .one e h
 | two e h1 h2 h3=>exact .two e (s _ _ h1) h2 h3
theorem XOk.deed {H:Hp} {k v:Str} {x:V} (h:XOk H k v x):deedB H (.str k) (.str v) x=true/\(∃T,TagOf H x T)/\Flat H x:=by
 cases h with
 | none e=>refine ⟨?_,⟨"NoneType",rfl⟩,λ a z=>by cases z⟩;unfold deedB;dsimp only;rw [e,if_pos rfl];rfl
 | one e h=>refine ⟨?_,⟨"int",rfl⟩,λ a z=>by cases z⟩;unfold deedB;dsimp only;rw [e,if_neg (by decide),if_pos rfl];exact h
 | two e h1 h2 h3=>
  rename_i i j p;refine ⟨?_,⟨"tuple",.inr (.inl ⟨⟨_,h1⟩,rfl⟩)⟩,λ a z=>?_⟩
  ·unfold deedB;dsimp only;rw [e,if_neg (by decide),if_neg (by decide),if_pos rfl,z4n h1];show (decide ([V.int i,V.int j].length=2) && (z0h (.int i) 1000000000 && (z0h (.int j) 1000000000 && true)))=true;rw [h2,h3];rfl
  ·rw [z4n h1] at z;cases z;refine ⟨(show (2:Nat)<=1000 by decide),λ y b=>?_⟩;simp only [Z3,L0,or_false] at b;rcases b with rfl|rfl<;>exact ⟨"int",rfl⟩
noncomputable def EvT (H:Hp) (ts:List (Str×Str)):Ev->V->Prop
 | .beg h n v x,y=>∃p nm k vb,y=.ref p/\H p=some (.tup [.str "begin",.int h,n,v,x])/\0<=h/\h<=5/\n=.str nm/\v=.str vb/\(nm,k)∈ts/\NameOk nm/\XOk H k vb x
 | .fin h a,y=>∃p,y=.ref p/\H p=some (.tup [.str "end",.int h,a])/\0<=h/\h<=5/\AnsOk a
theorem EvT.same {H H':Hp} {ts:List (Str×Str)} (s:Same H H') :∀{e:Ev} {y:V},EvT H ts e y->EvT H' ts e y
 | .beg h n v x,_,⟨p,nm,k,vb,h1,h2,h3,h4,h5,h6,h7,h8,h9⟩=>⟨p,nm,k,vb,h1,s _ _ h2,h3,h4,h5,h6,h7,h8,h9.same s⟩
 | .fin h a,_,⟨p,h1,h2,h3⟩=>⟨p,h1,s _ _ h2,h3⟩
def KdAt (H:Hp) (d:Addr) (ts:List (Str×Str)):Prop:=∃kvs:List (Key×V),H d=some (.dK kvs)/\∀nm k,(nm,k)∈ts->valV kvs (.inr nm)=some (.str k)
theorem KdAt.same {H H':Hp} {d:Addr} {ts:List (Str×Str)} (s:Same H H') (h:KdAt H d ts):KdAt H' d ts:=h.elim λ a z=>⟨a,s _ _ z.1,z.2⟩
noncomputable def isBeg:Ev->Bool
 | .beg _ _ _ _=>true
 | .fin _ _=>false
def z7d:Sp:=λ vs H Q _=>∃e y d ts,vs=[y,.ref d]/\EvT H ts e y/\KdAt H d ts/\∀H',Same H H'->Q (.bl (isBeg e)) H'
theorem zcu (T:TX (kx w) mg) (c0:Ca P w mg base "is_event" ["event","word","many"] 3 z4y) (c1:Ca P w mg base "is_name" ["value"] 1 z64) (c2:Ca P w mg base "is_deed" ["kind","verb","worth"] 4 z6r):Fo P w mg base CX0 5 225 y1i ["event","kinds"] z7d:=by
 refine (z68 w.params).ok zct (λ N H Q E h=>?_) (λ R A U s H N Q E c h=>?_)
 ·obtain ⟨e,y,d,z,rfl,_⟩:=h;rfl
 ·obtain ⟨e,y,d,z,rfl,o,⟨S,G,M⟩,q⟩:=h;refine ⟨_,(z02 (ps_if (PW.pt (pw_or (pt_not (pt_val (pe_cal c0 (c.mono (by decide)) rfl (z01 (pv 0) (z01 pe_str (z01 pe_int pa_nil)))) (λ _=>rfl))) (pw_or (pt_not (pt_val (pe_cal c1 (c.mono (by decide)) rfl (z01 (pe_ix ix_seq (pv 0) pe_int (λ _ _=>rfl)) pa_nil)) (λ _=>rfl))) (pw_or1 (pt_cmp (zh2 (hu_of c) (pe_ix ix_seq (pv 0) pe_int (λ _ _=>rfl)) (pv 1)) (by with_unfolding_all rfl))))))
   (z05 (ps_ret pe_bl))
   z0d)
   (z05 (ps_ret (pe_cal c2 (c.mono (by decide)) rfl (z01 (z0e (hu_of c) (pv 1) (pe_ix ix_seq (pv 0) pe_int (λ _ _=>rfl)) (λ _ _=>rfl)) (z01 (pe_ix ix_seq (pv 0) pe_int (λ _ _=>rfl)) (z01 (pe_ix ix_seq (pv 0) pe_int (λ _ _=>rfl)) pa_nil))))))),?_⟩
  refine sq_if ?_;cases e with
  | fin h a=>obtain ⟨p,rfl,f,l,m,_⟩:=o;refine ⟨_,rfl,p,[a],"end","begin",h,5,rfl,f,l,m,_,rfl,iteP (by rw [show decide (("end" : Str) = "begin")=false by decide +kernel,j1c];rfl) ?_⟩;exact iteP rfl (q _ (Same.refl _))
  | beg h n v x=>obtain ⟨p,b,k,C,rfl,f,l,m,rfl,rfl,J,B,D⟩:=o;refine ⟨_,rfl,p,_,"begin","begin",h,5,rfl,f,l,m,_,rfl,iteN (by rw [show decide (("begin" : Str) = "begin")=true by decide +kernel];show ¬ (!(decide (((3 + 2:Nat):Int)=5) && true))=true;decide) ?_⟩;refine ⟨_,rfl,.inr (.inl ⟨p,_,2,.str b,rfl,rfl,SqT.of f,z08 (j:=2) rfl,b,rfl,B,λ F g=>⟨true,rfl,iteN (by decide) ?_⟩⟩)⟩;have I:=g _ _ G;have i:=g _ _ f;have dg:DGet F d (.str b) (some (.str k)):=(M b k J) ▸ DGet.k (k:=.inr b) I;refine ⟨_,rfl,.inr (.inl ⟨p,_,2,.str b,rfl,rfl,SqT.of i,z08 (j:=2) rfl,?_⟩)⟩;refine ⟨_,rfl,d,_,rfl,dg,_,rfl,iteN (by show ¬ (!true)=true;decide) ?_⟩;refine t_nx (sq_ret ?_);obtain ⟨L,⟨t,u⟩,K⟩:=(D.same g).deed;refine ⟨_,rfl,_,rfl,.inr (.inl ⟨p,_,2,.str b,rfl,rfl,SqT.of i,z08 (j:=2) rfl,d,_,rfl,dg,?_⟩)⟩;refine ⟨_,rfl,.inr (.inl ⟨p,_,3,.str C,rfl,rfl,SqT.of i,z08 (j:=3) rfl,?_⟩)⟩;refine ⟨_,rfl,.inr (.inl ⟨p,_,4,x,rfl,rfl,SqT.of i,z08 (j:=4) rfl,_,_,_,"str","str",t,rfl,rfl,rfl,u,K,λ O r=>?_⟩)⟩;rw [L];exact q _ (g.trans r)
def zcd:Sp:=λ vs H Q _=>∃h a y ts,vs=[y]/\EvT H ts (.fin h a) y/\Q (.bl true) H
theorem zg1 (T:TX (kx w) mg) (c0:Ca P w mg base "is_event" ["event","word","many"] 3 z4y) (c1:Ca P w mg base "is_answer" ["answer"] 3 z5s):Fo P w mg base CX0 4 232 y28 ["event"] zcd:=by
 refine (zav w.params).ok zhb (λ i H Q E h=>?_) (λ k A l s H i Q E b h=>?_)
 ·obtain ⟨h,a,y,f,rfl,_⟩:=h;rfl
 ·obtain ⟨h,a,y,f,rfl,⟨p,rfl,c,d,g,e⟩,q⟩:=h;refine ⟨_,(z05 (ps_ret (pe_and (pe_cal c0 (b.mono (by decide)) rfl (z01 (pv 0) (z01 pe_str (z01 pe_int pa_nil)))) (pe_one (pe_cal c1 (b.mono (by decide)) rfl (z01 (pe_ix ix_seq (pv 0) pe_int (λ _ _=>rfl)) pa_nil)))))),?_⟩;refine ⟨_,rfl,p,[a],"end","end",h,3,rfl,c,d,g,_,rfl,iteP (by rw [show decide (("end" : Str) = "end")=true by decide +kernel];rfl) ?_⟩;exact ⟨_,rfl,.inr (.inl ⟨p,_,2,a,rfl,rfl,SqT.of c,z08 (j:=2) rfl,a,rfl,e,q⟩)⟩
def z48 (K:o0):Sp:=λ vs H Q _=>∃a ys ts es,vs=[.ref a]/\SqL K H a ys/\All2 (EvT H ts) es ys/\es.length<=1000/\EWf [] es/\∀H',Same H H'->Q (.bl true) H'
theorem z8r (T:TX (kx w) mg):Fo P w mg base CX0 1 260 y0o ["events"] (z48 (kx w)):=by
 refine (z38 w.params).ok sc_go_by_turns (λ vs H Q E h=>?_) (λ a0 A a1 s H vs Q E C h=>?_)
 ·obtain ⟨a,o,J,f,rfl,_⟩:=h;rfl
 ·obtain ⟨a,o,J,f,rfl,t,F,ln,wf,q⟩:=h;refine ⟨_,(z02 (ps_set (i:=1) sc_go_by_turns.nd rfl (O1 rfl) zjl)
   (z02 (ps_for W2 rfl (z1l (pv 0)) (z0m (i:=2) sc_go_by_turns.nd rfl (O1 rfl))
   (z02 (ps_set (i:=3) sc_go_by_turns.nd rfl (O1 rfl) (z28 opEq (pe_ix ix_seq (pv 2) pe_int (λ _ _=>rfl)) pe_str (nomark _)))
   (z02 (ps_if (z09 opEq (zim (hu_of C) (pv 1) (pe_ix ix_seq (pv 2) pe_int (λ _ _=>rfl)) pe_bl ⟨rfl,rfl,rfl,rfl⟩) (pv 3) (nomark _))
   (z05 (ps_ret pe_bl))
   z0d)
   (z05 (z4a (hu_of C) (pv 1) (pe_ix ix_seq (pv 2) pe_int (λ _ _=>rfl)) (pv 3) rfl)))))
   (z05 (ps_ret pe_bl)))),?_⟩
  have ly:o.length=f.length:=z03 F;refine z0b ?_;intro d G;refine g_name ?_;obtain ⟨H0,O,r,S⟩:=newA (.dK []) G;rw [<-O];refine ⟨_,rfl,a,rfl,⟨_,r.seq t⟩,?_⟩;refine z65 (K:=KX w.params) (a:=a) (xs:=o) (λ i σ l=>Same H l/\(∃kvs os,l d=some (.dK kvs)/\kvs.length<=i/\EWf os (f.drop i)/\∀h:Int,(valV kvs (.inl h)).getD (.bl false)=.bl (decide (h∈os)))/\∃x2 x3,σ=[some (.ref a),some (.ref d),x2,x3])
   ⟨r,⟨[],[],S,K0 _,by rw [z5];exact wf,λ h=>by rw [decide_eq_false L0];rfl⟩,_,_,rfl⟩ (λ _ σ l _ h=>h.1.seq t) ?_ ?_
  ·rintro i y σ D W ⟨s1,⟨kvs,os,ed,lk,wf1,kv⟩,x2,x3,rfl⟩;obtain ⟨e,L,X⟩:=z0k F W;obtain ⟨M,I⟩:=List.getElem?_eq_some_iff.mp L;have dr:f.drop i=e :: f.drop (i + 1):=by rw [j23 M,I]
   rw [dr] at wf1;have B:=EvT.same s1 X;refine g_name ?_;obtain ⟨p,xs,z,h,b,g,c,N,Y,U,Z⟩ :∃(p:Addr) (xs:List V) (z:Str) (h:Int) (b:Bool),y=.ref p/\D p=some (.tup (.str z :: .int h :: xs))/\decide (z = "begin")=b/\decide (h∈os) = !b/\(∀k:Int,decide (k∈oStep os e)=if k=h then b else decide (k∈os))/\EWf (oStep os e) (f.drop (i + 1)):=by
    cases e with
    | beg h n v x=>
     obtain ⟨p,nm,k,vb,g,c,_⟩:=B;refine ⟨p,_,"begin",h,true,g,c,by decide +kernel,by rw [decide_eq_false (show h∉os from wf1.1)];rfl,λ k=>?_,wf1.2⟩;show decide (k∈os++[h])=_;by_cases z:k=h
     ·rw [if_pos z,decide_eq_true (List.mem_append.mpr (.inr (List.mem_singleton.mpr z)))]
     ·rw [if_neg z];by_cases y:k∈os
      ·rw [decide_eq_true y,decide_eq_true (List.mem_append.mpr (.inl y))]
      ·rw [decide_eq_false y,decide_eq_false (λ w=>(List.mem_append.mp w).elim y λ u=>z (List.mem_singleton.mp u))]
    | fin h a'=>
     obtain ⟨p,g,c,_⟩:=B;refine ⟨p,_,"end",h,false,g,c,by decide +kernel,by rw [decide_eq_true (show h∈os from wf1.1)];rfl,λ k=>?_,wf1.2⟩;show decide (k∈os.filter λ j=>decide (j≠h))=_;by_cases z:k=h
     ·rw [if_pos z,decide_eq_false (λ w=>(of_decide_eq_true (List.mem_filter.mp w).2) z)]
     ·rw [if_neg z];by_cases y:k∈os
      ·rw [decide_eq_true y,decide_eq_true (List.mem_filter.mpr ⟨y,decide_eq_true z⟩)]
      ·rw [decide_eq_false y,decide_eq_false (λ w=>y (List.mem_filter.mp w).1)]
   subst g;refine z0b ?_;refine ⟨_,rfl,.inr (.inl ⟨p,_,0,.str z,rfl,rfl,SqT.of c,z08 (j:=0) rfl,rfl,?_⟩)⟩;have R:decide (V.str z=V.str "begin")=b:=by
    rw [<-N];by_cases y:z = "begin"
    ·rw [y,decide_eq_true rfl,decide_eq_true rfl]
    ·rw [decide_eq_false y,decide_eq_false (λ e=>y (by injection e))]
   rw [R];refine g_name ?_;refine sq_if ?_;refine ⟨_,rfl,d,rfl,.inl ⟨_,.inl ed⟩,_,rfl,.inr (.inl ⟨p,_,1,.int h,rfl,rfl,SqT.of c,z08 (j:=1) rfl,_,DGet.k (k:=.inl h) ed,?_⟩)⟩;rw [kv h,Y];refine ⟨_,rfl,rfl,_,rfl,iteN (by cases b<;>decide) ?_⟩;refine t_nx ?_;refine ⟨_,rfl,_,rfl,_,rfl,.inr (.inl ⟨p,_,1,.int h,rfl,rfl,SqT.of c,z08 (j:=1) rfl,d,_,rfl,DPut.k (k:=.inl h) ed (X0 (m:=1000) (by omega) (by decide)),?_⟩)⟩;refine ⟨Same.keep s1 G,⟨_,oStep os e,z04,N0 zin (by omega),Z,λ k=>?_⟩,_,_,rfl⟩;rw [zb1,U k];by_cases z:k=h
   ·rw [if_pos (by rw [z]),if_pos z];rfl
   ·rw [if_neg (λ e=>z (Sum.inl.inj e)),if_neg z];exact kv k
  ·rintro σ D ⟨s1,_,x2,x3,rfl⟩;exact q _ s1
theorem zk5 {H:Hp} {ts:List (Str×Str)} {e:Ev} {y:V} (h:EvT H ts e y) :∃(p:Addr) (z:Str) (r:List V),y=.ref p/\H p=some (.tup (.str z :: r))/\decide (z = "begin")=isBeg e:=by
 cases e with
 | beg h n v x=>obtain ⟨p,f,k,d,b,c,_⟩:=h;exact ⟨p,_,_,b,c,(show decide (("begin" : Str) = "begin")=true by decide +kernel)⟩
 | fin h a=>obtain ⟨p,b,c,_⟩:=h;exact ⟨p,_,_,b,c,(show decide (("end" : Str) = "begin")=false by decide +kernel)⟩
theorem zck {z y:Str}:decide (V.str z=V.str y)=decide (z=y):=by
 by_cases e:z=y
 ·rw [e,decide_eq_true rfl,decide_eq_true rfl]
 ·rw [decide_eq_false e,decide_eq_false (λ x=>e (by injection x))]
def z4f (K:o0):Sp:=λ vs H Q _=>∃a d ys ts es,vs=[.ref a,.ref d]/\H a=some (.lst ys)/\KdAt H d ts/\All2 (EvT H ts) es ys/\es.length<=1000/\(es.filter isBeg).length<=24/\EWf [] es/\∀c H',Same H H'->H' c=some (.tup ys)->Q (.ref c) H'
theorem z8h (T:TX (kx w) mg) (c0:Ca P w mg base "is_begin" ["event","kinds"] 5 z7d) (c1:Ca P w mg base "is_end" ["event"] 4 zcd) (c2:Ca P w mg base "go_by_turns" ["events"] 1 (z48 (kx w))):Fo P w mg base CX0 6 218 y0n ["events","kinds"] (z4f (kx w)):=by
 refine (z35 w.params).ok z87 (λ vs H Q E h=>?_) (λ a8 A a9 s H vs Q E G h=>?_)
 ·obtain ⟨a,d,k,B,f,rfl,_⟩:=h;rfl
 ·obtain ⟨a,d,k,B,f,rfl,O,kd,I,ln,a4,wf,q⟩:=h;refine ⟨_,(z02 (ps_if (PW.pt (pw_or (pt_not (pt_val (z06 z0n rfl (T.no (z0l _)) R3 (z01 (pv 0) (z01 (z2p (v:=.ty "list") rfl (T.no (n_list _)) j1e rfl) pa_nil))) (λ _=>rfl))) (pw_or1 (pt_not (pt_val (z06 (z3e rfl) rfl (T.no (n_all _)) j11 (z01 (pe_cg (xs:=["event"]) (g:=gName 0) (fr:=[(1,"kinds")]) (z1l (pv 0)) (λ _ _ _ _ _=>(pg_cn (N:=["event","kinds"]) 0)) (λ _ _ _ _ _=>pf_nil) (λ _ _ _ _ _=>(pe_or (pe_cal c0 (G.mono (by decide)) rfl (z01 (pv 0) (z01 (pv 1) pa_nil))) (pe_one (pe_cal c1 (G.mono (by decide)) rfl (z01 (pv 0) pa_nil)))))) pa_nil)) (λ _=>rfl))))))
   (z05 z4q)
   z0d)
   (z02 (ps_if (z09 op_gt (z06 z0i rfl (T.no (n_len _)) A2 (z01 (pe_cg (xs:=["event"]) (g:=gName 0) (fr:=[]) (z1l (pv 0)) (λ _ _ _ _ _=>(pg_cn (N:=["event"]) 0)) (λ _ _ _ _ _=>(pf_one (z09 opEq (pe_ix (z5z (K:=KX w.params) rfl) (pv 0) pe_int (λ _ _=>rfl)) pe_str (nomark _)))) (λ _ _ _ _ _=>(pv 0))) pa_nil)) (z1z (v:=.int (24)) rfl (T.of (z91 _)) ⟨_,rfl⟩) (nomark _))
   (z05 z4q)
   z0d)
   (z02 (ps_if (pt_not (pt_val (pe_cal c2 (G.mono (by decide)) rfl (z01 (pv 0) pa_nil)) (λ _=>rfl)))
   (z05 z4q)
   z0d)
   (z05 (ps_ret (z5m z55 rfl (T.no (zdq _)) boot_tuple (z01 (pv 0) pa_nil))))))),?_⟩
  have ly:k.length=f.length:=z03 I;refine sq_if (t_or ?_);refine ⟨_,rfl,_,_,"list",rfl,.inl ⟨⟨_,O⟩,rfl⟩,by decide,_,rfl,iteN (by decide) ?_⟩;refine tB_not (e_cb1 ?_);refine z2c (K:=KX w.params) (a:=a) (xs:=k) (H1:=H) (λ _=>true) (λ _ y _=>y=.bl true) (λ _ _ _ _ _ z=>z) (λ R h=>⟨_,rfl,h⟩) (SqL.of O) (N0 (m:=1000) (by omega) (by decide)) ?_ ?_
  ·intro i hi v H1 C M KT KF l J;obtain ⟨e,Z,L⟩:=z0k I M;have W:=EvT.same C L;refine ⟨[some v],rfl,rfl,iteT ?_⟩;refine ⟨_,rfl,_,rfl,e,v,d,B,rfl,W,kd.same C,λ S b=>⟨_,rfl,?_⟩⟩;cases e with
   | beg h n v' x=>exact iteP rfl (l rfl _ _ b rfl)
   | fin h a'=>exact iteN (λ z=>by cases z) ⟨_,rfl,h,a',v,B,rfl,EvT.same b W,l rfl _ _ b rfl⟩
  intro l1 H1 bs C a7 a6;have Y :∀y∈bs,y=.bl true:=λ y t=>by obtain ⟨m,hm⟩:=List.mem_iff_getElem?.mp t;obtain ⟨_,_,z⟩:=z0k a6 hm;exact z
  refine ⟨l1,bs,rfl,SqL.of z04,λ y t=>⟨true,Y y t⟩,?_⟩;rw [List.all_eq_true.mpr (λ y t=>decide_eq_true (Y y t))];refine ⟨_,rfl,iteN (by decide) ?_⟩;have b:=C.trans (Same.upd (o:=.lst bs) a7);generalize upd H1 l1 (.lst bs)=S at b⊢;have a0:=b _ _ O;have X:=z00 (λ _ _ z=>EvT.same b z) I;refine t_nx (sq_if (zit ?_));refine z2c (K:=KX w.params) (a:=a) (xs:=k) (H1:=S) (λ i=>isBeg (f[i]?.getD (.fin 0 .non))) (λ _ y _=>True) (λ _ _ _ _ _ z=>z) (λ R h=>⟨_,rfl,h⟩) (SqL.of a0) (N0 (m:=1000) (by omega) (by decide)) ?_ ?_
  ·intro i hi v V F M KT KF l J;obtain ⟨e,Z,L⟩:=z0k X M;rw [Z] at l J;obtain ⟨p,z,r,rfl,ep,hz⟩:=zk5 (EvT.same F L);refine ⟨[some (.ref p)],rfl,rfl,?_⟩;refine ⟨_,rfl,.inr (.inl ⟨p,_,0,.str z,rfl,rfl,SqT.of ep,z08 (j:=0) rfl,rfl,_,rfl,?_⟩)⟩;rw [zck,hz];cases hbe:isBeg e with
   | true=>exact iteP rfl ⟨_,rfl,l hbe _ _ (Same.refl _) trivial⟩
   | false=>exact iteN (by decide) (J hbe _ (Same.refl _))
  intro U V D F a2 a5;have lz:D.length<=24:=by rw [z03 a5,ly];have:=congrArg j4a (z6m isBeg (λ e=>e) (.fin 0 .non) f);rw [I0,I0] at this;rw [this];exact a4
  have u:=F.trans (Same.upd (o:=.lst D) a2);refine .inl ⟨U,D,rfl,.inl (SqL.of z04),?_⟩;generalize upd V U (.lst D)=H4 at u⊢;refine ⟨_,_,rfl,rfl,_,rfl,iteN (λ e=>absurd (of_decide_eq_true e) (by omega)) ?_⟩;refine t_nx (sq_if ?_);have a1:=u _ _ a0;have a3:=z00 (λ _ _ z=>EvT.same u z) X;refine ⟨_,rfl,a,k,B,f,rfl,SqL.of a1,a3,ln,wf,λ H5 s5=>⟨true,rfl,iteN (by decide) ?_⟩⟩;refine t_nx (sq_ret ?_);refine ⟨_,rfl,a,_,rfl,.inl ⟨SqL.of (s5 _ _ a1),λ c hc=>?_⟩⟩;exact q c _ (((b.trans u).trans s5).trans (Same.upd hc)) z04
theorem z7i :∀(more kvs:List (Key×V)),((kvs++more).map (·.1)).Nodup->mergeK kvs more=kvs++more
 | [],kvs,_=>(L1 _).symm
 | kv :: more,kvs,nd=>by
  have fr:kv.1∉kvs.map (·.1):=λ z=>by rw [V1,a8] at nd;exact nd.2.2 _ z _ (.head _) rfl
  show mergeK (putK kvs kv.1 kv.2) more=_;rw [zeu fr,z7i more (kvs++[(kv.1,kv.2)]) (by rw [E2];exact nd),E2];rfl
theorem val_in :∀{kvs:List (Key×V)} {k:Key} {v:V},(kvs.map (·.1)).Nodup->(k,v)∈kvs->valV kvs k=some v
 | (k',v') :: kvs,k,v,nd,h=>by
  rw [Y1,K5] at nd;rcases List.mem_cons.mp h with e|h
  ·cases e;exact z1c rfl
  ·rw [z19 (λ e=>nd.1 (by have e:k'=k:=e;subst e;exact List.mem_map.mpr ⟨_,h,rfl⟩))];exact val_in nd.2 h
def z6c (K:o0):Sp:=λ vs H Q _=>∃a b ys ts zs es,vs=[.ref a,.ref b]/\H a=some (.lst ys)/\All2 (ThV H) ts ys/\ts.length<=6/\(ts.map (·.1)).Nodup/\(∀t∈ts,ThingOk t)/\H b=some (.lst zs)/\All2 (EvT H ts) es zs/\es.length<=1000/\(es.filter isBeg).length<=24/\EWf [] es/\
 ∀(p:List Nat) t c e H',Same H H'->H' t=some (.tup [.ref c,.ref e])->H' c=some (.tup (p.map λ i=>ys.getD i .non))->H' e=some (.tup zs)->p.Perm (W0 ys.length)->(p.map λ i=>(ts.map (·.1)).getD i ("" : Str)).Pairwise (λ x y=>ltS x y=true)->Q (.ref t) H'
theorem zb6 (T:TX (kx w) mg) (c0:Ca P w mg base "make_things" ["things"] 3 (z4e (kx w))) (c1:Ca P w mg base "make_events" ["events","kinds"] 6 (z4f (kx w))):Fo P w mg base CX0 7 201 y14 ["things","events"] (z6c (kx w)):=by
 refine (z4m w.params).ok sc_make_tale (λ vs H Q E h=>?_) (λ a1 A a2 s H vs Q E J h=>?_)
 ·obtain ⟨a,b,l,f,S,C,rfl,_⟩:=h;rfl
 ·obtain ⟨a,b,l,f,S,C,rfl,ea,u,l6,nd,ok,v,av,ln,a0,wf,q⟩:=h;refine ⟨_,(z02 (ps_set (i:=2) sc_make_tale.nd rfl (O1 rfl) (pe_cal c0 (J.mono (by decide)) rfl (z01 (pv 0) pa_nil)))
   (z05 (ps_ret (pe_tup (z01 (pv 2) (z01 (pe_cal c1 (J.mono (by decide)) rfl (z01 (pv 1) (z01 (z5m (zd2 rfl) rfl (T.no (n_dict _)) boot_dict (z01 (pv 2) pa_nil)) pa_nil))) pa_nil)))))),?_⟩
  have X:l.length=f.length:=z03 u;refine z0b ?_;refine ⟨_,rfl,a,l,f,rfl,ea,u,l6,nd,ok,λ p c n M D B G=>?_⟩;refine g_name ?_;have L :∀i∈p,i < f.length:=λ i g=>by have:=List.mem_range.mp (B.mem_iff.mp g);omega
  have Z :∀p:List Nat,(∀i∈p,i < f.length)->All2 (λ (q:Key×V) y=>∃b,y=.ref b/\SqT (kx w) n b [kV q.1,q.2]) (p.map λ i=>((.inr (f.getD i ("","")).1,.str (f.getD i ("","")).2):Key×V)) (p.map λ i=>l.getD i .non):=by
   intro p;induction p with
   | nil=>intro _;exact .nil
   | cons i p ih=>
    intro K;have g:=K i (.head _);obtain ⟨y,hy,b,Y,v⟩:=z0r u (A0 g);refine .cons ⟨b,?_,?_⟩ (ih λ j hj=>K j (.tail _ hj))
    ·show l.getD i .non=_;rw [P1,hy];exact Y
    ·show SqT (kx w) n b [.str (f.getD i ("","")).1,.str (f.getD i ("","")).2];rw [P1,A0 g];exact SqT.of (M _ _ v)
  refine ⟨_,rfl,_,rfl,_,rfl,c,_,_,rfl,.inr D,Z p L,λ d O=>?_⟩;have F:((p.map λ i=>((.inr (f.getD i ("","")).1,.str (f.getD i ("","")).2):Key×V)).map (·.1)).Nodup:=by
   rw [F5];have N:(p.map λ i=>(f.map (·.1)).getD i ("" : Str)).Nodup:=G.imp λ {x y} z e=>by rw [e,z6v] at z;cases z
   have e1:(p.map λ i=>(f.map (·.1)).getD i ("" : Str))=p.map λ i=>(f.getD i ("","")).1:=List.map_congr_left λ i g=>by have g:=L i g;rw [P1,P1,S0,A0 g];rfl
   rw [e1] at N;have:(p.map ((·.1) ∘ λ i=>((.inr (f.getD i ("","")).1,.str (f.getD i ("","")).2):Key×V)))=(p.map λ i=>(f.getD i ("","")).1).map Sum.inr:=by rw [F5];rfl
   rw [this];exact L2.nodup_map_on (λ a _ b _ e=>j2e e) N
  have mg:mergeK [] (p.map λ i=>((.inr (f.getD i ("","")).1,.str (f.getD i ("","")).2):Key×V))=p.map λ i=>((.inr (f.getD i ("","")).1,.str (f.getD i ("","")).2):Key×V):=z7i _ [] F;rw [mg];have m:=M.trans (Same.upd (o:=.dK (p.map λ i=>((.inr (f.getD i ("","")).1,.str (f.getD i ("","")).2):Key×V))) O);have U:KdAt (upd n d (.dK (p.map λ i=>((.inr (f.getD i ("","")).1,.str (f.getD i ("","")).2):Key×V)))) d f:=⟨_,z04,λ nm k hm=>by obtain ⟨i,g⟩:=List.mem_iff_getElem?.mp hm;refine val_in F (List.mem_map.mpr ⟨i,B.mem_iff.mpr (List.mem_range.mpr (by rw [X];exact (List.getElem?_eq_some_iff.mp g).1)),?_⟩);rw [P1,g];rfl⟩
  have R:=(Same.upd (o:=.dK (p.map λ i=>((.inr (f.getD i ("","")).1,.str (f.getD i ("","")).2):Key×V))) O) _ _ D;generalize upd n d (.dK (p.map λ i=>((.inr (f.getD i ("","")).1,.str (f.getD i ("","")).2):Key×V)))=H2 at m U R⊢;refine ⟨b,d,S,f,C,rfl,m _ _ v,U,z00 (λ _ _ z=>EvT.same m z) av,ln,a0,wf,λ e H3 I W=>⟨w_2,λ t ht=>?_⟩⟩;have r:=Same.upd (o:=.tup [.ref c,.ref e]) ht;exact q p t c e _ ((m.trans I).trans r) z04 (r _ _ (I _ _ R)) (r _ _ W) B G
end
section
mutual
noncomputable def HPd (H:Hp):PyData->V->Prop
 | .none,v=>v=.non
 | .bool b,v=>v=.bl b
 | .int i,v=>v=.int i
 | .str z,v=>v=.str z
 | .list ds,v=>∃a xs,v=.ref a/\H a=some (.lst xs)/\HPds H ds xs
 | .tuple ds,v=>∃a xs,v=.ref a/\H a=some (.tup xs)/\HPds H ds xs
 | .dict kvs,v=>kvs=[]/\∃a,v=.ref a/\H a=some (.dK [])
noncomputable def HPds (H:Hp):List PyData->List V->Prop
 | [],xs=>xs=[]
 | d :: ds,xs=>∃x r,xs=x :: r/\HPd H d x/\HPds H ds r
end
mutual
theorem HPd.mono' {H H':Hp} (s :∀a xs,H a=some (.tup xs)->H' a=some (.tup xs)) (t :∀a xs,H a=some (.lst xs)->H' a=some (.lst xs)) (u :∀a,H a=some (.dK [])->H' a=some (.dK [])) :∀(d:PyData) (v:V),HPd H d v->HPd H' d v
 | .none,_,h=>h
 | .bool _,_,h=>h
 | .int _,_,h=>h
 | .str _,_,h=>h
 | .list ds,v,h=>by obtain ⟨a,xs,rfl,e,r⟩:=h;exact ⟨a,xs,rfl,t _ _ e,HPds.mono' s t u ds xs r⟩
 | .tuple ds,v,h=>by obtain ⟨a,xs,rfl,e,r⟩:=h;exact ⟨a,xs,rfl,s _ _ e,HPds.mono' s t u ds xs r⟩
 | .dict _,v,h=>by obtain ⟨e,a,rfl,b⟩:=h;exact ⟨e,a,rfl,u _ b⟩
theorem HPds.mono' {H H':Hp} (s :∀a xs,H a=some (.tup xs)->H' a=some (.tup xs)) (t :∀a xs,H a=some (.lst xs)->H' a=some (.lst xs)) (u :∀a,H a=some (.dK [])->H' a=some (.dK [])) :∀(ds:List PyData) (xs:List V),HPds H ds xs->HPds H' ds xs
 | [],_,h=>h
 | d :: ds,xs,h=>by obtain ⟨x,r,rfl,a,b⟩:=h;exact ⟨x,r,rfl,HPd.mono' s t u d x a,HPds.mono' s t u ds r b⟩
end
theorem HPd.same {H H':Hp} {d:PyData} {v:V} (h:HPd H d v) (s:Same H H'):HPd H' d v:=HPd.mono' (λ _ _ q=>s _ _ q) (λ _ _ q=>s _ _ q) (λ _ q=>s _ _ q) d v h
theorem HPds.all {H:Hp} :∀{ds:List PyData} {xs:List V},HPds H ds xs->All2 (HPd H) ds xs
 | [],_,h=>by cases (show _=[] from h);exact .nil
 | d :: ds,xs,h=>by obtain ⟨x,r,rfl,a,b⟩:=h;exact .cons a (HPds.all b)
noncomputable def dif (B H:Hp):Hp:=λ p=>if B p=none then H p else none
noncomputable def tDat (P:L2.St->Prop) (d:PyData):TE:=λ σ H Q=>P σ/\∀v H',Same H H'->HPd (dif H H') d v->Q v H'
noncomputable def tDats (P:L2.St->Prop) (ds:List PyData):TA:=λ σ H Q=>P σ/\∀xs H',Same H H'->HPds (dif H H') ds xs->Q xs H'
variable {X:Cx} {pos:Pos} {P:L2.St->Prop}
structure QD (X:Cx) (P:L2.St->Prop) (e:Expr) (d:PyData):Prop where
 run:PE X e (tDat P d)
structure QDs (X:Cx) (P:L2.St->Prop) (es:List Expr) (ds:List PyData):Prop where
 run:PA X es (tDats P ds)
theorem HPds.length {H:Hp} {ds:List PyData} {xs:List V} (h:HPds H ds xs):xs.length=ds.length:=z03 h.all
theorem zbw {P P':Program} {w w':Z0} {h:Heap} {a:Addr} (d:h.DictOf (z0j P w) a []):h.DictOf (z0j P' w') a []:=by
 obtain ⟨o,f,l,c,i,j,m,k,g⟩:=d;have b:f = #[]:=by have:=k.length;exact Array.eq_empty_of_size_eq_zero (by simpa using this)
 subst b;exact ⟨o,#[],l,c,i,j,(λ e b=>by simp at b),.nil,g⟩
theorem z9a (n:Nat):(W0 n).all (λ _=>true)=true:=List.all_eq_true.mpr λ _ _=>rfl
mutual
theorem zkn {pins:List (Addr×Obj)} {σ:L2.St} {H:Hp} {s:C0} (I:Inv X pins σ H s) :∀(d:PyData) (A:P2) (x y:V) (u v:Value),HPd H d x->HPd H d y->RelV x u->RelV y v->A.units + d.depth + 1 < cLine->j13 A s u v true
 | .none,A,x,y,u,v,hx,hy,rx,ry,hu=>by cases (show x=.non from hx);cases (show y=.non from hy);cases (show u=.none from rx);cases (show v=.none from ry);exact v6 _
 | .bool b,A,x,y,u,v,hx,hy,rx,ry,hu=>by cases (show x=.bl b from hx);cases (show y=.bl b from hy);cases (show u=.bool b from rx);cases (show v=.bool b from ry);exact v6 _
 | .int i,A,x,y,u,v,hx,hy,rx,ry,hu=>by
  cases (show x=.int i from hx);cases (show y=.int i from hy);obtain ⟨t,rfl⟩:=rx;obtain ⟨B,rfl⟩:=ry;have:=j2b (A:=A) (s:=s) i t i B
  rwa [beq_self_eq_true] at this
 | .str i,A,x,y,u,v,hx,hy,rx,ry,hu=>by
  cases (show x=.str i from hx);cases (show y=.str i from hy);obtain ⟨t,rfl⟩:=rx;obtain ⟨B,rfl⟩:=ry;have:=j28 (A:=A) (s:=s) i t i B
  rwa [beq_self_eq_true] at this
 | .list ds,A,x,y,u,v,hx,hy,rx,ry,hu=>by
  obtain ⟨a,C,rfl,l,f⟩:=hx;obtain ⟨b,z,rfl,k,h⟩:=hy;cases (show u=.ref a from rx);cases (show v=.ref b from ry);obtain ⟨n,c,o,_⟩:=I.list (SqL.of l);obtain ⟨m,g,p,_⟩:=I.list (SqL.of k);have O:A.units + (F2 ds + 1) + 1 < cLine:=hu;have N:=c.length;have L:=g.length;have G:=f.length;have R:=h.length;by_cases hll:a=b
  ·subst hll;exact v6 _
  ·refine U8 hll ?_;have:=SeqAt.RcAt.lists (A:=A) (e:=λ _=>true) o.isList p.isList (by simp;omega) (by omega) (λ j D F=>?_)
   ·rwa [z9a] at this
   ·have:=z4r I ds A.in1 C z n m f h c g (show A.units + 1 + F2 ds + 1 < cLine by omega) j (by simpa using D) (by simpa using F);simpa using this
 | .tuple ds,A,x,y,u,v,hx,hy,rx,ry,hu=>by
  obtain ⟨a,C,rfl,l,f⟩:=hx;obtain ⟨b,z,rfl,k,h⟩:=hy;cases (show u=.ref a from rx);cases (show v=.ref b from ry);obtain ⟨n,c,o,_⟩:=I.tuple (SqT.of l);obtain ⟨m,g,p,_⟩:=I.tuple (SqT.of k);have O:A.units + (F2 ds + 1) + 1 < cLine:=hu;have N:=c.length;have L:=g.length;have G:=f.length;have R:=h.length;by_cases hll:a=b
  ·subst hll;exact v6 _
  ·refine U8 hll ?_;have:=j2f (A:=A) (e:=λ _=>true) o p (by omega) (λ j D F=>?_)
   ·rw [z9a,N5] at this
    rwa [show (n.toArray.size == m.toArray.size)=true by simp;omega] at this
   ·have:=z4r I ds A.in1 C z n m f h c g (show A.units + 1 + F2 ds + 1 < cLine by omega) j (by simpa using D) (by simpa using F);simpa using this
 | .dict kvs,A,x,y,u,v,hx,hy,rx,ry,hu=>by
  obtain ⟨rfl,a,rfl,l⟩:=hx;obtain ⟨_,b,rfl,k⟩:=hy;cases (show u=.ref a from rx);cases (show v=.ref b from ry);by_cases hll:a=b
  ·subst hll;exact v6 _
  ·refine U8 hll λ U w E Q q=>?_;obtain ⟨_,S,Y,c,K⟩:=dk_of I.hok l;obtain ⟨_,J,T,P,M⟩:=dk_of I.hok k;cases c;cases P;exact PySem.W.keq_eq (r:=true) S J (zbw K) (zbw M) (by omega) (λ _=>.nil) q
theorem z4r {pins:List (Addr×Obj)} {σ:L2.St} {H:Hp} {s:C0} (I:Inv X pins σ H s) :∀(ds:List PyData) (A:P2) (xs ys:List V) (us vs:List Value),HPds H ds xs->HPds H ds ys->Vals xs us->Vals ys vs->A.units + F2 ds + 1 < cLine->∀j (h1:j < us.length) (h2:j < vs.length),j13 A s us[j] vs[j] true
 | [],A,xs,ys,us,vs,hx,hy,rx,ry,hu,j,h1,h2=>by cases (show xs=[] from hx);cases rx;exact absurd h1 (j15 _)
 | d :: ds,A,xs,ys,us,vs,hx,hy,rx,ry,hu,j,h1,h2=>by
  obtain ⟨x,e,rfl,c,a⟩:=hx;obtain ⟨y,g,rfl,f,b⟩:=hy;cases rx with
  | cons r1 r2=>
   cases ry with
   | cons q1 q2=>
    have h:A.units + max d.depth (F2 ds) + 1 < cLine:=hu;cases j with
    | zero=>exact zkn I d A x y _ _ c f r1 q1 (by omega)
    | succ j=>exact z4r I ds A e g _ _ a b r2 q2 (by omega) j (j3h h1) (j3h h2)
end
noncomputable def rNeS:R2:=λ x y H Q=>∃ds,((HPd H (.list ds) x/\HPd H (.list ds) y)\/(HPd H (.tuple ds) x/\HPd H (.tuple ds) y))/\F2 ds<=49/\Q (.bl false) H
theorem op_neS {k:Nat} (hr:Room k X.A):OpR X (X2 .NotEq) rNeS:=by
 intro R s σ H x y u v Q I J G h;obtain ⟨i,M,P,q⟩:=h;have S:=hr.units;rcases M with ⟨o,B⟩|⟨o,B⟩
 ·obtain ⟨a,C,rfl,D,c⟩:=o;obtain ⟨b,t,rfl,r,f⟩:=B;cases (show u=.ref a from J);cases (show v=.ref b from G);obtain ⟨m,g,n,_⟩:=I.list (SqL.of D);obtain ⟨l,d,p,_⟩:=I.list (SqL.of r);have N:=g.length;have L:=d.length;have K:=c.length;have O:=f.length;have z:SeqAt.RcNeAt X.A s (.ref a) (.ref b) false:=by
   have:=j18 (A:=X.A) (e:=λ _=>true) n.isList p.isList (by simp;omega) (by omega) (λ j E F=>?_)
   ·rwa [z9a] at this
   ·have:=z4r I i X.A.in1 C t m l c f g d (show X.A.units + 1 + F2 i + 1 < cLine by omega) j (by simpa using E) (by simpa using F);simpa using this
  exact z X.prog X.w _ _ ⟨.bl _,H,I,rfl,q⟩
 ·obtain ⟨a,C,rfl,D,c⟩:=o;obtain ⟨b,t,rfl,r,f⟩:=B;cases (show u=.ref a from J);cases (show v=.ref b from G);obtain ⟨m,g,n,_⟩:=I.tuple (SqT.of D);obtain ⟨l,d,p,_⟩:=I.tuple (SqT.of r);have N:=g.length;have L:=d.length;have K:=c.length;have O:=f.length;have z:SeqAt.RcNeAt X.A s (.ref a) (.ref b) false:=by
   have:=SeqAt.RcNeAt.tuples (A:=X.A) (e:=λ _=>true) n p (by omega) (λ j E F=>?_)
   ·rw [z9a,N5] at this
    rwa [show (m.toArray.size == l.toArray.size)=true by simp;omega] at this
   ·have:=z4r I i X.A.in1 C t m l c f g d (show X.A.units + 1 + F2 i + 1 < cLine by omega) j (by simpa using E) (by simpa using F);simpa using this
  exact z X.prog X.w _ _ ⟨.bl _,H,I,rfl,q⟩
end
section
noncomputable def sc:PyData->V
 | .none=>.non
 | .bool b=>.bl b
 | .int i=>.int i
 | .str z=>.str z
 | _=>.ref 0
theorem sc_f {H:Hp} {d:PyData} {v:V} (h:HPd H d v) {β:Type} (f:V->β) (hf :∀a b,f (.ref a)=f (.ref b)):f v=f (sc d):=by
 cases d with
 | none=>cases (show v=.non from h);rfl
 | bool b=>cases (show v=.bl b from h);rfl
 | int i=>cases (show v=.int i from h);rfl
 | str z=>cases (show v=.str z from h);rfl
 | list ds=>obtain ⟨a,c,rfl,_⟩:=h;exact hf _ _
 | tuple ds=>obtain ⟨a,c,rfl,_⟩:=h;exact hf _ _
 | dict ds=>obtain ⟨_,a,rfl,_⟩:=h;exact hf _ _
noncomputable def tupD:PyData->Option (List PyData)
 | .tuple ds=>some ds
 | _=>none
theorem tup_D {H:Hp} {d:PyData} {v:V} (h:HPd H d v):(tupD d=none/\tupOf H v=none)\/∃ds xs,d=.tuple ds/\tupOf H v=some xs/\All2 (HPd H) ds xs:=by
 cases d with
 | none=>cases (show v=.non from h);exact .inl ⟨rfl,rfl⟩
 | bool b=>cases (show v=.bl b from h);exact .inl ⟨rfl,rfl⟩
 | int i=>cases (show v=.int i from h);exact .inl ⟨rfl,rfl⟩
 | str z=>cases (show v=.str z from h);exact .inl ⟨rfl,rfl⟩
 | list ds=>obtain ⟨a,xs,rfl,e,_⟩:=h;refine .inl ⟨rfl,?_⟩;unfold tupOf;dsimp only;rw [e]
 | tuple ds=>obtain ⟨a,xs,rfl,e,c⟩:=h;exact .inr ⟨ds,xs,rfl,z4n e,c.all⟩
 | dict ds=>obtain ⟨_,a,rfl,e⟩:=h;refine .inl ⟨rfl,?_⟩;unfold tupOf;dsimp only;rw [e]
theorem zgb {α β:Type} {R:α->β->Prop} {xs:List α} {ys:List β} (h:All2 R xs ys) {y:β} (hy:y∈ys) :∃x∈xs,R x y:=by
 induction h with
 | nil=>cases hy
 | cons a r ih=>
  rcases List.mem_cons.mp hy with rfl|hy
  ·exact ⟨_,.head _,a⟩
  ·obtain ⟨x,b,h⟩:=ih hy;exact ⟨x,.tail _ b,h⟩
theorem tag_D {H:Hp} {d:PyData} {v:V} (h:HPd H d v) :∃T,TagOf H v T:=by
 cases d with
 | none=>cases (show v=.non from h);exact ⟨_,rfl⟩
 | bool b=>cases (show v=.bl b from h);exact ⟨_,rfl⟩
 | int i=>cases (show v=.int i from h);exact ⟨_,rfl⟩
 | str z=>cases (show v=.str z from h);exact ⟨_,rfl⟩
 | list ds=>obtain ⟨a,c,rfl,e,_⟩:=h;exact ⟨_,.inl ⟨⟨_,e⟩,rfl⟩⟩
 | tuple ds=>obtain ⟨a,c,rfl,e,_⟩:=h;exact ⟨_,.inr (.inl ⟨⟨_,e⟩,rfl⟩)⟩
 | dict ds=>obtain ⟨_,a,rfl,e⟩:=h;exact ⟨_,.inr (.inr ⟨⟨_,e⟩,rfl⟩)⟩
noncomputable def deedP (k v:V) (d:PyData):Bool:=match k,v with
 | .str a,.str b=>if formOf a b=0 then decide (sc d=.non) else if formOf a b=1 then z0h (sc d) 1000000000 else if formOf a b=2 then
   (match tupD d with|some ds=>decide (ds.length=2) && ds.all λ y=>z0h (sc y) 1000000000|none=>false) else false
 | _,_=>false
theorem deed_D {H:Hp} {k v x:V} {d:PyData} (h:HPd H d x):deedB H k v x=deedP k v d:=by
 cases k with
 | str a=>
  cases v with
  | str b=>
   show (if formOf a b=0 then decide (x=.non) else if formOf a b=1 then z0h x 1000000000 else if formOf a b=2 then
    (match tupOf H x with|some xs=>decide (xs.length=2) && xs.all λ y=>z0h y 1000000000|none=>false) else false)=(if formOf a b=0 then decide (sc d=.non) else if formOf a b=1 then z0h (sc d) 1000000000 else if formOf a b=2 then
    (match tupD d with|some ds=>decide (ds.length=2) && ds.all λ y=>z0h (sc y) 1000000000|none=>false) else false)
   rw [sc_f h (λ v=>decide (v=.non)) (λ _ _=>rfl),sc_f h (λ v=>z0h v 1000000000) (λ _ _=>rfl)];have f:(match tupOf H x with|some xs=>decide (xs.length=2) && xs.all λ y=>z0h y 1000000000|none=>false)=(match tupD d with|some ds=>decide (ds.length=2) && ds.all λ y=>z0h (sc y) 1000000000|none=>false):=by
    rcases tup_D h with ⟨e,c⟩|⟨ds,ys,rfl,c,al⟩
    ·rw [c,e]
    rw [c];show (decide (ys.length=2) && ys.all λ y=>z0h y 1000000000)=(decide (ds.length=2) && ds.all λ y=>z0h (sc y) 1000000000);rw [z03 al];congr 1;clear c h;induction al with
    | nil=>rfl
    | cons a r ih=>rw [M5,M5,ih,sc_f a (λ v=>z0h v 1000000000) (λ _ _=>rfl)]
   rw [f]
  | _=>rfl
 | _=>rfl
end
section
variable {X:Cx}
theorem z9e {X:Cx} {K:o0} (hK:X.K=K):CallR X (.type "list") (λ xs H Q=>∃p ys,xs=[.ref p]/\(SqL K H p ys\/SqT K H p ys)/\∀l,H l=none->Q (.ref l) (upd H l (.lst ys))):=hK ▸ zah
theorem zfp {o e:Expr} {es:List Expr} {to:TE} {t:TA} {apos cpos:Pos} (ho:PE X o to) (ha:PA X (e :: es) t)
  (hbase:B5 o "extend" X.env (V3 o X.env)=V3 o X.env:=by rfl)
  (hfew:((P4 cpos (K1 (e :: es) X.env)).all (λ x=>!x.1) && (a9 cpos (X6 [] X.env)).all (λ x=>x.1.isSome) && decide ((e :: es).length + ([]:List Q6).length + (if ([]:List Q6).isEmpty then 0 else 1) < 30))=true:=by rfl)
  (hline:(apos.endLine == cpos.line)=true:=by rfl) (hs:K1 (e :: es) X.env=(false,V3 e X.env) :: K1 es X.env:=by rfl) (hplain:(P4 cpos (K1 es X.env)).any (·.1)=false:=by rfl) :
  PE X (.Call (.Attribute o "extend" apos) (e :: es) [] cpos) (tBM X.K "list" zhu to t):=pe_bm Z7 PySem.F.slot_list_extend PySem.F.type_list_extend zgh ho ha hbase hfew hline hs hplain
end
theorem z5y (x:Int) :∀ns:List Int,inV (.int x) (ns.map V.int)=decide (x∈ns)
 | []=>by rw [decide_eq_false L0];rfl
 | n :: r=>by
  show ((n == x) || inV (.int x) (r.map V.int))=_;rw [z5y x r];by_cases e:n=x
  ·rw [beq_iff_eq.mpr e,Bool.true_or,decide_eq_true (List.mem_cons.mpr (.inl e.symm))]
  ·rw [Bool.eq_false_iff.mpr (λ h=>e (beq_iff_eq.mp h)),Bool.false_or];by_cases m:x∈r
   ·rw [decide_eq_true m,decide_eq_true (List.mem_cons.mpr (.inr m))]
   ·rw [decide_eq_false m,decide_eq_false (λ h=>(List.mem_cons.mp h).elim (λ y=>e y.symm) m)]
theorem zc8 :∀ns:List Int,(ns.map V.int).all flatV=true
 | []=>rfl
 | _ :: r=>by show (true && (r.map V.int).all flatV)=true;rw [zc8 r];rfl
theorem zi4 :∀(l ns:List Int),(l.foldl addI ns).length<=ns.length + l.length
 | [],ns=>K0 _
 | x :: l,ns=>by
  have h:=zi4 l (addI ns x);have a:(addI ns x).length<=ns.length + 1:=by unfold addI;split<;>simp
  rw [U3,Y0];omega
theorem zc0 :∀(l ns:List Int),ns.length + l.length<=(l.foldl addI ns).length->l.Nodup/\∀x∈l,x∉ns
 | [],ns,_=>⟨.nil,λ _ h=>absurd h L0⟩
 | x :: l,ns,h=>by
  rw [U3,Y0] at h;have le:=zi4 l (addI ns x);by_cases z:x∈ns
  ·have e:addI ns x=ns:=if_pos z;rw [e] at le h;omega
  ·have e:addI ns x=ns++[x]:=if_neg z;rw [e] at h;obtain ⟨c,b⟩:=zc0 l (ns++[x]) (by rw [G0];show ns.length + 1 + l.length<=_;omega);refine ⟨List.nodup_cons.mpr ⟨λ y=>b x y (List.mem_append.mpr (.inr (List.mem_singleton.mpr rfl))),c⟩,λ y a=>?_⟩;rcases List.mem_cons.mp a with rfl|a
   ·exact z
   ·exact λ q=>b y a (List.mem_append.mpr (.inl q))
theorem z9z :∀(us ns:List Int),us.Nodup->(∀u∈us,u∉ns)->(us.foldl addI ns).length=ns.length + us.length
 | [],ns,_,_=>rfl
 | u :: us,ns,nd,h=>by
  rw [K5] at nd;have e:addI ns u=ns++[u]:=by unfold addI;rw [if_neg (h u (.head _))]
  rw [U3,e,z9z us (ns++[u]) nd.2 λ v a z=>?_]
  ·simp only [G0,Y0,T3];omega
  ·rcases List.mem_append.mp z with z|z
   ·exact h v (.tail _ a) z
   ·rw [List.mem_singleton.mp z] at a;exact nd.1 a
noncomputable def ddP:Option Int->PyData
 | none=>.tuple [.str "read",.none]
 | some i=>.tuple [.str "write",.int i]
noncomputable def listD:PyData->Option (List PyData)
 | .list ds=>some ds
 | _=>none
noncomputable def flatP (rows:List PyData):List PyData:=(rows.map λ r=>(listD r).getD []).flatten
noncomputable def z1b (d:PyData):Bool:=match tupD d with
 | some [u,v]=>deedP (.str "register") (sc u) v
 | _=>false
noncomputable def planB (rows:List PyData):Bool:=decide (rows.length<=6) && (rows.all (λ r=>(listD r).isSome) && (decide ((flatP rows).length<=24) && (flatP rows).all z1b))
noncomputable def wr1:PyData->Option Int
 | .tuple [.str z,.int i]=>if z = "write" then some i else none
 | _=>none
noncomputable def wsP (ds:List PyData):List Int:=ds.filterMap wr1
noncomputable def goodB (rows:List PyData):Bool:=planB rows && (decide ((0:Int)∉wsP (flatP rows)) && decide (wsP (flatP rows)).Nodup)
noncomputable def small1 (d:PyData):Bool:=match tupD d with
 | some ds=>decide (ds.length<=1000)
 | none=>true
noncomputable def smallB (d:PyData):Bool:=match tupD d with
 | some ds=>ds.all small1
 | none=>true
structure PlOk (rows:List PyData):Prop where
 n:rows.length<=100
 f:(flatP rows).length<=100
 s :∀d∈flatP rows,smallB d=true
theorem zg5 {v:V} {d:PyData} (h:deedP (.str "register") v d=true):(v=.str "read"/\d=.none)\/∃i,v=.str "write"/\d=.int i:=by
 cases v with
 | str b=>
  have h:(if formOf "register" b=0 then decide (sc d=.non) else if formOf "register" b=1 then z0h (sc d) 1000000000 else if formOf "register" b=2 then
   (match tupD d with|some ds=>decide (ds.length=2) && ds.all λ y=>z0h (sc y) 1000000000|none=>false) else false)=true:=h
  by_cases b1:b = "read"
  ·subst b1;rw [if_pos (by decide +kernel)] at h;refine .inl ⟨rfl,?_⟩;have h:=of_decide_eq_true h;cases d<;>first|rfl|cases h
  by_cases b2:b = "write"
  ·subst b2;rw [if_neg (by decide +kernel),if_pos (by decide +kernel)] at h;cases d with
   | int i=>exact .inr ⟨i,rfl,rfl⟩
   | _=>cases h
  ·exfalso;have e:formOf "register" b=-1:=by
    unfold formOf;cases hl:kl_DOERS.lookup (("register" : Str),b) with
    | none=>rfl
    | some v=>
     exfalso;have a:(kl_DOERS.all λ p=>!decide (p.1.1 = "register") || (decide (p.1.2 = "read") || decide (p.1.2 = "write")))=true:=by decide +kernel
     have m:=List.all_eq_true.mp a _ (z6n hl);rw [decide_eq_true (show (("register" : Str),b).1 = "register" from rfl),decide_eq_false b1,decide_eq_false b2] at m;cases m
   rw [e,if_neg (by decide),if_neg (by decide),if_neg (by decide)] at h;cases h
 | _=>cases h
theorem zf8 {d:PyData} (h:z1b d=true) :∃o,d=ddP o:=by
 unfold z1b at h;cases d with
 | tuple ds=>
  change (match some ds with|some [u,v]=>deedP (.str "register") (sc u) v|_=>false)=true at h
  match ds,h with
  | [u,v],h=>
   rcases zg5 (show deedP (.str "register") (sc u) v=true from h) with ⟨b,a⟩|⟨i,b,a⟩
   ·subst a;refine ⟨none,?_⟩;cases u<;>cases b;rfl
   ·subst a;refine ⟨some i,?_⟩;cases u<;>cases b;rfl
  | [],h=>cases h
  | [_],h=>cases h
  | _ :: _ :: _ :: _,h=>cases h
 | _=>cases h
theorem wr1_dd (o:Option Int):wr1 (ddP o)=o:=by
 cases o with
 | none=>rfl
 | some i=>simp [wr1,ddP]
section
variable {P:Program} {w:Z0} {mg:Str->Option Value} {base:Heap}
theorem z9s {oss:List (List V)} {i:Nat} {own:List V} (h:oss[i]? = some own):(oss.take (i + 1)).flatten=(oss.take i).flatten++own:=by obtain ⟨a,e⟩:=List.getElem?_eq_some_iff.mp h;rw [List.take_succ_eq_append_getElem a,List.flatten_append,e];simp
theorem zjc {oss:List (List V)} (i:Nat):(oss.take i).flatten.length<=oss.flatten.length:=by
 have a:oss.flatten=(oss.take i).flatten++(oss.drop i).flatten:=by rw [<-List.flatten_append,j3i]
 have b:=congrArg j4a a;rw [G0] at b;omega
def LsAt (H:Hp) (ys:List V) (o:V):Prop:=∃b,o=.ref b/\H b=some (.lst ys)
theorem LsAt.same {H H':Hp} {ys:List V} {o:V} (s:Same H H') (h:LsAt H ys o):LsAt H' ys o:=h.elim λ b z=>⟨b,z.1,s _ _ z.2⟩
def z6b (K:o0):Sp:=λ vs H Q _=>∃a os oss,vs=[.ref a]/\H a=some (.lst os)/\All2 (LsAt H) oss os/\oss.flatten.length<=100/\∀l H',Same H H'->H' l=some (.lst oss.flatten)->Q (.ref l) H'
theorem zdo (T:TX (kx w) mg):Fo P w mg base CX0 1 181 y1w ["plan"] (z6b (kx w)):=by
 refine (z8k w.params).ok sc_planned (λ x H Q E h=>?_) (λ z A F s H x Q E B h=>?_)
 ·obtain ⟨a,d,oss,rfl,_⟩:=h;rfl
 ·obtain ⟨a,d,oss,rfl,n,g,G,q⟩:=h;refine ⟨_,(z02 (ps_set (i:=1) sc_planned.nd rfl (O1 rfl) (pe_lst pa_nil))
   (z02 (ps_for W2 rfl (z1l (pv 0)) (z0m (i:=2) sc_planned.nd rfl (O1 rfl))
   (z05 (z0f (zfp (pv 1) (z01 (pv 2) pa_nil)))))
   (z05 (ps_ret (pv 1))))),?_⟩
  have D:d.length=oss.length:=z03 g;refine zi8 ?_;refine ⟨w_0,λ l f=>?_⟩;refine g_name ?_;obtain ⟨C,p,j,u⟩:=newA (.lst []) f;rw [<-p];refine ⟨_,rfl,a,rfl,⟨_,SqL.of (j _ _ n)⟩,?_⟩;refine z65 (K:=KX w.params) (a:=a) (xs:=d) (λ i σ c=>Same H c/\c l=some (.lst (oss.take i).flatten)/\∃x2,σ=[some (.ref a),some (.ref l),x2]) ⟨j,u,_,rfl⟩ (λ _ σ c _ h=>SqL.of (h.1 _ _ n)) ?_ ?_
  ·rintro i y σ e t ⟨s2,el,x2,rfl⟩;obtain ⟨v,k,b,rfl,r⟩:=z0k g t;have o:=zjc (oss:=oss) (i + 1);rw [z9s k,G0] at o;refine g_name ?_;refine ⟨_,rfl,.inl ⟨rfl,_,SqL.of el⟩,_,rfl,l,b,_,v,rfl,rfl,el,s2 _ _ r,N0 (m:=100) (by omega) (by decide),?_⟩;refine ⟨Same.keep s2 f,?_,_,rfl⟩;rw [z9s k];exact z04
  ·rintro σ e ⟨s2,el,x2,rfl⟩;rw [E5 (by omega)] at el;exact ⟨_,rfl,q l e s2 el⟩
theorem zgn {α β:Type} {R:α->β->Prop} {ds:List α} {xs:List β} (h:All2 R ds xs):(∃u v x1 x2,ds=[u,v]/\xs=[x1,x2]/\R u x1/\R v x2)\/(xs.length≠2/\∀u v,ds≠[u,v]):=by
 cases h with
 | nil=>exact .inr ⟨by simp,by simp⟩
 | cons a h=>
  cases h with
  | nil=>exact .inr ⟨by simp,by simp⟩
  | cons b h=>
   cases h with
   | nil=>exact .inl ⟨_,_,_,_,rfl,rfl,a,b⟩
   | cons c h=>exact .inr ⟨by simp,by simp⟩
theorem zf1 {ds:List PyData} (h :∀u v,ds≠[u,v]):z1b (.tuple ds)=false:=by
 show (match some ds with|some [u,v]=>deedP (.str "register") (sc u) v|_=>false)=false;split
 ·rename_i u v e;cases e;exact absurd rfl (h u v)
 ·rfl
def z5c:Sp:=λ vs H Q _=>∃y d,vs=[.str "register",y]/\HPd H d y/\smallB d=true/\∀H',Same H H'->Q (.bl (z1b d)) H'
theorem za5 (T:TX (kx w) mg) (c0:Ca P w mg base "is_tuple_of" ["value","many"] 1 z14) (c1:Ca P w mg base "is_deed" ["kind","verb","worth"] 4 z6r):Fo P w mg base CX0 5 193 y0w ["kind","deed"] z5c:=by
 refine (z42 w.params).ok z9l (λ K H Q E h=>?_) (λ N A R s H K Q E k h=>?_)
 ·obtain ⟨y,d,rfl,_⟩:=h;rfl
 ·obtain ⟨y,d,rfl,a,c,q⟩:=h;refine ⟨_,(z05 (ps_ret (pe_and (pe_cal c0 (k.mono (by decide)) rfl (z01 (pv 1) (z01 pe_int pa_nil))) (pe_one (pe_cal c1 (k.mono (by decide)) rfl (z01 (pv 0) (z01 (pe_ix ix_seq (pv 1) pe_int (λ _ _=>rfl)) (z01 (pe_ix ix_seq (pv 1) pe_int (λ _ _=>rfl)) pa_nil)))))))),?_⟩;obtain ⟨t,J⟩:=tag_D a;refine ⟨_,rfl,_,t,2,rfl,J,?_⟩;rcases tup_D a with ⟨x,b⟩|⟨ds,xs,rfl,b,al⟩
  ·rw [b];have e:z1b d=false:=by unfold z1b;rw [x]
   rw [e] at q;exact ⟨_,rfl,iteN (by decide) (q _ (Same.refl _))⟩
  ·rw [b];obtain ⟨p,F,rfl,g,O⟩:=a;have G:F=xs:=by rw [z4n g] at b;exact T2 b
   subst G;rcases zgn al with ⟨u,v,o,l,rfl,rfl,m,i⟩|⟨nl,nd⟩
   ·refine ⟨_,rfl,iteP (by simp) ?_⟩;obtain ⟨B,r⟩:=tag_D m;obtain ⟨I,L⟩:=tag_D i;have C:Flat H l:=λ S e=>by
     rcases tup_D i with ⟨_,f⟩|⟨es,ys,rfl,f,al2⟩
     ·rw [f] at e;cases e
     ·rw [f] at e;cases e;refine ⟨?_,λ y D=>?_⟩
      ·have c:(small1 u && (small1 (.tuple es) && true))=true:=c;rw [X3,X3] at c;rw [z03 al2];exact of_decide_eq_true c.2.1
      ·obtain ⟨d,_,a⟩:=zgb al2 D;exact tag_D a
    refine ⟨_,rfl,_,rfl,.inr (.inl ⟨p,_,0,o,rfl,rfl,SqT.of g,z08 (j:=0) rfl,?_⟩)⟩;refine ⟨_,rfl,.inr (.inl ⟨p,_,1,l,rfl,rfl,SqT.of g,z08 (j:=1) rfl,_,_,_,"str",B,I,rfl,rfl,r,L,C,λ M n=>?_⟩)⟩;rw [deed_D i,sc_f m (λ z=>deedP (.str "register") z v) (λ _ _=>rfl)];exact q _ n
   ·rw [zf1 nd] at q;exact ⟨_,rfl,iteN (λ e=>nl (by have:=of_decide_eq_true e;omega)) (q _ (Same.refl _))⟩
theorem all_bl {cs:List V} {bs:List Bool} (h:All2 (λ (b:Bool) y=>y=V.bl b) bs cs):(∀y∈cs,∃b,y=V.bl b)/\(cs.all λ y=>decide (y=.bl true))=bs.all id:=by
 induction h with
 | nil=>exact ⟨(λ y a=>nomatch a),rfl⟩
 | cons e r ih=>
  subst e;refine ⟨λ y a=>?_,?_⟩
  ·rcases List.mem_cons.mp a with rfl|a
   ·exact ⟨_,rfl⟩
   ·exact ih.1 y a
  ·rw [M5,M5,ih.2];congr 1;simp
theorem zeo {bs:List Bool} {cs:List V} {n:Nat} (hb:bs.length=n) (h:All2 (λ i y=>∀b,bs[i]? = some b->y=V.bl b) (W0 n) cs):All2 (λ (b:Bool) y=>y=V.bl b) bs cs:=by
 have k:=z03 h;rw [C3] at k;have l :∀(bs:List Bool) (cs:List V),cs.length=bs.length->(∀(i:Nat) (y:V) (b:Bool),cs[i]? = some y->bs[i]? = some b->y=V.bl b)->All2 (λ (b:Bool) y=>y=V.bl b) bs cs:=by
  intro bs;induction bs with
  | nil=>intro cs a _;rw [List.length_eq_zero_iff.mp a];exact .nil
  | cons b bs ih=>
   intro cs a f;cases cs with
   | nil=>cases a
   | cons c cs=>exact .cons (f 0 c b rfl rfl) (ih cs (by simpa using a) λ i y b e d=>f (i + 1) y b (by simpa using e) (by simpa using d))
 refine l bs cs (by omega) λ i y b e d=>?_;obtain ⟨j,g,o⟩:=z0k h e;have m:i < n:=by have:=(List.getElem?_eq_some_iff.mp d).1;omega
 rw [List.getElem?_range m] at g;cases g;exact o b d
theorem zjq {α β:Type} {R:α->β->Prop} {xs:List α} {ys:List β} {us:List α} {vs:List β} (h:All2 R xs ys) (k:All2 R us vs):All2 R (xs++us) (ys++vs):=by
 induction h with
 | nil=>exact k
 | cons a r ih=>exact .cons a ih
theorem z5x {H:Hp} :∀{rows:List PyData} {os:List V},All2 (HPd H) rows os->(rows.all λ r=>(listD r).isSome)=true->∃oss,All2 (LsAt H) oss os/\All2 (HPd H) (flatP rows) oss.flatten
 | _,_,.nil,_=>⟨[],.nil,.nil⟩
 | r :: rows,_,.cons a al,h=>by
  rw [M5,X3] at h;obtain ⟨oss,g,e⟩:=z5x al h.2;cases r with
  | list ds=>obtain ⟨b,c,rfl,d,f⟩:=a;exact ⟨c :: oss,.cons ⟨b,rfl,d⟩ g,zjq f.all e⟩
  | _=>cases h.1
theorem zjf {H:Hp} {d:PyData} {v:V} (h:HPd H d v) :∃T,TagOf H v T/\decide (T = "list")=(listD d).isSome:=by
 cases d with
 | none=>cases (show v=.non from h);exact ⟨_,rfl,rfl⟩
 | bool b=>cases (show v=.bl b from h);exact ⟨_,rfl,rfl⟩
 | int i=>cases (show v=.int i from h);exact ⟨_,rfl,rfl⟩
 | str z=>cases (show v=.str z from h);exact ⟨_,rfl,rfl⟩
 | list ds=>obtain ⟨a,c,rfl,e,_⟩:=h;exact ⟨_,.inl ⟨⟨_,e⟩,rfl⟩,rfl⟩
 | tuple ds=>obtain ⟨a,c,rfl,e,_⟩:=h;exact ⟨_,.inr (.inl ⟨⟨_,e⟩,rfl⟩),rfl⟩
 | dict ds=>obtain ⟨_,a,rfl,e⟩:=h;exact ⟨_,.inr (.inr ⟨⟨_,e⟩,rfl⟩),rfl⟩
def z9t:Sp:=λ vs H Q _=>∃x rows,vs=[.str "register",x,.int 6,.int 24]/\HPd H (.list rows) x/\PlOk rows/\∀H',Same H H'->Q (.bl (planB rows)) H'
theorem zfk (T:TX (kx w) mg) (c0:Ca P w mg base "planned" ["plan"] 1 (z6b (kx w))) (c3:Ca P w mg base "is_planned" ["kind","deed"] 5 z5c):Fo P w mg base CX0 6 186 y1x ["kind","plan","most_hands","most_deeds"] z9t:=by
 refine (z7p w.params).ok sc_is_plan (λ vs H Q E h=>?_) (λ a2 A a3 s H vs Q E M h=>?_)
 ·obtain ⟨x,j,rfl,_⟩:=h;rfl
 ·obtain ⟨x,j,rfl,⟨a,L,rfl,t,I⟩,J,q⟩:=h;refine ⟨_,(z02 (ps_if (PW.pt (pw_or (pt_not (pt_val (z06 z0n rfl (T.no (z0l _)) R3 (z01 (pv 1) (z01 (z2p (v:=.ty "list") rfl (T.no (n_list _)) j1e rfl) pa_nil))) (λ _=>rfl))) (pw_or (z09 op_gt (z06 z0i rfl (T.no (n_len _)) A2 (z01 (pv 1) pa_nil)) (pv 2) (nomark _)) (pw_or1 (pt_not (pt_val (z06 (z3e rfl) rfl (T.no (n_all _)) j11 (z01 (pe_cg (xs:=["own"]) (g:=gName 0) (fr:=[]) (z1l (pv 1)) (λ _ _ _ _ _=>(pg_cn (N:=["own"]) 0)) (λ _ _ _ _ _=>pf_nil) (λ _ _ _ _ _=>(z06 z0n rfl (T.no (z0l _)) R3 (z01 (pv 0) (z01 (z2p (v:=.ty "list") rfl (T.no (n_list _)) j1e rfl) pa_nil))))) pa_nil)) (λ _=>rfl)))))))
   (z05 (ps_ret pe_bl))
   z0d)
   (z02 (ps_set (i:=4) sc_is_plan.nd rfl (O1 rfl) (pe_cal c0 (M.mono (by decide)) rfl (z01 (pv 1) pa_nil)))
   (z05 (ps_ret (pe_and (z28 op_le (z06 z0i rfl (T.no (n_len _)) A2 (z01 (pv 4) pa_nil)) (pv 3) (nomark _)) (pe_one (z06 (z3e rfl) rfl (T.no (n_all _)) j11 (z01 (pe_cg (xs:=["deed"]) (g:=gName 0) (fr:=[(0,"kind")]) (z1l (pv 4)) (λ _ _ _ _ _=>(pg_cn (N:=["deed","kind"]) 0)) (λ _ _ _ _ _=>pf_nil) (λ _ _ _ _ _=>(pe_cal c3 (M.mono (by decide)) rfl (z01 (pv 1) (z01 (pv 0) pa_nil))))) pa_nil)))))))),?_⟩
  have lo:=I.length;have ln:=J.n;refine sq_if (t_or ?_);refine ⟨_,rfl,_,_,"list",rfl,.inl ⟨⟨_,t⟩,rfl⟩,by decide,_,rfl,iteN (by decide) ?_⟩;refine t_or ?_;refine ⟨_,rfl,.inl ⟨a,_,rfl,.inl (SqL.of t),_,rfl,_,_,rfl,rfl,_,rfl,?_⟩⟩;by_cases l6:j.length<=6;rotate_left
  ·have e:planB j=false:=by unfold planB;rw [decide_eq_false l6];rfl
   rw [e] at q;exact iteP (decide_eq_true (by omega)) (iteP rfl (sq_ret (q _ (Same.refl _))))
  refine iteN (λ e=>absurd (of_decide_eq_true e) (by omega)) ?_;refine tB_not (e_cb1 ?_);refine z2c (K:=KX w.params) (a:=a) (xs:=L) (H1:=H) (λ _=>true) (λ i y _=>∀b,(j.map λ r=>(listD r).isSome)[i]? = some b->y=.bl b) (λ _ _ _ _ _ z=>z) (λ R h=>⟨_,rfl,h⟩) (SqL.of t) (N0 (m:=6) (by omega) (by decide)) ?_ ?_
  ·intro i hi v H1 D G KT KF F k2;obtain ⟨d,hd,u⟩:=z0k I.all G;obtain ⟨T1,u,e1⟩:=zjf u;refine ⟨[some v],rfl,rfl,iteT ?_⟩;refine ⟨_,rfl,_,_,T1,rfl,u.same D,by decide,?_⟩;rw [z6p u (by decide)];refine F rfl _ _ (Same.refl _) λ b l=>?_;rw [S0,hd] at l;cases l;rw [e1]
  intro V H1 p D a1 W;rw [List.filter_eq_self.mpr (λ _ _=>rfl)] at W;obtain ⟨c1,c2⟩:=all_bl (zeo (by rw [I0];exact lo.symm) W);refine ⟨V,p,rfl,SqL.of z04,c1,?_⟩;rw [c2];have k:=D.trans (Same.upd (o:=.lst p) a1);generalize upd H1 V (.lst p)=H2 at k⊢;have em:((j.map λ r=>(listD r).isSome).all id)=j.all λ r=>(listD r).isSome:=by rw [K8];rfl
  rw [em];cases eb:j.all λ r=>(listD r).isSome with
  | false=>
   have e:planB j=false:=by unfold planB;rw [eb];simp
   rw [e] at q;exact ⟨_,rfl,iteP rfl (sq_ret (q _ k))⟩
  | true=>
  refine ⟨_,rfl,iteN (by decide) ?_⟩;obtain ⟨S,z,Y⟩:=z5x I.all eb;have lf:=J.f;have lz:=z03 Y;refine t_nx (z0b ?_);refine ⟨_,rfl,a,L,S,rfl,k _ _ t,z00 (λ _ _ z=>LsAt.same k z) z,by omega,λ X H3 B U=>?_⟩;refine g_name ?_;refine sq_ret ?_;refine ⟨_,rfl,.inl ⟨X,_,rfl,.inl (SqL.of U),_,rfl,_,_,rfl,rfl,_,rfl,?_⟩⟩;have e0:planB j=(decide ((flatP j).length<=24) && (flatP j).all z1b):=by unfold planB;rw [eb,decide_eq_true l6];rfl
  rw [e0] at q;by_cases c6:(flatP j).length<=24
  ·rw [decide_eq_true c6,N5] at q;refine iteP (decide_eq_true (by omega)) ?_;refine e_cb1 ?_;refine z2c (K:=KX w.params) (a:=X) (xs:=S.flatten) (H1:=H3) (λ _=>true) (λ i y _=>∀b,((flatP j).map z1b)[i]? = some b->y=.bl b) (λ _ _ _ _ _ z=>z) (λ R h=>⟨_,rfl,h⟩) (SqL.of U) (N0 (m:=100) (by omega) (by decide)) ?_ ?_
   ·intro i hi v H4 C G KT KF F k2;obtain ⟨c,Z,ev⟩:=z0k Y G;refine ⟨[some v],rfl,rfl,iteT ?_⟩;refine ⟨_,rfl,_,rfl,v,c,rfl,ev.same ((k.trans B).trans C),J.s c (B1 Z),λ H5 s5=>F rfl _ _ s5 λ b l=>?_⟩;rw [S0,Z] at l;cases l;rfl
   intro l4 H4 p C a0 O;rw [List.filter_eq_self.mpr (λ _ _=>rfl)] at O;obtain ⟨d1,d2⟩:=all_bl (zeo (by rw [I0];exact lz.symm) O);refine ⟨l4,p,rfl,SqL.of z04,d1,?_⟩;rw [d2,K8];exact q _ ((k.trans B).trans (C.trans (Same.upd a0)))
  ·rw [decide_eq_false c6,U7] at q;exact iteN (λ e=>c6 (by have:=of_decide_eq_true e;omega)) (q _ (k.trans B))
theorem zf6 {rows:List PyData} (h:planB rows=true):rows.length<=6/\(rows.all λ r=>(listD r).isSome)=true/\(flatP rows).length<=24/\∃os:List (Option Int),flatP rows=os.map ddP:=by
 unfold planB at h;rw [X3,X3,X3] at h;refine ⟨of_decide_eq_true h.1,h.2.1,of_decide_eq_true h.2.2.1,?_⟩;have b :∀a:List PyData,a.all z1b=true->∃os:List (Option Int),a=os.map ddP:=by
  intro a;induction a with
  | nil=>exact λ _=>⟨[],rfl⟩
  | cons d a ih=>intro h;rw [M5,X3] at h;obtain ⟨o,rfl⟩:=zf8 h.1;obtain ⟨os,rfl⟩:=ih h.2;exact ⟨o :: os,rfl⟩
 exact b _ h.2.2.2
theorem ws_dd (os:List (Option Int)):wsP (os.map ddP)=os.filterMap id:=by unfold wsP;rw [List.filterMap_map];congr 1;funext o;exact wr1_dd o
theorem zca {α β:Type} {R S:α->β->Prop} :∀{xs:List α} {ys:List β},(∀a b,a∈xs->R a b->S a b)->All2 R xs ys->All2 S xs ys
 | _,_,_,.nil=>.nil
 | _,_,h,.cons a r=>.cons (h _ _ (.head _) a) (zca (λ x y c=>h x y (.tail _ c)) r)
theorem ws_of {os:List (Option Int)} {zs ys:List V} (lz:zs.length=os.length) (h:All2 (λ (i:Nat) y=>∀k,os[i]? = some (some k)->y=V.int k) ((W0 zs.length).filter λ i=>(os[i]?.getD none).isSome) ys):ys=(os.filterMap id).map V.int:=by
 rw [lz] at h;clear lz zs;have g :∀(n:Nat) (os:List (Option Int)) (ys:List V),All2 (λ (i:Nat) y=>∀k,os[i - n]? = some (some k)->y=V.int k) ((j47 n os.length).filter λ i=>(os[i - n]?.getD none).isSome) ys->ys=(os.filterMap id).map V.int:=by
  intro n os;induction os generalizing n with
  | nil=>intro ys h;cases h;rfl
  | cons o os ih=>
   intro ys h;have f :∀(l:List Nat),(∀i∈l,n < i)->(l.filter λ i=>((o :: os)[i - n]?.getD none).isSome)=l.filter λ i=>(os[i - (n + 1)]?.getD none).isSome:=λ l e=>List.filter_congr λ i b=>by have:=e i b;rw [show i - n=(i - (n + 1)) + 1 by omega,E3]
   have d :∀i∈j47 (n + 1) os.length,n < i:=λ i b=>by
    have:=(List.mem_range'.mp b)
    omega
   rw [Y0,List.range'_succ,List.filter_cons,f _ d] at h;have c :∀ys,All2 (λ (i:Nat) y=>∀k,(o :: os)[i - n]? = some (some k)->y=V.int k) ((j47 (n + 1) os.length).filter λ i=>(os[i - (n + 1)]?.getD none).isSome) ys->ys=(os.filterMap id).map V.int:=λ ys h=>by refine ih (n + 1) ys (zca (λ i y b m k j=>m k ?_) h);have:=d i (List.mem_filter.mp b).1;rw [show i - n=(i - (n + 1)) + 1 by omega,E3];exact j
   rw [Q8,G4] at h;cases o with
   | none=>rw [if_neg (show ¬ ((some (none:Option Int)).getD none).isSome=true from E1)] at h;exact c ys h
   | some k=>
    rw [if_pos (show ((some (some k)).getD none).isSome=true from rfl)] at h;cases h with
    | cons a r=>rw [a k (by rw [Q8];rfl),c _ r];rfl
 refine g 0 os ys ?_;rw [<-List.range_eq_range'];exact h
def z5b (K:o0):Sp:=λ vs H Q E=>∃(m:Int) (x:V) (rows:List PyData),vs=[.int m,x]/\HPd H (.list rows) x/\PlOk rows/\
 (∀H',Same H H'->(m=3\/m=5)->goodB rows=true->Q .non H')/\(∀H',Same H H'->(m=3\/m=5->goodB rows=false)->E (.ref 82) none H')
theorem in35 {m:Int}:inV (.int m) [.int 3,.int 5]=decide (m=3\/m=5):=by rw [show ([.int 3,.int 5]:List V)=([3,5]:List Int).map V.int from rfl,z5y];simp
theorem z9b (T:TX (kx w) mg) (c0:Ca P w mg base "is_whole" ["value"] 1 z3b) (c1:Ca P w mg base "is_plan" ["kind","plan","most_hands","most_deeds"] 6 z9t) (c2:Ca P w mg base "planned" ["plan"] 1 (z6b (kx w))):Fo P w mg base (CXE P w base) 7 382 y0x ["many","plan"] (z5b (kx w)):=by
 refine (z3r w.params).okE sc_check_plan (λ vs H Q E h=>?_) (λ a4 A a5 s H vs Q E O h=>?_)
 ·obtain ⟨m,x,B,rfl,_⟩:=h;rfl
 ·obtain ⟨m,x,B,rfl,hx,pk,q,qe⟩:=h;refine ⟨_,(z02 (ps_if (PW.pt (pw_or (pt_not (pt_val (pe_cal c0 (O.mono (by decide)) rfl (z01 (pv 0) pa_nil)) (λ _=>rfl))) (pw_or1 (z09 z66 (pv 0) (pe_tup (z01 pe_int (z01 pe_int pa_nil))) (by with_unfolding_all rfl)))))
   (z05 (z86 L9 (T.of (zbc _)) (zap _) rfl (z01 pe_str pa_nil)))
   z0d)
   (z02 (ps_if (pt_not (pt_val (pe_cal c1 (O.mono (by decide)) rfl (z01 pe_str (z01 (pv 1) (z01 (z1z (v:=.int (6)) rfl (T.of (zba _)) ⟨_,rfl⟩) (z01 (z1z (v:=.int (24)) rfl (T.of (zaj _)) ⟨_,rfl⟩) pa_nil))))) (λ _=>rfl)))
   (z05 (z86 L9 (T.of (zbc _)) (zap _) rfl (z01 pe_str pa_nil)))
   z0d)
   (z02 (zbu (i:=2) sc_check_plan.nd rfl (O1 rfl) (xs:=["verb","worth"]) (g:=gTup (kx w) 2 (gCons (gName 0) (gCons (gName 1) gNil))) (fr:=[]) rfl (z1l (pe_cal c2 (O.mono (by decide)) rfl (z01 (pv 1) pa_nil))) (λ _ z=>absurd z L0) (zbl rfl) (λ _ z=>absurd z L0) (by decide +kernel) rfl (by decide +kernel) (λ _ _ _ _ _=>(pg_tup rfl (z0s (pg_cn (N:=["verb","worth"]) 0) (z0s (pg_cn (N:=["verb","worth"]) 1) z6f)))) (λ _ _ _ _ _=>(pf_one (z09 opEq (pv 0) pe_str (nomark _)))) (λ _ _ _ _ _=>(pv 1)))
   (z05 (ps_if (PW.pt (pw_or (z09 zc7 pe_int (pv 2) (by with_unfolding_all rfl)) (pw_or1 (z09 op_lt (zhg rfl rfl (T.no (n_len _)) rfl (T.no (n_set _)) A2 boot_set (pv 2)) (z06 z0i rfl (T.no (n_len _)) A2 (z01 (pv 2) pa_nil)) (nomark _)))))
   (z05 (z86 L9 (T.of (zbc _)) (zap _) rfl (z01 pe_str pa_nil)))
   z0d))))),?_⟩
  have F :∀{f:Hp},Same H f->(m=3\/m=5->goodB B=false)->(1:Nat)<=sizeLine/\E (.ref 82) none f:=λ s' b=>⟨by decide,qe _ s' b⟩
  refine sq_if (t_or (tB_not ?_));refine ⟨_,rfl,_,"int",rfl,rfl,?_⟩;refine ⟨_,rfl,iteN (by decide) ?_⟩;refine ⟨_,rfl,w_2,λ p hp=>⟨p,_,rfl,.inr (SqT.of z04),rfl,rfl,_,rfl,?_⟩⟩;have L:=Same.upd (o:=.tup [.int 3,.int 5]) hp;generalize upd H p (.tup [.int 3,.int 5])=H1 at L⊢;rw [in35];by_cases m35:m=3\/m=5;rotate_left
  ·rw [decide_eq_false m35];exact iteP rfl (F L λ z=>absurd z m35)
  rw [decide_eq_true m35];refine iteN (by decide) ?_;refine t_nx (sq_if (tB_not ?_));refine ⟨_,rfl,x,B,rfl,hx.same L,pk,λ H2 s2=>?_⟩;have j:=L.trans s2;cases hb:planB B with
  | false=>exact ⟨_,rfl,iteP rfl (F j λ _=>by unfold goodB;rw [hb];rfl)⟩
  | true=>
  refine ⟨_,rfl,iteN (by decide) ?_⟩;obtain ⟨l6,al,J,c,a1⟩:=zf6 hb;have n:goodB B=(decide ((0:Int)∉c.filterMap id) && decide (c.filterMap id).Nodup):=by unfold goodB;rw [hb,a1,ws_dd];rfl
  obtain ⟨a,a3,rfl,ea,a2⟩:=hx;obtain ⟨a0,z,Z⟩:=z5x a2.all al;have D:=z03 Z;rw [a1] at Z D J;rw [I0] at D J;refine t_nx (z0b ?_);refine zja (K:=KX w.params) (λ l W f=>Same H2 f/\f l=some (.lst W)/\W=a0.flatten) (λ R h=>?_) (λ a' xs H1 z=>⟨SqL.of z.2.1,?_⟩) (λ i=>(c[i]?.getD none).isSome) (λ i y _=>∀k,c[i]? = some (some k)->y=V.int k) (λ _ _ _ _ _ z=>z) ?_ ?_
  ·exact ⟨_,rfl,a,a3,a0,rfl,j _ _ ea,z00 (λ _ _ z=>LsAt.same j z) z,by omega,λ l H3 r X=>h _ _ _ ⟨r,X,rfl⟩⟩
  ·rw [z.2.2,D];exact N0 (m:=24) J (by decide)
  ·rintro l xs H3 ⟨r,X,rfl⟩ i hi v H4 s4 hv KT KF h1 h2;obtain ⟨d,u,I⟩:=z0k Z hv;rw [S0] at u;cases ho:c[i]? with
   | none=>rw [ho] at u;cases u
   | some o=>
   rw [ho] at u;cases u;rw [ho] at h1 h2;have I:=I.same (j.trans (r.trans s4));cases o with
   | none=>obtain ⟨p,zs,rfl,S,M,r1,rfl,e1,U,Y,rfl,t,e3⟩:=I;cases (show M=.str "read" from e1);cases (show U=.non from t);cases (show Y=[] from e3);refine ⟨p,_,rfl,SqT.of S,rfl,_,_,rfl,_,_,rfl,rfl,[some (.str "read"),some .non],rfl,rfl,?_⟩;exact ⟨_,rfl,rfl,_,rfl,iteK (h2 rfl _ (Same.refl _))⟩
   | some k=>obtain ⟨p,zs,rfl,S,M,r1,rfl,e1,U,Y,rfl,t,e3⟩:=I;cases (show M=.str "write" from e1);cases (show U=.int k from t);cases (show Y=[] from e3);refine ⟨p,_,rfl,SqT.of S,rfl,_,_,rfl,_,_,rfl,rfl,[some (.str "write"),some (.int k)],rfl,rfl,?_⟩;exact ⟨_,rfl,rfl,_,rfl,iteP (by decide +kernel) ⟨_,rfl,h1 rfl _ _ (Same.refl _) λ k' e=>by cases e;rfl⟩⟩
  rintro l xs H3 ⟨r,X,rfl⟩ l1 H4 W s4 hl1 al1;have ey:=ws_of (by rw [D]) al1;subst ey;have lu:(c.filterMap id).length<=24:=N0 (g8 _ _) J;generalize c.filterMap id=us at lu n al1⊢;have s5:=Same.upd (o:=.lst (us.map V.int)) hl1;have G:upd H4 l1 (.lst (us.map V.int)) l1=some (.lst (us.map V.int)):=z04;have C:=j.trans (r.trans (s4.trans s5));generalize upd H4 l1 (.lst (us.map V.int))=H5 at s5 G C⊢;refine g_name ?_;refine z15 (t_or ?_);refine ⟨_,rfl,l1,_,rfl,.inl (SqL.of G),rfl,zc8 _,_,rfl,?_⟩;by_cases n0:(0:Int)∈us
  ·exact iteP (by show inV _ _=true;rw [z5y,decide_eq_true n0]) (iteP rfl (F C λ _=>by rw [n,decide_eq_false (λ h=>h n0)];rfl))
  refine iteN (by show ¬ inV _ _=true;rw [z5y,decide_eq_false n0];decide) ?_;refine ⟨_,rfl,l1,us,rfl,SqL.of G,by omega,_,rfl,.inl ⟨l1,_,rfl,.inl (SqL.of G),_,_,rfl,rfl,_,rfl,?_⟩⟩;rw [decide_eq_true n0,N5] at n;by_cases nd:us.Nodup;rotate_left
  ·refine iteP (decide_eq_true ?_) (F C λ _=>by rw [n,decide_eq_false nd]);rw [I0];rcases Nat.lt_or_ge (us.foldl addI []).length us.length with z|z
   ·omega
   ·exact absurd (zc0 us [] (by rw [T3,G5];exact z)).1 nd
  ·refine iteN (λ e=>?_) (q _ C m35 (by rw [n,decide_eq_true nd]));have:=of_decide_eq_true e;have t:=z9z us [] nd (λ _ _ h=>by cases h);rw [I0] at this;rw [t,T3,G5] at this;omega
theorem z3i {K:o0} {ta tv:TE} {f:Str} {rest:TS} {D:Ends} {σ:L2.St} {H:Hp} (h:tv σ H λ y H1=>ta σ H1 λ x H2=>∃a C dx fs,x=.ref a/\H2 a=some (.ins C dx fs)/\Cls K C/\NoAttr K C f/\fs.length < 1000/\rest D σ (upd H2 a (.ins C dx (putF f y fs)))):tSeq (sFld K ta tv f) rest D σ H:=h
theorem zei {K:o0} {ta tv:TE} {f:Str} {D:Ends} {σ:L2.St} {H:Hp} (h:tv σ H λ y H1=>ta σ H1 λ x H2=>∃a C dx fs,x=.ref a/\H2 a=some (.ins C dx fs)/\Cls K C/\NoAttr K C f/\fs.length < 1000/\D.nx σ (upd H2 a (.ins C dx (putF f y fs)))):sFld K ta tv f D σ H:=h
theorem ze5 (f:Str) (v:V) :∀fs:List (Str×V),(putF f v fs).length<=fs.length + 1
 | []=>K0 _
 | (g,x) :: r=>by
  unfold putF;split
  ·simp
  ·have:=ze5 f v r;simp only [Y0];omega
theorem z18 {K:o0} {x dx C:Addr} {H H1:Hp} {fs:List (Str×V)} {R:L2.St->Hp->Prop} {σ:L2.St} {f:Str} {y:V} {i n:Nat} (k:Kept x H H1) (e:H1 x=some (.ins C dx fs)) (hv:σ[i]? = some (some (.ref x))) (c:Cls K C) (na:NoAttr K C f) (l:fs.length<=n) (hn:n < 100)
  (q :∀H2,Kept x H H2->(∀b o,b≠x->H1 b=some o->H2 b=some o)->H2 x=some (.ins C dx (putF f y fs))->(putF f y fs).length<=n + 1->R σ H2) :
  tVar i σ H1 λ z H2=>∃a C dx fs,z=.ref a/\H2 a=some (.ins C dx fs)/\Cls K C/\NoAttr K C f/\fs.length < 1000/\R σ (upd H2 a (.ins C dx (putF f y fs))):=
 ⟨_,hv,x,C,dx,fs,rfl,e,c,na,by omega,q _ (k.trans .set) (λ b o d g=>by rw [upd_ne d];exact g) z04 (N0 (ze5 f y fs) (by omega))⟩
theorem Kept.upd {x p:Addr} {H:Hp} {o:HO} (h:H p=none):Kept x H (upd H p o):=(Same.upd h).kept
end
section
noncomputable def mixZ (c k:Int):Int:=((c + 15485867 * (k + 1)) % 2147483579 * ((c + 15485867 * (k + 1)) % 2147483579) % 2147483563) * (((c + 15485867 * (k + 1)) % 2147483579 * ((c + 15485867 * (k + 1)) % 2147483579) % 2147483563) + 9001 + 5 * k) % 2147483549 / 32
noncomputable def rowsP (pl:List (List (Option Int))):List PyData:=pl.map λ r=>.list (r.map ddP)
structure PlG (pl:List (List (Option Int))):Prop where
 n0:0 < pl.length
 n6:pl.length<=6
 f:pl.flatten.length<=24
 nd:(pl.flatten.filterMap id).Nodup
 nz:(0:Int)∉pl.flatten.filterMap id
 bd :∀i∈pl.flatten.filterMap id,-1000000000<=i/\i<=1000000000
theorem ze9 (L:List (List PyData)):flatP (L.map PyData.list)=L.flatten:=by
 unfold flatP;rw [F5];congr 1;induction L with
 | nil=>rfl
 | cons a r ih=>rw [Y1,ih];rfl
theorem ziu (pl:List (List (Option Int))):rowsP pl=(pl.map (List.map ddP)).map PyData.list:=by unfold rowsP;rw [F5];rfl
theorem z7w (pl:List (List (Option Int))):flatP (rowsP pl)=pl.flatten.map ddP:=by rw [ziu,ze9,List.map_flatten]
theorem zax {i:Int} (h0:-1000000000<=i) (h1:i<=1000000000):z1b (ddP (some i))=true:=by show deedP (.str "register") (.str "write") (.int i)=true;unfold deedP;dsimp only;rw [if_neg (by decide +kernel),if_pos (by decide +kernel)];show z0h (.int i) 1000000000=true;unfold z0h;dsimp only;rw [decide_eq_true h0,decide_eq_true h1];rfl
theorem zb2:z1b (ddP none)=true:=by decide +kernel
theorem zg8 {pl:List (List (Option Int))} (h:PlG pl):goodB (rowsP pl)=true:=by
 unfold goodB planB;rw [z7w,ws_dd,I0,decide_eq_true h.f,decide_eq_true h.nz,decide_eq_true h.nd,decide_eq_true (show (rowsP pl).length<=6 by unfold rowsP;rw [I0];exact h.n6)];have c:((rowsP pl).all λ r=>(listD r).isSome)=true:=by unfold rowsP;rw [K8];exact List.all_eq_true.mpr λ _ _=>rfl
 have b:((pl.flatten.map ddP).all z1b)=true:=by
  rw [K8];refine List.all_eq_true.mpr λ o a=>?_;cases o with
  | none=>exact zb2
  | some i=>have:=h.bd i (List.mem_filterMap.mpr ⟨_,a,rfl⟩);exact zax this.1 this.2
 rw [c,b];rfl
theorem zig (o:Option Int):smallB (ddP o)=true:=by cases o<;>rfl
theorem zl4 {pl:List (List (Option Int))} (h:PlG pl):PlOk (rowsP pl):=by have:=h.n6;have:=h.f;refine ⟨by unfold rowsP;rw [I0];omega,by rw [z7w,I0];omega,λ d a=>?_⟩;rw [z7w] at a;obtain ⟨o,_,rfl⟩:=List.mem_map.mp a;exact zig o
theorem zaq {n:Nat} :∀{ds:List PyData},(∀d∈ds,d.depth<=n)->F2 ds<=n
 | [],_=>J2 _
 | d :: ds,h=>by show max d.depth (F2 ds)<=n;have b:=h d (.head _);have c:=zaq (ds:=ds) λ e a=>h e (.tail _ a);omega
theorem z63 {α:Type} :∀{L:List (List α)} {h:Nat} {own X:List α},L[h]? = some own->(L.set h X).flatten.Perm (X++(L.eraseIdx h).flatten)/\L.flatten.Perm (own++(L.eraseIdx h).flatten)
 | a :: L,0,own,X,e=>by cases (show some a=some own from e);exact ⟨.refl _,.refl _⟩
 | a :: L,h + 1,own,X,e=>by
  obtain ⟨d,c⟩:=z63 (L:=L) (h:=h) (own:=own) (X:=X) (by simpa using e);have b :∀(Y:List α),(a++(Y++(L.eraseIdx h).flatten)).Perm (Y++(a++(L.eraseIdx h).flatten)):=λ Y=>by rw [<-E2,<-E2];exact List.perm_append_comm.append_right _
  exact ⟨(d.append_left a).trans (b X),(c.append_left a).trans (b own)⟩
end
section
variable {P:Program} {w:Z0} {mg:Str->Option Value} {base:Heap}
def z1f (K:o0):Sp:=λ vs H Q _=>∃(a:Addr) (ns:List Int) (k:Nat),vs=[.ref a,.int (k:Nat)]/\SqL K H a (ns.map V.int)/\∀i,Q (.int i) H
theorem z78 (T:TX (kx w) mg):Fo P w mg base CX0 1 396 y0g ["script","k"] (z1f (kx w)):=by
 refine (z2e w.params).ok z77 (λ d H Q E h=>?_) (λ g A f s H d Q E i h=>?_)
 ·obtain ⟨a,b,k,rfl,_⟩:=h;rfl
 ·obtain ⟨a,b,k,rfl,c,q⟩:=h;refine ⟨_,(z02 (ps_if (z09 op_lt (pv 1) (z06 z0i rfl (T.no (n_len _)) A2 (z01 (pv 0) pa_nil)) (nomark _))
   (z05 (ps_ret (pe_ix ix_seq (pv 0) (pv 1) (λ _ _=>rfl))))
   z0d)
   (z05 (ps_ret pe_int))),?_⟩
  refine sq_if ?_;refine ⟨_,rfl,_,rfl,.inl ⟨a,_,rfl,.inl c,_,_,rfl,rfl,_,rfl,?_⟩⟩;by_cases z:k < b.length
  ·refine iteP (decide_eq_true (by rw [I0];omega)) ?_;refine ⟨_,rfl,_,rfl,.inl ⟨a,_,k,.int b[k],rfl,rfl,c,z08 (by rw [S0,A0 z];rfl),q _⟩⟩
  ·exact iteN (λ e=>z (by have:=of_decide_eq_true e;rw [I0] at this;omega)) (t_nx (sq_ret (q 0)))
def z29:Sp:=λ vs H Q _=>∃(c k:Int),vs=[.int c,.int k]/\0<=k/\k < 1000/\Q (.int (mixZ c k)) H
theorem zd9 (T:TX (kx w) mg):Fo P w mg base CX0 1 403 y1k ["cell","k"] z29:=by
 refine (z69 w.params).ok sc__law_mix (λ d H Q E h=>?_) (λ g A e s H d Q E j h=>?_)
 ·obtain ⟨c,k,rfl,_⟩:=h;rfl
 ·obtain ⟨c,k,rfl,f,l,q⟩:=h;refine ⟨_,(z02 (ps_set (i:=2) sc__law_mix.nd rfl (O1 rfl) (pe_op op_mod (pe_op opAdd (pv 0) (pe_op op_mul pe_int (pe_op opAdd (pv 1) pe_int))) pe_int))
   (z02 (ps_set (i:=2) sc__law_mix.nd rfl (O1 rfl) (pe_op op_mod (pe_op op_mul (pv 2) (pv 2)) pe_int))
   (z05 (ps_ret (pe_op z1e (pe_op op_mod (pe_op op_mul (pv 2) (pe_op opAdd (pe_op opAdd (pv 2) pe_int) (pe_op op_mul pe_int (pv 1)))) pe_int) pe_int))))),?_⟩
  refine ⟨_,rfl,_,rfl,.inl ⟨_,_,rfl,rfl,_,_,rfl,rfl,.inl ⟨by decide,by decide⟩,.inl ⟨_,_,rfl,rfl,_,_,rfl,rfl,(show (0:Int) < 2147483579 by decide),?_⟩⟩⟩;have a :∀z:Int,-(2 ^ 64) < z % 2147483579/\z % 2147483579 < 2 ^ 64:=λ z=>⟨by omega,by omega⟩
  have b :∀z:Int,-(2 ^ 64) < z % 2147483563/\z % 2147483563 < 2 ^ 64:=λ z=>⟨by omega,by omega⟩
  refine ⟨_,rfl,_,rfl,_,_,rfl,rfl,.inl (a _),_,_,rfl,rfl,(show (0:Int) < 2147483563 by decide),?_⟩;exact ⟨_,rfl,_,rfl,.inl ⟨_,_,rfl,rfl,_,rfl,_,_,rfl,rfl,.inl ⟨by decide,by decide⟩,.inl ⟨_,_,rfl,rfl,_,_,rfl,rfl,.inl (b _),_,_,rfl,rfl,(show (0:Int) < 2147483549 by decide),_,_,rfl,rfl,⟨by decide,by decide⟩,q⟩⟩⟩
theorem p18c:CPow 10 18:=⟨by decide,by decide,by decide⟩
def z5f:Sp:=λ vs H Q _=>∃(c:Int) (a:Addr) (ls:List Int),vs=[.int c,.ref a]/\H a=some (.lst (ls.map V.int))/\(∀l∈ls,0 < l/\l < 2 ^ 62)/\ls.length<=30/\
 ∀(b:Addr) (xs:List Int) H',Same H H'->H b=none->H' b=some (.lst (xs.map V.int))->xs.length=ls.length->(∀(j:Nat) x l,xs[j]? = some x->ls[j]? = some l->0<=x/\x < l)->Q (.ref b) H'
theorem z9d (T:TX (kx w) mg) (c0:Ca P w mg base "_law_mix" ["cell","k"] 1 z29):Fo P w mg base CX0 2 410 y0z ["cell","least"] z5f:=by
 refine (z3l w.params).ok sc__law_parts (λ S H Q E h=>?_) (λ U A Y s H S Q E L h=>?_)
 ·obtain ⟨c,a,e,rfl,_⟩:=h;rfl
 ·obtain ⟨c,a,e,rfl,u,M,W,q⟩:=h;refine ⟨_,(z02 (ps_set (i:=2) sc__law_parts.nd rfl (O1 rfl) (pe_lst pa_nil))
   (z02 (ps_set (i:=3) sc__law_parts.nd rfl (O1 rfl) (pe_op op_sub (pv 0) (pe_op op_pow pe_int pe_int)))
   (z02 (ps_for W2 rfl (z0x rfl (T.no (z2a _)) (z01 (z06 z0i rfl (T.no (n_len _)) A2 (z01 (pv 1) pa_nil)) pa_nil)) (z0m (i:=4) sc__law_parts.nd rfl (O1 rfl))
   (z05 (ps_if (z09 op_lt (pv 0) (pe_op op_pow pe_int pe_int) (nomark _))
   (z05 (z0f (z0o (pv 2) (z01 (pe_op op_mod (pe_op op_mul (pe_cal c0 (L.mono (by decide)) rfl (z01 (pv 0) (z01 (pv 4) pa_nil))) pe_int) (pe_ix ix_seq (pv 1) (pv 4) (λ _ _=>rfl))) pa_nil))))
   (z02 (z0f (z0o (pv 2) (z01 (pe_op op_mod (pv 3) (pe_ix ix_seq (pv 1) (pv 4) (λ _ _=>rfl))) pa_nil)))
   (z05 (ps_set (i:=3) sc__law_parts.nd rfl (O1 rfl) (pe_op z1e (pv 3) (pe_ix ix_seq (pv 1) (pv 4) (λ _ _=>rfl)))))))))
   (z05 (ps_ret (pv 2)))))),?_⟩
  refine zi8 ?_;refine ⟨w_0,λ b p=>?_⟩;refine g_name ?_;obtain ⟨X,O,J,d⟩:=newA (.lst []) p;rw [<-O];refine z0b ⟨_,rfl,_,_,rfl,rfl,p18c,_,_,rfl,rfl,g_name ?_⟩;refine ⟨_,rfl,.inl ⟨a,_,rfl,.inl (SqL.of (J _ _ u)),_,rfl,by omega,by rw [I0];omega,?_⟩⟩;rw [Z5,I0];have R:a≠b:=λ z=>by rw [z,p] at u;cases u
  refine z1o (lo:=0) (n:=e.length) (λ i σ G=>∃xs r x4,Same H G/\G b=some (.lst (xs.map V.int))/\xs.length=i/\(∀(j:Nat) x l,xs[j]? = some x->e[j]? = some l->0<=x/\x < l)/\σ=[some (.int c),some (.ref a),some (.ref b),some (.int r),x4]) ⟨[],_,_,J,d,rfl,(λ j x l h=>by simp at h),rfl⟩ ?_ ?_
  ·rintro j σ F K ⟨xs,r,x4,s2,eb,lx,bd,rfl⟩;rw [V6];refine g_name ?_;have v:e[j]? = some e[j]:=A0 K;have f:=M _ (D3 K);generalize e[j]=l at v f;have D:atI (e.map V.int) (j:Nat)=some (.int l):=z08 (by rw [S0,v];rfl);have C:=s2 _ _ u;have snoc :∀y,0<=y->y < l->∀(i:Nat) x t,(xs++[y])[i]? = some x->e[i]? = some t->0<=x/\x < t:=λ y o g i x t d B=>by
    by_cases z:i < xs.length
    ·rw [J1 z] at d;exact bd i x t d B
    ·rw [D1 (by omega)] at d;have N:i - xs.length=0:=by have:=(List.getElem?_eq_some_iff.mp d).1;simp only [Z2] at this;omega
     rw [N] at d;cases d;have:i=j:=by omega
     rw [this,v] at B;cases B;exact ⟨o,g⟩
   have I:(xs.map V.int).length < sizeLine:=by rw [I0];exact X0 (m:=30) (by omega) (by decide)
   refine z15 ?_;refine ⟨_,rfl,_,_,rfl,rfl,p18c,_,_,rfl,rfl,_,rfl,?_⟩;refine ite2 (λ _=>?_) λ _=>?_
   ·refine ⟨_,rfl,.inl ⟨rfl,_,SqL.of eb⟩,_,rfl,_,rfl,c,j,rfl,by omega,by omega,?_⟩;refine ⟨_,_,rfl,rfl,.inr ⟨by decide,by decide⟩,_,rfl,_,rfl,.inl ⟨a,_,_,.int l,rfl,rfl,SqL.of C,D,_,_,rfl,rfl,f.1,?_⟩⟩;have o:=N6 (mixZ c j * 1009) (show l≠0 by omega);have g:=J5 (mixZ c j * 1009) f.1;refine ⟨b,_,_,rfl,rfl,eb,I,xs++[mixZ c j * 1009 % l],_,_,Same.keep s2 p,?_,by rw [G0,lx];rfl,snoc _ o g,rfl⟩;rw [V1];exact z04
   ·refine ⟨_,rfl,.inl ⟨rfl,_,SqL.of eb⟩,_,rfl,_,rfl,_,rfl,.inl ⟨a,_,_,.int l,rfl,rfl,SqL.of C,D,_,_,rfl,rfl,f.1,?_⟩⟩;have o:=N6 r (show l≠0 by omega);have g:=J5 r f.1;refine ⟨b,_,_,rfl,rfl,eb,I,?_⟩;refine ⟨_,rfl,_,rfl,_,rfl,.inl ⟨a,_,_,.int l,rfl,rfl,SqL.of (by rw [upd_ne R];exact C),D,_,_,rfl,rfl,⟨f.1,by omega⟩,?_⟩⟩;refine ⟨xs++[r % l],_,_,Same.keep s2 p,?_,by rw [G0,lx];rfl,snoc _ o g,rfl⟩;rw [V1];exact z04
  ·rintro σ F ⟨xs,r,x4,s2,eb,lx,bd,rfl⟩;exact ⟨_,rfl,q b xs F s2 p eb lx bd⟩
theorem dd_tk {H H':Hp} {o:Option Int} {y:V} (ht :∀p xs,H p=some (.tup xs)->H' p=some (.tup xs)) (h:HPd H (ddP o) y):HPd H' (ddP o) y:=by
 cases o with
 | none=>obtain ⟨p,xs,rfl,e,r⟩:=h;exact ⟨p,xs,rfl,ht _ _ e,r⟩
 | some i=>obtain ⟨p,xs,rfl,e,r⟩:=h;exact ⟨p,xs,rfl,ht _ _ e,r⟩
structure PlJ (H0 H:Hp) (a:Addr) (bs:List Addr) (pl:List (List (Option Int))):Prop where
 l:H a=some (.lst (bs.map V.ref))
 nd:bs.Nodup
 fr :∀b∈bs,H0 b=none/\b≠a
 ln:bs.length=pl.length
 ow :∀(j:Nat) (own:List (Option Int)) (b:Addr),pl[j]? = some own->bs[j]? = some b->∃ys,H b=some (.lst ys)/\All2 (λ o y=>HPd H (ddP o) y) own ys
theorem PlJ.same {H0 H H':Hp} {a:Addr} {bs:List Addr} {pl:List (List (Option Int))} (h:PlJ H0 H a bs pl) (s:Same H H'):PlJ H0 H' a bs pl:=
 ⟨s _ _ h.l,h.nd,h.fr,h.ln,λ j own b f d=>by obtain ⟨c,g,e⟩:=h.ow j own b f d;exact ⟨c,s _ _ g,z00 (λ _ _ z=>z.same s) e⟩⟩
theorem PlJ.add {H0 H:Hp} {a b:Addr} {bs:List Addr} {pl:List (List (Option Int))} {t:Nat} {own:List (Option Int)} {d:Option Int} {ys:List V} {y:V} (h:PlJ H0 H a bs pl) (ht:pl[t]? = some own) (hb:bs[t]? = some b) (ey:H b=some (.lst ys)) (ay:All2 (λ o y=>HPd H (ddP o) y) own ys) (ep:HPd H (ddP d) y) :
  PlJ H0 (upd H b (.lst (ys++[y]))) a bs (pl.set t (own++[d])):=by
 have n:=B1 hb;have i :∀(q:Addr) (g:List V),H q=some (.tup g)->upd H b (.lst (ys++[y])) q=some (.tup g):=λ q g e=>by rw [upd_ne (λ z=>by rw [z,ey] at e;cases e)];exact e
 have lt:t < pl.length:=(List.getElem?_eq_some_iff.mp ht).1;refine ⟨by rw [upd_ne (C2 (h.fr b n).2)];exact h.l,h.nd,h.fr,by rw [R0];exact h.ln,λ j m k f c=>?_⟩;by_cases z:j=t
 ·subst z;rw [hb] at c;cases c;rw [O0 lt] at f;cases f;exact ⟨_,z04,z1g (z00 (λ _ _ z=>dd_tk i z) ay) (dd_tk i ep)⟩
 ·rw [X1 (C2 z)] at f;obtain ⟨u,s,p⟩:=h.ow j m k f c;have r:k≠b:=λ e=>by subst e;have:=(List.getElem?_inj (List.getElem?_eq_some_iff.mp hb).1 h.nd).mp (hb.trans c.symm);exact z this.symm
  exact ⟨u,by rw [upd_ne r];exact s,z00 (λ _ _ z=>dd_tk i z) p⟩
theorem z6d {H:Hp} {α:Type} {f:α->PyData} :∀{xs:List α} {ys:List V},All2 (λ o y=>HPd H (f o) y) xs ys->HPds H (xs.map f) ys
 | _,_,.nil=>(rfl:([]:List V)=[])
 | _,_,.cons a r=>⟨_,_,rfl,a,z6d r⟩
theorem z5q {H:Hp} {α:Type} {f:α->PyData} :∀{xs:List α} {ys:List V},HPds H (xs.map f) ys->All2 (λ o y=>HPd H (f o) y) xs ys
 | [],_,h=>by cases (show _=[] from h);exact .nil
 | x :: xs,_,h=>by obtain ⟨y,r,rfl,a,b⟩:=h;exact .cons a (z5q b)
theorem ziv {H:Hp} {a:Addr} {bs:List Addr} {pl:List (List (Option Int))} (l:H a=some (.lst (bs.map V.ref))) (ln:bs.length=pl.length) (ow :∀(j:Nat) (own:List (Option Int)) (b:Addr),pl[j]? = some own->bs[j]? = some b->∃ys,H b=some (.lst ys)/\All2 (λ o y=>HPd H (ddP o) y) own ys):HPd H (.list (rowsP pl)) (.ref a):=by
 have k :∀(pl:List (List (Option Int))) (bs:List Addr),bs.length=pl.length->(∀(j:Nat) (own:List (Option Int)) (b:Addr),pl[j]? = some own->bs[j]? = some b->∃ys,H b=some (.lst ys)/\All2 (λ o y=>HPd H (ddP o) y) own ys)->HPds H (rowsP pl) (bs.map V.ref):=by
  intro pl;induction pl with
  | nil=>intro bs d _;rw [List.length_eq_zero_iff.mp d];exact (rfl:([]:List V)=[])
  | cons p pl ih=>
   intro bs d e;cases bs with
   | nil=>cases d
   | cons b bs=>obtain ⟨ys,i,g⟩:=e 0 p b rfl rfl;exact ⟨_,_,rfl,⟨b,ys,rfl,i,z6d g⟩,ih bs (by simpa using d) λ j own c h f=>e (j + 1) own c (by simpa using h) (by simpa using f)⟩
 exact ⟨a,_,rfl,l,k pl bs ln ow⟩
theorem ziq {pl:List (List (Option Int))} {t:Nat} {own:List (Option Int)} {d:Option Int} (ht:pl[t]? = some own):(pl.set t (own++[d])).flatten.Perm (d :: pl.flatten):=by obtain ⟨a,b⟩:=z63 (X:=own++[d]) ht;refine a.trans (.trans ?_ (b.symm.cons d));rw [E2];exact List.perm_middle
noncomputable def wrF (sg st sp:Int) (k:Nat):Int:=(1 - 2 * sg) * (1 + st + k * (1 + sp))
structure PlK (sg st sp:Int) (n:Nat) (pl:List (List (Option Int))):Prop where
 f:pl.flatten.length=n
 nd:(pl.flatten.filterMap id).Nodup
 by_ :∀i∈pl.flatten.filterMap id,∃k:Nat,k < n/\i=wrF sg st sp k
theorem zkk {sg st sp:Int} {i j:Nat} (s0:sg=0\/sg=1) (p0:0<=sp) (h:wrF sg st sp i=wrF sg st sp j):i=j:=by
 unfold wrF at h;have a:(i:Int) * (1 + sp)=(j:Int) * (1 + sp):=by rcases s0 with rfl|rfl<;>omega
 have:=Int.eq_of_mul_eq_mul_right (show (1 + sp)≠0 by omega) a;omega
theorem wrF_bd {sg st sp:Int} {k:Nat} (s0:sg=0\/sg=1) (t0:0<=st) (t1:st < 400000000) (p0:0<=sp) (p1:sp < 20000000) (hk:k < 24):wrF sg st sp k≠0/\-1000000000<=wrF sg st sp k/\wrF sg st sp k<=1000000000:=by unfold wrF;have a:0<=(k:Int) * (1 + sp):=Int.mul_nonneg (by omega) (by omega);have b:(k:Int) * (1 + sp)<=23 * (1 + sp):=Int.mul_le_mul_of_nonneg_right (by omega) (by omega);rcases s0 with rfl|rfl<;>omega
theorem PlK.add {sg st sp:Int} {n:Nat} {pl:List (List (Option Int))} {t:Nat} {own:List (Option Int)} {d:Option Int} (h:PlK sg st sp n pl) (s0:sg=0\/sg=1) (p0:0<=sp) (ht:pl[t]? = some own) (hd:d=none\/d=some (wrF sg st sp n)):PlK sg st sp (n + 1) (pl.set t (own++[d])):=by
 have b:=ziq (d:=d) ht;have c:=b.filterMap (id:Option Int->Option Int);refine ⟨by rw [b.length_eq,Y0,h.f],?_,λ i a=>?_⟩
 ·rw [c.nodup_iff];rcases hd with rfl|rfl
  ·exact h.nd
  ·refine List.nodup_cons.mpr ⟨λ z=>?_,h.nd⟩;obtain ⟨k,g,e⟩:=h.by_ _ z;have:=zkk s0 p0 e;omega
 ·have a:=c.mem_iff.mp a;rcases hd with rfl|rfl
  ·obtain ⟨k,g,e⟩:=h.by_ i a;exact ⟨k,by omega,e⟩
  ·rcases List.mem_cons.mp a with rfl|a
   ·exact ⟨n,by omega,rfl⟩
   ·obtain ⟨k,g,e⟩:=h.by_ i a;exact ⟨k,by omega,e⟩
def z67 (K:o0):Sp:=λ vs H Q _=>∃(a:Addr) (ns:List Int) (hn mo:Nat) (wr:Int),vs=[.ref a,.int hn,.int mo,.int wr]/\SqL K H a (ns.map V.int)/\0 < hn/\hn<=6/\0 < mo/\mo<=24/\∀b pl H',Same H H'->PlG pl->pl.length=hn->pl.flatten.length<=mo->HPd H' (.list (rowsP pl)) (.ref b)->Q (.ref b) H'
theorem zar (T:TX (kx w) mg) (c0:Ca P w mg base "_law_cell_at" ["script","k"] 1 (z1f (kx w))) (c3:Ca P w mg base "_law_parts" ["cell","least"] 2 z5f):Fo P w mg base CX0 3 415 y16 ["script","hands","most","writers"] (z67 (kx w)):=by
 refine (z4u w.params).ok sc__law_plan (λ vs H Q E h=>?_) (λ d7 A d5 s H vs Q E Y h=>?_)
 ·obtain ⟨a,ns,F,u,wr,rfl,_⟩:=h;rfl
 ·obtain ⟨a,ns,F,u,wr,rfl,sq,n0,n6,d4,d9,q⟩:=h;refine q_of (z3s (QS.mk (ps_asg (pe_cal c3 (Y.mono (by decide)) rfl (z01 (pe_cal c0 (Y.mono (by decide)) rfl (z01 (pv 0) (z01 pe_int pa_nil))) (z01 (pe_lst (z01 pe_int (z01 pe_int (z01 pe_int pa_nil)))) pa_nil))) (pg_lst rfl (z0s (z0m (i:=4) sc__law_plan.nd rfl (O1 rfl)) (z0s (z0m (i:=5) sc__law_plan.nd rfl (O1 rfl)) (z0s (z0m (i:=6) sc__law_plan.nd rfl (O1 rfl)) z6f))))))
   (z3s (QS.mk (zbu (i:=7) sc__law_plan.nd rfl (O1 rfl) (xs:=["hand"]) (g:=gName 0) (fr:=[]) rfl (z0x rfl (T.no (z2a _)) (z01 (pv 1) pa_nil)) (λ _ z=>absurd z L0) (zbl rfl) (λ _ z=>absurd z L0) (by decide +kernel) rfl (by decide +kernel) (λ _ _ _ _ _=>(pg_cn (N:=["hand"]) 0)) (λ _ _ _ _ _=>pf_nil) (λ _ _ _ _ _=>(pe_lst pa_nil))))
   (z3s (QS.mk (ps_set (i:=8) sc__law_plan.nd rfl (O1 rfl) (pe_cal c3 (Y.mono (by decide)) rfl (z01 (pe_cal c0 (Y.mono (by decide)) rfl (z01 (pv 0) (z01 pe_int pa_nil))) (z01 (pe_op opAdd (pe_lst (z01 (pv 2) pa_nil)) (pe_op op_rep (pe_lst (z01 (pe_op op_mul pe_int (pv 1)) pa_nil)) pe_int)) pa_nil)))))
   (z3s (qs_for W2 rfl (z0x rfl (T.no (z2a _)) (z01 (pe_op opAdd pe_int (pe_ix ix_seq (pv 8) pe_int (λ _ _=>rfl))) pa_nil)) (z0m (i:=9) sc__law_plan.nd rfl (O1 rfl))
   (z3s (QS.mk (ps_set (i:=10) sc__law_plan.nd rfl (O1 rfl) (pe_op op_mod (pe_ix ix_seq (pv 8) (pe_op opAdd pe_int (pv 9)) (λ _ _=>rfl)) (pv 1))))
   (z3s (qs_set (i:=11) sc__law_plan.nd rfl (O1 rfl) (qe_tup (zhs (QE.mk pe_str) (zhs (QE.mk pe_non) qa_nil))))
   (z3s (QS.mk (ps_if (PW.pt (pw_and (z09 opEq (pe_op z1e (pe_ix ix_seq (pv 8) (pe_op opAdd pe_int (pv 9)) (λ _ _=>rfl)) (pv 1)) pe_int (nomark _)) (z27 (z09 op_lt (pv 10) (pv 3) (nomark _)))))
   (z05 (ps_set (i:=11) sc__law_plan.nd rfl (O1 rfl) (pe_tup (z01 pe_str (z01 (pe_op op_mul (pe_op op_sub pe_int (pe_op op_mul pe_int (pv 6))) (pe_op opAdd (pe_op opAdd pe_int (pv 4)) (pe_op op_mul (pv 9) (pe_op opAdd pe_int (pv 5))))) pa_nil)))))
   z0d))
   (zhy (QS.mk (z0f (z0o (pe_ix ix_seq (pv 7) (pv 10) (λ _ _=>rfl)) (z01 (pv 11) pa_nil)))))))))
   (zhy (QS.mk (ps_ret (pv 7)))))))) ?_
  refine z0b ?_;refine ⟨_,rfl,a,ns,2,rfl,sq,λ c2=>⟨w_3,λ l1 b5=>?_⟩⟩;have s1:=Same.upd (o:=.lst [V.int 400000000,.int 20000000,.int 2]) b5;have C:upd H l1 (.lst [V.int 400000000,.int 20000000,.int 2]) l1=some (.lst (([400000000,20000000,2]:List Int).map V.int)):=z04;generalize upd H l1 (.lst [V.int 400000000,.int 20000000,.int 2])=H1 at s1 C⊢;refine ⟨c2,l1,[400000000,20000000,2],rfl,C,by decide,by decide,λ b2 xs K s2 _ O Z B=>?_⟩
  match xs,Z with
  | [st,sp,sg],_=>
  have b0:=B 0 st _ rfl rfl;have S:=B 1 sp _ rfl rfl;have b3:=B 2 sg _ rfl rfl;have s0:sg=0\/sg=1:=by omega
  clear B;have a6:=s1.trans s2;refine ⟨b2,_,rfl,SqL.of O,rfl,_,_,rfl,_,_,rfl,_,_,rfl,rfl,?_⟩;refine z0b ?_;refine ⟨_,rfl,_,rfl,by omega,by omega,?_⟩;rw [Z5];refine ⟨λ i m D L=>m=F - i/\i<=F/\Same K L/\∃bs:List Addr,D=bs.map V.ref/\bs.length=i/\bs.Nodup/\(∀b∈bs,K b=none/\L b=some (.lst [])),⟨F,rfl,J2 _,Same.refl _,[],rfl,rfl,.nil,λ b r=>by cases r⟩,?_⟩;rintro i m D H3 ⟨rfl,hi,s3,bs,rfl,lb,nd,fb⟩;by_cases hlt:i < F
  ·refine .inr ⟨hlt,by rw [I0,lb];exact N0 (m:=6) (by omega) (by decide),λ v H4 y=>?_⟩;obtain ⟨rfl,rfl⟩:=y;refine ⟨[some (.int (0 + (i:Int)))],rfl,rfl,iteT ?_⟩;refine ⟨w_0,λ b r=>?_⟩;refine ⟨F - (i + 1),by omega,rfl,hlt,s3.trans (Same.upd r),bs++[b],by rw [V1];rfl,by rw [G0,lb];rfl,?_,λ c I=>?_⟩
   ·rw [a8];refine ⟨nd,List.nodup_cons.mpr ⟨L0,.nil⟩,λ x hx y hy e=>?_⟩;rw [List.mem_singleton.mp hy] at e;rw [e] at hx;have:=(fb b hx).2;rw [r] at this;cases this
   ·rcases List.mem_append.mp I with I|I
    ·exact ⟨(fb c I).1,(Same.upd r) _ _ (fb c I).2⟩
    ·rw [List.mem_singleton.mp I];exact ⟨s3.free r,z04⟩
  have ei:i=F:=by omega
  subst ei;refine .inl ⟨K0 _,by rw [I0,lb];exact N0 (m:=6) n6 (by decide),λ p ha=>?_⟩;refine g_name ?_;have s4:=Same.upd (o:=.lst (bs.map V.ref)) ha;have R:PlJ K (upd H3 p (.lst (bs.map V.ref))) p bs (P0 i []):=by
   refine ⟨z04,nd,λ b r=>⟨(fb b r).1,λ z=>?_⟩,by rw [G2];exact lb,λ j own b C O=>?_⟩
   ·have:=(fb b r).2;rw [z,ha] at this;cases this
   ·have eo:own=[]:=(List.mem_replicate.mp (B1 C)).2;subst eo;exact ⟨[],s4 _ _ (fb b (B1 O)).2,.nil⟩
  have fp:K p=none:=s3.free ha;have b4:PlK sg st sp 0 (P0 i []):=by have e:(P0 i ([]:List (Option Int))).flatten=[]:=List.flatten_replicate_nil;exact ⟨by rw [e];rfl,by rw [e];exact .nil,λ z hz=>by rw [e] at hz;cases hz⟩
  have a1:=s3.trans s4;generalize upd H3 p (.lst (bs.map V.ref))=H4 at R a1⊢;clear s3 s4 fb ha;refine z0b ?_;refine ⟨_,rfl,a,ns,1,rfl,(a6.trans a1).seq sq,λ c1=>?_⟩;refine ⟨_,rfl,w_1,λ l5 c9=>⟨_,rfl,_,_,rfl,rfl,.inl ⟨by decide,by decide⟩,w_1,λ l6 d3=>?_⟩⟩;refine ⟨l6,24,_,rfl,rfl,z04,by decide,by decide,(show 1 * 24<=sizeLine by decide),λ l7 c8=>?_⟩;have u5:=Same.upd (o:=.lst [V.int u]) c9;have u6:=Same.upd (o:=.lst [V.int (2 * (i:Int))]) d3;have u7:=Same.upd (o:=.lst (P0 (24:Int).toNat [V.int (2 * (i:Int))]).flatten) c8;refine .inr (.inr (.inl ⟨l5,l7,_,_,rfl,rfl,u7 _ _ (u6 _ _ z04),z04,(show 1 + 24<=sizeLine by decide),λ W b9=>?_⟩));have u8:=Same.upd (o:=.lst ([V.int u]++(P0 (24:Int).toNat [V.int (2 * (i:Int))]).flatten)) b9;have a0:=((u5.trans u6).trans u7).trans u8;have e8:upd (upd (upd (upd H4 l5 (.lst [V.int u])) l6 (.lst [V.int (2 * (i:Int))])) l7 (.lst (P0 (24:Int).toNat [V.int (2 * (i:Int))]).flatten)) W (.lst ([V.int u]++(P0 (24:Int).toNat [V.int (2 * (i:Int))]).flatten)) W=some (.lst (((u:Int) :: P0 24 (2 * (i:Int))).map V.int)):=z04;generalize upd (upd (upd (upd H4 l5 (.lst [V.int u])) l6 (.lst [V.int (2 * (i:Int))])) l7 (.lst (P0 (24:Int).toNat [V.int (2 * (i:Int))]).flatten)) W (.lst ([V.int u]++(P0 (24:Int).toNat [V.int (2 * (i:Int))]).flatten))=H8 at a0 e8⊢;refine ⟨c1,W,(u:Int) :: P0 24 (2 * (i:Int)),rfl,e8,λ l hl=>?_,by rw [Y0,G2];decide,λ G xs H9 s9 a4 e9 Z B=>?_⟩
  ·rcases List.mem_cons.mp hl with rfl|hl
   ·omega
   ·rw [(List.mem_replicate.mp hl).2];omega
  have Z:xs.length=25:=Z;have a3 :∀j:Nat,j < 25->∃x,xs[j]? = some x:=λ j J=>⟨_,A0 (by omega)⟩
  obtain ⟨x0,a2⟩:=a3 0 (by decide);have d8:=B 0 x0 u a2 rfl;have c7 :∀(j:Nat) x,j < 24->xs[1 + j]? = some x->0<=x/\x < 2 * (i:Int):=λ j x J hx=>B (1 + j) x _ hx (by rw [j06,E3,P6,if_pos J]);have d2:=a1.trans (a0.trans s9);have c5:=R.same (a0.trans s9);have c6 :∀b∈bs,b≠G:=λ b r z=>by
   obtain ⟨j,J,e⟩:=D6 r;have c4:j < (P0 i ([]:List (Option Int))).length:=by rw [<-R.ln];exact J
   obtain ⟨D,C,_⟩:=R.ow j _ b (A0 c4) (by rw [A0 J,e]);have:=a0 _ _ C;rw [z,a4] at this;cases this
  clear R B a4;refine g_name ?_;refine ⟨_,rfl,.inl ⟨G,_,0,.int x0,rfl,rfl,SqL.of e9,z08 (j:=0) (by rw [S0,a2];rfl),.inl ⟨_,_,rfl,rfl,_,rfl,by omega,by omega,?_⟩⟩⟩;refine z1o (lo:=0) (n:=(1 + x0).toNat) (λ j σ L=>∃pl x9 x10 x11,Same K L/\L G=some (.lst (xs.map V.int))/\PlJ K L p bs pl/\PlK sg st sp j pl/\pl.length=i/\σ=[some (.ref a),some (.int i),some (.int u),some (.int wr),some (.int st),some (.int sp),some (.int sg),some (.ref p),some (.ref G),x9,x10,x11]) ⟨_,_,_,_,d2,e9,c5,b4,G2,rfl⟩ ?_ ?_
  ·rintro j σ H5 J ⟨pl,x9,x10,x11,s5,e5,PJ,PK,lp,rfl⟩;rw [V6];refine g_name ?_;have b7:j < 24:=by omega
   obtain ⟨t,a7⟩:=a3 (1 + j) (by omega);have bj:=c7 j t b7 a7;have a5:atI (xs.map V.int) (1 + (j:Int))=some (.int t):=by rw [show (1 + (j:Int))=((1 + j:Nat):Int) by omega];exact z08 (by rw [S0,a7];rfl)
   refine ⟨_,rfl,_,rfl,.inl ⟨_,_,rfl,rfl,.inl ⟨G,_,_,.int t,rfl,rfl,SqL.of e5,a5,_,rfl,_,_,rfl,rfl,(show (0:Int) < i by omega),?_⟩⟩⟩;have h0:=N6 t (show (i:Int)≠0 by omega);have h1:=J5 t (show (0:Int) < i by omega);refine g_name (t_nx (z0b ?_));refine ⟨w_2,λ d0 a9=>?_⟩;obtain ⟨H6,v_,s6,e6⟩:=newA (.tup [.str "read",.non]) a9;rw [<-v_];refine g_name ?_;refine z7h (λ σ1 H7=>∃d y,(d=none\/d=some (wrF sg st sp j))/\HPd H7 (ddP d) y/\Same H5 H7/\σ1=[some (.ref a),some (.int i),some (.int u),some (.int wr),some (.int st),some (.int sp),some (.int sg),some (.ref p),some (.ref G),some (.int (j:Nat)),some (.int (t % i)),some y]) ?_ ?_
   ·rintro σ1 H7 ⟨d,y,hd,hy,s7,rfl⟩;have M:=PJ.same s7;have ht:(t % (i:Int)).toNat < bs.length:=by omega
    have r:bs[(t % (i:Int)).toNat]? = some bs[(t % (i:Int)).toNat]:=A0 ht;generalize bs[(t % (i:Int)).toNat]=b at r;have b6:atI (bs.map V.ref) (t % i)=some (.ref b):=by rw [<-K9 h0];exact z08 (by rw [S0,r];rfl)
    have U:pl[(t % (i:Int)).toNat]? = some pl[(t % (i:Int)).toNat]:=A0 (by rw [<-M.ln];exact ht);generalize pl[(t % (i:Int)).toNat]=own at U;obtain ⟨D,ey,ay⟩:=M.ow _ own b U r;have ly:D.length<=24:=by have C:=z03 ay;have O:=(z63 (X:=[]) U).2.length_eq;rw [G0,PK.f] at O;omega
    have mb:=B1 r;refine ⟨_,rfl,_,rfl,.inl ⟨p,_,_,.ref b,rfl,rfl,SqL.of M.l,b6,.inl ⟨rfl,D,SqL.of ey⟩,_,rfl,?_⟩⟩;refine ⟨b,D,_,rfl,rfl,ey,X0 (m:=24) ly (by decide),?_⟩;refine ⟨_,_,_,_,Same.keep (s5.trans s7) (M.fr b mb).1,by rw [upd_ne (C2 (c6 b mb))];exact s7 _ _ e5,M.add U r ey ay hy,PK.add s0 S.1 U hd,by rw [R0];exact lp,rfl⟩
   ·intro fin;have nw:HPd H6 (ddP none) (.ref d0):=⟨d0,_,rfl,e6,_,_,rfl,rfl,_,_,rfl,rfl,rfl⟩
    refine z15 ?_;refine ⟨_,rfl,_,rfl,.inl ⟨_,_,rfl,rfl,.inl ⟨G,_,_,.int t,rfl,rfl,SqL.of (s6 _ _ e5),a5,_,rfl,_,_,rfl,rfl,⟨by omega,by omega⟩,rfl,_,rfl,?_⟩⟩⟩;refine ite2 (λ _=>?_) λ _=>?_
    ·refine ⟨_,rfl,_,rfl,_,_,rfl,rfl,_,rfl,?_⟩;refine ite2 (λ _=>?_) λ _=>?_
     ·refine ⟨_,rfl,_,_,rfl,rfl,.inl ⟨by decide,by decide⟩,_,_,rfl,rfl,_,rfl,.inl ⟨_,_,rfl,rfl,_,rfl,_,rfl,.inl ⟨_,_,rfl,rfl,_,_,rfl,rfl,.inl ⟨by omega,by omega⟩,.inl ⟨_,_,rfl,rfl,_,_,rfl,rfl,.inl ⟨by omega,by omega⟩,w_2,λ d1 b8=>?_⟩⟩⟩⟩;exact fin _ _ ⟨some (wrF sg st sp j),_,.inr rfl,⟨d1,_,rfl,z04,_,_,rfl,rfl,_,_,rfl,rfl,rfl⟩,s6.trans (Same.upd b8),rfl⟩
     ·exact fin _ _ ⟨none,_,.inl rfl,nw,s6,rfl⟩
    ·exact fin _ _ ⟨none,_,.inl rfl,nw,s6,rfl⟩
  ·rintro σ H5 ⟨pl,x9,x10,x11,s5,e5,PJ,PK,lp,rfl⟩;refine ⟨_,rfl,q p pl H5 (a6.trans s5) ⟨by omega,by omega,by rw [PK.f];omega,PK.nd,λ z=>?_,λ k hk=>?_⟩ lp (by rw [PK.f];omega) (ziv PJ.l PJ.ln PJ.ow)⟩
   ·obtain ⟨k,hk,e⟩:=PK.by_ _ z;exact (wrF_bd s0 b0.1 b0.2 S.1 S.2 (show k < 24 by omega)).1 e.symm
   ·obtain ⟨k',d6,e⟩:=PK.by_ _ hk;rw [e];exact (wrF_bd s0 b0.1 b0.2 S.1 S.2 (show k' < 24 by omega)).2
theorem zjv {H:Hp} {pl:List (List (Option Int))} {os:List V} (h:HPds H (rowsP pl) os) {i:Nat} {v:V} (hv:os[i]? = some v) :∃own b zs,pl[i]? = some own/\v=.ref b/\H b=some (.lst zs)/\All2 (λ o y=>HPd H (ddP o) y) own zs:=by have c:=z5q (f:=λ (r:List (Option Int))=>PyData.list (r.map ddP)) h;obtain ⟨own,a,b,zs,rfl,e,d⟩:=z0k c hv;exact ⟨own,b,zs,a,rfl,e,z5q d⟩
theorem zdc {K:o0} {tl:TE} {σ:L2.St} {H:Hp} {Q:VK} {a:Addr} {pl:List (List (Option Int))} {os:List V} (htl :∀R:VK,R (.ref a) H->tl σ H R) (ea:H a=some (.lst os)) (hos:HPds H (rowsP pl) os) (l6:pl.length<=6) (q :∀(a':Addr) (bs:List Addr) H',Same H H'->H a'=none->PlJ H H' a' bs pl->Q (.ref a') H') :
  tCompG (iList K tl) 1 [] (gName 0) (λ _ H Q=>Q true H) (tCB (λ xs H Q=>∃p ys,xs=[.ref p]/\(SqL K H p ys\/SqT K H p ys)/\∀l,H l=none->Q (.ref l) (upd H l (.lst ys))) (tCons (tVar 0) tNil)) σ H Q:=by
 have O:os.length=pl.length:=by have:=hos.length;unfold rowsP at this;rw [I0] at this;exact this
 refine htl _ ⟨a,rfl,⟨os,SqL.of ea⟩,?_⟩;refine ⟨λ i m ys H'=>m=pl.length - i/\i<=pl.length/\Same H H'/\∃bs:List Addr,ys=bs.map V.ref/\bs.length=i/\bs.Nodup/\(∀b∈bs,H b=none/\H' b≠none)/\(∀(j:Nat) (own:List (Option Int)) (b:Addr),pl[j]? = some own->bs[j]? = some b->∃k,H' b=some (.lst k)/\All2 (λ o y=>HPd H' (ddP o) y) own k),⟨pl.length,rfl,J2 _,Same.refl _,[],rfl,rfl,.nil,(λ b g=>by cases g),λ j own b _ h=>by simp at h⟩,?_⟩;rintro i m ys N ⟨rfl,hi,s3,bs,rfl,lb,nd,fb,ow⟩;by_cases hlt:i < pl.length
 ·have s:os[i]? = some os[i]:=A0 (by omega);generalize os[i]=v at s;refine .inr ⟨⟨os,v,SqL.of (s3 _ _ ea),s⟩,by rw [I0,lb];exact N0 (m:=6) (by omega) (by decide),λ P C y=>?_⟩;obtain ⟨rfl,y⟩:=y;have y:=y os (SqL.of (s3 _ _ ea));rw [s] at y;cases y;obtain ⟨own,c,k,I,rfl,B,E⟩:=zjv hos s;refine ⟨[some (.ref c)],rfl,rfl,iteT ?_⟩;refine ⟨_,rfl,c,k,rfl,.inl (SqL.of (s3 _ _ B)),λ b g=>?_⟩;have d:=Same.upd (o:=.lst k) g;refine ⟨pl.length - (i + 1),by omega,rfl,hlt,s3.trans d,bs++[b],by rw [V1];rfl,by rw [G0,lb];rfl,?_,λ c n=>?_,λ j G M r f=>?_⟩
  ·rw [a8];refine ⟨nd,List.nodup_cons.mpr ⟨L0,.nil⟩,λ x A y F e=>?_⟩;rw [List.mem_singleton.mp F] at e;rw [e] at A;exact (fb b A).2 g
  ·rcases List.mem_append.mp n with n|n
   ·refine ⟨(fb c n).1,?_⟩;cases z:C c with
    | none=>exact absurd z (fb c n).2
    | some o=>rw [d _ _ z];exact j3g o
   ·rw [List.mem_singleton.mp n];exact ⟨s3.free g,by rw [z04];exact j3g _⟩
  ·by_cases z:j < bs.length
   ·rw [J1 z] at f;obtain ⟨L,u,t⟩:=ow j G M r f;exact ⟨L,d _ _ u,z00 (λ _ _ z=>z.same d) t⟩
   ·rw [D1 (by omega)] at f;have J:j - bs.length=0:=by have:=(List.getElem?_eq_some_iff.mp f).1;simp only [Z2] at this;omega
    rw [J] at f;cases f;have:j=i:=by omega
    rw [this,I] at r;cases r;exact ⟨k,z04,z00 (λ _ _ z=>z.same (s3.trans d)) E⟩
 have D:i=pl.length:=by omega
 subst D;refine .inl ⟨⟨os,SqL.of (s3 _ _ ea),by omega⟩,by rw [I0,lb];exact N0 (m:=6) l6 (by decide),λ p w=>?_⟩;have d:=Same.upd (o:=.lst (bs.map V.ref)) w;refine q p bs _ (s3.trans d) (s3.free w) ⟨z04,nd,λ b g=>⟨(fb b g).1,λ z=>(fb b g).2 (by rw [z];exact w)⟩,lb,λ j own b r f=>?_⟩;obtain ⟨k,u,t⟩:=ow j own b r f;exact ⟨k,d _ _ u,z00 (λ _ _ z=>z.same d) t⟩
end
section
theorem zjt {X:Cx} {K:o0} (hK:X.K=K) {e:Expr} {f:Str} {pos:Pos} {ta:TE} (he:PE X e ta) (hb:B5 e f X.env (V3 e X.env)=V3 e X.env):PE X (.Attribute e f pos) (tFld K ta f):=hK ▸ pe_fld he hb
noncomputable abbrev Hd:=(Int×Int)×Int
structure Er where
 hand:Nat
 deed:Option Int
 kept:Option Hd
 heard:List Hd
structure Lt where
 e:Nat
 num:Nat
 held:Option Hd
inductive CEv
 | beg (h:Nat) (d:Option Int)
 | fin (h:Nat) (a:Option Int)
structure CM where
 stock:List Hd
 back:Bool
 left:List (List (Option Int))
 idle:List Bool
 letters:List Lt
 ers:List Er
 events:List CEv
noncomputable def maxHd:List Hd->Hd
 | []=>((0,0),0)
 | x :: r=>r.foldl (λ m y=>if gtN y m=true then y else m) x
noncomputable def CM.send (M:CM) (e:Nat):CM:={ M with letters:=M.letters++(W0 M.stock.length).map λ k=>⟨e,k,none⟩ }
noncomputable def CM.make (M:CM) (er:Er):CM:={ M with ers:=M.ers++[er] }
noncomputable def CM.start (M:CM) (h:Nat) (d:Option Int) (rest:List (Option Int)):CM:=
 CM.send (CM.make { M with left:=M.left.set h rest,idle:=M.idle.set h false,events:=M.events++[.beg h d] } ⟨h,d,none,[]⟩) M.ers.length
noncomputable def ansC (d:Option Int) (w:Int):Option Int:=match d with
 | some _=>none
 | none=>some w
noncomputable def CM.stop (M:CM) (er:Er) (w:Int):CM:={ M with idle:=M.idle.set er.hand true,events:=M.events++[.fin er.hand (ansC er.deed w)] }
noncomputable def CM.ask (M:CM) (er:Er):CM:=match er.deed with
 | some w0=>(M.make ⟨er.hand,er.deed,some (((maxHd er.heard).1.1 + 1,er.hand),w0),[]⟩).send M.ers.length
 | none=>if M.back=true then (M.make ⟨er.hand,er.deed,some (maxHd er.heard),[]⟩).send M.ers.length else M.stop er (maxHd er.heard).2
noncomputable def Er.hear (er:Er) (x:Hd):Er:={ er with heard:=er.heard++[x] }
noncomputable def CM.comeBack (M:CM) (e:Nat) (er:Er) (x:Hd):CM:=
 if (er.hear x).heard.length≠M.stock.length / 2 + 1 then { M with ers:=M.ers.set e (er.hear x) }
 else match er.kept with
  | some k=>CM.stop { M with ers:=M.ers.set e (er.hear x) } (er.hear x) k.2
  | none=>CM.ask { M with ers:=M.ers.set e (er.hear x) } (er.hear x)
noncomputable def keepH (k:Option Hd) (s:Hd):Hd:=match k with
 | some k=>if gtI k.1 s.1=true then k else s
 | none=>s
noncomputable def CM.comeTo (M:CM) (e:Nat) (er:Er) (n:Nat) (s:Hd):CM:={ M with stock:=M.stock.set n (keepH er.kept s),letters:=M.letters++[⟨e,n,some (keepH er.kept s)⟩] }
noncomputable def CM.come (M:CM) (L:Lt):CM:=match M.ers[L.e]?,L.held,M.stock[L.num]? with
 | some er,some x,_=>M.comeBack L.e er x
 | some er,none,some s=>M.comeTo L.e er L.num s
 | _,_,_=>M
noncomputable def CM.rdy (M:CM) (h:Nat):Bool:=!(M.left[h]?.getD []).isEmpty && M.idle[h]?.getD false
noncomputable def CM.ready (M:CM):List Nat:=(W0 M.left.length).filter M.rdy
noncomputable def CM.go (M:CM) (c:Int):CM:=
 if M.ready.length + M.letters.length=0 then M else
 let ch:=(c % ((M.ready.length:Int) + 2 * (M.letters.length:Int))).toNat
 if ch < M.ready.length then
  (match M.left[M.ready[ch]?.getD 0]? with
   | some (d :: rest)=>M.start (M.ready[ch]?.getD 0) d rest
   | _=>M)
 else
  (match M.letters[(ch - M.ready.length) % M.letters.length]? with
   | some L=>if ch < M.ready.length + M.letters.length then CM.come { M with letters:=M.letters.eraseIdx ((ch - M.ready.length) % M.letters.length) } L else { M with letters:=M.letters.eraseIdx ((ch - M.ready.length) % M.letters.length) }
   | none=>M)
theorem ze6 {l:List Hd} {b:Hd} (hb:b∈l) (h :∀x∈l,gtN x b=false):maxHd l=b:=by
 have f :∀(r:List Hd) (m:Hd),(r.foldl (λ m y=>if gtN y m=true then y else m) m)∈m :: r/\∀x∈m :: r,gtN x (r.foldl (λ m y=>if gtN y m=true then y else m) m)=false:=by
  intro r;induction r with
  | nil=>exact λ m=>⟨.head _,λ x a=>by rw [List.mem_singleton.mp a];exact zi0 _⟩
  | cons y r ih=>
   intro m;rw [U3];by_cases z:gtN y m=true
   ·rw [if_pos z];obtain ⟨d,c⟩:=ih y;refine ⟨.tail _ d,λ x a=>?_⟩;rcases List.mem_cons.mp a with e|a
    ·rw [e];exact gtN_tr (zi7 z) (c y (.head _))
    ·exact c x a
   ·rw [if_neg z];obtain ⟨d,c⟩:=ih m;refine ⟨?_,λ x a=>?_⟩
    ·rcases List.mem_cons.mp d with e|e
     ·rw [e];exact .head _
     ·exact .tail _ (.tail _ e)
    ·rcases List.mem_cons.mp a with e|a
     ·rw [e];exact c m (.head _)
     ·rcases List.mem_cons.mp a with e|a
      ·rw [e];exact gtN_tr (Bool.eq_false_iff.mpr z) (c m (.head _))
      ·exact c x (.tail _ a)
 cases l with
 | nil=>cases hb
 | cons x r=>obtain ⟨d,c⟩:=f r x;exact (zk2 (c b hb) (h _ d)).symm
structure WfM (M:CM) (n:Nat):Prop where
 il:M.idle.length=M.left.length
 st:0 < M.stock.length/\M.stock.length<=5
 le :∀L∈M.letters,L.e < M.ers.length/\L.num < M.stock.length
 eh :∀er∈M.ers,er.hand < M.idle.length
 hn :∀er∈M.ers,er.heard.length<=n
 ln:M.letters.length<=6 * n
 vn:M.events.length<=n
 l6:M.left.length<=6
 lw :∀own∈M.left,own.length<=24
structure Imm (H H':Hp):Prop where
 t :∀p xs,H p=some (.tup xs)->H' p=some (.tup xs)
 i :∀p C dx fs,H p=some (.ins C dx fs)->H' p=some (.ins C dx fs)
 f :∀p o u,H p=some (.frz o u)->H' p=some (.frz o u)
theorem Imm.of {H H':Hp} (s:Same H H'):Imm H H':=⟨λ _ _ e=>s _ _ e,λ _ _ _ _ e=>s _ _ e,λ _ _ _ e=>s _ _ e⟩
theorem Imm.lst {H:Hp} {l:Addr} {o:HO} {xs:List V} (e:H l=some (.lst xs)):Imm H (upd H l o):=
 ⟨λ p a q=>by rw [upd_ne (λ z=>by rw [z,e] at q;cases q)];exact q,λ p C b fs q=>by rw [upd_ne (λ z=>by rw [z,e] at q;cases q)];exact q,λ p o u q=>by rw [upd_ne (λ z=>by rw [z,e] at q;cases q)];exact q⟩
theorem Imm.trans {H H1 H2:Hp} (a:Imm H H1) (b:Imm H1 H2):Imm H H2:=⟨λ _ _ e=>b.t _ _ (a.t _ _ e),λ _ _ _ _ e=>b.i _ _ _ _ (a.i _ _ _ _ e),λ _ _ _ e=>b.f _ _ _ (a.f _ _ _ e)⟩
theorem Imm.seqT {K:o0} {H H':Hp} {p:Addr} {xs:List V} (m:Imm H H') (h:SqT K H p xs):SqT K H' p xs:=by
 rcases h with h|h
 ·rcases h with h|⟨o,h⟩
  ·exact .inl (.inl (m.t _ _ h))
  ·exact .inl (.inr ⟨o,m.f _ _ _ h⟩)
 ·exact .inr h
def HdAt (K:o0) (H:Hp) (x:Hd) (v:V):Prop:=∃p q,v=.ref p/\SqT K H p [.ref q,.int x.2]/\SqT K H q [.int x.1.1,.int x.1.2]
theorem HdAt.imm {K:o0} {H H':Hp} {x:Hd} {v:V} (m:Imm H H') (h:HdAt K H x v):HdAt K H' x v:=by obtain ⟨p,q,e,b,a⟩:=h;exact ⟨p,q,e,m.seqT b,m.seqT a⟩
noncomputable def OptHd (K:o0) (H:Hp):Option Hd->V->Prop
 | none,v=>v=.non
 | some x,v=>HdAt K H x v
theorem OptHd.imm {K:o0} {H H':Hp} {x:Option Hd} {v:V} (m:Imm H H') (h:OptHd K H x v):OptHd K H' x v:=by
 cases x with
 | none=>exact h
 | some x=>exact HdAt.imm m h
noncomputable def vbD:Option Int->Str
 | none=>"read"
 | some _=>"write"
noncomputable def wvD:Option Int->V
 | none=>.non
 | some i=>.int i
def DdV (H:Hp) (d:Option Int) (y:V):Prop:=∃p,y=.ref p/\H p=some (.tup [.str (vbD d),wvD d])
theorem DdV.imm {H H':Hp} {d:Option Int} {y:V} (m:Imm H H') (h:DdV H d y):DdV H' d y:=h.elim λ p z=>⟨p,z.1,m.t _ _ z.2⟩
noncomputable def avD:Option Int->V
 | none=>.str "ok"
 | some i=>.int i
noncomputable def EvV (H:Hp):CEv->V->Prop
 | .beg h d,y=>∃p,y=.ref p/\H p=some (.tup [.str "begin",.int h,.str "r",.str (vbD d),wvD d])
 | .fin h a,y=>∃p,y=.ref p/\H p=some (.tup [.str "end",.int h,avD a])
theorem EvV.imm {H H':Hp} {e:CEv} {y:V} (m:Imm H H') (h:EvV H e y):EvV H' e y:=by
 cases e with
 | beg h d=>exact h.elim λ p z=>⟨p,z.1,m.t _ _ z.2⟩
 | fin h a=>exact h.elim λ p z=>⟨p,z.1,m.t _ _ z.2⟩
def LtAt (K:o0) (H:Hp) (es:List Addr) (L:Lt) (v:V):Prop:=∃x dx fs ea hv,v=.ref x/\H x=some (.ins 300 dx fs)/\es[L.e]? = some ea/\fs.lookup ("errand" : Str)=some (V.ref ea)/\fs.lookup ("number" : Str)=some (V.int L.num)/\fs.lookup ("held" : Str)=some hv/\OptHd K H L.held hv
theorem LtAt.imm {K:o0} {H H':Hp} {es:List Addr} {L:Lt} {v:V} (m:Imm H H') (h:LtAt K H es L v):LtAt K H' es L v:=by obtain ⟨x,f,fs,j,c,e,k,d,g,b,l,a⟩:=h;exact ⟨x,f,fs,j,c,e,m.i _ _ _ _ k,d,g,b,l,a.imm m⟩
theorem LtAt.more {K:o0} {H:Hp} {es:List Addr} {L:Lt} {v:V} (e:Addr) (h:LtAt K H es L v):LtAt K H (es++[e]) L v:=by obtain ⟨x,c,fs,f,b,e,g,a,d⟩:=h;exact ⟨x,c,fs,f,b,e,g,by rw [J1 (List.getElem?_eq_some_iff.mp a).1];exact a,d⟩
def ErAt (K:o0) (H:Hp) (er:Er) (e hl:Addr):Prop:=∃dx fs dv kv,H e=some (.ins 279 dx fs)/\fs.lookup ("hand" : Str)=some (V.int er.hand)/\fs.lookup ("deed" : Str)=some dv/\DdV H er.deed dv/\fs.lookup ("kept" : Str)=some kv/\OptHd K H er.kept kv/\fs.lookup ("heard" : Str)=some (V.ref hl)
theorem ErAt.imm {K:o0} {H H':Hp} {er:Er} {e hl:Addr} (m:Imm H H') (h:ErAt K H er e hl):ErAt K H' er e hl:=by obtain ⟨g,fs,c,d,k,f,j,b,n,a,l⟩:=h;exact ⟨g,fs,c,d,m.i _ _ _ _ k,f,j,b.imm m,n,a.imm m,l⟩
structure Ls (B H:Hp) (ms:List Addr) (cs:List (List V)):Prop where
 c:All2 (λ m c=>H m=some (.lst c)) ms cs
 nd:ms.Nodup
 fr :∀m∈ms,B m=none
theorem Ls.same {B H H':Hp} {ms:List Addr} {cs:List (List V)} (h:Ls B H ms cs) (s:Same H H'):Ls B H' ms cs:=⟨z00 (λ _ _ z=>s _ _ z) h.c,h.nd,h.fr⟩
theorem Ls.at {B H:Hp} {ms:List Addr} {cs:List (List V)} {i:Nat} {m:Addr} {c:List V} (h:Ls B H ms cs) (hm:ms[i]? = some m) (hc:cs[i]? = some c):H m=some (.lst c):=by obtain ⟨d,a,b⟩:=z0r h.c hm;rw [hc] at a;cases a;exact b
theorem Ls.set {B H:Hp} {ms:List Addr} {cs:List (List V)} {i:Nat} {m:Addr} {c:List V} (h:Ls B H ms cs) (hm:ms[i]? = some m):Ls B (upd H m (.lst c)) ms (cs.set i c):=by
 refine ⟨z22 (by rw [R0];exact z03 h.c) λ k a b f d=>?_,h.nd,h.fr⟩;by_cases z:k=i
 ·subst z;rw [hm] at f;cases f;have j:k < cs.length:=by have:=(List.getElem?_eq_some_iff.mp d).1;rw [R0] at this;exact this
  rw [O0 j] at d;cases d;exact z04
 ·rw [X1 (C2 z)] at d;have n:a≠m:=λ e=>by subst e;exact z ((List.getElem?_inj (List.getElem?_eq_some_iff.mp hm).1 h.nd).mp (hm.trans f.symm)).symm
  rw [upd_ne n];obtain ⟨o,g,l⟩:=z0r h.c f;rw [d] at g;cases g;exact l
theorem Ls.snoc {B H:Hp} {ms:List Addr} {cs:List (List V)} {m:Addr} {c:List V} (h:Ls B H ms cs) (hm:H m=some (.lst c)) (nm:m∉ms) (fm:B m=none):Ls B H (ms++[m]) (cs++[c]):=by
 refine ⟨z1g h.c hm,?_,λ x a=>?_⟩
 ·rw [a8];refine ⟨h.nd,List.nodup_cons.mpr ⟨L0,.nil⟩,λ x a y b e=>?_⟩;rw [List.mem_singleton.mp b] at e;exact nm (e ▸ a)
 ·rcases List.mem_append.mp a with a|a
  ·exact h.fr x a
  ·rw [List.mem_singleton.mp a];exact fm
theorem Ls.not {B H:Hp} {ms:List Addr} {cs:List (List V)} {m:Addr} (h:Ls B H ms cs) (e:H m=none):m∉ms:=λ z=>by obtain ⟨i,b,d⟩:=D6 z;obtain ⟨c,_,a⟩:=z0r h.c (A0 b);rw [d,e] at a;cases a
end
section
variable {P:Program} {w:Z0} {mg:Str->Option Value} {base:Heap}
noncomputable def fldC:List Str:=["stock","back","left","idle","letters","events"]
structure Cp (K:o0) (B H:Hp) (cx st lf id lt ev:Addr) (bs es hls:List Addr) (M:CM):Prop where
 ins :∃dx fs,H cx=some (.ins 373 dx fs)/\fs.lookup ("stock" : Str)=some (V.ref st)/\fs.lookup ("back" : Str)=some (V.bl M.back)/\fs.lookup ("left" : Str)=some (V.ref lf)/\fs.lookup ("idle" : Str)=some (V.ref id)/\fs.lookup ("letters" : Str)=some (V.ref lt)/\fs.lookup ("events" : Str)=some (V.ref ev)/\∀m:Str,m∉fldC->fs.lookup m=none
 ct :∃sv lv vv lefts heards,Ls B H (st :: lf :: id :: lt :: ev :: (bs++hls)) (sv :: bs.map V.ref :: M.idle.map V.bl :: lv :: vv :: (lefts++heards))/\lefts.length=bs.length/\All2 (HdAt K H) M.stock sv/\All2 (LtAt K H es) M.letters lv/\All2 (EvV H) M.events vv/\All2 (λ own ys=>All2 (DdV H) own ys) M.left lefts/\All2 (λ (er:Er) hs=>All2 (HdAt K H) er.heard hs) M.ers heards
 er :∀(k:Nat) r,M.ers[k]? = some r->∃e hl,es[k]? = some e/\hls[k]? = some hl/\ErAt K H r e hl
 el:es.length=M.ers.length/\hls.length=M.ers.length/\bs.length=M.left.length
theorem Cp.same {K:o0} {B H H':Hp} {cx st lf id lt ev:Addr} {bs es hls:List Addr} {M:CM} (h:Cp K B H cx st lf id lt ev bs es hls M) (s:Same H H'):Cp K B H' cx st lf id lt ev bs es hls M:=by obtain ⟨g,fs,o,a⟩:=h.ins;obtain ⟨l,q,c,i,p,A,j,t,u,b,y,n⟩:=h.ct;have m:=Imm.of s;refine ⟨⟨g,fs,s _ _ o,a⟩,⟨l,q,c,i,p,A.same s,j,z00 (λ _ _ z=>z.imm m) t,z00 (λ _ _ z=>z.imm m) u,z00 (λ _ _ z=>z.imm m) b,z00 (λ _ _ z=>z00 (λ _ _ z=>z.imm m) z) y,z00 (λ _ _ z=>z00 (λ _ _ z=>z.imm m) z) n⟩,λ k r e=>?_,h.el⟩;obtain ⟨x,d,v,f,w⟩:=h.er k r e;exact ⟨x,d,v,f,w.imm m⟩
theorem z7o {H H':Hp} {cx:Addr} {R:Addr->List (Str×V)->Prop} (m:Imm H H') (h :∃dx fs,H cx=some (.ins 373 dx fs)/\R dx fs) :∃dx fs,H' cx=some (.ins 373 dx fs)/\R dx fs:=by obtain ⟨dx,fs,a,b⟩:=h;exact ⟨dx,fs,m.i _ _ _ _ a,b⟩
theorem Cp.setL {K:o0} {B H:Hp} {cx st lf id lt ev:Addr} {bs es hls:List Addr} {M:CM} {Ls':List Lt} {lv':List V} (h:Cp K B H cx st lf id lt ev bs es hls M) (a :∀H',Imm H H'->All2 (LtAt K H' es) Ls' lv'):Cp K B (upd H lt (.lst lv')) cx st lf id lt ev bs es hls { M with letters:=Ls' }:=by obtain ⟨o,t,f,l,s,b,n,u,A,d,y,q⟩:=h.ct;have p:H lt=some (.lst t):=b.at (i:=3) rfl rfl;have m:Imm H (upd H lt (.lst lv')):=Imm.lst p;refine ⟨z7o m h.ins,⟨o,lv',f,l,s,b.set (i:=3) (c:=lv') rfl,n,z00 (λ _ _ z=>z.imm m) u,a _ m,z00 (λ _ _ z=>z.imm m) d,z00 (λ _ _ z=>z00 (λ _ _ z=>z.imm m) z) y,z00 (λ _ _ z=>z00 (λ _ _ z=>z.imm m) z) q⟩,λ k r e=>?_,h.el⟩;obtain ⟨x,g,v,j,w⟩:=h.er k r e;exact ⟨x,g,v,j,w.imm m⟩
theorem Cp.setS {K:o0} {B H:Hp} {cx st lf id lt ev:Addr} {bs es hls:List Addr} {M:CM} {S':List Hd} {sv':List V} (h:Cp K B H cx st lf id lt ev bs es hls M) (a :∀H',Imm H H'->All2 (HdAt K H') S' sv'):Cp K B (upd H st (.lst sv')) cx st lf id lt ev bs es hls { M with stock:=S' }:=by obtain ⟨o,t,f,l,s,b,n,A,u,d,y,q⟩:=h.ct;have p:H st=some (.lst o):=b.at (i:=0) rfl rfl;have m:Imm H (upd H st (.lst sv')):=Imm.lst p;refine ⟨z7o m h.ins,⟨sv',t,f,l,s,b.set (i:=0) (c:=sv') rfl,n,a _ m,z00 (λ _ _ z=>z.imm m) u,z00 (λ _ _ z=>z.imm m) d,z00 (λ _ _ z=>z00 (λ _ _ z=>z.imm m) z) y,z00 (λ _ _ z=>z00 (λ _ _ z=>z.imm m) z) q⟩,λ k r e=>?_,h.el⟩;obtain ⟨x,g,v,j,w⟩:=h.er k r e;exact ⟨x,g,v,j,w.imm m⟩
theorem Cp.setI {K:o0} {B H:Hp} {cx st lf id lt ev:Addr} {bs es hls:List Addr} {M:CM} {I':List Bool} {iv:List V} (h:Cp K B H cx st lf id lt ev bs es hls M) (a:iv=I'.map V.bl):Cp K B (upd H id (.lst iv)) cx st lf id lt ev bs es hls { M with idle:=I' }:=by subst a;obtain ⟨o,t,f,l,s,b,n,u,v,d,A,q⟩:=h.ct;have p:H id=some (.lst (M.idle.map V.bl)):=b.at (i:=2) rfl rfl;have m:Imm H (upd H id (.lst (I'.map V.bl))):=Imm.lst p;refine ⟨z7o m h.ins,⟨o,t,f,l,s,b.set (i:=2) (c:=I'.map V.bl) rfl,n,z00 (λ _ _ z=>z.imm m) u,z00 (λ _ _ z=>z.imm m) v,z00 (λ _ _ z=>z.imm m) d,z00 (λ _ _ z=>z00 (λ _ _ z=>z.imm m) z) A,z00 (λ _ _ z=>z00 (λ _ _ z=>z.imm m) z) q⟩,λ k r e=>?_,h.el⟩;obtain ⟨y,g,w,j,x⟩:=h.er k r e;exact ⟨y,g,w,j,x.imm m⟩
theorem Cp.setV {K:o0} {B H:Hp} {cx st lf id lt ev:Addr} {bs es hls:List Addr} {M:CM} {E':List CEv} {vv':List V} (h:Cp K B H cx st lf id lt ev bs es hls M) (a :∀H',Imm H H'->All2 (EvV H') E' vv'):Cp K B (upd H ev (.lst vv')) cx st lf id lt ev bs es hls { M with events:=E' }:=by obtain ⟨n,s,d,j,q,b,l,t,u,A,y,p⟩:=h.ct;have o:H ev=some (.lst d):=b.at (i:=4) rfl rfl;have m:Imm H (upd H ev (.lst vv')):=Imm.lst o;refine ⟨z7o m h.ins,⟨n,s,vv',j,q,b.set (i:=4) (c:=vv') rfl,l,z00 (λ _ _ z=>z.imm m) t,z00 (λ _ _ z=>z.imm m) u,a _ m,z00 (λ _ _ z=>z00 (λ _ _ z=>z.imm m) z) y,z00 (λ _ _ z=>z00 (λ _ _ z=>z.imm m) z) p⟩,λ k r e=>?_,h.el⟩;obtain ⟨x,f,v,g,w⟩:=h.er k r e;exact ⟨x,f,v,g,w.imm m⟩
theorem Cp.setW {K:o0} {B H:Hp} {cx st lf id lt ev b:Addr} {bs es hls:List Addr} {M:CM} {k:Nat} {own:List (Option Int)} {ys:List V} (h:Cp K B H cx st lf id lt ev bs es hls M) (hb:bs[k]? = some b) (a :∀H',Imm H H'->All2 (DdV H') own ys):Cp K B (upd H b (.lst ys)) cx st lf id lt ev bs es hls { M with left:=M.left.set k own }:=by
 obtain ⟨l,o,g,i,n,u,D,G,I,w,t,E⟩:=h.ct;have F:k < bs.length:=(List.getElem?_eq_some_iff.mp hb).1;have p:(st :: lf :: id :: lt :: ev :: (bs++hls))[k + 5]? = some b:=by show (bs++hls)[k]? = some b;rw [J1 F];exact hb
 obtain ⟨Q,P,d⟩:=z0r u.c p;have m:Imm H (upd H b (.lst ys)):=Imm.lst d;have s:=u.set (c:=ys) p;have v:(l :: bs.map V.ref :: M.idle.map V.bl :: o :: g :: (i++n)).set (k + 5) ys=l :: bs.map V.ref :: M.idle.map V.bl :: o :: g :: (i.set k ys++n):=by show l :: bs.map V.ref :: M.idle.map V.bl :: o :: g :: (i++n).set k ys=_;rw [List.set_append_left _ _ (by omega)]
 rw [v] at s;refine ⟨z7o m h.ins,⟨l,o,g,i.set k ys,n,s,by rw [R0];exact D,z00 (λ _ _ z=>z.imm m) G,z00 (λ _ _ z=>z.imm m) I,z00 (λ _ _ z=>z.imm m) w,?_,z00 (λ _ _ z=>z00 (λ _ _ z=>z.imm m) z) E⟩,λ k r e=>?_,h.el.1,h.el.2.1,by rw [R0];exact h.el.2.2⟩
 ·have C:=z00 (λ _ _ z=>z00 (λ _ _ z=>DdV.imm m z) z) t;refine z22 (by rw [R0,R0];exact z03 t) λ j x y d f=>?_;by_cases z:j=k
  ·subst z;rw [O0 (by have:=(List.getElem?_eq_some_iff.mp d).1;rw [R0] at this;exact this)] at d;rw [O0 (by have:=(List.getElem?_eq_some_iff.mp f).1;rw [R0] at this;exact this)] at f;cases d;cases f;exact a _ m
  ·rw [X1 (C2 z)] at d f;obtain ⟨O,q,J⟩:=z0r C d;rw [f] at q;cases q;exact J
 ·obtain ⟨N,A,d,f,L⟩:=h.er k r e;exact ⟨N,A,d,f,L.imm m⟩
theorem Cp.setH {K:o0} {B H:Hp} {cx st lf id lt ev b:Addr} {bs es hls:List Addr} {M:CM} {k:Nat} {er:Er} {hd:List Hd} {ys:List V} (h:Cp K B H cx st lf id lt ev bs es hls M) (hk:M.ers[k]? = some er) (hb:hls[k]? = some b) (a :∀H',Imm H H'->All2 (HdAt K H') hd ys):Cp K B (upd H b (.lst ys)) cx st lf id lt ev bs es hls { M with ers:=M.ers.set k { er with heard:=hd } }:=by
 obtain ⟨l,o,g,i,n,D,u,I,J,F,N,w⟩:=h.ct;have v:(st :: lf :: id :: lt :: ev :: (bs++hls))[bs.length + k + 5]? = some b:=by show (bs++hls)[bs.length + k]? = some b;rw [D1 (by omega),K4];exact hb
 obtain ⟨Q,P,d⟩:=z0r D.c v;have m:Imm H (upd H b (.lst ys)):=Imm.lst d;have C:=D.set (c:=ys) v;have E:(l :: bs.map V.ref :: M.idle.map V.bl :: o :: g :: (i++n)).set (bs.length + k + 5) ys=l :: bs.map V.ref :: M.idle.map V.bl :: o :: g :: (i++n.set k ys):=by show l :: bs.map V.ref :: M.idle.map V.bl :: o :: g :: (i++n).set (bs.length + k) ys=_;rw [List.set_append_right _ _ (by omega),u,K4]
 rw [E] at C;have t:k < M.ers.length:=(List.getElem?_eq_some_iff.mp hk).1;refine ⟨z7o m h.ins,⟨l,o,g,i,n.set k ys,C,u,z00 (λ _ _ z=>z.imm m) I,z00 (λ _ _ z=>z.imm m) J,z00 (λ _ _ z=>z.imm m) F,z00 (λ _ _ z=>z00 (λ _ _ z=>z.imm m) z) N,?_⟩,λ j r e=>?_,by rw [R0];exact h.el.1,by rw [R0];exact h.el.2.1,h.el.2.2⟩
 ·have G:=z00 (λ _ _ z=>z00 (λ _ _ z=>HdAt.imm m z) z) w;refine z22 (by rw [R0,R0];exact z03 w) λ j x y d f=>?_;by_cases z:j=k
  ·subst z;rw [O0 t] at d;rw [O0 (by have:=(List.getElem?_eq_some_iff.mp f).1;rw [R0] at this;exact this)] at f;cases d;cases f;exact a _ m
  ·rw [X1 (C2 z)] at d f;obtain ⟨O,A,L⟩:=z0r G d;rw [f] at A;cases A;exact L
 ·by_cases z:j=k
  ·subst z;rw [O0 t] at e;cases e;obtain ⟨s,p,d,f,q⟩:=h.er j er hk;exact ⟨s,p,d,f,q.imm m⟩
  ·rw [X1 (C2 z)] at e;obtain ⟨s,p,d,f,q⟩:=h.er j r e;exact ⟨s,p,d,f,q.imm m⟩
theorem Cp.make {K:o0} {B H:Hp} {cx st lf id lt ev e hl:Addr} {bs es hls:List Addr} {M:CM} {er:Er} (h:Cp K B H cx st lf id lt ev bs es hls M) (he:ErAt K H er e hl) (hh:er.heard=[]) (el:H hl=some (.lst [])) (nl:hl∉st :: lf :: id :: lt :: ev :: (bs++hls)) (fl:B hl=none):Cp K B H cx st lf id lt ev bs (es++[e]) (hls++[hl]) (M.make er):=by
 obtain ⟨l,o,f,i,n,x,j,p,q,d,w,m⟩:=h.ct;have v:=x.snoc el nl fl;refine ⟨h.ins,⟨l,o,f,i,n++[[]],?_,j,p,z00 (λ _ _ z=>z.more e) q,d,w,z1g m (by rw [hh];exact .nil)⟩,λ k r a=>?_,?_⟩
 ·rw [<-E2,<-E2];exact v
 ·have a:(M.ers++[er])[k]? = some r:=a;by_cases z:k < M.ers.length
  ·rw [J1 z] at a;obtain ⟨u,c,s,g,t⟩:=h.er k r a;exact ⟨u,c,by rw [J1 (by rw [h.el.1];exact z)];exact s,by rw [J1 (by rw [h.el.2.1];exact z)];exact g,t⟩
  ·rw [D1 (by omega)] at a;have b:k - M.ers.length=0:=by have:=(List.getElem?_eq_some_iff.mp a).1;simp only [Z2] at this;omega
   rw [b] at a;cases a;exact ⟨e,hl,by rw [D1 (by rw [h.el.1];omega),h.el.1,b];rfl,by rw [D1 (by rw [h.el.2.1];omega),h.el.2.1,b];rfl,he⟩
 ·refine ⟨?_,?_,h.el.2.2⟩
  ·show (es++[e]).length=(M.ers++[er]).length;rw [G0,G0,h.el.1];rfl
  ·show (hls++[hl]).length=(M.ers++[er]).length;rw [G0,G0,h.el.2.1];rfl
theorem lk_eq {f:Str} {v:V} {fs:List (Str×V)}:(putF f v fs).lookup f=some v:=by rw [z3d,if_pos rfl]
theorem lk_ne {f g:Str} {v:V} {fs:List (Str×V)} (h:g≠f):(putF f v fs).lookup g=fs.lookup g:=by rw [z3d,if_neg h]
theorem lk_n {f g:Str} {v:V} {fs:List (Str×V)} {o:Option V} (e:fs.lookup g=o) (h:g≠f:=by decide +kernel):(putF f v fs).lookup g=o:=(lk_ne h).trans e
theorem z5n {x dx:Addr} {o1 o2:HO} {H H':Hp} (hx:H x=none) (hd:H dx=none) (k:Kept x (upd (upd H dx o1) x o2) H'):Same H H':=λ p o e=>by
 have a:p≠x:=λ z=>by rw [z,hx] at e;cases e
 have b:p≠dx:=λ z=>by rw [z,hd] at e;cases e
 exact k p o a (by rw [upd_ne a,upd_ne b];exact e)
def z1a:Sp:=λ vs H Q _=>∃(x dx:Addr) (hv dv kv:V),vs=[.ref x,hv,dv,kv]/\H x=some (.ins 279 dx [])/\∀hl fs H',Kept x H H'->H hl=none->H' hl=some (.lst [])->H' x=some (.ins 279 dx fs)->fs.lookup ("hand" : Str)=some hv->fs.lookup ("deed" : Str)=some dv->fs.lookup ("kept" : Str)=some kv->fs.lookup ("heard" : Str)=some (V.ref hl)->Q .non H'
theorem zg9 (T:TX (kx w) mg):Fo P w mg base (CXE P w base) 1 276 y02 ["self","hand","deed","kept"] z1a:=by
 refine (z2l w.params).okE z4z (λ I H Q E h=>?_) (λ K A N s H I Q E L h=>?_)
 ·obtain ⟨x,p,D,B,C,rfl,_⟩:=h;rfl
 ·obtain ⟨x,p,D,B,C,rfl,l,q⟩:=h;refine ⟨_,(z02 (ps_fld (pv 0) (pv 1) rfl)
   (z02 (ps_fld (pv 0) (pv 2) rfl)
   (z02 (ps_fld (pv 0) (pv 3) rfl)
   (z05 (ps_fld (pv 0) (pe_lst pa_nil) rfl))))),?_⟩
  refine z3i ⟨_,rfl,z18 Kept.refl l rfl (z0g _) (z0z _) (n:=0) (K0 _) (by decide) λ M v _ F a=>?_⟩;refine z3i ⟨_,rfl,z18 v F rfl (z0g _) (z0w _) a (by decide) λ J u _ m a=>?_⟩;refine z3i ⟨_,rfl,z18 u m rfl (z0g _) (z0y _) a (by decide) λ e i _ j a=>?_⟩;refine zei ⟨w_0,λ b c=>?_⟩;have d:=Same.upd (o:=.lst []) c;have g:upd e b (.lst []) b=some (.lst []):=z04;have f:b≠x:=λ z=>by rw [z,j] at c;cases c
  have G:H b=none:=by
   cases z:H b with
   | none=>rfl
   | some o=>rw [i b o f z] at c;cases c
  generalize upd e b (.lst [])=H4 at d g⊢;refine z18 (i.trans d.kept) (d _ _ j) rfl (z0g _) (z1h _) a (by decide) λ k t y r a=>?_;exact q b _ k t G (y _ _ f g) r (lk_n (lk_n (lk_n lk_eq))) (lk_n (lk_n lk_eq)) (lk_n lk_eq) lk_eq
def z1d:Sp:=λ vs H Q _=>∃(x dx:Addr) (ev nv hv:V),vs=[.ref x,ev,nv,hv]/\H x=some (.ins 300 dx [])/\∀fs H',Kept x H H'->H' x=some (.ins 300 dx fs)->fs.lookup ("errand" : Str)=some ev->fs.lookup ("number" : Str)=some nv->fs.lookup ("held" : Str)=some hv->Q .non H'
theorem zgu (T:TX (kx w) mg):Fo P w mg base (CXE P w base) 1 297 y03 ["self","errand","number","held"] z1d:=by
 refine (z2n w.params).okE z4t (λ p H Q E h=>?_) (λ t A y s H p Q E u h=>?_)
 ·obtain ⟨x,e,l,j,k,rfl,_⟩:=h;rfl
 ·obtain ⟨x,e,l,j,k,rfl,b,q⟩:=h;refine ⟨_,(z02 (ps_fld (pv 0) (pv 1) rfl)
   (z02 (ps_fld (pv 0) (pv 2) rfl)
   (z05 (ps_fld (pv 0) (pv 3) rfl)))),?_⟩
  refine z3i ⟨_,rfl,z18 Kept.refl b rfl (z20 _) (z1s _) (n:=0) (K0 _) (by decide) λ v g _ m a=>?_⟩;refine z3i ⟨_,rfl,z18 g m rfl (z20 _) (z39 _) a (by decide) λ r f _ d a=>?_⟩;refine zei ⟨_,rfl,z18 f d rfl (z20 _) (z2j _) a (by decide) λ c i _ o a=>?_⟩;exact q _ c i o (lk_n (lk_n lk_eq)) (lk_n lk_eq) lk_eq
def z1n (K:o0):Sp:=λ vs H Q _=>∃(cx ea:Addr) (B:Hp) (st lf id lt ev:Addr) (bs es hls:List Addr) (M:CM) (e:Nat),vs=[.ref cx,.ref ea]/\Cp K B H cx st lf id lt ev bs es hls M/\es[e]? = some ea/\Same B H/\M.stock.length<=5/\M.letters.length<=10000/\
 ∀H',Same B H'->Cp K B H' cx st lf id lt ev bs es hls (M.send e)->Q .non H'
theorem z8n (T:TX (kx w) mg) (c0:Fo P w mg base (CXE P w base) 1 297 y03 ["self","errand","number","held"] z1d):Fo P w mg base CX0 3 335 y09 ["self","errand"] (z1n (kx w)):=by
 refine (z5d w.params).ok sc_Copies_send (λ vs H Q E h=>?_) (λ a2 A a3 s H vs Q E Y h=>?_)
 ·obtain ⟨b,t,B,u,G,id,lt,I,bs,v,C,M,e,rfl,_⟩:=h;rfl
 ·obtain ⟨b,t,B,u,G,id,lt,I,bs,v,C,M,e,rfl,l,he,sB,n5,n4,q⟩:=h;refine ⟨_,(z05 (ps_for W2 rfl (z0x rfl (T.no (z2a _)) (z01 (z06 z0i rfl (T.no (n_len _)) A2 (z01 (pe_fld (pv 0) rfl) pa_nil)) pa_nil)) (z0m (i:=2) sc_Copies_send.nd rfl (O1 rfl))
   (z05 (z0f (z0o (pe_fld (pv 0) rfl) (z01 (z7k (zc9 _) c0 (Y.mono (by decide)) rfl (T.of (zfw _)) (z2q _) .nil passN (z01 (pv 1) (z01 (pv 2) (z01 pe_non pa_nil)))) pa_nil)))))),?_⟩
  obtain ⟨j,fs,p,y,i3,i4,i5,D,V,i8⟩:=l.ins;obtain ⟨o,a,X,Z,L,f,c2,J,r,S,c6,c7⟩:=l.ct;have O:o.length=M.stock.length:=z03 J;refine ⟨_,rfl,b,_,j,fs,_,rfl,p,z0a _,z0u _,y,.inl ⟨u,o,rfl,.inl (SqL.of (f.at (i:=0) rfl rfl)),_,rfl,by omega,by omega,?_⟩⟩;rw [Z5,O];refine z1o (lo:=0) (n:=M.stock.length) (λ i σ g=>∃x2,Same B g/\Cp (kx w) B g b u G id lt I bs v C { M with letters:=M.letters++(W0 i).map λ k=>⟨e,k,none⟩ }/\σ=[some (.ref b),some (.ref t),x2]) ⟨_,sB,?_,rfl⟩ ?_ ?_
  ·have em:({ M with letters:=M.letters++(W0 0).map λ k=>(⟨e,k,none⟩:Lt) }:CM)=M:=by rw [List.range_zero,K7,L1]
   rw [em];exact l
  ·rintro i σ c hi ⟨x2,s2,cp2,rfl⟩;rw [V6];refine g_name ?_;obtain ⟨j,fs,p,y,i3,i4,i5,D,V,i8⟩:=cp2.ins;obtain ⟨o,a,X,Z,L,f,c2,J,r,S,c6,c7⟩:=cp2.ct;have F:c lt=some (.lst a):=f.at (i:=3) rfl rfl;have ll:a.length<=10005:=by have:=z03 r;rw [this,G0,I0,C3];omega
   refine ⟨_,rfl,b,_,j,fs,_,rfl,p,z0a _,z0t _,D,.inl ⟨rfl,a,SqL.of F⟩,_,rfl,_,rfl,λ x K N a1 ne=>?_⟩;refine ⟨x,K,_,_,_,rfl,z04,λ W U k3 e3 R f2 f3=>⟨rfl,?_⟩⟩;have d:Same c U:=z5n N a1 k3;have a0:=cp2.same d;refine ⟨lt,a,_,rfl,rfl,d _ _ F,X0 ll (by decide),?_⟩;refine ⟨_,Same.keep (s2.trans d) (f.fr lt (by simp)),?_,rfl⟩;have:=a0.setL (Ls':=M.letters++(W0 (i + 1)).map λ k=>⟨e,k,none⟩) (lv':=a++[.ref x]) λ g m=>?_
   ·exact this
   ·rw [S8,V1,<-E2];exact z1g (z00 (λ _ _ z=>(z.imm (Imm.of d)).imm m) r) ⟨x,K,W,t,.non,rfl,m.i _ _ _ _ e3,he,R,f2,f3,rfl⟩
  ·rintro σ c ⟨x2,s2,cp2,rfl⟩;exact q c s2 cp2
def z17 (K:o0):Sp:=λ vs H Q _=>∃(cx ea:Addr) (wd:Int) (B:Hp) (st lf id lt ev:Addr) (bs es hls:List Addr) (M:CM) (e:Nat) (er:Er),vs=[.ref cx,.ref ea,.int wd]/\Cp K B H cx st lf id lt ev bs es hls M/\es[e]? = some ea/\M.ers[e]? = some er/\er.hand < M.idle.length/\Same B H/\M.events.length<=10000/\
 ∀H',Same B H'->Cp K B H' cx st lf id lt ev bs es hls (M.stop er wd)->Q .non H'
theorem z4s (T:TX (kx w) mg):Fo P w mg base CX0 1 370 y04 ["self","errand","worth"] (z17 (kx w)):=by
 refine (z2s w.params).ok z52 (λ vs H Q E h=>?_) (λ a3 A a2 s H vs Q E hr h=>?_)
 ·obtain ⟨C,v,x,B,st,lf,id,lt,l,bs,es,X,M,e,b,rfl,_⟩:=h;rfl
 ·obtain ⟨C,v,x,B,st,lf,id,lt,l,bs,es,X,M,e,b,rfl,u,he,a0,Z,sB,n4,q⟩:=h;refine ⟨_,(z02 (ps_asg pe_bl (pg_sub (pe_fld (pv 0) rfl) (pe_fld (pv 1) rfl) z3q))
   (z05 (z0f (z0o (pe_fld (pv 0) rfl) (z01 (pe_tup (z01 pe_str (z01 (pe_fld (pv 1) rfl) (z01 (ziy (z09 opEq (pe_ix ix_seq (pe_fld (pv 1) rfl) pe_int (λ _ _=>rfl)) pe_str (nomark _)) pe_str (pv 2)) pa_nil)))) pa_nil))))),?_⟩
  obtain ⟨U,fs,W,i2,i3,i4,i5,i6,i7,i8⟩:=u.ins;obtain ⟨L,hl,K,e2,G,y,dv,kv,D,S,j3,j4,j5,j6,j7⟩:=u.er e b a0;rw [he] at K;cases K;obtain ⟨sv,lv,k,a1,a4,r,c2,c3,c4,I,c6,c7⟩:=u.ct;have O:H id=some (.lst (M.idle.map V.bl)):=r.at (i:=2) rfl rfl;refine ⟨_,rfl,C,_,U,fs,_,rfl,W,z0a _,z1p _,i5,_,rfl,v,_,G,y,_,rfl,D,z0g _,z0z _,S,id,_,_,b.hand,rfl,rfl,O,z5r (by rw [I0];exact Z),?_⟩;have N:=u.setI (I':=M.idle.set b.hand true) (iv:=(M.idle.map V.bl).set b.hand (.bl true)) (by rw [Y9]);have g:Imm H (upd H id (.lst ((M.idle.map V.bl).set b.hand (.bl true)))):=Imm.lst O;have R:Same B (upd H id (.lst ((M.idle.map V.bl).set b.hand (.bl true)))):=Same.keep sB (r.fr id (by simp));have n:=(r.set (i:=2) (c:=(M.idle.map V.bl).set b.hand (.bl true)) rfl).at (i:=4) rfl rfl;generalize upd H id (.lst ((M.idle.map V.bl).set b.hand (.bl true)))=H1 at N g R n⊢;refine t_nx ?_;have J:k.length<=10000:=by rw [z03 I];exact n4
  obtain ⟨p,rfl,ep⟩:=j4;refine ⟨_,rfl,C,_,U,fs,_,rfl,g.i _ _ _ _ W,z0a _,z13 _,i7,.inl ⟨rfl,k,SqL.of n⟩,_,rfl,v,_,G,y,_,rfl,g.i _ _ _ _ D,z0g _,z0z _,S,?_⟩;refine ⟨_,rfl,v,_,G,y,_,rfl,g.i _ _ _ _ D,z0g _,z0w _,j3,.inr (.inl ⟨p,_,0,.str (vbD b.deed),rfl,rfl,SqT.of (g.t _ _ ep),z08 (j:=0) rfl,rfl,_,rfl,?_⟩)⟩;have fin :∀(a:V),a=avD (ansC b.deed x)->∀d,H1 d=none->Q .non (upd (upd H1 d (.tup [.str "end",.int b.hand,a])) l (.lst (k++[.ref d]))):=λ a L d f=>by subst L;have F:=Same.upd (o:=.tup [.str "end",.int b.hand,avD (ansC b.deed x)]) f;have Y:=N.same F;refine q _ (Same.keep (R.trans F) (r.fr l (by simp))) (Y.setV (E':=M.events++[.fin b.hand (ansC b.deed x)]) (vv':=k++[.ref d]) λ H' m=>?_);exact z1g (z00 (λ _ _ z=>z.imm (g.trans ((Imm.of F).trans m))) I) ⟨d,rfl,m.t _ _ z04⟩
  cases hd:b.deed with
  | none=>refine iteK ⟨_,rfl,w_3,λ d f=>?_⟩;refine ⟨l,k,_,rfl,rfl,(Same.upd f) _ _ n,X0 J (by decide),fin _ (by rw [hd];rfl) d f⟩
  | some i=>refine iteP (show decide (V.str "write" = V.str "write")=true by decide +kernel) ⟨w_3,λ d f=>?_⟩;refine ⟨l,k,_,rfl,rfl,(Same.upd f) _ _ n,X0 J (by decide),fin _ (by rw [hd];rfl) d f⟩
theorem z8p {H:Hp} {a b:Addr} {o:HO} (h:upd H a o b=none):b≠a/\H b=none:=by
 have n:b≠a:=λ z=>by rw [z,z04] at h;cases h
 rw [upd_ne n] at h;exact ⟨n,h⟩
theorem z51 {K:o0} {H:Hp} :∀{hs:List Hd} {vs:List V},All2 (HdAt K H) hs vs->∃ps:List (Addr×Hd),vs=ps.map (λ x=>V.ref x.1)/\ps.map (·.2)=hs/\∀x∈ps,∃q,SqT K H x.1 [.ref q,.int x.2.2]/\SqT K H q [.int x.2.1.1,.int x.2.1.2]
 | _,_,.nil=>⟨[],rfl,rfl,λ _ h=>nomatch h⟩
 | x :: _,_,.cons a r=>by
  obtain ⟨ps,f,d,e⟩:=z51 r;obtain ⟨p,q,rfl,c,g⟩:=a;refine ⟨(p,x) :: ps,by rw [f];rfl,by rw [Y1,d],λ y b=>?_⟩;rcases List.mem_cons.mp b with rfl|b
  ·exact ⟨q,c,g⟩
  ·exact e y b
theorem zj1 {d:Option Int}:decide (V.str (vbD d)=V.str "write")=d.isSome:=by
 cases d with
 | none=>decide +kernel
 | some i=>exact (show decide (V.str "write" = V.str "write")=true by decide +kernel)
def z10 (K:o0):Sp:=λ vs H Q _=>∃(cx ea:Addr) (B:Hp) (st lf id lt ev:Addr) (bs es hls:List Addr) (M:CM) (e:Nat) (er:Er),vs=[.ref cx,.ref ea]/\Cp K B H cx st lf id lt ev bs es hls M/\es[e]? = some ea/\M.ers[e]? = some er/\er.heard≠[]/\er.hand < M.idle.length/\Same B H/\M.stock.length<=5/\M.letters.length<=10000/\M.events.length<=10000/\
 ∀es' hls' H',Same B H'->Cp K B H' cx st lf id lt ev bs es' hls' (M.ask er)->(∀(k:Nat) a,es[k]? = some a->es'[k]? = some a)->Q .non H'
theorem z1v (T:TX (kx w) mg) (c0:Fo P w mg base (CXE P w base) 1 276 y02 ["self","hand","deed","kept"] z1a) (c8:Fo P w mg base CX0 3 335 y09 ["self","errand"] (z1n (kx w))) (c9:Fo P w mg base CX0 1 370 y04 ["self","errand","worth"] (z17 (kx w))):Fo P w mg base CX0 4 363 y00 ["self","errand"] (z10 (kx w)):=by
 refine (z11 w.params).ok sc_Copies_go_on_from_asking (λ vs H Q E h=>?_) (λ b9 A b8 s H vs Q E G h=>?_)
 ·obtain ⟨u,g,B,st,lf,id,lt,ev,bs,es,I,M,e,er,rfl,_⟩:=h;rfl
 ·obtain ⟨u,g,B,st,lf,id,lt,ev,bs,es,I,M,e,er,rfl,F,he,a4,b1,hh,sB,n5,nl,nv,q⟩:=h;refine ⟨_,(z02 (ps_set (i:=2) sc_Copies_go_on_from_asking.nd rfl (O1 rfl) (z06 (zci rfl G) rfl (T.no (n_max _)) boot_max (z01 (pe_fld (pv 1) rfl) pa_nil)))
   (z05 (ps_if (z09 opEq (pe_ix ix_seq (pe_fld (pv 1) rfl) pe_int (λ _ _=>rfl)) pe_str (nomark _))
   (z05 (z0f (z37 (pv 0) (z0a _) (z2b _) c8 (G.mono (by decide)) (z36 _) .nil pass0 (z01 (z7k (z8f _) c0 (G.mono (by decide)) rfl (T.of (zbf _)) (z1j _) .nil passN (z01 (pe_fld (pv 1) rfl) (z01 (pe_fld (pv 1) rfl) (z01 (pe_tup (z01 (pe_tup (z01 (pe_op opAdd (pe_ix ix_seq (pe_ix ix_seq (pv 2) pe_int (λ _ _=>rfl)) pe_int (λ _ _=>rfl)) pe_int) (z01 (pe_fld (pv 1) rfl) pa_nil))) (z01 (pe_ix ix_seq (pe_fld (pv 1) rfl) pe_int (λ _ _=>rfl)) pa_nil))) pa_nil)))) pa_nil))))
   (z05 (ps_if (pt_val (pe_fld (pv 0) rfl) (λ _=>rfl))
   (z05 (z0f (z37 (pv 0) (z0a _) (z2b _) c8 (G.mono (by decide)) (z36 _) .nil pass0 (z01 (z7k (z8f _) c0 (G.mono (by decide)) rfl (T.of (zbf _)) (z1j _) .nil passN (z01 (pe_fld (pv 1) rfl) (z01 (pe_fld (pv 1) rfl) (z01 (pv 2) pa_nil)))) pa_nil))))
   (z05 (z0f (z37 (pv 0) (z0a _) (z23 _) c9 (G.mono (by decide)) (z2o _) .nil pass0 (z01 (pv 1) (z01 (pe_ix ix_seq (pv 2) pe_int (λ _ _=>rfl)) pa_nil)))))))))),?_⟩
  obtain ⟨dx,fs,i1,i2,i3,i4,i5,i6,i7,i8⟩:=F.ins;obtain ⟨b7,hl,e1,e2,C,t,dv,kv,v,j2,j3,j4,j5,j6,j7⟩:=F.er e er a4;rw [he] at e1;cases e1;obtain ⟨sv,lv,vv,a8,b6,c1,c2,c3,c4,c5,c6,c7⟩:=F.ct;obtain ⟨hs,b3,ah⟩:=z0r c7 a4;have b5:H hl=some (.lst hs):=by
   refine c1.at (i:=bs.length + e + 5) ?_ ?_
   ·show (bs++I)[bs.length + e]? = some hl;rw [D1 (by omega),K4];exact e2
   ·show (a8++b6)[bs.length + e]? = some hs;rw [D1 (by omega),c2,K4];exact b3
  obtain ⟨ps,rfl,a0,a5⟩:=z51 ah;cases ps with
  | nil=>exact absurd a0.symm b1
  | cons m r=>
  refine z0b ⟨_,rfl,g,_,C,t,_,rfl,v,z0g _,z1h _,j7,hl,m,r,rfl,SqL.of b5,a5,λ b hb hg=>g_name ?_⟩;have a1:maxHd er.heard=b.2:=by rw [<-a0];refine ze6 (F7 hb) λ x D=>?_;obtain ⟨y,hy,rfl⟩:=List.mem_map.mp D;exact hg y hy
  obtain ⟨bq,a3,a6⟩:=a5 b hb;obtain ⟨p,rfl,ep⟩:=j4;have b4 :∀{c:Addr},H c=none->c∉st :: lf :: id :: lt :: ev :: (bs++I):=λ z=>c1.not z;have go :∀(Y:V) (k':Hd) (n:Hp),Same H n->HdAt (kx w) n k' Y->M.ask er=(M.make ⟨er.hand,er.deed,some k',[]⟩).send M.ers.length->∀(x d:Addr),n x=none->n d=none->∀(c:Addr) (f:List (Str×V)) (l:Hp),Kept x (upd (upd n d (.own x)) x (.ins 279 d [])) l->upd (upd n d (.own x)) x (.ins 279 d []) c=none->l c=some (.lst [])->l x=some (.ins 279 d f)->f.lookup ("hand" : Str)=some (V.int er.hand)->f.lookup ("deed" : Str)=some (V.ref p)->f.lookup ("kept" : Str)=some Y->f.lookup ("heard" : Str)=some (V.ref c)->z1n (kx w) [.ref u,.ref x] l Q E0:=by intro Y k' n s1 b2 ask x d D X c f l L J K U O N S W;have s3:Same n l:=z5n D X L;have a9:n c=none:=(z8p (z8p J).2).2;have fh:H c=none:=s1.free a9;have a2:=s1.trans s3;have b0:=(F.same a2).make (er:=⟨er.hand,er.deed,some k',[]⟩) (e:=x) (hl:=c) ⟨d,f,_,Y,U,O,N,⟨p,rfl,a2 _ _ ep⟩,S,b2.imm (Imm.of s3),W⟩ rfl K (b4 fh) (sB.free fh);refine ⟨u,x,B,st,lf,id,lt,ev,bs,es++[x],I++[c],_,M.ers.length,rfl,b0,by rw [D1 (by rw [F.el.1];exact K0 _),F.el.1,Q8];rfl,sB.trans a2,n5,nl,λ H' s' R=>?_⟩;rw [<-ask] at R;exact q _ _ H' s' R λ k a Z=>by rw [J1 (List.getElem?_eq_some_iff.mp Z).1];exact Z
  refine z15 ⟨_,rfl,g,_,C,t,_,rfl,v,z0g _,z0w _,j3,.inr (.inl ⟨p,_,0,.str (vbD er.deed),rfl,rfl,SqT.of ep,z08 (j:=0) rfl,rfl,_,rfl,?_⟩)⟩;rw [zj1];cases hd:er.deed with
  | some w0=>
   refine iteP rfl ?_;have ask:M.ask er=(M.make ⟨er.hand,er.deed,some (((maxHd er.heard).1.1 + 1,er.hand),w0),[]⟩).send M.ers.length:=by unfold CM.ask;rw [hd]
   rw [hd] at ep;refine ⟨_,rfl,u,dx,fs,rfl,i1,i8 _ (by decide +kernel),?_⟩;refine ⟨_,rfl,g,_,C,t,_,rfl,v,z0g _,z0z _,j2,_,rfl,g,_,C,t,_,rfl,v,z0g _,z0w _,j3,?_⟩;refine ⟨_,rfl,.inr (.inl ⟨b.1,_,0,.ref bq,rfl,rfl,a3,z08 (j:=0) rfl,.inr (.inl ⟨bq,_,0,.int b.2.1.1,rfl,rfl,a6,z08 (j:=0) rfl,.inl ⟨_,_,rfl,rfl,?_⟩⟩)⟩)⟩;refine ⟨_,rfl,g,_,C,t,_,rfl,v,z0g _,z0z _,j2,w_2,λ p1 a7=>?_⟩;have u1:=Same.upd (o:=.tup [.int (b.2.1.1 + 1),.int er.hand]) a7;refine ⟨_,rfl,g,_,C,t,_,rfl,u1 _ _ v,z0g _,z0w _,j3,.inr (.inl ⟨p,_,1,.int w0,rfl,rfl,SqT.of (u1 _ _ ep),z08 (j:=1) rfl,w_2,λ p2 a0=>?_⟩)⟩;have u2:=Same.upd (o:=.tup [.ref p1,.int w0]) a0;have Z:HdAt (kx w) (upd (upd H p1 (.tup [.int (b.2.1.1 + 1),.int er.hand])) p2 (.tup [.ref p1,.int w0])) (((maxHd er.heard).1.1 + 1,(er.hand:Int)),w0) (.ref p2):=⟨p2,p1,rfl,SqT.of z04,by rw [a1];exact SqT.of (u2 _ _ z04)⟩
   refine λ x d D X ne=>⟨x,d,_,_,_,rfl,z04,λ c f l L J K U O N S W=>⟨rfl,?_⟩⟩
   exact go _ _ _ (u1.trans u2) Z ask x d D X c f l L J K U O N S W
  | none=>
   refine iteN (by decide) ?_;refine z15 ⟨_,rfl,u,_,dx,fs,_,rfl,i1,z0a _,z4b _,i3,_,rfl,?_⟩;by_cases bk:M.back=true
   ·refine iteP bk ?_;have ask:M.ask er=(M.make ⟨er.hand,er.deed,some (maxHd er.heard),[]⟩).send M.ers.length:=by unfold CM.ask;rw [hd];exact if_pos bk
    refine ⟨_,rfl,u,dx,fs,rfl,i1,i8 _ (by decide +kernel),?_⟩;refine ⟨_,rfl,g,_,C,t,_,rfl,v,z0g _,z0z _,j2,_,rfl,g,_,C,t,_,rfl,v,z0g _,z0w _,j3,_,rfl,?_⟩;refine λ x d D X ne=>⟨x,d,_,_,_,rfl,z04,λ c f l L J K U O N S W=>⟨rfl,?_⟩⟩
    exact go _ _ _ (Same.refl _) ⟨b.1,bq,rfl,by rw [a1];exact a3,by rw [a1];exact a6⟩ ask x d D X c f l L J K U O N S W
   ·refine iteN bk ?_;have ask:M.ask er=M.stop er (maxHd er.heard).2:=by unfold CM.ask;rw [hd];exact if_neg bk
    refine ⟨_,rfl,u,dx,fs,rfl,i1,i8 _ (by decide +kernel),_,rfl,_,rfl,.inr (.inl ⟨b.1,_,1,.int b.2.2,rfl,rfl,a3,z08 (j:=1) rfl,?_⟩)⟩;refine ⟨u,g,b.2.2,B,st,lf,id,lt,ev,bs,es,I,M,e,er,rfl,F,he,a4,hh,sB,nv,λ H' s' R=>?_⟩;rw [<-a1,<-ask] at R;exact q _ _ H' s' R λ _ _ z=>z
theorem Cp.heard {K:o0} {B H:Hp} {cx st lf id lt ev:Addr} {bs es hls:List Addr} {M:CM} {e:Nat} {er:Er} {ea:Addr} (cp:Cp K B H cx st lf id lt ev bs es hls M) (he:es[e]? = some ea) (her:M.ers[e]? = some er) :∃hl hs,hls[e]? = some hl/\H hl=some (.lst hs)/\All2 (HdAt K H) er.heard hs/\ErAt K H er ea hl/\hl∈st :: lf :: id :: lt :: ev :: (bs++hls):=by
 obtain ⟨s,hl,c,a,d⟩:=cp.er e er her;rw [he] at c;cases c;obtain ⟨o,p,n,g,k,l,h,q,r,m,t,i⟩:=cp.ct;obtain ⟨hs,j,f⟩:=z0r i her;have b:(st :: lf :: id :: lt :: ev :: (bs++hls))[bs.length + e + 5]? = some hl:=by show (bs++hls)[bs.length + e]? = some hl;rw [D1 (by omega),K4];exact a
 refine ⟨hl,hs,a,l.at b ?_,f,d,B1 b⟩;show (g++k)[bs.length + e]? = some hs;rw [D1 (by omega),h,K4];exact j
theorem Cp.fr {K:o0} {B H:Hp} {cx st lf id lt ev:Addr} {bs es hls:List Addr} {M:CM} (cp:Cp K B H cx st lf id lt ev bs es hls M) {m:Addr} (hm:m∈st :: lf :: id :: lt :: ev :: (bs++hls)):B m=none:=by obtain ⟨e,c,d,f,b,a,_⟩:=cp.ct;exact a.fr m hm
def z1u (K:o0):Sp:=λ vs H Q _=>∃(cx ea:Addr) (hv:V) (B:Hp) (st lf id lt ev:Addr) (bs es hls:List Addr) (M:CM) (e:Nat) (er:Er) (x:Hd),vs=[.ref cx,.ref ea,hv]/\Cp K B H cx st lf id lt ev bs es hls M/\es[e]? = some ea/\M.ers[e]? = some er/\HdAt K H x hv/\er.hand < M.idle.length/\Same B H/\M.stock.length<=5/\M.letters.length<=10000/\M.events.length<=10000/\er.heard.length<=10000/\
 ∀es' hls' H',Same B H'->Cp K B H' cx st lf id lt ev bs es' hls' (M.comeBack e er x)->Q .non H'
theorem z3t (T:TX (kx w) mg) (c0:Fo P w mg base CX0 1 370 y04 ["self","errand","worth"] (z17 (kx w))) (c8:Fo P w mg base CX0 4 363 y00 ["self","errand"] (z10 (kx w))):Fo P w mg base CX0 5 356 y06 ["self","errand","held"] (z1u (kx w)):=by
 refine (z1x w.params).ok z3w (λ vs H Q E h=>?_) (λ a8 A a7 s H vs Q E W h=>?_)
 ·obtain ⟨g,l,d,B,p,G,id,lt,y,bs,o,n,M,e,b,x,rfl,_⟩:=h;rfl
 ·obtain ⟨g,l,d,B,p,G,id,lt,y,bs,o,n,M,e,b,x,rfl,K,I,O,hx,hh,sB,n5,nl,nv,nh,q⟩:=h;refine ⟨_,(z02 (z0f (z0o (pe_fld (pv 1) rfl) (z01 (pv 2) pa_nil)))
   (z02 (ps_if (z09 opNe (z06 z0i rfl (T.no (n_len _)) A2 (z01 (pe_fld (pv 1) rfl) pa_nil)) (pe_op opAdd (pe_op z1e (z06 z0i rfl (T.no (n_len _)) A2 (z01 (pe_fld (pv 0) rfl) pa_nil)) pe_int) pe_int) (nomark _))
   (z05 z7f)
   z0d)
   (z05 (ps_if (z09 z9c (pe_fld (pv 1) rfl) pe_non (nomark _))
   (z05 (z0f (z37 (pv 0) (z0a _) (z23 _) c0 (W.mono (by decide)) (z2o _) .nil pass0 (z01 (pv 1) (z01 (pe_ix ix_seq (pe_fld (pv 1) rfl) pe_int (λ _ _=>rfl)) pa_nil)))))
   (z05 (z0f (z37 (pv 0) (z0a _) (z1w _) c8 (W.mono (by decide)) (z21 _) .nil pass0 (z01 (pv 1) pa_nil)))))))),?_⟩
  obtain ⟨f,a,e2,R,U,⟨F,t,dv,kv,C,j2,j3,j4,Z,u,j7⟩,mh⟩:=K.heard I O;have a3:a.length=b.heard.length:=z03 U;refine ⟨_,rfl,l,_,F,t,_,rfl,C,z0g _,z1h _,j7,.inl ⟨rfl,a,SqL.of R⟩,_,rfl,f,a,_,rfl,rfl,R,X0 (m:=10000) (by omega) (by decide),?_⟩;have r:Imm H (upd H f (.lst (a++[d]))):=Imm.lst R;have c:=K.setH (hd:=b.heard++[x]) (ys:=a++[d]) O e2 λ D m=>z1g (z00 (λ _ _ z=>z.imm m) U) (hx.imm m);have v:Same B (upd H f (.lst (a++[d]))):=Same.keep sB (K.fr mh);have e1:upd H f (.lst (a++[d])) f=some (.lst (a++[d])):=z04;generalize upd H f (.lst (a++[d]))=H1 at r c v e1⊢;have c:Cp (kx w) B H1 g p G id lt y bs o n { M with ers:=M.ers.set e (b.hear x) }:=c;have kl:e < M.ers.length:=(List.getElem?_eq_some_iff.mp O).1;have a1:({ M with ers:=M.ers.set e (b.hear x) }:CM).ers[e]? = some (b.hear x):=O0 kl;obtain ⟨N,fs,S,i2,i3,i4,i5,i6,i7,X⟩:=c.ins;obtain ⟨Y,lv,vv,a6,a9,c1,c2,c3,c4,c5,c6,c7⟩:=c.ct;have a5:Y.length=M.stock.length:=z03 c3;refine t_nx (sq_if ?_);refine ⟨_,rfl,l,_,F,t,_,rfl,r.i _ _ _ _ C,z0g _,z1h _,j7,.inl ⟨f,_,rfl,.inl (SqL.of e1),?_⟩⟩;refine ⟨_,rfl,g,_,N,fs,_,rfl,S,z0a _,z0u _,i2,.inl ⟨p,Y,rfl,.inl (SqL.of (c1.at (i:=0) rfl rfl)),_,_,rfl,rfl,⟨by decide,by decide⟩,.inl ⟨_,_,rfl,rfl,rfl,_,rfl,?_⟩⟩⟩;have a0:(b.hear x).heard.length=a.length + 1:=by show (b.heard++[x]).length=_;rw [G0,a3];rfl
  have ll:(a++[d]).length=a.length + 1:=by rw [G0];rfl
  rw [ll,a5];unfold CM.comeBack at q;by_cases ne:(b.hear x).heard.length≠M.stock.length / 2 + 1
  ·rw [if_pos ne] at q;refine iteP ?_ (q o n H1 v c);have:V.int ((a.length + 1:Nat):Int)≠V.int ((M.stock.length:Int) / 2 + 1):=λ z=>by injection z with z;rw [a0] at ne;omega
   simpa using this
  rw [if_neg ne] at q;refine iteN ?_ (t_nx ?_)
  ·have:V.int ((a.length + 1:Nat):Int)=V.int ((M.stock.length:Int) / 2 + 1):=by congr 1;rw [a0] at ne;omega
   simpa using this
  refine z15 ⟨_,rfl,l,_,F,t,_,rfl,r.i _ _ _ _ C,z0g _,z0y _,Z,rfl,_,rfl,?_⟩;cases hk:b.kept with
  | some k=>
   rw [hk] at q u;obtain ⟨kp,kq,rfl,k1,k2⟩:=(show HdAt (kx w) H k kv from u)
   refine iteP (by simp) ?_;refine ⟨_,rfl,g,N,fs,rfl,S,X _ (by decide +kernel),_,rfl,_,rfl,l,_,F,t,_,rfl,r.i _ _ _ _ C,z0g _,z0y _,Z,.inr (.inl ⟨kp,_,1,.int k.2,rfl,rfl,r.seqT k1,z08 (j:=1) rfl,?_⟩)⟩;exact ⟨g,l,k.2,B,p,G,id,lt,y,bs,o,n,_,e,_,rfl,c,I,a1,hh,v,nv,λ D L J=>q o n D L J⟩
  | none=>rw [hk] at q u;cases (show kv=.non from u);refine iteN (by simp) ?_;refine ⟨_,rfl,g,N,fs,rfl,S,X _ (by decide +kernel),_,rfl,?_⟩;exact ⟨g,l,B,p,G,id,lt,y,bs,o,n,_,e,_,rfl,c,I,a1,(by show b.heard++[x]≠[];simp),hh,v,n5,nl,nv,λ a2 a4 D L J _=>q a2 a4 D L J⟩
theorem zg3 {α:Type} {R:α->V->Prop} {xs:List α} {ys:List V} {n:Nat} {x:α} {y:V} (h:All2 R xs ys) (r:R x y):All2 R (xs.set n x) (ys.set n y):=by
 induction h generalizing n with
 | nil=>exact .nil
 | cons a t ih=>
  cases n with
  | zero=>exact .cons r t
  | succ n=>exact .cons a ih
def z16 (K:o0):Sp:=λ vs H Q _=>∃(cx ea:Addr) (n:Nat) (B:Hp) (st lf id lt ev:Addr) (bs es hls:List Addr) (M:CM) (e:Nat) (er:Er) (x:Hd),vs=[.ref cx,.ref ea,.int n]/\Cp K B H cx st lf id lt ev bs es hls M/\es[e]? = some ea/\M.ers[e]? = some er/\M.stock[n]? = some x/\Same B H/\M.letters.length<=10000/\
 ∀H',Same B H'->Cp K B H' cx st lf id lt ev bs es hls (M.comeTo e er n x)->Q .non H'
theorem z2v (T:TX (kx w) mg) (c0:Fo P w mg base (CXE P w base) 1 297 y03 ["self","errand","number","held"] z1d):Fo P w mg base CX0 3 349 y01 ["self","errand","number"] (z16 (kx w)):=by
 refine (z1i w.params).ok z2t (λ vs H Q E h=>?_) (λ b6 A b4 s H vs Q E hr h=>?_)
 ·obtain ⟨b,c,n,B,d,Z,id,lt,S,bs,X,F,M,e,a,x,rfl,_⟩:=h;rfl
 ·obtain ⟨b,c,n,B,d,Z,id,lt,S,bs,X,F,M,e,a,x,rfl,r,he,b0,C,sB,nl,q⟩:=h;refine ⟨_,(z02 (ps_if (PW.pt (pw_and (z09 z9c (pe_fld (pv 1) rfl) pe_non (nomark _)) (z27 (z09 (op_gtT hr) (pe_ix ix_seq (pe_fld (pv 1) rfl) pe_int (λ _ _=>rfl)) (pe_ix ix_seq (pe_ix ix_seq (pe_fld (pv 0) rfl) (pv 2) (λ _ _=>rfl)) pe_int (λ _ _=>rfl)) (nomark _)))))
   (z05 (ps_asg (pe_fld (pv 1) rfl) (pg_sub (pe_fld (pv 0) rfl) (pv 2) z3q)))
   z0d)
   (z05 (z0f (z0o (pe_fld (pv 0) rfl) (z01 (z7k (zc9 _) c0 (hr.mono (by decide)) rfl (T.of (zfw _)) (z2q _) .nil passN (z01 (pv 1) (z01 (pv 2) (z01 (pe_ix ix_seq (pe_fld (pv 0) rfl) (pv 2) (λ _ _=>rfl)) pa_nil)))) pa_nil))))),?_⟩
  obtain ⟨hl,hs,e2,b8,ah,⟨Y,D,dv,kv,U,j2,j3,j4,G,v,j7⟩,mh⟩:=r.heard he b0;obtain ⟨t,fs,u,y,i3,i4,i5,i6,i7,i8⟩:=r.ins;obtain ⟨l,lv,vv,b3,b9,c1,c2,c3,c4,c5,c6,c7⟩:=r.ct;have L:H d=some (.lst l):=c1.at (i:=0) rfl rfl;obtain ⟨sx,a0,O,xq,rfl,x1,x2⟩:=z0r c3 C;have a8:atI l (n:Nat)=some (.ref O):=z08 a0;have hn:n < l.length:=(List.getElem?_eq_some_iff.mp a0).1;refine z7h (λ g f=>Same B f/\Cp (kx w) B f b d Z id lt S bs X F { M with stock:=M.stock.set n (keepH a.kept x) }/\Imm H f/\g=[some (.ref b),some (.ref c),some (.int n)]) ?_ (λ R=>?_)
  ·rintro g f ⟨s1,cp1,m1,rfl⟩;obtain ⟨t,fs,u,y,i3,i4,i5,i6,i7,i8⟩:=cp1.ins;obtain ⟨a4,o,b5,b2,b7,I,d2,d3,d4,d5,d6,d7⟩:=cp1.ct;have a6:(M.stock.set n (keepH a.kept x))[n]? = some (keepH a.kept x):=O0 (List.getElem?_eq_some_iff.mp C).1;obtain ⟨W,a3,hy⟩:=z0r d3 a6;have el:f lt=some (.lst o):=I.at (i:=3) rfl rfl;have ll:o.length<=10000:=by rw [z03 d4];exact nl
   refine ⟨_,rfl,b,_,t,fs,_,rfl,u,z0a _,z0t _,i6,.inl ⟨rfl,o,SqL.of el⟩,_,rfl,_,rfl,_,rfl,b,_,t,fs,_,rfl,u,z0a _,z0u _,y,_,rfl,.inl ⟨d,a4,_,W,rfl,rfl,SqL.of (I.at (i:=0) rfl rfl),z08 a3,λ J a1 a9 b1 ne=>?_⟩⟩;refine ⟨J,a1,_,_,_,rfl,z04,λ a2 H3 k3 e3 f1 f2 f3=>⟨rfl,?_⟩⟩;have p:Same f H3:=z5n a9 b1 k3;have a5:=cp1.same p;refine ⟨lt,o,_,rfl,rfl,p _ _ el,X0 ll (by decide),?_⟩;refine q _ (Same.keep (s1.trans p) (I.fr lt (by simp))) ?_;exact a5.setL (Ls':=M.letters++[⟨e,n,some (keepH a.kept x)⟩]) (lv':=o++[.ref J]) λ H' m=>z1g (x:=(⟨e,n,some (keepH a.kept x)⟩:Lt)) (z00 (λ _ _ z=>(z.imm (Imm.of p)).imm m) d4) ⟨J,a1,a2,c,W,rfl,m.i _ _ _ _ e3,he,f1,f2,f3,(show OptHd (kx w) H' (some (keepH a.kept x)) W from (hy.imm (Imm.of p)).imm m)⟩
  ·have same:keepH a.kept x=x->∀g,g=[some (V.ref b),some (V.ref c),some (V.int n)]->Same B H/\Cp (kx w) B H b d Z id lt S bs X F { M with stock:=M.stock.set n (keepH a.kept x) }/\Imm H H/\g=[some (V.ref b),some (V.ref c),some (V.int n)]:=λ N g a7=>by
    have e0:M.stock.set n (keepH a.kept x)=M.stock:=by
     rw [N];apply List.ext_getElem?;intro j;by_cases z:j=n
     ·subst z;rw [O0 (List.getElem?_eq_some_iff.mp C).1,C]
     ·rw [X1 (C2 z)]
    refine ⟨sB,?_,Imm.of (Same.refl _),a7⟩;rw [e0];exact r
   refine z15 ⟨_,rfl,c,_,Y,D,_,rfl,U,z0g _,z0y _,G,rfl,_,rfl,?_⟩;cases hk:a.kept with
   | none=>rw [hk] at v;cases (show kv=.non from v);exact iteN (by simp) (R _ _ (same (by rw [hk];rfl) _ rfl))
   | some k=>
    rw [hk] at v;obtain ⟨kp,K,rfl,k1,k2⟩:=(show HdAt (kx w) H k kv from v)
    refine iteP (by simp) ?_;refine ⟨_,rfl,c,_,Y,D,_,rfl,U,z0g _,z0y _,G,.inr (.inl ⟨kp,_,0,.ref K,rfl,rfl,k1,z08 (j:=0) rfl,?_⟩)⟩;refine ⟨_,rfl,b,_,t,fs,_,rfl,u,z0a _,z0u _,y,_,rfl,.inl ⟨d,l,_,.ref O,rfl,rfl,SqL.of L,a8,.inr (.inl ⟨O,_,0,.ref xq,rfl,rfl,x1,z08 (j:=0) rfl,?_⟩)⟩⟩;refine ⟨K,xq,k.1,x.1,rfl,rfl,k2,x2,_,rfl,?_⟩;by_cases gt:gtI k.1 x.1=true
    ·refine iteP gt ?_;refine ⟨_,rfl,c,_,Y,D,_,rfl,U,z0g _,z0y _,G,_,rfl,b,_,t,fs,_,rfl,u,z0a _,z0u _,y,_,rfl,d,l,_,n,rfl,rfl,L,z5r hn,?_⟩;refine R _ _ ⟨Same.keep sB (c1.fr d (by simp)),r.setS λ H' m=>?_,Imm.lst L,rfl⟩;have N:keepH a.kept x=k:=by rw [hk];exact if_pos gt
     rw [N];exact zg3 (z00 (λ _ _ z=>z.imm m) c3) ⟨kp,K,rfl,m.seqT k1,m.seqT k2⟩
    ·exact iteN gt (R _ _ (same (by rw [hk];exact if_neg gt) _ rfl))
theorem z2i {X:Cx} {K:o0} (hK:X.K=K):CallR X (.builtin "len") (λ xs H Q=>(∃p ys,xs=[.ref p]/\(SqL K H p ys\/SqT K H p ys)/\Q (.int ys.length) H)\/∃z,xs=[.str z]/\z.length<=sizeLine/\Q (.int z.length) H):=hK ▸ z0i
theorem z8e {j n:Nat} (h:j < n):PySem.seqIndex? (j:Int) n=some j:=by
 unfold PySem.seqIndex?;have:¬ ((j:Int) < 0):=by omega
 simp only [if_neg this];rw [if_pos (by simp [h])];rfl
def z3k (K:o0):Sp:=λ vs H Q _=>∃(cx:Addr) (v:V) (B:Hp) (st lf id lt ev:Addr) (bs es hls:List Addr) (M:CM) (L:Lt) (er:Er) (x:Hd),vs=[.ref cx,v]/\Cp K B H cx st lf id lt ev bs es hls M/\LtAt K H es L v/\M.ers[L.e]? = some er/\M.stock[L.num]? = some x/\er.hand < M.idle.length/\Same B H/\M.stock.length<=5/\M.letters.length<=10000/\M.events.length<=10000/\er.heard.length<=10000/\
 ∀es' hls' H',Same B H'->Cp K B H' cx st lf id lt ev bs es' hls' (M.come L)->Q .non H'
theorem z71 (T:TX (kx w) mg) (c0:Fo P w mg base CX0 3 349 y01 ["self","errand","number"] (z16 (kx w))) (c1:Fo P w mg base CX0 5 356 y06 ["self","errand","held"] (z1u (kx w))):Fo P w mg base CX0 6 342 y0c ["self","letter"] (z3k (kx w)):=by
 refine (z4d w.params).ok z7a (λ Y H Q E h=>?_) (λ a2 A a3 s H Y Q E I h=>?_)
 ·obtain ⟨f,v,B,C,t,id,lt,u,bs,i,j,M,L,m,x,rfl,_⟩:=h;rfl
 ·obtain ⟨f,v,B,C,t,id,lt,u,bs,i,j,M,L,m,x,rfl,o,⟨g,b,c,U,k,rfl,d,K,F,W,G,a⟩,p,D,hh,O,V,R,X,nh,q⟩:=h;refine ⟨_,(z05 (ps_if (z09 op_isN (pe_fld (pv 1) rfl) pe_non (nomark _))
   (z05 (z0f (z37 (pv 0) (z0a _) (z2u _) c0 (I.mono (by decide)) (z32 _) .nil pass0 (z01 (pe_fld (pv 1) rfl) (z01 (pe_fld (pv 1) rfl) pa_nil)))))
   (z05 (z0f (z37 (pv 0) (z0a _) (z45 _) c1 (I.mono (by decide)) (z47 _) .nil pass0 (z01 (pe_fld (pv 1) rfl) (z01 (pe_fld (pv 1) rfl) pa_nil))))))),?_⟩
  obtain ⟨J,fs,S,i2,i3,i4,i5,i6,i7,N⟩:=o.ins;refine z15 ⟨_,rfl,g,_,b,c,_,rfl,d,z20 _,z2j _,G,rfl,_,rfl,?_⟩;unfold CM.come at q;rw [p,D] at q;cases hk:L.held with
  | none=>rw [hk] at q a;cases (show k=.non from a);refine iteP (by simp) ?_;refine ⟨_,rfl,f,J,fs,rfl,S,N _ (by decide +kernel),_,rfl,g,_,b,c,_,rfl,d,z20 _,z1s _,F,_,rfl,g,_,b,c,_,rfl,d,z20 _,z39 _,W,?_⟩;exact ⟨f,U,L.num,B,C,t,id,lt,u,bs,i,j,M,L.e,m,x,rfl,o,K,p,D,O,R,λ l r n=>q i j l r n⟩
  | some y=>
   rw [hk] at q a;have a:HdAt (kx w) H y k:=a;have a0:k≠.non:=λ z=>by obtain ⟨_,_,e,_⟩:=a;rw [z] at e;cases e
   refine iteN (by simpa using a0) ?_;refine ⟨_,rfl,f,J,fs,rfl,S,N _ (by decide +kernel),_,rfl,g,_,b,c,_,rfl,d,z20 _,z1s _,F,_,rfl,g,_,b,c,_,rfl,d,z20 _,z2j _,G,?_⟩;exact ⟨f,U,k,B,C,t,id,lt,u,bs,i,j,M,L.e,m,y,rfl,o,K,p,a,hh,O,V,R,X,nh,λ a1 Z l r n=>q a1 Z l r n⟩
theorem Cp.own {K:o0} {B H:Hp} {cx st lf id lt ev:Addr} {bs es hls:List Addr} {M:CM} {h:Nat} {own:List (Option Int)} (cp:Cp K B H cx st lf id lt ev bs es hls M) (ho:M.left[h]? = some own) :∃b ys,bs[h]? = some b/\H b=some (.lst ys)/\All2 (DdV H) own ys/\b∈st :: lf :: id :: lt :: ev :: (bs++hls):=by
 obtain ⟨o,l,m,i,d,k,r,n,p,s,j,q⟩:=cp.ct;have e:h < M.left.length:=(List.getElem?_eq_some_iff.mp ho).1;have a:h < bs.length:=by rw [cp.el.2.2];exact e
 obtain ⟨ys,g,f⟩:=z0r j ho;have c:(st :: lf :: id :: lt :: ev :: (bs++hls))[h + 5]? = some bs[h]:=by show (bs++hls)[h]? = some bs[h];rw [J1 a];exact A0 a
 refine ⟨bs[h],ys,A0 a,k.at c ?_,f,B1 c⟩;show (i++d)[h]? = some ys;rw [J1 (by omega)];exact g
def z1t (K:o0):Sp:=λ vs H Q _=>∃(cx:Addr) (h:Nat) (B:Hp) (st lf id lt ev:Addr) (bs es hls:List Addr) (M:CM) (d:Option Int) (rest:List (Option Int)),vs=[.ref cx,.int h]/\Cp K B H cx st lf id lt ev bs es hls M/\M.left[h]? = some (d :: rest)/\h < M.idle.length/\Same B H/\M.stock.length<=5/\M.letters.length<=10000/\M.events.length<=10000/\
 ∀es' hls' H',Same B H'->Cp K B H' cx st lf id lt ev bs es' hls' (M.start h d rest)->Q .non H'
theorem z43 (T:TX (kx w) mg) (c0:Fo P w mg base (CXE P w base) 1 276 y02 ["self","hand","deed","kept"] z1a) (c8:Fo P w mg base CX0 3 335 y09 ["self","errand"] (z1n (kx w))):Fo P w mg base CX0 4 328 y05 ["self","hand"] (z1t (kx w)):=by
 refine (z1y w.params).ok sc_Copies_begin_deed (λ vs H Q E h=>?_) (λ d0 A c9 s H vs Q E hr h=>?_)
 ·obtain ⟨v,h,B,st,lf,id,lt,f,bs,es,a6,M,d,rest,rfl,_⟩:=h;rfl
 ·obtain ⟨v,h,B,st,lf,id,lt,f,bs,es,a6,M,d,rest,rfl,k,ho,hi,sB,n5,nl,nv,q⟩:=h;refine ⟨_,(z02 (ps_set (i:=2) sc_Copies_begin_deed.nd rfl (O1 rfl) (ze7 (pe_ix ix_seq (pe_fld (pv 0) rfl) (pv 1) (λ _ _=>rfl)) (z01 pe_int pa_nil)))
   (z02 (ps_asg pe_bl (pg_sub (pe_fld (pv 0) rfl) (pv 1) z3q))
   (z02 (z0f (z0o (pe_fld (pv 0) rfl) (z01 (pe_op opAdd (pe_tup (z01 pe_str (z01 (pv 1) (z01 pe_str pa_nil)))) (pv 2)) pa_nil)))
   (z05 (z0f (z37 (pv 0) (z0a _) (z2b _) c8 (hr.mono (by decide)) (z36 _) .nil pass0 (z01 (z7k (z8f _) c0 (hr.mono (by decide)) rfl (T.of (zbf _)) (z1j _) .nil passN (z01 (pv 1) (z01 (pv 2) (z01 pe_non pa_nil)))) pa_nil))))))),?_⟩
  obtain ⟨l,fs,u,Z,i3,L,J,U,G,D⟩:=k.ins;obtain ⟨b,ys,hb,eb,ay,mb⟩:=k.own ho;obtain ⟨R,lv,a,S,a5,c,O,W,c4,C,Y,c7⟩:=k.ct;cases ay with
  | cons a0 ar=>
  rename_i y zs;have b8:atI (bs.map V.ref) (h:Nat)=some (.ref b):=z08 (by rw [S0,hb];rfl);refine z0b ⟨_,rfl,v,_,l,fs,_,rfl,u,z0a _,z2f _,L,_,rfl,.inl ⟨lf,_,_,.ref b,rfl,rfl,SqL.of (c.at (i:=1) rfl rfl),b8,.inl ⟨rfl,_,SqL.of eb⟩,b,_,0,0,y,rfl,rfl,eb,by decide,by decide,z8e (j:=0) (Nat.succ_pos _),rfl,?_⟩⟩;have m1:Imm H (upd H b (.lst zs)):=Imm.lst eb;have I:=k.setW (own:=rest) (ys:=zs) hb λ H' m=>z00 (λ _ _ z=>z.imm m) ar;have s1:Same B (upd H b (.lst zs)):=Same.keep sB (k.fr mb);refine g_name ?_;have a1:=a0.imm m1;show tSeq _ _ _ _ (upd H b (.lst zs));generalize upd H b (.lst zs)=H1 at m1 I s1 a1⊢;obtain ⟨l,fs,u,Z,i3,L,J,U,G,D⟩:=I.ins;obtain ⟨R,lv,a,S,a5,c,O,W,c4,C,Y,c7⟩:=I.ct;have ei:H1 id=some (.lst (M.idle.map V.bl)):=c.at (i:=2) rfl rfl;refine ⟨_,rfl,v,_,l,fs,_,rfl,u,z0a _,z1p _,J,_,rfl,id,_,_,h,rfl,rfl,ei,z5r (by rw [I0];exact hi),?_⟩;have F:=I.setI (I':=M.idle.set h false) (iv:=(M.idle.map V.bl).set h (.bl false)) (by rw [Y9]);have m2:Imm H1 (upd H1 id (.lst ((M.idle.map V.bl).set h (.bl false)))):=Imm.lst ei;have s2:Same B (upd H1 id (.lst ((M.idle.map V.bl).set h (.bl false)))):=Same.keep s1 (c.fr id (by simp));have a2:=a1.imm m2;generalize upd H1 id (.lst ((M.idle.map V.bl).set h (.bl false)))=H2 at F m2 s2 a2⊢;refine t_nx ?_;obtain ⟨l,fs,u,Z,i3,L,J,U,G,D⟩:=F.ins;obtain ⟨R,lv,a,S,a5,c,O,W,c4,C,Y,c7⟩:=F.ct;have b1:a.length<=10000:=by rw [z03 C];exact nv
  have a4:H2 f=some (.lst a):=c.at (i:=4) rfl rfl;obtain ⟨p,rfl,ep⟩:=a2;refine ⟨_,rfl,v,_,l,fs,_,rfl,u,z0a _,z13 _,G,.inl ⟨rfl,a,SqL.of a4⟩,_,rfl,w_3,λ X b3=>?_⟩;have u1:=Same.upd (o:=.tup [.str "begin",.int h,.str "r"]) b3;refine ⟨_,rfl,.inr (.inr (.inr ⟨X,p,_,_,rfl,rfl,SqT.of z04,SqT.of (u1 _ _ ep),List.cons_ne_nil _ _,(show 3 + 2<=sizeLine by decide),(λ z=>nomatch z),λ _ g b5=>?_⟩))⟩;have n:=u1.trans (Same.upd (o:=.tup ([.str "begin",.int h,.str "r"]++[.str (vbD d),wvD d])) b5);have e2:upd (upd H2 X (.tup [.str "begin",.int h,.str "r"])) g (.tup ([.str "begin",.int h,.str "r"]++[.str (vbD d),wvD d])) g=some (.tup [.str "begin",.int h,.str "r",.str (vbD d),wvD d]):=z04;generalize upd (upd H2 X (.tup [.str "begin",.int h,.str "r"])) g (.tup ([.str "begin",.int h,.str "r"]++[.str (vbD d),wvD d]))=H3 at n e2⊢;have b4:=F.same n;refine ⟨f,a,_,rfl,rfl,n _ _ a4,X0 b1 (by decide),?_⟩;have m4:Imm H3 (upd H3 f (.lst (a++[.ref g]))):=Imm.lst (n _ _ a4);have K:=b4.setV (E':=M.events++[.beg h d]) (vv':=a++[.ref g]) λ H' m=>z1g (z00 (λ _ _ z=>z.imm ((Imm.of n).trans m)) C) (x:=CEv.beg h d) ⟨g,rfl,m.t _ _ e2⟩;have s4:Same B (upd H3 f (.lst (a++[.ref g]))):=Same.keep (s2.trans n) (c.fr f (by simp));have a8:=m4.t _ _ (n _ _ ep);generalize upd H3 f (.lst (a++[.ref g]))=H4 at m4 K s4 a8⊢;refine t_nx ?_;obtain ⟨l,fs,u,Z,i3,L,J,U,G,D⟩:=K.ins;obtain ⟨R,lv,a,S,a5,c,O,W,c4,C,Y,c7⟩:=K.ct;refine ⟨_,rfl,v,l,fs,rfl,u,D _ (by decide +kernel),_,rfl,_,rfl,λ x a7 hx b9 ne=>?_⟩;refine ⟨x,a7,_,_,_,rfl,z04,λ a3 a9 H5 k5 b0 b2 e5 f1 f2 f3 f4=>⟨rfl,?_⟩⟩;have N:Same H4 H5:=z5n hx b9 k5;have fh:H4 a3=none:=(z8p (z8p b0).2).2;have b7:=(K.same N).make (er:=⟨h,d,none,[]⟩) (e:=x) (hl:=a3) ⟨a7,a9,_,.non,e5,f1,f2,⟨p,rfl,N _ _ a8⟩,f3,rfl,f4⟩ rfl b2 (c.not fh) (s4.free fh);refine ⟨v,x,B,st,lf,id,lt,f,bs,es++[x],a6++[a3],_,M.ers.length,rfl,b7,by rw [D1 (by rw [k.el.1];exact K0 _),k.el.1,Q8];rfl,s4.trans N,n5,nl,λ H' s' b6=>q _ _ H' s' b6⟩
theorem zkt {p:Nat->Bool} {n:Nat} {ys:List V} (h:All2 (λ (i:Nat) y=>y=V.int (i:Int)) ((W0 n).filter p) ys):ys=((W0 n).filter p).map λ i=>V.int ((i:Nat):Int):=z1q h
def z3j (K:o0):Sp:=λ vs H Q _=>∃(cx:Addr) (c:Int) (B:Hp) (st lf id lt ev:Addr) (bs es hls:List Addr) (M:CM) (n:Nat),vs=[.ref cx,.int c]/\Cp K B H cx st lf id lt ev bs es hls M/\WfM M n/\n<=1000/\Same B H/\
 ∀es' hls' H',Same B H'->Cp K B H' cx st lf id lt ev bs es' hls' (M.go c)->Q .non H'
theorem z70 (T:TX (kx w) mg) (c8:Fo P w mg base CX0 4 328 y05 ["self","hand"] (z1t (kx w))) (c10:Fo P w mg base CX0 6 342 y0c ["self","letter"] (z3k (kx w))):Fo P w mg base CX0 7 321 y0b ["self","choice"] (z3j (kx w)):=by
 refine (z4c w.params).ok sc_Copies_go_on (λ vs H Q E h=>?_) (λ d5 A d4 s H vs Q E hr h=>?_)
 ·obtain ⟨l,c,B,st,Y,id,lt,ev,bs,es,a0,M,n,rfl,_⟩:=h;rfl
 ·obtain ⟨l,c,B,st,Y,id,lt,ev,bs,es,a0,M,n,rfl,cp,D,n1,sB,q⟩:=h;refine ⟨_,(z02 (zbu (i:=2) sc_Copies_go_on.nd rfl (O1 rfl) (xs:=["hand","own"]) (g:=gTup (kx w) 2 (gCons (gName 0) (gCons (gName 1) gNil))) (fr:=[(0,"self")]) rfl (zj5 rfl (T.no (zcm _)) (z01 (pe_fld (pv 0) rfl) pa_nil)) (by intro p hp;obtain rfl:=List.mem_singleton.mp hp;first|exact ⟨rfl,.inl rfl⟩|exact ⟨rfl,.inr rfl⟩) (zfz (n:="self") (by decide +kernel) (λ _=>by first|exact .inl rfl|exact .inr rfl)) (by intro p hp;obtain rfl:=List.mem_singleton.mp hp;exact ⟨by decide +kernel,by first|exact .inl rfl|exact .inr rfl⟩) (by decide +kernel) rfl (by decide +kernel) (λ _ _ _ _ _=>(pg_tup rfl (z0s (pg_cn (N:=["hand","own","self"]) 0) (z0s (pg_cn (N:=["hand","own","self"]) 1) z6f)))) (λ _ _ _ _ _=>(pf_one (PW.pt (pw_and (z09 op_gt (z06 (z2i (K:=KX w.params) rfl) rfl (T.no (n_len _)) A2 (z01 (pv 1) pa_nil)) pe_int (nomark _)) (z27 (pt_val (pe_ix (z5z (K:=KX w.params) rfl) (zjt (K:=KX w.params) rfl (pv 2) rfl) (pv 0) (λ _ _=>rfl)) (λ _=>rfl))))))) (λ _ _ _ _ _=>(pv 0)))
   (z02 (ps_set (i:=3) sc_Copies_go_on.nd rfl (O1 rfl) (z06 (z2i (K:=KX w.params) rfl) rfl (T.no (n_len _)) A2 (z01 (pe_fld (pv 0) rfl) pa_nil)))
   (z02 (ps_if (z09 opEq (pe_op opAdd (z06 (z2i (K:=KX w.params) rfl) rfl (T.no (n_len _)) A2 (z01 (pv 2) pa_nil)) (pv 3)) pe_int (nomark _))
   (z05 z7f)
   z0d)
   (z02 (ps_set (i:=4) sc_Copies_go_on.nd rfl (O1 rfl) (pe_op op_mod (pv 1) (pe_op opAdd (z06 (z2i (K:=KX w.params) rfl) rfl (T.no (n_len _)) A2 (z01 (pv 2) pa_nil)) (pe_op op_mul pe_int (pv 3)))))
   (z02 (ps_if (z09 op_lt (pv 4) (z06 (z2i (K:=KX w.params) rfl) rfl (T.no (n_len _)) A2 (z01 (pv 2) pa_nil)) (nomark _))
   (z02 (z0f (z37 (pv 0) (z0a _) (z3o _) c8 (hr.mono (by decide)) (z4j _) .nil pass0 (z01 (pe_ix ix_seq (pv 2) (pv 4) (λ _ _=>rfl)) pa_nil)))
   (z05 z7f))
   z0d)
   (z02 (ps_set (i:=5) sc_Copies_go_on.nd rfl (O1 rfl) (ze7 (pe_fld (pv 0) rfl) (z01 (pe_op op_mod (pe_op op_sub (pv 4) (z06 (z2i (K:=KX w.params) rfl) rfl (T.no (n_len _)) A2 (z01 (pv 2) pa_nil))) (pv 3)) pa_nil)))
   (z05 (ps_if (z09 op_lt (pv 4) (pe_op opAdd (z06 (z2i (K:=KX w.params) rfl) rfl (T.no (n_len _)) A2 (z01 (pv 2) pa_nil)) (pv 3)) (nomark _))
   (z05 (z0f (z37 (pv 0) (z0a _) (z6x _) c10 (hr.mono (by decide)) (z7r _) .nil pass0 (z01 (pv 5) pa_nil))))
   z0d)))))))),?_⟩
  obtain ⟨X,fs,I,i2,i3,i4,i5,i6,i7,i8⟩:=cp.ins;obtain ⟨sv,r,vv,d2,d6,c1,c2,c3,c4,c5,c6,c7⟩:=cp.ct;have lb:=cp.el.2.2;have l6:=D.l6;have il:=D.il;have ll:=z03 c4;have d1:=D.ln;have d3:=D.vn;have U:H lt=some (.lst r):=c1.at (i:=3) rfl rfl;have b8:H id=some (.lst (M.idle.map V.bl)):=c1.at (i:=2) rfl rfl;refine z0b ?_;refine zhl (K:=KX w.params) (a:=Y) (xs:=bs.map V.ref) (H1:=H) (λ i=>M.rdy i) (λ i y _=>y=V.int (i:Int)) (λ _ _ _ _ _ z=>z) (λ T h=>⟨_,rfl,l,_,X,fs,_,rfl,I,z0a _,z2f _,i4,h⟩) (SqL.of (c1.at (i:=1) rfl rfl)) (by rw [I0];exact N0 (m:=6) (by omega) (by decide)) ?_ ?_
  ·intro i hi v G u hv KT KF k1 k2;obtain ⟨x,p,hx,rfl,ep⟩:=hv;have d0:i < M.left.length:=by rw [I0] at hi;omega
   have F:M.left[i]? = some M.left[i]:=A0 d0;generalize M.left[i]=own at F;obtain ⟨b,ys,hb,eb,ay,mb⟩:=cp.own F;rw [S0,hb] at hx;cases hx;have ly:=z03 ay;have a9:M.idle[i]? = some M.idle[i]:=A0 (by omega);generalize M.idle[i]=bi at a9;have Z:M.rdy i=(!own.isEmpty && bi):=by unfold CM.rdy;rw [F,a9];rfl
   rw [Z] at k1 k2;refine ⟨p,_,rfl,SqT.of ep,rfl,_,_,rfl,_,_,rfl,rfl,[some (.int (i:Int)),some (.ref b)],rfl,rfl,?_⟩;refine ⟨_,rfl,.inl ⟨b,ys,rfl,.inl (SqL.of (u _ _ eb)),_,_,rfl,rfl,_,rfl,?_⟩⟩;cases own with
   | nil=>refine iteN (λ e=>absurd (of_decide_eq_true e) (by rw [ly];decide)) ?_;exact iteN (by decide) (k2 rfl _ (Same.refl _))
   | cons o1 o2=>
    refine iteP (decide_eq_true (by rw [ly,Y0];omega)) ?_;refine ⟨_,rfl,l,_,X,fs,_,rfl,u _ _ I,z0a _,z1p _,i5,_,rfl,.inl ⟨id,_,_,.bl bi,rfl,rfl,SqL.of (u _ _ b8),z08 (by rw [S0,a9];rfl),_,rfl,?_⟩⟩;cases bi with
    | true=>exact iteP rfl ⟨_,rfl,k1 rfl _ _ (Same.refl _) rfl⟩
    | false=>exact iteN (by decide) (k2 rfl _ (Same.refl _))
  intro C H1 ys s1 b1 b2;rw [I0,lb] at b2;have ey:=zkt b2;have ey:ys=M.ready.map λ i=>V.int ((i:Nat):Int):=ey;subst ey;have u:=s1.trans (Same.upd (o:=.lst (M.ready.map λ i=>V.int ((i:Nat):Int))) b1);have J:upd H1 C (.lst (M.ready.map λ i=>V.int ((i:Nat):Int))) C=some (.lst (M.ready.map λ i=>V.int ((i:Nat):Int))):=z04;generalize upd H1 C (.lst (M.ready.map λ i=>V.int ((i:Nat):Int)))=G at u J⊢;have a4:=cp.same u;have a5:=sB.trans u;have I:=u _ _ I;have U:=u _ _ U;refine g_name ?_;refine z0b ⟨_,rfl,l,_,X,fs,_,rfl,I,z0a _,z0t _,i6,.inl ⟨lt,r,rfl,.inl (SqL.of U),g_name ?_⟩⟩;have W:(M.ready.map λ i=>V.int ((i:Nat):Int)).length=M.ready.length:=I0 _;have r6:M.ready.length<=6:=by have:=Q5 M.rdy (W0 M.left.length);rw [C3] at this;exact N0 this l6
  refine sq_if ⟨_,rfl,.inl ⟨C,_,rfl,.inl (SqL.of J),_,rfl,.inl ⟨_,_,rfl,rfl,rfl,_,rfl,?_⟩⟩⟩;rw [W,ll];unfold CM.go at q;by_cases z0:M.ready.length + M.letters.length=0
  ·rw [if_pos z0] at q;exact iteP (decide_eq_true (by congr 1;omega)) (q es a0 G a5 a4)
  rw [if_neg z0] at q;refine iteN (λ e=>z0 (by have:=of_decide_eq_true e;injection this;omega)) (t_nx ?_);refine z0b ⟨_,rfl,_,rfl,.inl ⟨C,_,rfl,.inl (SqL.of J),_,rfl,_,_,rfl,rfl,.inl ⟨by decide,by decide⟩,.inl ⟨_,_,rfl,rfl,_,_,rfl,rfl,(by show (0:Int) < _;rw [W];omega),?_⟩⟩⟩;rw [W];have c0:=N6 c (show ((M.ready.length:Int) + 2 * (M.letters.length:Int))≠0 by omega);have c9:=J5 c (show 0 < ((M.ready.length:Int) + 2 * (M.letters.length:Int)) by omega);obtain ⟨f,b0⟩ :∃f:Nat,c % ((M.ready.length:Int) + 2 * (M.letters.length:Int))=(f:Int):=⟨_,(K9 c0).symm⟩
  rw [b0,Z5] at q;rw [b0] at c9;show gName 4 (V.int (c % ((M.ready.length:Int) + 2 * (M.letters.length:Int)))) _ _ _;rw [b0];refine g_name ?_;refine sq_if ⟨_,rfl,_,rfl,.inl ⟨C,_,rfl,.inl (SqL.of J),_,_,rfl,rfl,_,rfl,?_⟩⟩;rw [W];dsimp only at q;by_cases lt1:f < M.ready.length
  ·rw [if_pos lt1] at q;refine iteP (decide_eq_true (by omega)) ?_;have a2:M.ready[f]? = some M.ready[f]:=A0 lt1;have a1:M.ready[f]∈M.ready:=D3 lt1;generalize M.ready[f]=h at a2 a1;rw [a2] at q;have a1:h∈(W0 M.left.length).filter M.rdy:=a1;obtain ⟨m1,m2⟩:=List.mem_filter.mp a1;have hl:h < M.left.length:=List.mem_range.mp m1;have F:M.left[h]? = some M.left[h]:=A0 hl;generalize M.left[h]=own at F;have q :∀O S j,Same B j->Cp (kx w) B j l st Y id lt ev bs O S (match M.left[h]? with|some (d :: rest)=>M.start h d rest|_=>M)->Q .non j:=q;rw [F] at q;have m2:(!(M.left[h]?.getD []).isEmpty && M.idle[h]?.getD false)=true:=m2;rw [F] at m2;cases own with
   | nil=>cases m2
   | cons d rest=>
   refine ⟨_,rfl,l,X,fs,rfl,I,i8 _ (by decide +kernel),_,rfl,_,rfl,.inl ⟨C,_,_,.int (h:Nat),rfl,rfl,SqL.of J,z08 (by rw [S0,a2];rfl),?_⟩⟩;exact ⟨l,h,B,st,Y,id,lt,ev,bs,es,a0,M,d,rest,rfl,a4,F,by omega,a5,D.st.2,by omega,by omega,λ O S j s' a7=>q O S j s' a7⟩
  rw [if_neg lt1] at q;refine iteN (λ e=>lt1 (by have:=of_decide_eq_true e;omega)) (t_nx ?_);have b6:0 < M.letters.length:=by omega
  obtain ⟨k,hk⟩ :∃k:Nat,(f - M.ready.length) % M.letters.length=k/\k < M.letters.length:=⟨_,rfl,j21 _ b6⟩
  rw [hk.1] at q;have a8:((f:Int) - (M.ready.length:Int)) % (M.letters.length:Int)=(k:Int):=by rw [<-hk.1,show (f:Int) - (M.ready.length:Int)=((f - M.ready.length:Nat):Int) by omega];rfl
  have hL:M.letters[k]? = some M.letters[k]:=A0 hk.2;have mL:M.letters[k]∈M.letters:=D3 hk.2;generalize M.letters[k]=L at hL mL;rw [hL] at q;obtain ⟨v,hv,aL⟩:=z0r c4 hL;refine z0b ⟨_,rfl,l,_,X,fs,_,rfl,I,z0a _,z0t _,i6,.inl ⟨rfl,r,SqL.of U⟩,_,rfl,_,rfl,.inl ⟨C,_,rfl,.inl (SqL.of J),_,_,rfl,rfl,_,rfl,_,_,rfl,rfl,(by show (0:Int) < (M.letters.length:Int);omega),?_⟩⟩;rw [W];refine ⟨lt,r,_,k,v,rfl,rfl,U,?_,?_,?_,hv,?_⟩
  ·rw [a8];omega
  ·rw [a8];omega
  ·rw [a8];exact z8e (by rw [ll];exact hk.2)
  have b5 :∀{α:Type} {R:α->V->Prop} {xs:List α} {zs:List V} (n:Nat),All2 R xs zs->All2 R (xs.eraseIdx n) (zs.eraseIdx n):=by
   intro α R xs zs n h;induction h generalizing n with
   | nil=>exact .nil
   | cons a t ih=>
    cases n with
    | zero=>exact t
    | succ n=>exact .cons a (ih n)
  have m3:Imm G (upd G lt (.lst (r.eraseIdx k))):=Imm.lst U;have a6:=a4.setL (Ls':=M.letters.eraseIdx k) (lv':=r.eraseIdx k) λ j m=>b5 k (z00 (λ _ _ z=>(z.imm (Imm.of u)).imm m) c4);have s3:Same B (upd G lt (.lst (r.eraseIdx k))):=Same.keep a5 (c1.fr lt (by simp));have b3:=(aL.imm (Imm.of u)).imm m3;have e3:upd G lt (.lst (r.eraseIdx k)) C=some (.lst (M.ready.map λ i=>V.int ((i:Nat):Int))):=by
   rw [upd_ne (λ z=>by have h0:=s1.free b1;have h1:=c1.at (i:=3) (m:=lt) (c:=r) rfl rfl;rw [z,h1] at h0;cases h0)];exact J
  refine g_name ?_;show tIfS _ _ _ _ _ (upd G lt (.lst (r.eraseIdx k)));generalize upd G lt (.lst (r.eraseIdx k))=H3 at m3 a6 s3 b3 e3⊢;refine z15 ⟨_,rfl,_,rfl,.inl ⟨C,_,rfl,.inl (SqL.of e3),_,rfl,.inl ⟨_,_,rfl,rfl,_,_,rfl,rfl,_,rfl,?_⟩⟩⟩;rw [W];have q :∀O S j,Same B j->Cp (kx w) B j l st Y id lt ev bs O S (if f < M.ready.length + M.letters.length then CM.come { M with letters:=M.letters.eraseIdx k } L else { M with letters:=M.letters.eraseIdx k })->Q .non j:=q;by_cases lt2:f < M.ready.length + M.letters.length
  ·rw [if_pos lt2] at q;refine iteP (decide_eq_true (by omega)) ?_;obtain ⟨w1,w2⟩:=D.le L mL;have b4:M.ers[L.e]? = some M.ers[L.e]:=A0 w1;have a3:M.ers[L.e]∈M.ers:=D3 w1;generalize M.ers[L.e]=Z at b4 a3;have b9:M.stock[L.num]? = some M.stock[L.num]:=A0 w2;have hn:=D.hn Z a3;have b7:(M.letters.eraseIdx k).length<=10000:=N0 (y8 _ _) (by omega);refine ⟨_,rfl,l,X,fs,rfl,m3.i _ _ _ _ I,i8 _ (by decide +kernel),_,rfl,?_⟩;exact ⟨l,v,B,st,Y,id,lt,ev,bs,es,a0,_,L,Z,_,rfl,a6,b3,b4,b9,D.eh Z a3,s3,D.st.2,b7,(show M.events.length<=10000 by omega),by omega,λ O S j s' a7=>q O S j s' a7⟩
  ·rw [if_neg lt2] at q;exact iteN (λ e=>lt2 (by have:=of_decide_eq_true e;omega)) (q es a0 H3 s3 a6)
end
section
noncomputable def evO:CEv->Ev
 | .beg h d=>.beg (h:Nat) (.str "r") (.str (vbD d)) (wvD d)
 | .fin h a=>.fin (h:Nat) (avD a)
def okW (w:Int):Prop:=-1000000000<=w/\w<=1000000000
def okD (d:Option Int):Prop:=∀w,d=some w->okW w
noncomputable def okE (n:Nat):CEv->Prop
 | .beg h d=>h < n/\okD d
 | .fin h a=>h < n/\okD a
noncomputable def CM.maj (M:CM):Nat:=M.stock.length / 2 + 1
noncomputable def CM.opens (M:CM):List Int:=(M.events.map evO).foldl oStep []
def Lv (M:CM):Prop:=∀(e:Nat) er,M.ers[e]? = some er->er.heard.length < M.maj->M.idle[er.hand]? = some false/\∀(e':Nat) er',M.ers[e']? = some er'->er'.heard.length < M.maj->er'.hand=er.hand->e'=e
structure WfC (M:CM) (T n:Nat):Prop where
 m:WfM M n
 bl :∀own∈M.left,∀d∈own,okD d
 be :∀er∈M.ers,okD er.deed/\(∀k,er.kept=some k->okW k.2)/\∀x∈er.heard,okW x.2
 bs :∀x∈M.stock,okW x.2
 bL :∀L∈M.letters,∀x,L.held=some x->okW x.2
 bv :∀e∈M.events,okE M.left.length e
 lv:Lv M
 op :∀h:Nat,((h:Int)∈M.opens)↔M.idle[h]? = some false
 ew:EWf [] (M.events.map evO)
 tt:((M.events.map evO).filter isBeg).length + M.left.flatten.length=T
theorem WfM.le1 {M:CM} {n k:Nat} (h:WfM M n) (l:n<=k):WfM M k:=⟨h.il,h.st,h.le,h.eh,λ b a=>N0 (h.hn b a) l,N0 h.ln (by omega),N0 h.vn l,h.l6,h.lw⟩
theorem WfC.le1 {M:CM} {T n k:Nat} (h:WfC M T n) (l:n<=k):WfC M T k:=⟨h.m.le1 l,h.bl,h.be,h.bs,h.bL,h.bv,h.lv,h.op,h.ew,h.tt⟩
theorem zgg {l:List Hd} (h:l≠[]):maxHd l∈l:=by
 cases l with
 | nil=>exact absurd rfl h
 | cons x r=>
  show r.foldl (λ m y=>if gtN y m=true then y else m) x∈x :: r;clear h;induction r generalizing x with
  | nil=>exact .head _
  | cons y r ih=>
   rw [U3];by_cases z:gtN y x=true
   ·rw [if_pos z];exact .tail _ (ih y)
   ·rw [if_neg z];rcases List.mem_cons.mp (ih x) with e|e
    ·rw [e];exact .head _
    ·exact .tail _ (.tail _ e)
theorem z5a {α:Type} {l:List α} {k:Nat} {x:α} (h:x∈l.eraseIdx k):x∈l:=(j40 l k).mem h
theorem WfC.erase {M:CM} {T n:Nat} (h:WfC M T n) (k:Nat):WfC { M with letters:=M.letters.eraseIdx k } T n:=
 ⟨⟨h.m.il,h.m.st,λ L a=>h.m.le L (z5a a),h.m.eh,h.m.hn,N0 (y8 _ _) h.m.ln,h.m.vn,h.m.l6,h.m.lw⟩,h.bl,h.be,h.bs,λ L a=>h.bL L (z5a a),h.bv,h.lv,h.op,h.ew,h.tt⟩
theorem WfC.comeTo {M:CM} {T n e k:Nat} {er:Er} {s:Hd} (h:WfC M T n) (he:M.ers[e]? = some er) (hs:M.stock[k]? = some s):WfC (M.comeTo e er k s) T (n + 1):=by
 have j:=B1 he;have d:okW (keepH er.kept s).2:=by
  unfold keepH;cases hk:er.kept with
  | none=>exact h.bs s (B1 hs)
  | some k=>
   dsimp only;split
   ·exact (h.be er j).2.1 k hk
   ·exact h.bs s (B1 hs)
 have o:k < M.stock.length:=(List.getElem?_eq_some_iff.mp hs).1;have m:=h.m;refine ⟨⟨m.il,?_,λ L a=>?_,m.eh,λ er he=>N0 (m.hn er he) (F3 n),?_,N0 m.vn (F3 n),m.l6,m.lw⟩,h.bl,h.be,λ x b=>?_,λ L a x b=>?_,h.bv,?_,h.op,h.ew,h.tt⟩
 ·show 0 < (M.stock.set k _).length/\(M.stock.set k _).length<=5;rw [R0];exact m.st
 ·show L.e < M.ers.length/\L.num < (M.stock.set k _).length;rw [R0];rcases List.mem_append.mp a with a|a
  ·exact m.le L a
  ·rw [List.mem_singleton.mp a];exact ⟨(List.getElem?_eq_some_iff.mp he).1,o⟩
 ·show (M.letters++[_]).length<=_;rw [G0,Z2];have:=m.ln;omega
 ·rcases V4 b with b|rfl
  ·exact h.bs x b
  ·exact d
 ·rcases List.mem_append.mp a with a|a
  ·exact h.bL L a x b
  ·rw [List.mem_singleton.mp a] at b;cases b;exact d
 ·have g:(M.comeTo e er k s).maj=M.maj:=by show (M.stock.set k _).length / 2 + 1=_;rw [R0];rfl
  intro f l i c;rw [g] at c⊢;exact h.lv f l i c
theorem za1 {M:CM} {e:CEv}:({ M with events:=M.events++[e] }:CM).opens=oStep M.opens (evO e):=by unfold CM.opens;dsimp only;rw [V1,T5];rfl
theorem zi2 {M:CM} {T n e:Nat} (h:WfC M T n) (he:e < M.ers.length) (ln:M.letters.length + 5<=6 * n):WfC (M.send e) T n:=by
 have m:=h.m;have d:=m.st;refine ⟨⟨m.il,m.st,λ L a=>?_,m.eh,m.hn,?_,m.vn,m.l6,m.lw⟩,h.bl,h.be,h.bs,λ L a x b=>?_,h.bv,h.lv,h.op,h.ew,h.tt⟩
 ·rcases List.mem_append.mp a with a|a
  ·exact m.le L a
  ·obtain ⟨k,c,rfl⟩:=List.mem_map.mp a;exact ⟨he,List.mem_range.mp c⟩
 ·show (M.letters++(W0 M.stock.length).map _).length<=_;rw [G0,I0,C3];omega
 ·rcases List.mem_append.mp a with a|a
  ·exact h.bL L a x b
  ·obtain ⟨k,c,rfl⟩:=List.mem_map.mp a;cases b
theorem zi3 {M:CM} {T n:Nat} {er:Er} (h:WfC M T n) (hi:M.idle[er.hand]? = some false) (no :∀(e:Nat) er',M.ers[e]? = some er'->er'.heard.length < M.maj->er'.hand≠er.hand) (h0:er.heard=[]) (od:okD er.deed) (ok :∀k,er.kept=some k->okW k.2):WfC (M.make er) T n:=by
 have m:=h.m;refine ⟨⟨m.il,m.st,λ L u=>?_,λ e c=>?_,λ e c=>?_,m.ln,m.vn,m.l6,m.lw⟩,h.bl,λ e c=>?_,h.bs,h.bL,h.bv,?_,h.op,h.ew,h.tt⟩
 ·have:=m.le L u;refine ⟨?_,this.2⟩;show L.e < (M.ers++[er]).length;rw [G0];omega
 ·rcases List.mem_append.mp c with c|c
  ·exact m.eh e c
  ·rw [List.mem_singleton.mp c];exact (List.getElem?_eq_some_iff.mp hi).1
 ·rcases List.mem_append.mp c with c|c
  ·exact m.hn e c
  ·rw [List.mem_singleton.mp c,h0];exact J2 _
 ·rcases List.mem_append.mp c with c|c
  ·exact h.be e c
  ·rw [List.mem_singleton.mp c];exact ⟨od,ok,λ x r=>by rw [h0] at r;cases r⟩
 ·have o :∀(k:Nat) d,(M.ers++[er])[k]? = some d->(k < M.ers.length/\M.ers[k]? = some d)\/(k=M.ers.length/\d=er):=λ k d f=>by
   by_cases z:k < M.ers.length
   ·rw [J1 z] at f;exact .inl ⟨z,f⟩
   ·rw [D1 (by omega)] at f;have:=(List.getElem?_eq_some_iff.mp f).1;simp only [Z2] at this;have v:k - M.ers.length=0:=by omega
    rw [v] at f;cases f;exact .inr ⟨by omega,rfl⟩
  intro k d w t;rcases o k d w with ⟨z,s⟩|⟨z,rfl⟩
  ·obtain ⟨a,b⟩:=h.lv k d s t;refine ⟨a,λ i g l p j=>?_⟩;rcases o i g l with ⟨_,q⟩|⟨_,ee⟩
   ·exact b i g q p j
   ·exact absurd (by rw [<-j,ee]) (no k d s t)
  ·refine ⟨hi,λ i g l p j=>?_⟩;rcases o i g l with ⟨_,q⟩|⟨z',_⟩
   ·exact absurd j (no i g q p)
   ·omega
theorem zhw {M:CM} {T n:Nat} {er:Er} {w:Int} (h:WfC M T n) (hi:M.idle[er.hand]? = some false) (no :∀(e:Nat) er',M.ers[e]? = some er'->er'.heard.length < M.maj->er'.hand≠er.hand) (ow:okW w):WfC (M.stop er w) T (n + 1):=by
 have m:=h.m;have l:er.hand < M.idle.length:=(List.getElem?_eq_some_iff.mp hi).1;have p:okD (ansC er.deed w):=by
  intro v f;unfold ansC at f;cases hd:er.deed with
  | none=>rw [hd] at f;cases f;exact ow
  | some d=>rw [hd] at f;cases f
 have o:(M.stop er w).opens=M.opens.filter λ k=>decide (k≠((er.hand:Nat):Int)):=za1 (M:={ M with idle:=M.idle.set er.hand true });refine ⟨⟨?_,m.st,m.le,λ e c=>?_,λ e c=>N0 (m.hn e c) (F3 n),N0 m.ln (by omega),?_,m.l6,m.lw⟩,h.bl,h.be,h.bs,h.bL,λ e c=>?_,?_,λ k=>?_,?_,?_⟩
 ·show (M.idle.set er.hand true).length=_;rw [R0];exact m.il
 ·show e.hand < (M.idle.set er.hand true).length;rw [R0];exact m.eh e c
 ·show (M.events++[_]).length<=_;rw [G0,Z2];have:=m.vn;omega
 ·rcases List.mem_append.mp c with c|c
  ·exact h.bv e c
  ·rw [List.mem_singleton.mp c];exact ⟨by show er.hand < M.left.length;rw [<-m.il];exact l,p⟩
 ·intro k g j i;obtain ⟨a,b⟩:=h.lv k g j i;refine ⟨?_,b⟩;show (M.idle.set er.hand true)[g.hand]? = some false;rw [X1 (C2 (no k g j i))];exact a
 ·rw [o,List.mem_filter,h.op k];show _↔(M.idle.set er.hand true)[k]? = some false;by_cases z:k=er.hand
  ·subst z;rw [O0 l];constructor
   ·rintro ⟨_,z⟩;exact absurd rfl (of_decide_eq_true z)
   ·exact λ z=>by cases z
  ·rw [X1 (C2 z)];exact ⟨λ a=>a.1,λ a=>⟨a,decide_eq_true (λ e=>z (by omega))⟩⟩
 ·show EWf [] ((M.events++[_]).map evO);rw [V1];exact h.ew.snoc ((h.op er.hand).mpr hi)
 ·show (((M.events++[_]).map evO).filter isBeg).length + _=T;rw [V1,S4];show ((((M.events.map evO).filter isBeg)++[])).length + _=T;rw [L1];exact h.tt
theorem zke {M:CM} {T n e:Nat} {er:Er} {x:Hd} (h:WfC M T n) (he:M.ers[e]? = some er) (ox:okW x.2):WfC { M with ers:=M.ers.set e (er.hear x) } T (n + 1)/\(er.heard.length < M.maj->(er.hear x).heard.length=M.maj->M.idle[er.hand]? = some false/\∀(e':Nat) er',(M.ers.set e (er.hear x))[e']? = some er'->er'.heard.length < M.maj->er'.hand≠er.hand):=by
 have m:=h.m;have t:=B1 he;have u:e < M.ers.length:=(List.getElem?_eq_some_iff.mp he).1;have E:(er.hear x).heard.length=er.heard.length + 1:=by show (er.heard++[x]).length=_;rw [G0];rfl
 have s :∀(k:Nat) d,(M.ers.set e (er.hear x))[k]? = some d->∃g,M.ers[k]? = some g/\g.hand=d.hand/\g.heard.length<=d.heard.length/\(k≠e->g=d):=λ k d l=>by
  by_cases z:k=e
  ·subst z;rw [O0 u] at l;cases l;exact ⟨er,he,rfl,by omega,λ z=>absurd rfl z⟩
  ·rw [X1 (C2 z)] at l;exact ⟨d,l,rfl,K0 _,λ _=>rfl⟩
 have p :∀d∈M.ers.set e (er.hear x),d∈M.ers\/d=er.hear x:=λ d f=>V4 f;refine ⟨⟨⟨m.il,m.st,λ L A=>?_,λ d f=>?_,λ d f=>?_,N0 m.ln (by omega),N0 m.vn (F3 n),m.l6,m.lw⟩,h.bl,λ d f=>?_,h.bs,h.bL,h.bv,λ k d f r=>?_,h.op,h.ew,h.tt⟩,λ H N=>?_⟩
 ·show L.e < (M.ers.set e _).length/\_;rw [R0];exact m.le L A
 ·rcases p d f with f|rfl
  ·exact m.eh d f
  ·exact m.eh er t
 ·rcases p d f with f|rfl
  ·exact N0 (m.hn d f) (F3 n)
  ·rw [E];have:=m.hn er t;omega
 ·rcases p d f with f|rfl
  ·exact h.be d f
  ·obtain ⟨a,b,c⟩:=h.be er t;refine ⟨a,b,λ y i=>?_⟩;rcases List.mem_append.mp i with i|i
   ·exact c y i
   ·rw [List.mem_singleton.mp i];exact ox
 ·obtain ⟨g,o,j,q,_⟩:=s k d f;obtain ⟨a,b⟩:=h.lv k g o (X0 q r);refine ⟨by rw [<-j];exact a,λ v e' D G F=>?_⟩;obtain ⟨K,J,C,w,_⟩:=s v e' D;exact b v K J (X0 w G) (by rw [C,F,j])
 ·obtain ⟨a,b⟩:=h.lv e er he H;refine ⟨a,λ k d f r I=>?_⟩;obtain ⟨g,o,j,q,O⟩:=s k d f;have B:=b k g o (X0 q r) (by rw [j,I]);subst B;rw [O0 u] at f;cases f;omega
theorem WfC.comeBack {M:CM} {T n e:Nat} {er:Er} {x:Hd} (h:WfC M T n) (he:M.ers[e]? = some er) (ox:okW x.2) (ln:M.letters.length + 1<=6 * n):WfC (M.comeBack e er x) T (n + 2):=by
 obtain ⟨a,m⟩:=zke h he ox;have r:=B1 he;have t:(er.hear x).heard.length=er.heard.length + 1:=by show (er.heard++[x]).length=_;rw [G0];rfl
 obtain ⟨f,ok,q⟩:=h.be er r;unfold CM.comeBack;by_cases ne:(er.hear x).heard.length≠M.stock.length / 2 + 1
 ·rw [if_pos ne];exact a.le1 (F3 _)
 rw [if_neg ne];have o:(er.hear x).heard.length=M.maj:=Decidable.not_not.mp ne;obtain ⟨c,d⟩:=m (by omega) o;cases hk:er.kept with
 | some k=>exact zhw (er:=er.hear x) a c d (ok k hk)
 | none=>
  have p:(er.hear x).heard≠[]:=by show er.heard++[x]≠[];simp
  have l:=zgg p;have g:okW (maxHd (er.hear x).heard).2:=by
   rcases List.mem_append.mp (show maxHd (er.hear x).heard∈er.heard++[x] from l) with z|z
   ·exact q _ z
   ·rw [List.mem_singleton.mp z];exact ox
  have more :∀b,okW b.2->WfC ((CM.make { M with ers:=M.ers.set e (er.hear x) } ⟨(er.hear x).hand,(er.hear x).deed,some b,[]⟩).send ({ M with ers:=M.ers.set e (er.hear x) }:CM).ers.length) T (n + 2):=λ b s=>by
   have j:=zi3 (er:=⟨(er.hear x).hand,(er.hear x).deed,some b,[]⟩) a c d rfl f λ k i=>by cases i;exact s
   refine zi2 (j.le1 (F3 _)) ?_ ?_
   ·show _ < (_++[_]).length;rw [G0];exact J3 _
   ·show M.letters.length + 5<=_;omega
  unfold CM.ask;cases hd:(er.hear x).deed with
  | some w0=>dsimp only;rw [<-hd];exact more _ (f w0 hd)
  | none=>
   dsimp only;split
   ·rw [<-hd];exact more _ g
   ·exact zhw (er:=er.hear x) a c d g
theorem zbg {pl:List (List (Option Int))} {h:Nat} {d:Option Int} {rest:List (Option Int)} (e:pl[h]? = some (d :: rest)):(pl.set h rest).flatten.length + 1=pl.flatten.length:=by obtain ⟨c,f⟩:=z63 (X:=rest) e;have b:=c.length_eq;have a:=f.length_eq;rw [G0] at b a;rw [Y0] at a;omega
theorem WfC.start {M:CM} {T n h:Nat} {d:Option Int} {rest:List (Option Int)} (w:WfC M T n) (hl:M.left[h]? = some (d :: rest)) (hi:M.idle[h]? = some true):WfC (M.start h d rest) T (n + 1):=by
 have m:=w.m;have o:h < M.idle.length:=(List.getElem?_eq_some_iff.mp hi).1;have j:=B1 hl;have q :∀(e:Nat) er,M.ers[e]? = some er->er.heard.length < M.maj->er.hand≠h:=λ e er i g z=>by have:=(w.lv e er i g).1;rw [z,hi] at this;cases this
 have s:WfC { M with left:=M.left.set h rest,idle:=M.idle.set h false,events:=M.events++[.beg h d] } T (n + 1):=by
  have v:({ M with left:=M.left.set h rest,idle:=M.idle.set h false,events:=M.events++[.beg h d] }:CM).opens=M.opens++[((h:Nat):Int)]:=za1 (M:={ M with left:=M.left.set h rest,idle:=M.idle.set h false });refine ⟨⟨?_,m.st,m.le,λ e c=>?_,λ e c=>N0 (m.hn e c) (F3 n),N0 m.ln (by omega),?_,?_,λ own f=>?_⟩,λ own f r p=>?_,w.be,w.bs,w.bL,λ e c=>?_,λ k l i g=>?_,λ k=>?_,?_,?_⟩
  ·show (M.idle.set h false).length=(M.left.set h rest).length;rw [R0,R0];exact m.il
  ·show e.hand < (M.idle.set h false).length;rw [R0];exact m.eh e c
  ·show (M.events++[_]).length<=_;rw [G0,Z2];have:=m.vn;omega
  ·show (M.left.set h rest).length<=6;rw [R0];exact m.l6
  ·rcases V4 f with f|rfl
   ·exact m.lw own f
   ·have:=m.lw _ j;rw [Y0] at this;omega
  ·rcases V4 f with f|rfl
   ·exact w.bl own f r p
   ·exact w.bl _ j r (.tail _ p)
  ·show okE (M.left.set h rest).length e;rw [R0];rcases List.mem_append.mp c with c|c
   ·exact w.bv e c
   ·rw [List.mem_singleton.mp c];exact ⟨by rw [<-m.il];exact o,w.bl _ j d (.head _)⟩
  ·obtain ⟨a,b⟩:=w.lv k l i g;refine ⟨?_,b⟩;show (M.idle.set h false)[l.hand]? = some false;rw [X1 (C2 (q k l i g))];exact a
  ·rw [v,List.mem_append,w.op k,List.mem_singleton];show _↔(M.idle.set h false)[k]? = some false;by_cases z:k=h
   ·subst z;rw [O0 o];exact ⟨λ _=>rfl,λ _=>.inr rfl⟩
   ·rw [X1 (C2 z)];exact ⟨λ a=>a.elim id λ e=>absurd (by omega) z,.inl⟩
  ·show EWf [] ((M.events++[_]).map evO);rw [V1];refine w.ew.snoc λ z=>?_;have:=(w.op h).mp z;rw [hi] at this;cases this
  ·show (((M.events++[_]).map evO).filter isBeg).length + (M.left.set h rest).flatten.length=T;rw [V1,S4,G0];have l:=zbg hl;have x:=w.tt;show ((M.events.map evO).filter isBeg).length + 1 + _=T;omega
 have u:=zi3 (er:=⟨h,d,none,[]⟩) s (show (M.idle.set h false)[h]? = some false from O0 o) (λ e er i g=>q e er i g) rfl (w.bl _ j d (.head _)) λ k t=>by cases t
 refine zi2 u ?_ ?_
 ·show _ < (_++[_]).length;rw [G0];exact J3 _
 ·show M.letters.length + 5<=_;have:=m.ln;omega
theorem go_wf {M:CM} {T n:Nat} (w:WfC M T n) (c:Int):WfC (M.go c) T (n + 2):=by
 unfold CM.go;by_cases z0:M.ready.length + M.letters.length=0
 ·rw [if_pos z0];exact w.le1 (by omega)
 rw [if_neg z0];dsimp only;have A:=N6 c (show ((M.ready.length:Int) + 2 * (M.letters.length:Int))≠0 by omega);have C:=J5 c (show 0 < ((M.ready.length:Int) + 2 * (M.letters.length:Int)) by omega);have B:(c % ((M.ready.length:Int) + 2 * (M.letters.length:Int))).toNat < M.ready.length + 2 * M.letters.length:=by omega
 clear A C;generalize (c % ((M.ready.length:Int) + 2 * (M.letters.length:Int))).toNat=ch at B⊢;by_cases lt1:ch < M.ready.length
 ·rw [if_pos lt1];have q:M.ready[ch]? = some M.ready[ch]:=A0 lt1;have f:M.ready[ch]∈M.ready:=D3 lt1;generalize M.ready[ch]=h at q f;rw [q];show WfC (match M.left[h]? with|some (d :: rest)=>M.start h d rest|_=>M) T (n + 2);have f:h∈(W0 M.left.length).filter M.rdy:=f;obtain ⟨v,a⟩:=List.mem_filter.mp f;have t:h < M.left.length:=List.mem_range.mp v;have i:M.left[h]? = some M.left[h]:=A0 t;generalize M.left[h]=own at i;obtain ⟨E,u⟩ :∃b,M.idle[h]? = some b:=⟨_,A0 (by rw [w.m.il];exact t)⟩
  have a:(!(M.left[h]?.getD []).isEmpty && M.idle[h]?.getD false)=true:=a;rw [i,u] at a;rw [i];cases own with
  | nil=>cases a
  | cons d rest=>
   cases E with
   | true=>exact (w.start i u).le1 (F3 _)
   | false=>cases a
 rw [if_neg lt1];have z:0 < M.letters.length:=by omega
 generalize hk:(ch - M.ready.length) % M.letters.length=k;have j:k < M.letters.length:=by rw [<-hk];exact j21 _ z
 have p:M.letters[k]? = some M.letters[k]:=A0 j;have o:M.letters[k]∈M.letters:=D3 j;generalize M.letters[k]=L at p o;rw [p];dsimp only;split
 ·obtain ⟨y,D⟩:=w.m.le L o;have g:M.ers[L.e]? = some M.ers[L.e]:=A0 y;generalize M.ers[L.e]=er at g;have l:M.stock[L.num]? = some M.stock[L.num]:=A0 D;generalize M.stock[L.num]=s at l;have r:=w.erase k;have le1:(M.letters.eraseIdx k).length + 1=M.letters.length:=by rw [j49];rw [if_pos j];omega
  have F:=w.m.ln;unfold CM.come;show WfC (match M.ers[L.e]?,L.held,M.stock[L.num]? with
   | some er,some x,_=>CM.comeBack { M with letters:=M.letters.eraseIdx k } L.e er x
   | some er,none,some s=>CM.comeTo { M with letters:=M.letters.eraseIdx k } L.e er L.num s
   | _,_,_=>{ M with letters:=M.letters.eraseIdx k }) T (n + 2)
  rw [g,l];cases hh:L.held with
  | some x=>exact r.comeBack g (w.bL L o x hh) (by show (M.letters.eraseIdx k).length + 1<=_;omega)
  | none=>exact (r.comeTo g l).le1 (F3 _)
 ·exact (w.erase k).le1 (by omega)
noncomputable def CM.init (m:Nat) (bk:Bool) (pl:List (List (Option Int))):CM:=⟨P0 m ((0,-1),0),bk,pl,pl.map λ _=>true,[],[],[]⟩
theorem zc6 {m:Nat} {bk:Bool} {pl:List (List (Option Int))} (g:PlG pl) (h0:0 < m) (h5:m<=5):WfC (CM.init m bk pl) pl.flatten.length 0:=by
 refine ⟨⟨I0 _,?_,(λ L c=>by cases c),(λ e a=>by cases a),(λ e a=>by cases a),J2 _,J2 _,g.n6,λ own b=>?_⟩,λ own b d n w j=>?_,(λ e a=>by cases a),λ x k=>?_,(λ L c=>by cases c),(λ e a=>by cases a),λ e p a=>?_,λ h=>?_,trivial,G5 _⟩
 ·show 0 < (P0 m _).length/\(P0 m _).length<=5;rw [G2];exact ⟨h0,h5⟩
 ·have b:own∈pl:=b;obtain ⟨i,l,e⟩:=D6 b;have:=(z63 (X:=[]) (A0 l)).2.length_eq;rw [G0,e] at this;have:=g.f;omega
 ·subst j;exact g.bd w (List.mem_filterMap.mpr ⟨_,List.mem_flatten.mpr ⟨own,b,n⟩,rfl⟩)
 ·rw [(List.mem_replicate.mp k).2];exact ⟨by decide,by decide⟩
 ·have a:([]:List Er)[e]? = some p:=a;simp at a
 ·show _∈[]↔(pl.map λ _=>true)[h]? = some false;rw [S0];constructor
  ·intro z;cases z
  ·intro z;cases hp:pl[h]? with
   | none=>rw [hp] at z;cases z
   | some o=>rw [hp] at z;cases z
end
section
variable {P:Program} {w:Z0} {mg:Str->Option Value} {base:Heap}
theorem sq_FH {H:Hp}:SqT (kx w) H 262 [.ref 261,.int 0]:=
 .inr ⟨⟨(.type "tuple"),none,(.seq #[(.ref 261),(.int (0) 591)] 0),#[]⟩,#[(.ref 261),(.int (0) 591)],0,by kernel_rfl,rfl,rfl,w_2,.cons rfl (.cons ⟨_,rfl⟩ .nil)⟩
theorem sq_FH0 {H:Hp}:SqT (kx w) H 261 [.int 0,.int (-1)]:=
 .inr ⟨⟨(.type "tuple"),none,(.seq #[(.int (0) 588),(.int (-1) 590)] 0),#[]⟩,#[(.int (0) 588),(.int (-1) 590)],0,by kernel_rfl,rfl,rfl,w_2,.cons ⟨_,rfl⟩ (.cons ⟨_,rfl⟩ .nil)⟩
theorem zil {H:Hp}:HdAt (kx w) H ((0,-1),0) (.ref 262):=⟨_,_,rfl,sq_FH,sq_FH0⟩
theorem zjg {α β:Type} {R:α->β->Prop} {x:α} {y:β} (n:Nat) (h:R x y):All2 R (P0 n x) (P0 n y):=by
 induction n with
 | zero=>exact .nil
 | succ n ih=>exact .cons h ih
theorem dd_v {H:Hp} {o:Option Int} {y:V} (h:HPd H (ddP o) y):DdV H o y:=by
 cases o with
 | none=>obtain ⟨p,j,rfl,g,e,k,rfl,d,a,b,rfl,c,f⟩:=h;cases (show e=.str "read" from d);cases (show a=.non from c);cases (show b=[] from f);exact ⟨p,rfl,g⟩
 | some i=>obtain ⟨p,j,rfl,g,e,k,rfl,d,a,b,rfl,c,f⟩:=h;cases (show e=.str "write" from d);cases (show a=.int i from c);cases (show b=[] from f);exact ⟨p,rfl,g⟩
def z24 (K:o0):Sp:=λ vs H Q _=>∃(x dx a:Addr) (m:Nat) (bk:Bool) (pl:List (List (Option Int))) (B:Hp),vs=[.ref x,.int m,.ref a,.bl bk]/\m<=5/\H x=some (.ins 373 dx [])/\HPd H (.list (rowsP pl)) (.ref a)/\pl.length<=6/\B x=none/\Same B H/\
 ∀st lf id lt ev bs H',Same B H'->Cp K B H' x st lf id lt ev bs [] [] (CM.init m bk pl)->Q .non H'
theorem zh6 (T:TX (kx w) mg):Fo P w mg base (CXE P w base) 2 316 y07 ["self","many","plan","back"] (z24 (kx w)):=by
 refine (z2r w.params).okE z4o (λ vs H Q E h=>?_) (λ h0 A g8 s H vs Q E hr h=>?_)
 ·obtain ⟨x,dx,a,m,bk,pl,B,rfl,_⟩:=h;rfl
 ·obtain ⟨x,dx,a,m,bk,pl,B,rfl,m5,ex,⟨a0,os,e0,ea,e4⟩,l6,f3,sB,q⟩:=h;cases e0;refine ⟨_,(z02 (ps_fld (pv 0) (pe_cg (xs:=["number"]) (g:=gName 0) (fr:=[]) (z0x rfl (T.no (z2a _)) (z01 (pv 1) pa_nil)) (λ _ _ _ _ _=>(pg_cn (N:=["number"]) 0)) (λ _ _ _ _ _=>pf_nil) (λ _ _ _ _ _=>(z1z (v:=.ref 262) rfl (T.of (zbd _)) rfl))) rfl)
   (z02 (ps_fld (pv 0) (pv 3) rfl)
   (z02 (ps_fld (pv 0) (pe_cg (xs:=["own"]) (g:=gName 0) (fr:=[]) (z1l (pv 2)) (λ _ _ _ _ _=>(pg_cn (N:=["own"]) 0)) (λ _ _ _ _ _=>pf_nil) (λ _ _ _ _ _=>(z5m (z9e (K:=KX w.params) rfl) rfl (T.no (n_list _)) j1e (z01 (pv 0) pa_nil)))) rfl)
   (z02 (ps_fld (pv 0) (pe_cg (xs:=["own"]) (g:=gName 0) (fr:=[]) (z1l (pv 2)) (λ _ _ _ _ _=>(pg_cn (N:=["own"]) 0)) (λ _ _ _ _ _=>pf_nil) (λ _ _ _ _ _=>pe_bl)) rfl)
   (z02 (ps_fld (pv 0) (pe_lst pa_nil) rfl)
   (z05 (ps_fld (pv 0) (pe_lst pa_nil) rfl))))))),?_⟩
  have lo:os.length=pl.length:=by have:=e4.length;unfold rowsP at this;rw [I0] at this;exact this
  have d0:a≠x:=λ z=>by rw [z,ex] at ea;cases ea
  have back :∀{Ht:Hp} {l:Addr},Kept x H Ht->l≠x->Ht l=none->B l=none:=λ {Ht l} k nl U=>by
   cases z:B l with
   | none=>rfl
   | some o=>rw [k l o nl (sB _ _ z)] at U;cases U
  refine z3i ?_;refine ⟨_,rfl,_,rfl,by omega,by omega,?_⟩;rw [Z5];refine ⟨λ i k d H'=>k=m - i/\i<=m/\H'=H/\d=P0 i (.ref 262),⟨m,rfl,J2 _,rfl,rfl⟩,?_⟩;rintro i k d H2 ⟨rfl,hi,rfl,rfl⟩;by_cases J:i < m
  ·refine .inr ⟨J,by rw [G2];exact N0 (m:=5) (by omega) (by decide),λ v H3 y=>?_⟩;obtain ⟨rfl,rfl⟩:=y;refine ⟨[some (.int (0 + (i:Int)))],rfl,rfl,iteT ?_⟩;exact ⟨m - (i + 1),by omega,rfl,J,rfl,by rw [List.replicate_succ']⟩
  have ei:i=m:=by omega
  subst ei;refine .inl ⟨K0 _,by rw [G2];exact N0 (m:=5) (by omega) (by decide),λ F b2=>?_⟩;have W:F≠x:=λ z=>by rw [z,ex] at b2;cases b2
  have f1:B F=none:=back Kept.refl W b2;have k1:Kept x H2 (upd H2 F (.lst (P0 i (.ref 262)))):=Kept.upd b2;have d9:=Same.upd (o:=.lst (P0 i (.ref 262))) b2 _ _ ex;have t:upd H2 F (.lst (P0 i (.ref 262))) F=some (.lst (P0 i (.ref 262))):=z04;generalize upd H2 F (.lst (P0 i (.ref 262)))=H3 at k1 d9 t⊢;refine z18 k1 d9 rfl (z0a _) (z0u _) (n:=0) (K0 _) (by decide) λ H4 k4 t4 e6 I=>?_;replace t:=t4 _ _ W t;refine z3i ⟨_,rfl,z18 k4 e6 rfl (z0a _) (z4b _) I (by decide) λ H5 S t5 c2 I=>?_⟩;replace t:=t5 _ _ W t;refine z3i ?_;have f5:=S _ _ d0 ea;have g9 :∀p o,p≠x->H2 p=some o->H5 p=some o:=λ p o n e=>S p o n e;have e8:HPds H5 (rowsP pl) os:=HPds.mono' (λ p xs e=>S _ _ (λ z=>by rw [z,ex] at e;cases e) e) (λ p xs e=>S _ _ (λ z=>by rw [z,ex] at e;cases e) e) (λ p e=>S _ _ (λ z=>by rw [z,ex] at e;cases e) e) _ _ e4;refine zdc (K:=KX w.params) (a:=a) (pl:=pl) (os:=os) (λ R h=>⟨_,rfl,h⟩) f5 e8 l6 λ lf bs H6 s6 a7 O=>?_;have b1:lf≠x:=λ z=>by rw [z,c2] at a7;cases a7
  have f4:B lf=none:=back S b1 a7;have Z :∀b∈bs,b≠x:=λ b G z=>by have:=(O.fr b G).1;rw [z,c2] at this;cases this
  have e9 :∀b∈bs,B b=none:=λ b G=>back S (Z b G) (O.fr b G).1;have g5:F≠lf:=λ z=>by rw [<-z,t] at a7;cases a7
  have f8 :∀b∈bs,F≠b:=λ b G z=>by have:=(O.fr b G).1;rw [<-z,t] at this;cases this
  replace t:=s6 _ _ t;have k6:=S.trans s6.kept;have c9:=s6 _ _ c2;refine z18 k6 c9 rfl (z0a _) (z2f _) I (by decide) λ L k8 t8 c1 I=>?_;replace t:=t8 _ _ W t;have c4:=t8 _ _ b1 O.l;have e3 :∀(j:Nat) (own:List (Option Int)) (b:Addr),pl[j]? = some own->bs[j]? = some b->∃d,L b=some (.lst d)/\All2 (DdV L) own d:=λ j own b e1 e2=>by obtain ⟨d,X,h2⟩:=O.ow j own b e1 e2;refine ⟨d,t8 _ _ (Z b (B1 e2)) X,z00 (λ _ _ z=>dd_v (dd_tk (λ p xs e=>t8 _ _ (λ z=>by rw [z,c9] at e;cases e) e) z)) h2⟩
  have d6:=O.ln;have f7:=O.nd;have f9:=λ b G=>(O.fr b G).2;refine z3i ?_;have g7:=k8 _ _ d0 ea;refine z2c (K:=KX w.params) (a:=a) (xs:=os) (H1:=L) (λ _=>true) (λ _ y _=>y=.bl true) (λ _ _ _ _ _ z=>z) (λ R h=>⟨_,rfl,h⟩) (SqL.of g7) (N0 (m:=6) (by omega) (by decide)) ?_ ?_
  ·intro i hi v H9 s9 hv KT KF X h2;refine ⟨[some v],rfl,rfl,iteT ?_⟩;exact X rfl _ _ (Same.refl _) rfl
  intro id H9 zs s9 a2 c7;rw [List.filter_eq_self.mpr (λ _ _=>rfl),lo] at c7;have ez:zs=(pl.map λ _=>true).map V.bl:=by
   have e1:=z1q (f:=λ _=>V.bl true) c7;rw [e1];apply List.ext_getElem?;intro j;rw [S0,S0,S0];by_cases z:j < pl.length
   ·rw [List.getElem?_range z,A0 z];rfl
   ·rw [j3j (by rw [C3];omega),j3j (by omega)];rfl
  subst ez;have a4:id≠x:=λ z=>by rw [z,s9 _ _ c1] at a2;cases a2
  have g4:B id=none:=back (k8.trans s9.kept) a4 a2;have c3 :∀{l:Addr} {o:HO},L l=some o->id≠l:=λ {l o} e z=>by rw [z,s9 _ _ e] at a2;cases a2
  have b4:=s9.trans (Same.upd (o:=.lst ((pl.map λ _=>true).map V.bl)) a2);have a3:upd H9 id (.lst ((pl.map λ _=>true).map V.bl)) id=some (.lst ((pl.map λ _=>true).map V.bl)):=z04;generalize upd H9 id (.lst ((pl.map λ _=>true).map V.bl))=H10 at b4 a3⊢;refine z18 (k8.trans b4.kept) (b4 _ _ c1) rfl (z0a _) (z1p _) I (by decide) λ a8 c8 c5 e5 I=>?_;have b0 :∀{l:Addr} {o:HO},l≠x->L l=some o->a8 l=some o:=λ n e=>c5 _ _ n (b4 _ _ e);replace a3:=c5 _ _ a4 a3;refine z3i ⟨w_0,λ lt J=>?_⟩;have c0:lt≠x:=λ z=>by rw [z,e5] at J;cases J
  have f6:B lt=none:=back c8 c0 J;have b6:=Same.upd (o:=.lst []) J;have a5:upd a8 lt (.lst []) lt=some (.lst []):=z04;have b3 :∀{l:Addr} {o:HO},a8 l=some o->lt≠l:=λ {l o} e z=>by rw [z,e] at J;cases J
  generalize upd a8 lt (.lst [])=H12 at b6 a5⊢;refine z18 (c8.trans b6.kept) (b6 _ _ e5) rfl (z0a _) (z0t _) I (by decide) λ a9 c6 d2 d8 I=>?_;replace a5:=d2 _ _ c0 a5;refine zei ⟨w_0,λ D Y=>?_⟩;have d1:D≠x:=λ z=>by rw [z,d8] at Y;cases Y
  have g0:B D=none:=back c6 d1 Y;have b7:=Same.upd (o:=.lst []) Y;have d5:upd a9 D (.lst []) D=some (.lst []):=z04;have a6 :∀{l:Addr} {o:HO},a9 l=some o->D≠l:=λ {l o} e z=>by rw [z,e] at Y;cases Y
  generalize upd a9 D (.lst [])=H14 at b7 d5⊢;refine z18 (c6.trans b7.kept) (b7 _ _ d8) rfl (z0a _) (z13 _) I (by decide) λ M e7 d4 f2 I=>?_;have a1 :∀{l:Addr} {o:HO},l≠x->a8 l=some o->a9 l=some o:=λ n e=>d2 _ _ n (b6 _ _ e);have b9 :∀{l:Addr} {o:HO},l≠x->a9 l=some o->M l=some o:=λ n e=>d4 _ _ n (b7 _ _ e);have b5 :∀{l:Addr} {o:HO},l≠x->L l=some o->M l=some o:=λ n e=>b9 n (a1 n (b0 n e));refine q F lf id lt D bs M (λ p o e=>e7 p o (λ z=>by rw [z,f3] at e;cases e) (sB _ _ e)) ⟨⟨dx,_,f2,?_,?_,?_,?_,?_,?_,λ m u=>?_⟩,?_,(λ k r e=>by have e:([]:List Er)[k]? = some r:=e;simp at e),⟨rfl,rfl,d6⟩⟩
  ·exact lk_n (lk_n (lk_n (lk_n (lk_n lk_eq))))
  ·exact lk_n (lk_n (lk_n (lk_n lk_eq)))
  ·exact lk_n (lk_n (lk_n lk_eq))
  ·exact lk_n (lk_n lk_eq)
  ·exact lk_n lk_eq
  ·exact lk_eq
  ·unfold fldC at u;simp only [Z3,L0,or_false,not_or] at u;exact (lk_ne u.2.2.2.2.2).trans ((lk_ne u.2.2.2.2.1).trans ((lk_ne u.2.2.2.1).trans ((lk_ne u.2.2.1).trans ((lk_ne u.2.1).trans ((lk_ne u.1).trans rfl)))))
  ·have f0 :∃C:List (List V),C.length=bs.length/\All2 (λ b d=>M b=some (.lst d)) bs C/\All2 (λ own d=>All2 (DdV M) own d) pl C:=by
    have g6 :∀(pl:List (List (Option Int))) (bs:List Addr),bs.length=pl.length->(∀b∈bs,b≠x)->(∀(j:Nat) (own:List (Option Int)) (b:Addr),pl[j]? = some own->bs[j]? = some b->∃d,L b=some (.lst d)/\All2 (DdV L) own d)->∃C:List (List V),C.length=bs.length/\All2 (λ b d=>M b=some (.lst d)) bs C/\All2 (λ own d=>All2 (DdV M) own d) pl C:=by
     intro pl;induction pl with
     | nil=>intro bs U _ _;rw [List.length_eq_zero_iff.mp U];exact ⟨[],rfl,.nil,.nil⟩
     | cons p pl ih=>
      intro bs U nb ho;cases bs with
      | nil=>cases U
      | cons b bs=>obtain ⟨d,X,h2⟩:=ho 0 p b rfl rfl;obtain ⟨C,g1,g2,g3⟩:=ih bs (by simpa using U) (λ c hc=>nb c (.tail _ hc)) λ j own c e1 e2=>ho (j + 1) own c (by simpa using e1) (by simpa using e2);exact ⟨d :: C,by rw [Y0,Y0,g1],.cons (b5 (nb b (.head _)) X) g2,.cons (z00 (λ _ _ z=>z.elim λ q z=>⟨q,z.1,b5 (λ e=>by rw [e,c1] at z;cases z.2) z.2⟩) h2) g3⟩
    exact g6 pl bs d6 Z e3
   obtain ⟨C,g1,g2,g3⟩:=f0;refine ⟨P0 i (.ref 262),[],[],C,[],⟨?_,?_,?_⟩,g1,?_,.nil,.nil,g3,.nil⟩
   ·rw [L1,L1];exact .cons (b5 W t) (.cons (b5 b1 c4) (.cons (b9 a4 (a1 a4 a3)) (.cons (b9 c0 a5) (.cons (d4 _ _ d1 d5) g2))))
   ·rw [L1];have b8 :∀b∈bs,∃o,L b=some o:=λ b G=>by obtain ⟨j,hj,e⟩:=D6 G;obtain ⟨d,X,_⟩:=e3 j _ b (A0 (show j < pl.length by omega)) (by rw [A0 hj,e]);exact ⟨_,X⟩
    have d7:=b0 W t;have d3:=b0 b1 c4;simp only [K5,Z3,not_or];refine ⟨⟨g5,C2 (c3 t),C2 (b3 d7),C2 (a6 (a1 W d7)),λ z=>f8 F z rfl⟩,⟨C2 (c3 c4),C2 (b3 d3),C2 (a6 (a1 b1 d3)),λ z=>f9 lf z rfl⟩,⟨C2 (b3 a3),C2 (a6 (a1 a4 a3)),λ z=>?_⟩,⟨C2 (a6 a5),λ z=>?_⟩,λ z=>?_,f7⟩
    ·obtain ⟨o,e⟩:=b8 id z;exact c3 e rfl
    ·obtain ⟨o,e⟩:=b8 lt z;exact b3 (b0 (Z lt z) e) rfl
    ·obtain ⟨o,e⟩:=b8 D z;exact a6 (a1 (Z D z) (b0 (Z D z) e)) rfl
   ·intro m u;rw [L1] at u;simp only [Z3] at u;rcases u with rfl|rfl|rfl|rfl|rfl|u
    ·exact f1
    ·exact f4
    ·exact g4
    ·exact f6
    ·exact g0
    ·exact e9 m u
   ·show All2 (HdAt (kx w) M) (P0 i ((0,-1),0)) (P0 i (.ref 262));exact zjg i zil
noncomputable def wP:Option Int->PyData
 | none=>.none
 | some i=>.int i
noncomputable def aP:Option Int->PyData
 | none=>.str "ok"
 | some i=>.int i
noncomputable def evP:CEv->PyData
 | .beg h d=>.tuple [.str "begin",.int (h:Nat),.str "r",.str (vbD d),wP d]
 | .fin h a=>.tuple [.str "end",.int (h:Nat),aP a]
noncomputable def taleP (es:List CEv):PyData:=.tuple [.tuple [.tuple [.str "r",.str "register"]],.tuple (es.map evP)]
theorem ev_hpd {H:Hp} {e:CEv} {y:V} (h:EvV H e y):HPd H (evP e) y:=by
 cases e with
 | beg k d=>obtain ⟨p,rfl,b⟩:=h;refine ⟨p,_,rfl,b,_,_,rfl,rfl,_,_,rfl,rfl,_,_,rfl,rfl,_,_,rfl,rfl,_,_,rfl,?_,rfl⟩;cases d<;>rfl
 | fin k a=>obtain ⟨p,rfl,b⟩:=h;refine ⟨p,_,rfl,b,_,_,rfl,rfl,_,_,rfl,rfl,_,_,rfl,?_,rfl⟩;cases a<;>rfl
theorem name_r:NameOk "r":=⟨by decide +kernel,by decide +kernel,by decide +kernel⟩
theorem zef {i g:Int} (h0:-g<=i) (h1:i<=g):z0h (.int i) g=true:=by unfold z0h;dsimp only;rw [decide_eq_true h0,decide_eq_true h1];rfl
theorem ev_t {H:Hp} {n:Nat} {e:CEv} {y:V} (h:EvV H e y) (ok:okE n e) (n6:n<=6):EvT H [("r","register")] (evO e) y:=by
 cases e with
 | beg k d=>
  obtain ⟨p,rfl,c⟩:=h;obtain ⟨f,b⟩:=ok;refine ⟨p,"r","register",vbD d,rfl,c,by omega,by omega,rfl,rfl,.head _,name_r,?_⟩;cases d with
  | none=>exact .none (show formOf "register" "read" = 0 by decide +kernel)
  | some w=>exact .one (show formOf "register" "write" = 1 by decide +kernel) (zef (b w rfl).1 (b w rfl).2)
 | fin k a=>
  obtain ⟨p,rfl,c⟩:=h;obtain ⟨f,b⟩:=ok;refine ⟨p,rfl,c,by omega,by omega,?_⟩;cases a with
  | none=>exact .inl rfl
  | some w=>have:=b w rfl;exact .inr (.inr ⟨w,rfl,zef (by have:=this.1;omega) (by have:=this.2;omega)⟩)
theorem zbm {T:Nat} :∀(cs:List Int) {M:CM} {n:Nat},WfC M T n->WfC (cs.foldl CM.go M) T (n + 2 * cs.length)
 | [],M,n,h=>h
 | c :: cs,M,n,h=>by have:=zbm cs (go_wf h c);rw [U3,Y0];exact this.le1 (by omega)
def z30 (K:o0):Sp:=λ vs H Q _=>∃(m:Nat) (a c:Addr) (bk:Bool) (cs:List Int) (pl:List (List (Option Int))),vs=[.int m,.ref a,.ref c,.bl bk]/\(m=3\/m=5)/\HPd H (.list (rowsP pl)) (.ref a)/\PlG pl/\H c=some (.lst (cs.map V.int))/\cs.length<=450/\
 ∀t H',Same H H'->HPd H' (taleP (cs.foldl CM.go (CM.init m bk pl)).events) t->Q t H'
theorem za4 (T:TX (kx w) mg) (c0:CaE P w mg base "check_plan" ["many","plan"] 7 (z5b (kx w))) (c8:Fo P w mg base (CXE P w base) 2 316 y07 ["self","many","plan","back"] (z24 (kx w))) (c9:Fo P w mg base CX0 7 321 y0b ["self","choice"] (z3j (kx w))) (c10:Ca P w mg base "make_tale" ["things","events"] 7 (z6c (kx w))):Fo P w mg base (CXE P w base) 9 389 y0y ["many","plan","choices","back"] (z30 (kx w)):=by
 refine (z46 w.params).okE sc_run_copies (λ B H Q E h=>?_) (λ d0 A b9 s H B Q E G h=>?_)
 ·obtain ⟨m,a,c,bk,j,p,rfl,_⟩:=h;rfl
 ·obtain ⟨m,a,c,bk,j,p,rfl,b7,hp,g,ec,lc,q⟩:=h;refine ⟨_,(z02 (z0f (zk9 passE c0 (G.mono (by decide)) rfl (z01 (pv 0) (z01 (pv 1) pa_nil))))
   (z02 (ps_set (i:=4) sc_run_copies.nd rfl (O1 rfl) (z7k (zgi _) c8 (G.mono (by decide)) rfl (T.of (zj3 _)) (z5h _) .nil passN (z01 (pv 0) (z01 (pv 1) (z01 (pv 3) pa_nil)))))
   (z02 (PS.nox (ps_for W2 rfl (z1l (pv 2)) (z0m (i:=5) sc_run_copies.nd rfl (O1 rfl))
   (z05 (z0f (z37 (pv 4) (z0a _) (z72 _) c9 (G.mono (by decide)) (z8g _) .nil pass0 (z01 (pv 5) pa_nil))))))
   (z05 (ps_ret (pe_cal c10 (G.mono (by decide)) rfl (z01 (pe_lst (z01 (pe_tup (z01 pe_str (z01 pe_str pa_nil))) pa_nil)) (z01 (pe_fld (pv 4) rfl) pa_nil)))))))),?_⟩
  refine ⟨_,rfl,_,rfl,m,.ref a,rowsP p,rfl,hp,zl4 g,λ u J _ _=>?_,λ N s' z=>absurd (z (by omega)) (by rw [zg8 g];decide)⟩;have a5:=hp.same J;refine t_nx (z0b ?_);refine ⟨_,rfl,_,rfl,_,rfl,λ b v a2 b6 ne=>?_⟩;have W:Same u (upd (upd u v (.own b)) b (.ins 373 v [])):=(Same.upd b6).trans (Same.upd (by rw [upd_ne (C2 ne)];exact a2));have e2:upd (upd u v (.own b)) b (.ins 373 v []) b=some (.ins 373 v []):=z04;generalize upd (upd u v (.own b)) b (.ins 373 v [])=H2 at W e2⊢;refine ⟨b,v,a,m,bk,p,u,rfl,by omega,e2,a5.same W,g.n6,a2,W,λ st lf id lt L bs H3 s3 a8=>⟨rfl,?_⟩⟩;refine g_name ?_;have Z:WfC (CM.init m bk p) p.flatten.length 0:=zc6 g (by omega) (by omega);refine ⟨_,rfl,c,rfl,⟨_,SqL.of (s3 _ _ (J _ _ ec))⟩,?_⟩;refine z65 (K:=KX w.params) (a:=c) (xs:=j.map V.int) (λ i σ N=>Same u N/\∃n hls x5,Cp (kx w) u N b st lf id lt L bs n hls ((j.take i).foldl CM.go (CM.init m bk p))/\σ=[some (.int m),some (.ref a),some (.ref c),some (.bl bk),some (.ref b),x5]) ⟨s3,[],[],_,a8,rfl⟩ (λ _ σ N _ h=>SqL.of (h.1 _ _ (J _ _ ec))) ?_ ?_
  ·rintro i y σ C D ⟨s4,n,hls,x5,cp4,rfl⟩;rw [S0] at D;cases hc:j[i]? with
   | none=>rw [hc] at D;cases D
   | some k=>
   rw [hc] at D;cases D;have hi:i < j.length:=(List.getElem?_eq_some_iff.mp hc).1;have l:=zbm (j.take i) Z;rw [A6,Nat.min_eq_left (by omega),G5] at l;refine g_name ?_;obtain ⟨X,U,Y,i2,i3,i4,i5,i6,i7,i8⟩:=cp4.ins;refine ⟨_,rfl,b,X,U,rfl,Y,i8 _ (by decide +kernel),_,rfl,?_⟩;refine ⟨b,k,u,st,lf,id,lt,L,bs,n,hls,_,2 * i,rfl,cp4,l.m,by omega,s4,λ b2 b4 x s5 b1=>⟨s5,b2,b4,_,?_,rfl⟩⟩;have ek:(j.take (i + 1)).foldl CM.go (CM.init m bk p)=((j.take i).foldl CM.go (CM.init m bk p)).go k:=by rw [j1b,hc,T5];rfl
   rw [ek];exact b1
  rintro σ C ⟨s4,n,hls,x5,cp4,rfl⟩;rw [E5 (by rw [I0];exact K0 _)] at cp4;have l:=zbm j Z;rw [G5] at l;obtain ⟨X,U,Y,i2,i3,i4,i5,i6,i7,i8⟩:=cp4.ins;obtain ⟨sv,lv,O,b8,d1,c1,c2,c3,c4,c5,c6,c7⟩:=cp4.ct;have b0:C L=some (.lst O):=c1.at (i:=4) rfl rfl;generalize (j.foldl CM.go (CM.init m bk p))=M at cp4 l c1 c3 c4 c5 c6 c7 i3 q;refine t_nx (sq_ret ?_);refine ⟨w_2,λ d a6=>⟨w_1,λ I a9=>?_⟩⟩;have t1:=Same.upd (o:=.tup [.str "r",.str "register"]) a6;have t2:=Same.upd (o:=.lst [.ref d]) a9;have S:=t2 _ _ (z04 (H:=C) (a:=d) (o:=.tup [.str "r",.str "register"]));have a0:upd (upd C d (.tup [.str "r",.str "register"])) I (.lst [.ref d]) I=some (.lst [.ref d]):=z04;have F:=t1.trans t2;generalize upd (upd C d (.tup [.str "r",.str "register"])) I (.lst [.ref d])=x at S a0 F⊢;refine ⟨_,rfl,b,_,X,U,_,rfl,F _ _ Y,z0a _,z13 _,i7,?_⟩;have l6:=l.m.l6;have vn:=l.m.vn;have a3:All2 (EvV x) M.events O:=z00 (λ _ _ z=>z.imm (Imm.of F)) c5;have a4:All2 (EvT x [("r","register")]) (M.events.map evO) O:=by
   have b5 :∀{n:List CEv} {B:List V},All2 (EvV x) n B->(∀e∈n,okE M.left.length e)->All2 (EvT x [("r","register")]) (n.map evO) B:=by
    intro n B h;induction h with
    | nil=>exact λ _=>.nil
    | cons a r ih=>exact λ ok=>.cons (ev_t a (ok _ (.head _)) l6) (ih λ e he=>ok e (.tail _ he))
   exact b5 a3 l.bv
  have gf:=g.f;have tt:=l.tt;refine ⟨I,L,[.ref d],[("r","register")],O,_,rfl,a0,.cons ⟨d,rfl,S⟩ .nil,(show (1:Nat)<=6 by decide),List.nodup_cons.mpr ⟨L0,.nil⟩,λ t ht=>by rw [List.mem_singleton.mp ht];exact ⟨name_r,by decide +kernel⟩,F _ _ b0,a4,by rw [I0];omega,by omega,l.ew,λ pp t c' e' H6 R et b3 a7 pe _=>?_⟩;have e1:pp=[0]:=List.perm_singleton.mp pe;subst e1;refine q _ H6 ((J.trans s4).trans (F.trans R)) ⟨t,_,rfl,et,_,_,rfl,⟨c',_,rfl,b3,_,_,rfl,⟨d,_,rfl,R _ _ S,_,_,rfl,rfl,_,_,rfl,rfl,rfl⟩,rfl⟩,_,_,rfl,⟨e',_,rfl,a7,?_⟩,rfl⟩;exact z6d (z00 (λ _ _ z=>ev_hpd (z.imm (Imm.of R))) a3)
end
section
structure LL where
 copy:Nat
 hand:Nat
 turn:Nat
 to:Bool
 x:Option Hd
structure LD where
 d:Option Int
 round:Nat
 keeps:Bool
 heard:List Hd
 ans:Option Int
structure LM where
 held:List Hd
 under:List LL
 nxt:List Nat
 opn:List (Option LD)
 rounds:Nat
 events:List CEv
noncomputable def LM.init (m:Nat) (pl:List (List (Option Int))):LM:=⟨P0 m ((0,-1),0),[],pl.map λ _=>0,pl.map λ _=>none,0,[]⟩
noncomputable def LM.sent (N:LM) (h:Nat) (D:LD) (x:Option Hd):LM:={ N with rounds:=N.rounds + 1,opn:=N.opn.set h (some { D with round:=N.rounds + 1,keeps:=x.isSome,heard:=[] }),under:=N.under++(W0 N.held.length).map λ c=>⟨c,h,N.rounds + 1,true,x⟩ }
noncomputable def LM.ended (N:LM) (h:Nat) (a:Option Int):LM:={ N with opn:=N.opn.set h none,events:=N.events++[.fin h a] }
noncomputable def LM.goneOn (N:LM) (bk:Bool) (h:Nat) (D:LD):LM:=
 if D.keeps=true then N.ended h D.ans else match D.d with
  | some w=>N.sent h { D with ans:=none } (some (((maxHd D.heard).1.1 + 1,(h:Int)),w))
  | none=>if bk=true then N.sent h { D with ans:=some (maxHd D.heard).2 } (some (maxHd D.heard)) else N.ended h (some (maxHd D.heard).2)
noncomputable def LD.hear (D:LD) (x:Hd):LD:={ D with heard:=D.heard++[x] }
noncomputable def LM.hear (N:LM) (bk:Bool) (L:LL) (D:LD) (x:Hd):LM:=
 if D.round=L.turn then (if N.held.length < 2 * (D.hear x).heard.length then LM.goneOn { N with opn:=N.opn.set L.hand (some (D.hear x)) } bk L.hand (D.hear x) else { N with opn:=N.opn.set L.hand (some (D.hear x)) }) else N
noncomputable def LM.come (N:LM) (bk:Bool) (L:LL):LM:=
 if L.to=true then (match N.held[L.copy]? with
  | some s=>{ N with held:=N.held.set L.copy (keepH L.x s),under:=N.under++[⟨L.copy,L.hand,L.turn,false,some (keepH L.x s)⟩] }
  | none=>N)
 else (match N.opn[L.hand]?,L.x with
  | some (some D),some x=>N.hear bk L D x
  | _,_=>N)
noncomputable def LM.fre (N:LM) (pl:List (List (Option Int))) (h:Nat):Bool:=(N.opn[h]?.getD none).isNone && decide (N.nxt[h]?.getD 0 < (pl[h]?.getD []).length)
noncomputable def LM.free (N:LM) (pl:List (List (Option Int))):List Nat:=(W0 pl.length).filter (N.fre pl)
noncomputable def LM.begin (N:LM) (h:Nat) (d:Option Int):LM:=LM.sent { N with nxt:=N.nxt.set h (N.nxt[h]?.getD 0 + 1),opn:=N.opn.set h (some ⟨d,0,false,[],none⟩),events:=N.events++[.beg h d] } h ⟨d,0,false,[],none⟩ none
noncomputable def LM.moved (N:LM) (pl:List (List (Option Int))) (bk:Bool) (n:Nat):LM:=
 if n < (N.free pl).length then (match (pl[(N.free pl)[n]?.getD 0]?.getD [])[N.nxt[(N.free pl)[n]?.getD 0]?.getD 0]? with
  | some d=>N.begin ((N.free pl)[n]?.getD 0) d
  | none=>N)
 else (match N.under[(n - (N.free pl).length) % N.under.length]? with
  | some L=>if n < (N.free pl).length + N.under.length then LM.come { N with under:=N.under.eraseIdx ((n - (N.free pl).length) % N.under.length) } bk L else { N with under:=N.under.eraseIdx ((n - (N.free pl).length) % N.under.length) }
  | none=>N)
noncomputable def LM.go (N:LM) (pl:List (List (Option Int))) (bk:Bool) (c:Int):LM:=
 if (N.free pl).length + N.under.length=0 then N else N.moved pl bk (c % (((N.free pl).length:Int) + 2 * (N.under.length:Int))).toNat
def LLm (ers:List Er) (L:Lt) (l:LL):Prop:=∃er,ers[L.e]? = some er/\l.copy=L.num/\l.turn=L.e + 1/\l.hand=er.hand/\l.to=L.held.isNone/\l.x=(match L.held with|none=>er.kept|some x=>some x)
structure Sm (pl:List (List (Option Int))) (M:CM) (N:LM):Prop where
 st:N.held=M.stock
 ev:N.events=M.events
 nl:N.nxt.length=pl.length
 ol:N.opn.length=pl.length
 ll:M.left.length=pl.length
 il:M.idle.length=pl.length
 lf :∀h,h < pl.length->M.left[h]? = some ((pl[h]?.getD []).drop (N.nxt[h]?.getD 0))
 id :∀h,h < pl.length->M.idle[h]? = some (N.opn[h]?.getD none).isNone
 rd:N.rounds=M.ers.length
 un:All2 (LLm M.ers) M.letters N.under
 cu :∀h D,N.opn[h]? = some (some D)->∃e er,D.round=e + 1/\M.ers[e]? = some er/\er.hand=h/\er.deed=D.d/\er.kept.isSome=D.keeps/\er.heard=D.heard/\2 * D.heard.length<=M.stock.length/\∀k,er.kept=some k->D.ans=ansC er.deed k.2
 pa :∀e er,M.ers[e]? = some er->er.hand < pl.length/\((∃D,N.opn[er.hand]? = some (some D)/\D.round=e + 1)\/M.stock.length < 2 * er.heard.length)
 odd:M.stock.length % 2=1
 inb :∀L∈M.letters,L.num < M.stock.length
theorem LLm.set {ers:List Er} {L:Lt} {l:LL} {e:Nat} {er:Er} {x:Hd} (he:ers[e]? = some er) (h:LLm ers L l):LLm (ers.set e (er.hear x)) L l:=by
 obtain ⟨r,a,b⟩:=h;by_cases z:L.e=e
 ·rw [z,he] at a;cases a;exact ⟨er.hear x,by rw [z,O0 (List.getElem?_eq_some_iff.mp he).1],b⟩
 ·exact ⟨r,by rw [X1 (C2 z)];exact a,b⟩
theorem LLm.more {ers:List Er} {L:Lt} {l:LL} (r:Er) (h:LLm ers L l):LLm (ers++[r]) L l:=by obtain ⟨c,a,b⟩:=h;exact ⟨c,by rw [J1 (List.getElem?_eq_some_iff.mp a).1];exact a,b⟩
theorem Sm.free {pl:List (List (Option Int))} {M:CM} {N:LM} (s:Sm pl M N):N.free pl=M.ready:=by
 unfold LM.free CM.ready;rw [s.ll];refine List.filter_congr λ h a=>?_;have a:=List.mem_range.mp a;unfold LM.fre CM.rdy;rw [s.lf h a,s.id h a];show _=(!((pl[h]?.getD []).drop (N.nxt[h]?.getD 0)).isEmpty && (N.opn[h]?.getD none).isNone);rw [Bool.and_comm];congr 1;rw [Bool.eq_iff_iff,decide_eq_true_iff,Bool.not_eq_true',List.isEmpty_eq_false_iff_exists_mem];constructor
 ·intro z;refine ⟨((pl[h]?.getD [])[N.nxt[h]?.getD 0]),?_⟩;rw [List.mem_drop_iff_getElem];exact ⟨0,by omega,by simp⟩
 ·rintro ⟨x,hx⟩;have:=j33 hx;rw [j0c] at this;omega
theorem z3z {α β:Type} {R:α->β->Prop} {xs xs':List α} {ys ys':List β} (h:All2 R xs ys) (h':All2 R xs' ys'):All2 R (xs++xs') (ys++ys'):=by
 induction h with
 | nil=>exact h'
 | cons a r ih=>exact .cons a ih
def Cur (M:CM) (h:Nat) (D:LD):Prop:=∃e er,D.round=e + 1/\M.ers[e]? = some er/\er.hand=h/\er.deed=D.d/\er.kept.isSome=D.keeps/\er.heard=D.heard/\2 * D.heard.length<=M.stock.length/\∀k,er.kept=some k->D.ans=ansC er.deed k.2
structure Pr (pl:List (List (Option Int))) (M:CM) (N:LM) (h:Nat):Prop where
 st:N.held=M.stock
 ev:N.events=M.events
 nl:N.nxt.length=pl.length
 ol:N.opn.length=pl.length
 ll:M.left.length=pl.length
 il:M.idle.length=pl.length
 lf :∀h,h < pl.length->M.left[h]? = some ((pl[h]?.getD []).drop (N.nxt[h]?.getD 0))
 id :∀k,k < pl.length->k≠h->M.idle[k]? = some (N.opn[k]?.getD none).isNone
 hh:h < pl.length
 rd:N.rounds=M.ers.length
 un:All2 (LLm M.ers) M.letters N.under
 cu :∀k D,k≠h->N.opn[k]? = some (some D)->Cur M k D
 pa :∀e er,M.ers[e]? = some er->er.hand < pl.length/\((er.hand≠h/\∃D,N.opn[er.hand]? = some (some D)/\D.round=e + 1)\/M.stock.length < 2 * er.heard.length)
 odd:M.stock.length % 2=1
 inb :∀L∈M.letters,L.num < M.stock.length
theorem z0q {α:Type} {l:List α} {h k:Nat} {x:α} (hh:h < l.length):(l.set h x)[k]? = if k=h then some x else l[k]?:=by
 by_cases z:k=h
 ·rw [if_pos z,z,O0 hh]
 ·rw [if_neg z,X1 (C2 z)]
theorem Pr.sent {pl:List (List (Option Int))} {M:CM} {N:LM} {h:Nat} {D:LD} {x:Option Hd} (s:Pr pl M N h) (ih:M.idle[h]? = some false) (ea :∀k,x=some k->D.ans=ansC D.d k.2):Sm pl ((M.make ⟨h,D.d,x,[]⟩).send M.ers.length) (N.sent h D x):=by
 have i:h < N.opn.length:=by rw [s.ol];exact s.hh
 refine ⟨s.st,s.ev,s.nl,by show (N.opn.set h _).length=_;rw [R0];exact s.ol,s.ll,s.il,s.lf,λ k l=>?_,by show N.rounds + 1=(M.ers++[_]).length;rw [G0,s.rd];rfl,?_,λ k g b=>?_,λ e f a=>?_,s.odd,λ L j=>?_⟩
 ·show M.idle[k]? = some ((N.opn.set h _)[k]?.getD none).isNone;rw [z0q i];by_cases z:k=h
  ·rw [if_pos z,z,ih];rfl
  ·rw [if_neg z];exact s.id k l z
 ·show All2 (LLm (M.ers++[_])) (M.letters++(W0 M.stock.length).map λ k=>⟨M.ers.length,k,none⟩) (N.under++(W0 N.held.length).map λ c=>⟨c,h,N.rounds + 1,true,x⟩);refine z3z (z00 (λ _ _ z=>z.more _) s.un) ?_;rw [s.st,s.rd];generalize W0 M.stock.length=r;induction r with
  | nil=>exact .nil
  | cons k r ih=>exact .cons ⟨⟨h,D.d,x,[]⟩,by simp,rfl,rfl,rfl,rfl,rfl⟩ ih
 ·have b:(N.opn.set h _)[k]? = some (some g):=b;rw [z0q i] at b;by_cases z:k=h
  ·rw [if_pos z] at b;cases b;exact ⟨M.ers.length,⟨h,D.d,x,[]⟩,by rw [s.rd],by show (M.ers++[_])[_]? = _;simp,z.symm,rfl,rfl,rfl,J2 _,ea⟩
  ·rw [if_neg z] at b;obtain ⟨e,f,t,m,p⟩:=s.cu k g z b;exact ⟨e,f,t,by show (M.ers++[_])[_]? = _;rw [J1 (List.getElem?_eq_some_iff.mp m).1];exact m,p⟩
 ·have a:(M.ers++[_])[e]? = some f:=a;rcases Nat.lt_or_ge e M.ers.length with z|z
  ·rw [J1 z] at a;obtain ⟨u,v⟩:=s.pa e f a;refine ⟨u,v.imp (λ ⟨n,g,q1,q2⟩=>⟨g,?_,q2⟩) λ q=>q⟩;show (N.opn.set h _)[f.hand]? = _;rw [z0q i,if_neg n];exact q1
  ·have o:e=M.ers.length:=by have:=(List.getElem?_eq_some_iff.mp a).1;rw [G0] at this;simp only [Y0,T3] at this;omega
   rw [o,D1 (K0 _),Q8] at a;cases a;refine ⟨s.hh,.inl ⟨_,by show (N.opn.set h _)[h]? = _;rw [z0q i,if_pos rfl],?_⟩⟩;show N.rounds + 1=e + 1;rw [s.rd,o]
 ·have j:L∈M.letters++(W0 M.stock.length).map λ k=>⟨M.ers.length,k,none⟩:=j;rcases List.mem_append.mp j with z|z
  ·exact s.inb L z
  ·obtain ⟨k,l,rfl⟩:=List.mem_map.mp z;exact List.mem_range.mp l
theorem Pr.ended {pl:List (List (Option Int))} {M:CM} {N:LM} {h:Nat} {a:Option Int} (s:Pr pl M N h):Sm pl { M with idle:=M.idle.set h true,events:=M.events++[.fin h a] } (N.ended h a):=by
 have d:h < N.opn.length:=by rw [s.ol];exact s.hh
 have i:h < M.idle.length:=by rw [s.il];exact s.hh
 refine ⟨s.st,by show N.events++_=M.events++_;rw [s.ev],s.nl,by show (N.opn.set h _).length=_;rw [R0];exact s.ol,s.ll,by show (M.idle.set h _).length=_;rw [R0];exact s.il,s.lf,λ k m=>?_,s.rd,s.un,λ k c b=>?_,λ e f g=>?_,s.odd,s.inb⟩
 ·show (M.idle.set h _)[k]? = some ((N.opn.set h _)[k]?.getD none).isNone;rw [z0q d,z0q i];by_cases z:k=h
  ·rw [if_pos z,if_pos z];rfl
  ·rw [if_neg z,if_neg z];exact s.id k m z
 ·have b:(N.opn.set h _)[k]? = some (some c):=b;rw [z0q d] at b;by_cases z:k=h
  ·rw [if_pos z] at b;cases b
  ·rw [if_neg z] at b;exact s.cu k c z b
 ·obtain ⟨j,l⟩:=s.pa e f g;refine ⟨j,l.imp (λ ⟨n,c,q1,q2⟩=>⟨c,?_,q2⟩) λ q=>q⟩;show (N.opn.set h _)[f.hand]? = _;rw [z0q d,if_neg n];exact q1
theorem Sm.begin {pl:List (List (Option Int))} {M:CM} {N:LM} {h:Nat} {d:Option Int} {rest:List (Option Int)} (s:Sm pl M N) (hh:h < pl.length) (ho:N.opn[h]? = some none) (hl:M.left[h]? = some (d :: rest)):Sm pl (M.start h d rest) (N.begin h d):=by
 have b:h < N.opn.length:=by rw [s.ol];exact hh
 have l:h < N.nxt.length:=by rw [s.nl];exact hh
 have g:h < M.idle.length:=by rw [s.il];exact hh
 have i:h < M.left.length:=by rw [s.ll];exact hh
 refine Pr.sent (M:={ M with left:=M.left.set h rest,idle:=M.idle.set h false,events:=M.events++[.beg h d] }) (D:=⟨d,0,false,[],none⟩) ⟨s.st,by show N.events++_=M.events++_;rw [s.ev],by show (N.nxt.set h _).length=_;rw [R0];exact s.nl,by show (N.opn.set h _).length=_;rw [R0];exact s.ol,by show (M.left.set h _).length=_;rw [R0];exact s.ll,by show (M.idle.set h _).length=_;rw [R0];exact s.il,λ k c=>?_,λ k c n=>?_,hh,s.rd,s.un,λ k D n a=>?_,λ e f j=>?_,s.odd,s.inb⟩ (O0 g) λ k e=>by cases e
 ·show (M.left.set h _)[k]? = some ((pl[k]?.getD []).drop ((N.nxt.set h _)[k]?.getD 0));rw [z0q i,z0q l];by_cases z:k=h
  ·rw [if_pos z,if_pos z];have:=s.lf h hh;rw [hl] at this;rw [z];show some rest=some ((pl[h]?.getD []).drop (N.nxt[h]?.getD 0 + 1));rw [<-List.drop_drop,<-T2 this];rfl
  ·rw [if_neg z,if_neg z];exact s.lf k c
 ·show (M.idle.set h _)[k]? = some ((N.opn.set h _)[k]?.getD none).isNone;rw [z0q b,z0q g,if_neg n,if_neg n];exact s.id k c
 ·have a:(N.opn.set h _)[k]? = some (some D):=a;rw [z0q b,if_neg n] at a;exact s.cu k D a
 ·obtain ⟨m,o⟩:=s.pa e f j;refine ⟨m,o.imp (λ ⟨D',q1,q2⟩=>?_) λ q=>q⟩;have n:f.hand≠h:=λ z=>by rw [z,ho] at q1;cases q1
  exact ⟨n,D',by show (N.opn.set h _)[f.hand]? = _;rw [z0q b,if_neg n];exact q1,q2⟩
theorem zdp {N:LM} {bk:Bool} {h:Nat} {D:LD} (e:D.keeps=true):N.goneOn bk h D=N.ended h D.ans:=if_pos e
theorem zfx {N:LM} {bk:Bool} {h:Nat} {D:LD} {w:Int} (e:D.keeps=false) (ed:D.d=some w):N.goneOn bk h D=N.sent h { D with ans:=none } (some (((maxHd D.heard).1.1 + 1,(h:Int)),w)):=by unfold LM.goneOn;rw [if_neg (by rw [e];decide),ed]
theorem za6 {N:LM} {bk:Bool} {h:Nat} {D:LD} (e:D.keeps=false) (ed:D.d=none):N.goneOn bk h D=if bk=true then N.sent h { D with ans:=some (maxHd D.heard).2 } (some (maxHd D.heard)) else N.ended h (some (maxHd D.heard).2):=by unfold LM.goneOn;rw [if_neg (by rw [e];decide),ed]
theorem ask_w {M:CM} {er:Er} {w:Int} (e:er.deed=some w):M.ask er=(M.make ⟨er.hand,some w,some (((maxHd er.heard).1.1 + 1,er.hand),w),[]⟩).send M.ers.length:=by unfold CM.ask;rw [e]
theorem ask_r {M:CM} {er:Er} (e:er.deed=none):M.ask er=if M.back=true then (M.make ⟨er.hand,none,some (maxHd er.heard),[]⟩).send M.ers.length else { M with idle:=M.idle.set er.hand true,events:=M.events++[.fin er.hand (some (maxHd er.heard).2)] }:=by unfold CM.ask CM.stop;rw [e];rfl
theorem Sm.hear {pl:List (List (Option Int))} {M:CM} {N:LM} {L:Lt} {l:LL} {er:Er} {x:Hd} (s:Sm pl M N) (he:M.ers[L.e]? = some er) (lt:l.turn=L.e + 1) (lh:l.hand=er.hand):Sm pl (M.comeBack L.e er x) (match N.opn[l.hand]?,some x with
  | some (some D),some x=>N.hear M.back l D x
  | _,_=>N):=by
 obtain ⟨u,S⟩:=s.pa _ _ he;have m:er.hand < N.opn.length:=by rw [s.ol];exact u
 have p:L.e < M.ers.length:=(List.getElem?_eq_some_iff.mp he).1;have X:=s.odd;rw [lh];by_cases cur :∃D,N.opn[er.hand]? = some (some D)/\D.round=L.e + 1
 ·obtain ⟨D,r,G⟩:=cur;rw [r];obtain ⟨e,b,c1,P,c3,I,F,J,Z,O⟩:=s.cu _ _ r;obtain rfl:e=L.e:=by omega
  rw [he] at P;cases P;show Sm pl (M.comeBack L.e er x) (N.hear M.back l D x);have U:N.hear M.back l D x=_:=if_pos (show D.round=l.turn by rw [G,lt]);rw [U];unfold CM.comeBack;have v:(er.hear x).heard.length=D.heard.length + 1:=by show (er.heard++[x]).length=_;rw [G0,J];rfl
  have C:(D.hear x).heard.length=D.heard.length + 1:=G0;have V:(M.ers.set L.e (er.hear x))[L.e]? = some (er.hear x):=O0 p;by_cases big:M.stock.length < 2 * (D.heard.length + 1)
  ·rw [if_neg (by rw [v];omega),lh,if_pos (by rw [s.st,C];exact big)];have A:Pr pl { M with ers:=M.ers.set L.e (er.hear x) } { N with opn:=N.opn.set er.hand (some (D.hear x)) } er.hand:=by
    refine ⟨s.st,s.ev,s.nl,by show (N.opn.set _ _).length=_;rw [R0];exact s.ol,s.ll,s.il,s.lf,λ k B n=>?_,u,by show N.rounds=(M.ers.set _ _).length;rw [R0];exact s.rd,z00 (λ _ _ z=>z.set he) s.un,λ k g n c=>?_,λ e b a=>?_,s.odd,s.inb⟩
    ·show M.idle[k]? = some ((N.opn.set _ _)[k]?.getD none).isNone;rw [z0q m,if_neg n];exact s.id k B
    ·have c:(N.opn.set _ _)[k]? = some (some g):=c;rw [z0q m,if_neg n] at c;obtain ⟨e,b,t,f,i,w⟩:=s.cu _ _ c;refine ⟨e,b,t,?_,i,w⟩;show (M.ers.set _ _)[e]? = _;rw [z0q p,if_neg (λ z=>by rw [z,he] at f;cases f;exact n i.symm)];exact f
    ·have a:(M.ers.set _ _)[e]? = some b:=a;rw [z0q p] at a;by_cases z:e=L.e
     ·rw [if_pos z] at a;cases a;exact ⟨u,.inr (by rw [v];exact big)⟩
     ·rw [if_neg z] at a;obtain ⟨H,E⟩:=s.pa e b a;refine ⟨H,E.imp (λ ⟨g,r1,r2⟩=>?_) λ q=>q⟩;have n:b.hand≠er.hand:=λ y=>by rw [y,r] at r1;cases r1;omega
      exact ⟨n,g,by show (N.opn.set _ _)[b.hand]? = _;rw [z0q m,if_neg n];exact r1,r2⟩
   have Q:M.idle[er.hand]? = some false:=by rw [s.id _ u,r];rfl
   cases ek:er.kept with
   | some k=>rw [zdp (D:=D.hear x) (show D.keeps=true by rw [<-F,ek];rfl),show (D.hear x).ans=ansC er.deed k.2 from O k ek];exact A.ended
   | none=>
    have K:(D.hear x).keeps=false:=by show D.keeps=false;rw [<-F,ek];rfl
    show Sm pl (CM.ask { M with ers:=M.ers.set L.e (er.hear x) } (er.hear x)) _;have R:(D.hear x).heard=(er.hear x).heard:=by show D.heard++[x]=er.heard++[x];rw [J]
    cases ed:er.deed with
    | some w0=>
     have j:(D.hear x).d=some w0:=by rw [<-ed];exact I.symm
     rw [zfx K j,R,ask_w (show (er.hear x).deed=some w0 from ed),<-j];exact A.sent (D:={ D.hear x with ans:=none }) Q λ k e=>by rw [j];rfl
    | none=>
     have j:(D.hear x).d=none:=by rw [<-ed];exact I.symm
     rw [za6 K j,R,ask_r (show (er.hear x).deed=none from ed)];by_cases hb:M.back=true
     ·rw [if_pos hb,if_pos hb];have:=A.sent (D:={ D.hear x with ans:=some (maxHd (er.hear x).heard).2 }) (x:=some (maxHd (er.hear x).heard)) Q λ k e=>by cases e;rw [j];rfl
      rw [j] at this;exact this
     ·rw [if_neg hb,if_neg hb];exact A.ended
  ·rw [if_pos (by rw [v];omega),lh,if_neg (by rw [s.st,C];exact big)];refine ⟨s.st,s.ev,s.nl,by show (N.opn.set _ _).length=_;rw [R0];exact s.ol,s.ll,s.il,s.lf,λ k B=>?_,by show N.rounds=(M.ers.set _ _).length;rw [R0];exact s.rd,z00 (λ _ _ z=>z.set he) s.un,λ k g c=>?_,λ e b a=>?_,s.odd,s.inb⟩
   ·show M.idle[k]? = some ((N.opn.set _ _)[k]?.getD none).isNone;rw [z0q m];by_cases z:k=er.hand
    ·rw [if_pos z,s.id k B,z,r];rfl
    ·rw [if_neg z];exact s.id k B
   ·have c:(N.opn.set _ _)[k]? = some (some g):=c;rw [z0q m] at c;by_cases z:k=er.hand
    ·rw [if_pos z] at c;cases c;exact ⟨L.e,er.hear x,G,V,z.symm,I,F,by show er.heard++[x]=D.heard++[x];rw [J],by rw [C];show 2 * (D.heard.length + 1)<=M.stock.length;omega,O⟩
    ·rw [if_neg z] at c;obtain ⟨e,b,t,f,i,w⟩:=s.cu _ _ c;refine ⟨e,b,t,?_,i,w⟩;show (M.ers.set _ _)[e]? = _;rw [z0q p,if_neg (λ y=>by rw [y,he] at f;cases f;exact z i.symm)];exact f
   ·have a:(M.ers.set _ _)[e]? = some b:=a;rw [z0q p] at a;by_cases z:e=L.e
    ·rw [if_pos z] at a;cases a;exact ⟨u,.inl ⟨D.hear x,by show (N.opn.set _ _)[er.hand]? = _;rw [z0q m,if_pos rfl],by rw [z];exact G⟩⟩
    ·rw [if_neg z] at a;obtain ⟨H,E⟩:=s.pa e b a;refine ⟨H,E.imp (λ ⟨g,r1,r2⟩=>?_) λ q=>q⟩;have n:b.hand≠er.hand:=λ y=>by rw [y,r] at r1;cases r1;omega
     exact ⟨g,by show (N.opn.set _ _)[b.hand]? = _;rw [z0q m,if_neg n];exact r1,r2⟩
 ·have Y:M.stock.length < 2 * er.heard.length:=S.resolve_left cur;have W:M.comeBack L.e er x={ M with ers:=M.ers.set L.e (er.hear x) }:=by unfold CM.comeBack;have v:(er.hear x).heard.length=er.heard.length + 1:=G0;rw [if_pos (by rw [v];omega)]
  have T:(match N.opn[er.hand]?,some x with
    | some (some D),some x=>N.hear M.back l D x
    | _,_=>N)=N:=by
   cases h:N.opn[er.hand]? with
   | none=>rfl
   | some o=>
    cases o with
    | none=>rfl
    | some D=>show N.hear M.back l D x=N;unfold LM.hear;rw [if_neg (λ z=>cur ⟨D,h,by rw [z,lt]⟩)]
  rw [W,T];refine ⟨s.st,s.ev,s.nl,s.ol,s.ll,s.il,s.lf,s.id,by show N.rounds=(M.ers.set _ _).length;rw [R0];exact s.rd,z00 (λ _ _ z=>z.set he) s.un,λ k g c=>?_,λ e b a=>?_,s.odd,s.inb⟩
  ·obtain ⟨e,b,t,f,i,w⟩:=s.cu _ _ c;refine ⟨e,b,t,?_,i,w⟩;show (M.ers.set _ _)[e]? = _;rw [z0q p,if_neg (λ y=>by rw [y,he] at f;cases f;exact cur ⟨g,by rw [i];exact c,by rw [t,y]⟩)];exact f
  ·have a:(M.ers.set _ _)[e]? = some b:=a;rw [z0q p] at a;by_cases z:e=L.e
   ·rw [if_pos z] at a;cases a;exact ⟨u,.inr (by show M.stock.length < 2 * (er.heard++[x]).length;rw [G0];omega)⟩
   ·rw [if_neg z] at a;exact s.pa e b a
theorem Sm.comeTo {pl:List (List (Option Int))} {M:CM} {N:LM} {L:Lt} {l:LL} {er:Er} {x:Hd} (s:Sm pl M N) (he:M.ers[L.e]? = some er) (lc:l.copy=L.num) (lt:l.turn=L.e + 1) (lh:l.hand=er.hand) (lx:l.x=er.kept) (hn:L.num < M.stock.length):Sm pl (M.comeTo L.e er L.num x) { N with held:=N.held.set l.copy (keepH l.x x),under:=N.under++[⟨l.copy,l.hand,l.turn,false,some (keepH l.x x)⟩] }:=by
 rw [lc,lx];have a:(M.stock.set L.num (keepH er.kept x)).length=M.stock.length:=R0;refine ⟨by show N.held.set _ _=M.stock.set _ _;rw [s.st],s.ev,s.nl,s.ol,s.ll,s.il,s.lf,s.id,s.rd,z3z s.un (.cons ⟨er,he,rfl,lt,lh,rfl,rfl⟩ .nil),λ h D i=>?_,λ e b o=>?_,by show (M.stock.set _ _).length % 2=1;rw [a];exact s.odd,λ c f=>?_⟩
 ·obtain ⟨e,b,g,m,k,j,d,p,n,q⟩:=s.cu h D i;exact ⟨e,b,g,m,k,j,d,p,by show _<=(M.stock.set _ _).length;rw [a];exact n,q⟩
 ·show _/\(_\/(M.stock.set _ _).length < _);rw [a];exact s.pa e b o
 ·show c.num < (M.stock.set _ _).length;rw [a];rcases List.mem_append.mp f with z|z
  ·exact s.inb c z
  ·rw [List.mem_singleton.mp z];exact hn
theorem Sm.come {pl:List (List (Option Int))} {M:CM} {N:LM} {L:Lt} {l:LL} (s:Sm pl M N) (h:LLm M.ers L l) (hn:L.num < M.stock.length):Sm pl (M.come L) (N.come M.back l):=by
 obtain ⟨i,c,b,d,e,g,a⟩:=h;have f:M.stock[L.num]? = some M.stock[L.num]:=A0 hn;unfold CM.come LM.come;rw [c,f,g];cases hL:L.held with
 | none=>rw [hL] at a;rw [if_pos (show (none:Option Hd).isNone=true from rfl),s.st,b,f];have:=s.comeTo (x:=M.stock[L.num]) c b d e a hn;rw [s.st,b] at this;exact this
 | some x=>rw [hL] at a;rw [if_neg (show ¬ (some x).isNone=true by simp),a];exact s.hear c d e
theorem z62 {α β:Type} {R:α->β->Prop} :∀{xs:List α} {ys:List β} (i:Nat),All2 R xs ys->All2 R (xs.eraseIdx i) (ys.eraseIdx i)
 | _,_,_,.nil=>.nil
 | _,_,0,.cons _ r=>r
 | _,_,i + 1,.cons a r=>.cons a (z62 i r)
theorem Sm.pop {pl:List (List (Option Int))} {M:CM} {N:LM} (s:Sm pl M N) (i:Nat):Sm pl { M with letters:=M.letters.eraseIdx i } { N with under:=N.under.eraseIdx i }:=
 ⟨s.st,s.ev,s.nl,s.ol,s.ll,s.il,s.lf,s.id,s.rd,z62 i s.un,s.cu,s.pa,s.odd,λ L a=>s.inb L (List.mem_of_mem_eraseIdx a)⟩
theorem Sm.go {pl:List (List (Option Int))} {M:CM} {N:LM} (s:Sm pl M N) (c:Int):Sm pl (M.go c) (N.go pl M.back c):=by
 have t:N.under.length=M.letters.length:=z03 s.un;unfold CM.go LM.go LM.moved;rw [s.free,t];by_cases z:M.ready.length + M.letters.length=0
 ·rw [if_pos z,if_pos z];exact s
 rw [if_neg z,if_neg z];dsimp only;generalize (c % ((M.ready.length:Int) + 2 * (M.letters.length:Int))).toNat=n;by_cases hn:n < M.ready.length
 ·rw [if_pos hn,if_pos hn];have o:M.ready[n]? = some M.ready[n]:=A0 hn;rw [o];have f:M.ready[n]∈M.ready:=D3 hn;generalize M.ready[n]=h at f o;unfold CM.ready at f;obtain ⟨q,a⟩:=List.mem_filter.mp f;have b:h < pl.length:=by have:=List.mem_range.mp q;rw [s.ll] at this;exact this
  have a:(!(M.left[h]?.getD []).isEmpty && M.idle[h]?.getD false)=true:=a;rw [s.lf h b,s.id h b,Q4] at a;have r:N.opn[h]? = some none:=by
   have k:(N.opn[h]?.getD none).isNone=true:=a.2;have g:h < N.opn.length:=by rw [s.ol];exact b
   rw [A0 g] at k⊢;cases e:N.opn[h] with
   | none=>rfl
   | some D=>rw [e] at k;cases k
  show Sm pl (match M.left[h]? with|some (d :: rest)=>M.start h d rest|_=>M) (match (pl[h]?.getD [])[N.nxt[h]?.getD 0]? with|some d=>N.begin h d|none=>N);have j:=s.lf h b;cases e:(pl[h]?.getD []).drop (N.nxt[h]?.getD 0) with
  | nil=>have m:(!((pl[h]?.getD []).drop (N.nxt[h]?.getD 0)).isEmpty)=true:=a.1;rw [e] at m;cases m
  | cons d rest=>
   rw [e] at j;have p:(pl[h]?.getD [])[N.nxt[h]?.getD 0]? = some d:=by have:=congrArg (·[0]?) e;simp only [List.getElem?_drop,Nat.add_zero,G4] at this;exact this
   rw [j,p];exact s.begin b r j
 ·rw [if_neg hn,if_neg hn];generalize hi:(n - M.ready.length) % M.letters.length=i;cases hL:M.letters[i]? with
  | none=>
   have:N.under[i]? = none:=by rw [List.getElem?_eq_none_iff] at hL⊢;omega
   rw [this];exact s
  | some L=>
   obtain ⟨l,g,u⟩:=z0r s.un hL;rw [g];dsimp only;by_cases hb:n < M.ready.length + M.letters.length
   ·rw [if_pos hb,if_pos hb];exact (s.pop i).come u (s.inb L (B1 hL))
   ·rw [if_neg hb,if_neg hb];exact s.pop i
theorem zjr {M:CM} {er:Er}:(M.ask er).back=M.back:=by
 unfold CM.ask;split
 ·rfl
 ·split<;>rfl
theorem go_back {M:CM} {c:Int}:(M.go c).back=M.back:=by
 have a :∀{M:CM} {L:Lt},(M.come L).back=M.back:=λ {M L}=>by
  unfold CM.come;split
  ·unfold CM.comeBack;split
   ·rfl
   ·split
    ·rfl
    ·exact zjr
  ·rfl
  ·rfl
 unfold CM.go;split
 ·rfl
 ·dsimp only;split
  ·split<;>rfl
  ·split
   ·split
    ·exact a
    ·rfl
   ·rfl
theorem Sm.init {pl:List (List (Option Int))} {m:Nat} {bk:Bool} (hm:m % 2=1):Sm pl (CM.init m bk pl) (LM.init m pl):=by
 have c :∀{α:Type} (x:α) (h:Nat),h < pl.length->(pl.map λ _=>x)[h]? = some x:=λ x h a=>by rw [S0,A0 a];rfl
 refine ⟨rfl,rfl,I0 ..,I0 ..,rfl,I0 ..,λ h a=>?_,λ h a=>?_,rfl,.nil,λ h D b=>?_,λ e g f=>?_,by show (P0 m _).length % 2=1;rw [G2];exact hm,λ L d=>absurd d L0⟩
 ·show pl[h]? = some ((pl[h]?.getD []).drop ((pl.map λ _=>0)[h]?.getD 0));rw [c 0 h a,A0 a];rfl
 ·show (pl.map λ _=>true)[h]? = some ((pl.map λ _=>(none:Option LD))[h]?.getD none).isNone;rw [c true h a,c none h a];rfl
 ·have b:(pl.map λ _=>(none:Option LD))[h]? = some (some D):=b;rw [S0] at b;obtain ⟨_,_,e⟩:=Option.map_eq_some_iff.mp b;cases e
 ·cases f
theorem zcf {pl:List (List (Option Int))} {m:Nat} {bk:Bool} (hm:m % 2=1) :∀cs:List Int,Sm pl (cs.foldl CM.go (CM.init m bk pl)) (cs.foldl (λ N c=>N.go pl bk c) (LM.init m pl)):=by
 have a :∀(cs:List Int) (M:CM) (N:LM),M.back=bk->Sm pl M N->Sm pl (cs.foldl CM.go M) (cs.foldl (λ N c=>N.go pl bk c) N):=λ cs=>by
  induction cs with
  | nil=>exact λ _ _ _ s=>s
  | cons c cs ih=>exact λ M N e s=>ih _ _ (go_back.trans e) (by have:=s.go c;rw [e] at this;exact this)
 exact λ cs=>a cs _ _ rfl (Sm.init hm)
end
section
variable {P:Program} {w:Z0} {mg:Str->Option Value} {base:Heap}
structure Ms (B H:Hp) (xs:List (Addr×HO)):Prop where
 c :∀p∈xs,H p.1=some p.2
 nd:(xs.map (·.1)).Nodup
 fr :∀p∈xs,B p.1=none
theorem Ms.same {B H H':Hp} {xs:List (Addr×HO)} (h:Ms B H xs) (s:Same H H'):Ms B H' xs:=⟨λ p a=>s _ _ (h.c p a),h.nd,h.fr⟩
theorem Ms.set {B H:Hp} {a b:List (Addr×HO)} {p:Addr} {o o':HO} (h:Ms B H (a++(p,o) :: b)):Ms B (upd H p o') (a++(p,o') :: b):=by
 have d:=h.nd;rw [V1,Y1] at d;obtain ⟨k,i,j⟩:=List.nodup_append.mp d;have i:=List.nodup_cons.mp i;refine ⟨λ q g=>?_,by rw [V1,Y1];exact d,λ q g=>?_⟩
 ·rcases List.mem_append.mp g with z|z
  ·rw [upd_ne (λ e=>j q.1 (F7 z) p W1 e)];exact h.c q (List.mem_append.mpr (.inl z))
  ·rcases List.mem_cons.mp z with z|z
   ·rw [z];exact z04
   ·rw [upd_ne (λ e=>i.1 (by rw [<-e];exact F7 (f:=(·.1)) z))];exact h.c q (List.mem_append.mpr (.inr (U1 _ z)))
 ·rcases List.mem_append.mp g with z|z
  ·exact h.fr q (List.mem_append.mpr (.inl z))
  ·rcases List.mem_cons.mp z with z|z
   ·rw [z];exact h.fr (p,o) (List.mem_append.mpr (.inr W1))
   ·exact h.fr q (List.mem_append.mpr (.inr (U1 _ z)))
theorem Ms.at {B H:Hp} {a b:List (Addr×HO)} {p:Addr} {o:HO} (h:Ms B H (a++(p,o) :: b)):H p=some o:=h.c (p,o) (List.mem_append.mpr (.inr W1))
theorem Ms.frA {B H:Hp} {a b:List (Addr×HO)} {p:Addr} {o:HO} (h:Ms B H (a++(p,o) :: b)):B p=none:=h.fr (p,o) (List.mem_append.mpr (.inr W1))
theorem Ms.perm {B H:Hp} {xs ys:List (Addr×HO)} (h:Ms B H xs) (p:xs.Perm ys):Ms B H ys:=⟨λ q a=>h.c q (p.mem_iff.mpr a),(p.map _).nodup_iff.mp h.nd,λ q a=>h.fr q (p.mem_iff.mpr a)⟩
theorem Ms.sub {B H:Hp} {xs ys:List (Addr×HO)} (h:Ms B H xs) (p:ys.Sublist xs):Ms B H ys:=⟨λ q a=>h.c q (p.subset a),h.nd.sublist (p.map _),λ q a=>h.fr q (p.subset a)⟩
theorem Ms.new {B H:Hp} {xs:List (Addr×HO)} {p:Addr} {o:HO} (h:Ms B H xs) (s:Same B H) (hp:H p=none):Ms B (upd H p o) ((p,o) :: xs):=by
 have b:=h.same (Same.upd (o:=o) hp);refine ⟨λ q a=>?_,List.nodup_cons.mpr ⟨λ z=>?_,h.nd⟩,λ q a=>?_⟩
 ·rcases List.mem_cons.mp a with z|z
  ·rw [z];exact z04
  ·exact b.c q z
 ·obtain ⟨q,a,e⟩:=List.mem_map.mp z;have:=h.c q a;rw [e,hp] at this;cases this
 ·rcases List.mem_cons.mp a with z|z
  ·rw [z];exact s.free hp
  ·exact h.fr q z
theorem Imm.dk {H:Hp} {l:Addr} {o:HO} {xs:List (Key×V)} (e:H l=some (.dK xs)):Imm H (upd H l o):=
 ⟨λ p a q=>by rw [upd_ne (λ z=>by rw [z,e] at q;cases q)];exact q,λ p C b fs q=>by rw [upd_ne (λ z=>by rw [z,e] at q;cases q)];exact q,λ p o u q=>by rw [upd_ne (λ z=>by rw [z,e] at q;cases q)];exact q⟩
theorem nd_sub {α:Type} :∀(ds l:List α),ds.Nodup->(∀d∈ds,d∈l)->ds.length<=l.length
 | [],_,_,_=>J2 _
 | d :: ds,l,a,h=>by
  classical
  have c:=h d W1;have a:=List.nodup_cons.mp a;have:=nd_sub ds (l.erase d) a.2 λ x b=>(j48 (λ e:x=d=>a.1 (by rw [<-e];exact b))).mpr (h x (U1 _ b));rw [List.length_erase_of_mem c] at this;have:=j33 c;rw [Y0];omega
def KS (ns:List Key) (kvs:List (Key×V)):Prop:=(kvs.map (·.1)).Nodup/\∀k∈kvs.map (·.1),k∈ns
theorem KS.len {ns:List Key} {kvs:List (Key×V)} (h:KS ns kvs):kvs.length<=ns.length:=by
 have:=nd_sub _ _ h.1 h.2
 rwa [I0] at this
theorem KS.nil {ns:List Key}:KS ns []:=⟨.nil,λ k h=>absurd h L0⟩
theorem KS.put {ns:List Key} {kvs:List (Key×V)} {k:Key} {v:V} (h:KS ns kvs) (hk:k∈ns):KS ns (putK kvs k v):=by
 unfold putK;split
 ·have e:(kvs.map λ c=>if c.1=k then (c.1,v) else c).map (·.1)=kvs.map (·.1):=by rw [F5];refine List.map_congr_left λ x _=>?_;show (if x.1=k then (x.1,v) else x).1=x.1;split<;>rfl
  unfold KS;rw [e];exact h
 ·rename_i z;unfold KS;rw [V1];refine ⟨List.nodup_append.mpr ⟨h.1,by simp,λ a d b f e=>?_⟩,λ x g=>?_⟩
  ·have f:b=k:=List.mem_singleton.mp f;rw [e,f] at d;rw [<-zdf] at d;exact z ((z6e _ _).trans d)
  ·rcases List.mem_append.mp g with y|y
   ·exact h.2 x y
   ·rw [List.mem_singleton.mp y];exact hk
noncomputable def kS:List Key:=[.inr "held",.inr "under",.inr "next",.inr "events",.inr "open",.inr "rounds"]
noncomputable def kD:List Key:=[.inr "verb",.inr "worth",.inr "round",.inr "keeps",.inr "heard",.inr "answer"]
noncomputable def stV (K:o0) (H:Hp):Option Hd->V->V->Prop
 | none,a,b=>a=.non/\b=.non
 | some x,a,b=>∃q,a=.ref q/\SqT K H q [.int x.1.1,.int x.1.2]/\b=.int x.2
theorem stV.imm {K:o0} {H H':Hp} {x:Option Hd} {a b:V} (m:Imm H H') (h:stV K H x a b):stV K H' x a b:=by
 cases x with
 | none=>exact h
 | some x=>exact h.elim λ q z=>⟨q,z.1,m.seqT z.2.1,z.2.2⟩
noncomputable def sideS (b:Bool):Str:=if b=true then "to" else "from"
def LLAt (K:o0) (H:Hp) (l:LL) (y:V):Prop:=∃p a b,y=.ref p/\H p=some (.tup [.int l.copy,.int l.hand,.int l.turn,.str (sideS l.to),a,b])/\stV K H l.x a b
theorem LLAt.imm {K:o0} {H H':Hp} {l:LL} {y:V} (m:Imm H H') (h:LLAt K H l y):LLAt K H' l y:=by obtain ⟨p,a,b,e,c,d⟩:=h;exact ⟨p,a,b,e,m.t _ _ c,d.imm m⟩
structure OE where
 d:Addr
 kvs:List (Key×V)
 l:Option (Addr×List V)
noncomputable def entO:Option OE->List (Addr×HO)
 | none=>[]
 | some x=>(x.d,.dK x.kvs) :: (match x.l with|none=>[]|some y=>[(y.1,.lst y.2)])
noncomputable def oeV:Option OE->V
 | none=>.non
 | some x=>.ref x.d
def OeAt (K:o0) (H:Hp) (D:LD) (y:OE):Prop:=KS kD y.kvs/\valV y.kvs (.inr "verb")=some (.str (vbD D.d))/\valV y.kvs (.inr "worth")=some (wvD D.d)/\(D.keeps=true->valV y.kvs (.inr "answer")=some (avD D.ans))/\
 (D.round≠0->valV y.kvs (.inr "round")=some (.int D.round)/\valV y.kvs (.inr "keeps")=some (.bl D.keeps)/\∃l hs,y.l=some (l,hs)/\valV y.kvs (.inr "heard")=some (.ref l)/\All2 (HdAt K H) D.heard hs)
noncomputable def OeO (K:o0) (H:Hp):Option LD->Option OE->Prop
 | none,none=>True
 | some D,some y=>OeAt K H D y
 | _,_=>False
theorem OeO.imm {K:o0} {H H':Hp} {D:Option LD} {y:Option OE} (m:Imm H H') (h:OeO K H D y):OeO K H' D y:=by
 cases D with
 | none=>cases y with|none=>trivial|some y=>exact h
 | some D=>
  cases y with
  | none=>exact h
  | some y=>obtain ⟨g,f,d,e,a⟩:=h;refine ⟨g,f,d,e,λ z=>?_⟩;obtain ⟨b,c,l,k,n,j,i⟩:=a z;exact ⟨b,c,l,k,n,j,z00 (λ _ _ z=>z.imm m) i⟩
structure La where
 st:Addr
 hd:Addr
 un:Addr
 nx:Addr
 ev:Addr
 op:Addr
structure StO (A:La) (r:Nat) (kvs:List (Key×V)):Prop where
 ks:KS kS kvs
 hd:valV kvs (.inr "held")=some (.ref A.hd)
 un:valV kvs (.inr "under")=some (.ref A.un)
 nx:valV kvs (.inr "next")=some (.ref A.nx)
 ev:valV kvs (.inr "events")=some (.ref A.ev)
 op:valV kvs (.inr "open")=some (.ref A.op)
 rd:valV kvs (.inr "rounds")=some (.int r)
noncomputable def baseO (A:La) (kvs:List (Key×V)) (hv uv nv vv ov:List V):List (Addr×HO):=[(A.st,.dK kvs),(A.hd,.lst hv),(A.un,.lst uv),(A.nx,.lst nv),(A.ev,.lst vv),(A.op,.lst ov)]
noncomputable def natV (ns:List Nat):List V:=ns.map λ (n:Nat)=>V.int (n:Int)
structure Lw (K:o0) (B H:Hp) (A:La) (es:List (Option OE)) (N:LM):Prop where
 ct :∃kvs hv uv vv,StO A N.rounds kvs/\Ms B H (baseO A kvs hv uv (natV N.nxt) vv (es.map oeV)++es.flatMap entO)/\All2 (HdAt K H) N.held hv/\All2 (LLAt K H) N.under uv/\All2 (EvV H) N.events vv
 oe:All2 (OeO K H) N.opn es
theorem Lw.same {K:o0} {B H H':Hp} {A:La} {es:List (Option OE)} {N:LM} (h:Lw K B H A es N) (s:Same H H'):Lw K B H' A es N:=by obtain ⟨j,c,d,a,f,i,g,b,e⟩:=h.ct;have m:=Imm.of s;exact ⟨⟨j,c,d,a,f,i.same s,z00 (λ _ _ z=>z.imm m) g,z00 (λ _ _ z=>z.imm m) b,z00 (λ _ _ z=>z.imm m) e⟩,z00 (λ _ _ z=>OeO.imm m z) h.oe⟩
def PlR (H:Hp) (a:Addr) (pl:List (List (Option Int))):Prop:=∃os,H a=some (.lst os)/\All2 (λ own y=>∃b ys,y=.ref b/\H b=some (.lst ys)/\All2 (DdV H) own ys) pl os
theorem PlR.same {H H':Hp} {a:Addr} {pl:List (List (Option Int))} (s:Same H H') (h:PlR H a pl):PlR H' a pl:=by obtain ⟨c,e,d⟩:=h;exact ⟨c,s _ _ e,z00 (λ _ _ ⟨b,ys,e1,e2,e3⟩=>⟨b,ys,e1,s _ _ e2,z00 (λ _ _ z=>z.imm (Imm.of s)) e3⟩) d⟩
theorem plR_of {H:Hp} {a:Addr} {pl:List (List (Option Int))} (h:HPd H (.list (rowsP pl)) (.ref a)):PlR H a pl:=by
 obtain ⟨n,f,e,j,r⟩:=h;cases e;refine ⟨f,j,?_⟩;clear j;induction pl generalizing f with
 | nil=>have r:f=[]:=r;rw [r];exact .nil
 | cons own pl ih=>
  obtain ⟨x,k,rfl,⟨b,g,rfl,i,c⟩,r⟩:=r;refine .cons ⟨b,g,rfl,i,?_⟩ (ih k r);clear i ih r;induction own generalizing g with
  | nil=>have c:g=[]:=c;rw [c];exact .nil
  | cons d own ih=>obtain ⟨x,m,rfl,l,r⟩:=c;exact .cons (dd_v l) (ih m r)
theorem t_and {t u:TT} {σ:L2.St} {H:Hp} {Q:Bool->Hp->Prop} (h:t σ H λ c H1=>if c=true then u σ H1 Q else Q false H1):tAnd t u σ H Q:=h
theorem pairsC {v:V} {tv:TE} {r:List (TE×TE)} {σ:L2.St} {H:Hp} {Q:List (V×V)->Hp->Prop} (h:tv σ H λ y H2=>tPairs r σ H2 λ ps H3=>Q ((v,y) :: ps) H3):tPairs ((tC v,tv) :: r) σ H Q:=h
theorem z59 {td ty tv:TE} {rest:TS} {D:Ends} {σ:L2.St} {H:Hp} (h:tv σ H λ v H1=>td σ H1 λ x H2=>ty σ H2 λ y H3=>∃a H4,x=.ref a/\DPut H3 a y v H4/\rest D σ H4):tSeq (sDPut td ty tv) rest D σ H:=h
theorem vp_eq {kvs:List (Key×V)} {k:Key} {y:V}:valV (putK kvs k y) k=some y:=by rw [zb1,if_pos rfl]
theorem vp_ne {kvs:List (Key×V)} {j k:Key} {y:V} (h:j≠k):valV (putK kvs k y) j=valV kvs j:=by rw [zb1,if_neg h]
theorem z93 {α:Type} {n:Nat} {ys:List V} {v:V} {l:List α} (h:All2 (λ (_:Nat) y=>y=v) ((W0 n).filter λ _=>true) ys) (e:l.length=n):ys=l.map λ _=>v:=by have a:=z03 h;rw [List.filter_eq_self.mpr (λ _ _=>rfl),C3] at a;refine b7 (by rw [I0,a,e]) λ i b c=>?_;rw [List.getElem_map];obtain ⟨_,_,z⟩:=z0k h (A0 b);exact z
theorem zio {α:Type} (l:List α):(l.map λ _=>(none:Option OE)).flatMap entO=[]:=by
 induction l with
 | nil=>rfl
 | cons x l ih=>exact ih
theorem zkr {α:Type} {K:o0} {H:Hp} (l:List α):All2 (OeO K H) (l.map λ _=>none) (l.map λ _=>none):=by
 induction l with
 | nil=>exact .nil
 | cons x l ih=>exact .cons trivial ih
def z2x (K:o0):Sp:=λ vs H Q _=>∃(m:Nat) (a:Addr) (os:List V) (pl:List (List (Option Int))),vs=[.int m,.ref a]/\m<=5/\H a=some (.lst os)/\os.length=pl.length/\pl.length<=6/\∀A H',Same H H'->Lw K H H' A (pl.map λ _=>none) (LM.init m pl)->Q (.ref A.st) H'
theorem z9r (T:TX (kx w) mg):Fo P w mg base CX0 1 425 y10 ["many","plan"] (z2x (kx w)):=by
 refine (z41 w.params).ok sc__law_begun (λ vs H Q E h=>?_) (λ b7 A b6 s H vs Q E hr h=>?_)
 ·obtain ⟨m,a,os,u,rfl,_⟩:=h;rfl
 ·obtain ⟨m,a,os,u,rfl,m5,ea,lo,l6,q⟩:=h;refine ⟨_,(z02 (ps_set (i:=2) sc__law_begun.nd rfl (O1 rfl) (zi6 (z4l pe_str (pe_cg (xs:=["copy"]) (g:=gName 0) (fr:=[]) (z0x rfl (T.no (z2a _)) (z01 (pv 0) pa_nil)) (λ _ _ _ _ _=>(pg_cn (N:=["copy"]) 0)) (λ _ _ _ _ _=>pf_nil) (λ _ _ _ _ _=>(pe_tup (z01 (pe_tup (z01 pe_int (z01 (pe_un un_neg pe_int) pa_nil))) (z01 pe_int pa_nil))))) (z4l pe_str (pe_lst pa_nil) (z4l pe_str (pe_cg (xs:=["row"]) (g:=gName 0) (fr:=[]) (z1l (pv 1)) (λ _ _ _ _ _=>(pg_cn (N:=["row"]) 0)) (λ _ _ _ _ _=>pf_nil) (λ _ _ _ _ _=>pe_int)) (z4l pe_str (pe_lst pa_nil) zia)))) rfl rfl (by simp) (by decide)))
   (z02 (z4a (hu_of hr) (pv 2) pe_str (pe_cg (xs:=["row"]) (g:=gName 0) (fr:=[]) (z1l (pv 1)) (λ _ _ _ _ _=>(pg_cn (N:=["row"]) 0)) (λ _ _ _ _ _=>pf_nil) (λ _ _ _ _ _=>pe_non)) rfl)
   (z02 (z4a (hu_of hr) (pv 2) pe_str pe_int rfl)
   (z05 (ps_ret (pv 2)))))),?_⟩
  refine z0b ?_;intro p G;have M0:Ms H H []:=⟨λ _ h=>absurd h L0,.nil,λ _ h=>absurd h L0⟩
  have M1:=M0.new (o:=.dK []) (Same.refl _) G;have s1:=Same.upd (o:=.dK []) G;generalize upd H p (.dK [])=H1 at M1 s1⊢;refine pairsC ?_;refine z96 (S:=Same) (n:=m) (λ _=>true) (λ _ y H'=>HdAt (kx w) H' ((0,-1),0) y) (Same.refl _) (λ _ _ _ a b=>a.trans b) (λ _ _=>Same.refl _) (λ _ _ _ _ s z=>z.imm (Imm.of s)) (λ R h=>⟨_,rfl,h⟩) (N0 (m:=5) m5 (by decide)) (λ k hk H7 s7 KT KF t D=>?_) λ e H2 B s2 Z C=>?_
  ·refine ⟨[some (.int (k:Nat))],rfl,rfl,iteT ?_⟩;refine ⟨1,rfl,w_2,λ p1 b2=>⟨w_2,λ p2 b3=>?_⟩⟩;have t1:=Same.upd (o:=.tup [.int 0,.int (-1)]) b2;have t2:=Same.upd (o:=.tup [.ref p1,.int 0]) b3;exact t rfl _ _ (t1.trans t2) ⟨p2,p1,rfl,SqT.of z04,SqT.of (t2 _ _ z04)⟩
  rw [List.filter_eq_self.mpr (λ _ _=>rfl)] at C;have M2:=(M1.same s2).new (o:=.lst B) (s1.trans s2) Z;have a0:=(s1.trans s2).trans (Same.upd (o:=.lst B) Z);have C:=z00 (λ _ _ z=>HdAt.imm (Imm.of (Same.upd (o:=.lst B) Z)) z) C;generalize upd H2 e (.lst B)=H3 at M2 a0 C⊢;refine pairsC ⟨w_0,λ f a7=>?_⟩;have M4:=M2.new (o:=.lst []) a0 a7;have t4:=Same.upd (o:=.lst []) a7;generalize upd H3 f (.lst [])=H4 at M4 t4⊢;have s4:=a0.trans t4;refine pairsC ?_;refine z2c (K:=KX w.params) (a:=a) (xs:=os) (H1:=H4) (λ _=>true) (λ _ y _=>y=.int 0) (λ _ _ _ _ _ z=>z) (λ R h=>⟨_,rfl,h⟩) (SqL.of (s4 _ _ ea)) (N0 (m:=6) (by omega) (by decide)) (λ i hi v H9 F B KT KF t D=>⟨[some v],rfl,rfl,iteT (t rfl _ _ (Same.refl _) rfl)⟩) λ r H5 M X a6 fn=>?_;have M6:=(M4.same X).new (o:=.lst M) (s4.trans X) a6;have t6:=X.trans (Same.upd (o:=.lst M) a6);generalize upd H5 r (.lst M)=H6 at M6 t6⊢;have s6:=s4.trans t6;refine pairsC ⟨w_0,λ le a8=>?_⟩;have J:=M6.new (o:=.lst []) s6 a8;have Y:=Same.upd (o:=.lst []) a8;generalize upd H6 le (.lst [])=H7 at J Y⊢;have s7:=s6.trans Y;refine ⟨J.c (p,.dK []) (by simp),[(.inr "held",.ref e),(.inr "under",.ref f),(.inr "next",.ref r),(.inr "events",.ref le)],rfl,(show (4:Nat)<=15 by decide),?_⟩;have M8:=Ms.set (a:=[_,_,_,_]) (o':=.dK (mergeK [] [(.inr "held",.ref e),(.inr "under",.ref f),(.inr "next",.ref r),(.inr "events",.ref le)])) J;have L:=Same.keep (o:=.dK (mergeK [] [(.inr "held",.ref e),(.inr "under",.ref f),(.inr "next",.ref r),(.inr "events",.ref le)])) s7 G;have m8:=Imm.dk (o:=.dK (mergeK [] [(.inr "held",.ref e),(.inr "under",.ref f),(.inr "next",.ref r),(.inr "events",.ref le)])) (J.c (p,.dK []) (by simp));have b0:=(Imm.of ((t4.trans t6).trans Y)).trans m8;generalize upd H7 p (.dK (mergeK [] [(.inr "held",.ref e),(.inr "under",.ref f),(.inr "next",.ref r),(.inr "events",.ref le)]))=H8 at M8 L b0⊢;refine g_name ?_;refine z59 ?_;refine z2c (K:=KX w.params) (a:=a) (xs:=os) (H1:=H8) (λ _=>true) (λ _ y _=>y=.non) (λ _ _ _ _ _ z=>z) (λ R h=>⟨_,rfl,h⟩) (SqL.of (L _ _ ea)) (N0 (m:=6) (by omega) (by decide)) (λ i hi v H9 F B KT KF t D=>⟨[some v],rfl,rfl,iteT (t rfl _ _ (Same.refl _) rfl)⟩) λ d H9 I F a4 fo=>?_;have U:=(M8.same F).new (o:=.lst I) (L.trans F) a4;have t9:=F.trans (Same.upd (o:=.lst I) a4);generalize upd H9 d (.lst I)=H10 at U t9⊢;have b4:=L.trans t9;have a1:=U.c (p,.dK (mergeK [] [(.inr "held",.ref e),(.inr "under",.ref f),(.inr "next",.ref r),(.inr "events",.ref le)])) (by simp);refine ⟨_,rfl,p,_,rfl,DPut.k (k:=.inr "open") a1 (X0 (z49 [] _) (show (4:Nat) < sizeLine by decide)),?_⟩;generalize hk0:mergeK [] [(.inr "held",.ref e),(.inr "under",.ref f),(.inr "next",.ref r),(.inr "events",.ref le)]=k0 at U a1⊢;have l0:k0.length<=4:=by rw [<-hk0];exact z49 [] _
  have W:=Ms.set (a:=[_,_,_,_,_]) (o':=.dK (putK k0 (.inr "open") (.ref d))) U;have a5:=Same.keep (o:=.dK (putK k0 (.inr "open") (.ref d))) b4 G;have a9:=Imm.dk (o:=.dK (putK k0 (.inr "open") (.ref d))) a1;generalize upd H10 p (.dK (putK k0 (.inr "open") (.ref d)))=H11 at W a5 a9⊢;have a3:=W.c (p,.dK (putK k0 (.inr "open") (.ref d))) (by simp);have l1:(putK k0 (.inr "open") (.ref d)).length<=5:=N0 (z25 _ _ _) (by omega);refine z59 ⟨_,rfl,p,_,rfl,DPut.k (k:=.inr "rounds") a3 (X0 l1 (by decide)),?_⟩;have a2:=Ms.set (a:=[_,_,_,_,_]) (o':=.dK (putK (putK k0 (.inr "open") (.ref d)) (.inr "rounds") (.int 0))) W;have b5:=Same.keep (o:=.dK (putK (putK k0 (.inr "open") (.ref d)) (.inr "rounds") (.int 0))) a5 G;have b1:=Imm.dk (o:=.dK (putK (putK k0 (.inr "open") (.ref d)) (.inr "rounds") (.int 0))) a3;have mm:=((b0.trans (Imm.of t9)).trans a9).trans b1;refine sq_ret ⟨_,rfl,q ⟨p,e,f,r,le,d⟩ _ b5 ⟨⟨putK (putK k0 (.inr "open") (.ref d)) (.inr "rounds") (.int 0),B,[],[],?_,?_,?_,.nil,.nil⟩,?_⟩⟩
  ·have O :∀{j:Key} {v:V},j≠.inr "open"->j≠.inr "rounds"->valV k0 j=some v->valV (putK (putK k0 (.inr "open") (.ref d)) (.inr "rounds") (.int 0)) j=some v:=λ t D h3=>(vp_ne D).trans ((vp_ne t).trans h3);obtain rfl:k0=putK (putK (putK (putK [] (.inr "held") (.ref e)) (.inr "under") (.ref f)) (.inr "next") (.ref r)) (.inr "events") (.ref le):=hk0.symm;exact ⟨(((((KS.nil.put (by simp [kS])).put (by simp [kS])).put (by simp [kS])).put (by simp [kS])).put (by simp [kS])).put (by simp [kS]),O (by decide +kernel) (by decide +kernel) ((vp_ne (by decide +kernel)).trans ((vp_ne (by decide +kernel)).trans ((vp_ne (by decide +kernel)).trans vp_eq))),O (by decide +kernel) (by decide +kernel) ((vp_ne (by decide +kernel)).trans ((vp_ne (by decide +kernel)).trans vp_eq)),O (by decide +kernel) (by decide +kernel) ((vp_ne (by decide +kernel)).trans vp_eq),O (by decide +kernel) (by decide +kernel) vp_eq,(vp_ne (by decide +kernel)).trans vp_eq,vp_eq⟩
  ·have e1:M=natV (u.map λ _=>0):=by rw [z93 (l:=u) fn lo.symm];unfold natV;rw [F5];rfl
   have e2:I=(u.map λ _=>none).map oeV:=by rw [z93 (l:=u) fo lo.symm,F5];rfl
   rw [zio,L1];rw [e1,e2] at a2;exact a2.perm (List.reverse_perm _).symm
  ·refine z22 (by rw [z03 C,C3];exact List.length_replicate.symm) λ i x y t D=>?_;obtain ⟨_,_,z⟩:=z0k C D;have hx:=B1 t;rw [(List.mem_replicate.mp hx).2];exact z.imm mm
  ·show All2 _ (u.map λ _=>none) (u.map λ _=>none);exact zkr u
def z1r (K:o0):Sp:=λ vs H Q _=>∃(A:La) (a:Addr) (B:Hp) (es:List (Option OE)) (N:LM) (pl:List (List (Option Int))),vs=[.ref A.st,.ref a]/\Lw K B H A es N/\PlR H a pl/\pl.length<=6/\N.opn.length=pl.length/\N.nxt.length=pl.length/\∀l H',Same H H'->H l=none->H' l=some (.lst (natV (N.free pl)))->Q (.ref l) H'
theorem za8 (T:TX (kx w) mg):Fo P w mg base CX0 1 430 y17 ["state","plan"] (z1r (kx w)):=by
 refine (z4x w.params).ok zau (λ vs H Q E h=>?_) (λ a3 A a4 s H vs Q E I h=>?_)
 ·obtain ⟨m,a,B,r,N,c,rfl,_⟩:=h;rfl
 ·obtain ⟨e,a,B,r,N,c,rfl,v,⟨t,W,O⟩,l6,ol,nl,q⟩:=h;refine ⟨_,(z05 (ps_ret (zec (xs:=["hand"]) (g:=gName 0) (fr:=[(0,"state"),(1,"plan")]) rfl (z0x rfl (T.no (z2a _)) (z01 (z06 (z2i (K:=KX w.params) rfl) rfl (T.no (n_len _)) A2 (z01 (pv 1) pa_nil)) pa_nil)) (by intro p j;simp only [Z3,L0,or_false] at j;rcases j with rfl|rfl<;>first|exact ⟨rfl,.inl rfl⟩|exact ⟨rfl,.inr rfl⟩) (zju (ns:=["state","plan"]) (by decide +kernel) (by intro n M k;simp only [Z3,L0,or_false] at M;rcases M with rfl|rfl<;>first|exact .inl rfl|exact .inr rfl)) (by intro p j;simp only [Z3,L0,or_false] at j;rcases j with rfl|rfl<;>exact ⟨by decide +kernel,by first|exact .inl rfl|exact .inr rfl⟩) (by decide +kernel) rfl (by decide +kernel) (λ _ _ _ _ _=>(pg_cn (N:=["hand","state","plan"]) 0)) (λ _ _ _ _ _=>(pf_one (PW.pt (pw_and (z09 op_isN (pe_ix (z5z (K:=KX w.params) rfl) (z0e (hu_of I) (pv 1) pe_str (λ _ _=>rfl)) (pv 0) (λ _ _=>rfl)) pe_non (nomark _)) (z27 (z09 op_lt (pe_ix (z5z (K:=KX w.params) rfl) (z0e (hu_of I) (pv 1) pe_str (λ _ _=>rfl)) (pv 0) (λ _ _=>rfl)) (z06 (z2i (K:=KX w.params) rfl) rfl (T.no (n_len _)) A2 (z01 (pe_ix (z5z (K:=KX w.params) rfl) (pv 2) (pv 0) (λ _ _=>rfl)) pa_nil)) (nomark _))))))) (λ _ _ _ _ _=>(pv 0))))),?_⟩;obtain ⟨a0,hv,uv,vv,C,x,c2,c3,c4⟩:=v.ct;have F:H e.st=some (.dK a0):=x.at (a:=[]);have a1:H e.nx=some (.lst (natV N.nxt)):=x.at (a:=[_,_,_]);have X:H e.op=some (.lst (r.map oeV)):=x.at (a:=[_,_,_,_,_]);have lo:t.length=c.length:=z03 O;have le:r.length=N.opn.length:=z03 v.oe;refine sq_ret ?_;refine z96 (S:=Same) (n:=t.length) (N.fre c) (λ k y _=>y=.int (k:Nat)) (Same.refl _) (λ _ _ _ a b=>a.trans b) (λ _ _=>Same.refl _) (λ _ _ _ _ _ z=>z) (λ R h=>⟨_,rfl,.inl ⟨a,t,rfl,.inl (SqL.of W),h⟩⟩) (N0 (m:=6) (by omega) (by decide)) (λ k hk H7 d KT KF u l=>?_) λ Z H7 us d L fa=>?_
  ·have ko:k < N.opn.length:=by omega
   have Y:k < N.nxt.length:=by omega
   have U:N.opn[k]? = some N.opn[k]:=A0 ko;have G:N.nxt[k]? = some N.nxt[k]:=A0 Y;obtain ⟨i,a2,o⟩:=z0r v.oe U;obtain ⟨y,hy,b,J,rfl,eb,ad⟩:=z0r O (A0 (show k < c.length by omega));have hP:c[k]? = some c[k]:=A0 (show k < c.length by omega);have fre:N.fre c k=((N.opn[k]).isNone && decide (N.nxt[k] < (c[k]).length)):=by unfold LM.fre;rw [U,G,hP];rfl
   rw [fre] at u l;refine ⟨[some (.int (k:Nat))],rfl,rfl,t_and ?_⟩;refine ⟨_,rfl,e.st,.ref e.op,rfl,(by rw [<-C.op];exact DGet.k (k:=.inr "open") (d _ _ F)),?_⟩;refine ⟨_,rfl,.inl ⟨e.op,_,k,oeV i,rfl,rfl,SqL.of (d _ _ X),z08 (by rw [S0,a2];rfl),rfl,_,rfl,?_⟩⟩;cases hoo:N.opn[k] with
   | some D=>
    rw [hoo] at o l;cases i with
    | none=>exact o.elim
    | some i=>exact iteN (by simp [oeV]) (iteF (l rfl _ (Same.refl _)))
   | none=>
    rw [hoo] at o u l;cases i with
    | some i=>exact o.elim
    | none=>
    refine iteP (decide_eq_true rfl) ?_;refine ⟨_,rfl,e.st,.ref e.nx,rfl,(by rw [<-C.nx];exact DGet.k (k:=.inr "next") (d _ _ F)),?_⟩;refine ⟨_,rfl,.inl ⟨e.nx,_,k,.int (N.nxt[k]:Nat),rfl,rfl,SqL.of (d _ _ a1),z08 (by unfold natV;rw [S0,G];rfl),?_⟩⟩;refine ⟨_,rfl,_,rfl,.inl ⟨a,_,k,.ref b,rfl,rfl,SqL.of (d _ _ W),z08 hy,.inl ⟨b,J,rfl,.inl (SqL.of (d _ _ eb)),_,_,rfl,rfl,_,rfl,?_⟩⟩⟩;have ly:J.length=(c[k]).length:=z03 ad;by_cases z:N.nxt[k] < (c[k]).length
    ·exact iteP (decide_eq_true (by omega)) ⟨_,rfl,u (by rw [decide_eq_true z];rfl) _ _ (Same.refl _) rfl⟩
    ·exact iteN (λ y=>z (by have:=of_decide_eq_true y;omega)) (l (by rw [decide_eq_false z];rfl) _ (Same.refl _))
  ·have e1:us=natV (N.free c):=by unfold LM.free natV;rw [<-lo];exact z1q (f:=λ (k:Nat)=>V.int (k:Nat)) fa
   rw [e1];exact q Z _ (d.trans (Same.upd L)) (d.free L) z04
theorem StO.ghd {H:Hp} {A:La} {r:Nat} {kvs:List (Key×V)} (c:StO A r kvs) (e:H A.st=some (.dK kvs)):DGet H A.st (.str "held") (some (.ref A.hd)):=c.hd ▸ DGet.k (k:=.inr "held") e
theorem StO.gun {H:Hp} {A:La} {r:Nat} {kvs:List (Key×V)} (c:StO A r kvs) (e:H A.st=some (.dK kvs)):DGet H A.st (.str "under") (some (.ref A.un)):=c.un ▸ DGet.k (k:=.inr "under") e
theorem StO.gnx {H:Hp} {A:La} {r:Nat} {kvs:List (Key×V)} (c:StO A r kvs) (e:H A.st=some (.dK kvs)):DGet H A.st (.str "next") (some (.ref A.nx)):=c.nx ▸ DGet.k (k:=.inr "next") e
theorem StO.gev {H:Hp} {A:La} {r:Nat} {kvs:List (Key×V)} (c:StO A r kvs) (e:H A.st=some (.dK kvs)):DGet H A.st (.str "events") (some (.ref A.ev)):=c.ev ▸ DGet.k (k:=.inr "events") e
theorem StO.gop {H:Hp} {A:La} {r:Nat} {kvs:List (Key×V)} (c:StO A r kvs) (e:H A.st=some (.dK kvs)):DGet H A.st (.str "open") (some (.ref A.op)):=c.op ▸ DGet.k (k:=.inr "open") e
theorem StO.grd {H:Hp} {A:La} {r:Nat} {kvs:List (Key×V)} (c:StO A r kvs) (e:H A.st=some (.dK kvs)):DGet H A.st (.str "rounds") (some (.int r)):=c.rd ▸ DGet.k (k:=.inr "rounds") e
theorem StO.put {A:La} {r r':Nat} {kvs:List (Key×V)} (c:StO A r kvs):StO A r' (putK kvs (.inr "rounds") (.int r')):=⟨c.ks.put (by simp [kS]),(vp_ne (by decide +kernel)).trans c.hd,(vp_ne (by decide +kernel)).trans c.un,(vp_ne (by decide +kernel)).trans c.nx,(vp_ne (by decide +kernel)).trans c.ev,(vp_ne (by decide +kernel)).trans c.op,vp_eq⟩
theorem z2g :∀{es:List (Option OE)} {j:Nat} {x:Option OE} (x':Option OE),es[j]? = some x->(es.set j x').flatMap entO=(es.take j).flatMap entO++(entO x'++(es.drop (j + 1)).flatMap entO)
 | [],_,_,_,h=>by cases h
 | e :: es,0,x,x',_=>by simp
 | e :: es,j + 1,x,x',h=>by have:=z2g (es:=es) (j:=j) x' h;rw [List.set_cons_succ,List.flatMap_cons,this,List.take_succ_cons,List.flatMap_cons,List.drop_succ_cons,E2]
theorem z5t {α:Type} {l:List α} {i:Nat} {x:α} (h:l[i]? = some x):l.set i x=l:=by obtain ⟨a,rfl⟩:=List.getElem?_eq_some_iff.mp h;exact List.set_getElem_self a
theorem z6a {es:List (Option OE)} {j:Nat} {x:Option OE} (h:es[j]? = some x):es.flatMap entO=(es.take j).flatMap entO++(entO x++(es.drop (j + 1)).flatMap entO):=by
 have:=z2g x h
 rwa [z5t h] at this
theorem map_set {es:List (Option OE)} {j:Nat} {x:Option OE}:(es.set j x).map oeV=(es.map oeV).set j (oeV x):=Y9
theorem Lw.setU {K:o0} {B H:Hp} {A:La} {es:List (Option OE)} {N:LM} {us:List LL} {uv':List V} (h:Lw K B H A es N) (a :∀H',Imm H H'->All2 (LLAt K H') us uv'):Lw K B (upd H A.un (.lst uv')) A es { N with under:=us }:=by obtain ⟨i,d,k,c,f,b,g,j,e⟩:=h.ct;have m:Imm H (upd H A.un (.lst uv')):=Imm.lst (b.at (a:=[_,_]));exact ⟨⟨i,d,uv',c,f,b.set (a:=[_,_]),z00 (λ _ _ z=>z.imm m) g,a _ m,z00 (λ _ _ z=>z.imm m) e⟩,z00 (λ _ _ z=>OeO.imm m z) h.oe⟩
theorem Lw.setV {K:o0} {B H:Hp} {A:La} {es:List (Option OE)} {N:LM} {us:List CEv} {uv':List V} (h:Lw K B H A es N) (a :∀H',Imm H H'->All2 (EvV H') us uv'):Lw K B (upd H A.ev (.lst uv')) A es { N with events:=us }:=by obtain ⟨i,d,e,j,f,b,g,c,k⟩:=h.ct;have m:Imm H (upd H A.ev (.lst uv')):=Imm.lst (b.at (a:=[_,_,_,_]));exact ⟨⟨i,d,e,uv',f,b.set (a:=[_,_,_,_]),z00 (λ _ _ z=>z.imm m) g,z00 (λ _ _ z=>z.imm m) c,a _ m⟩,z00 (λ _ _ z=>OeO.imm m z) h.oe⟩
theorem Lw.setS {K:o0} {B H:Hp} {A:La} {es:List (Option OE)} {N:LM} {us:List Hd} {uv':List V} (h:Lw K B H A es N) (a :∀H',Imm H H'->All2 (HdAt K H') us uv'):Lw K B (upd H A.hd (.lst uv')) A es { N with held:=us }:=by obtain ⟨i,j,e,c,g,b,k,d,f⟩:=h.ct;have m:Imm H (upd H A.hd (.lst uv')):=Imm.lst (b.at (a:=[_]));exact ⟨⟨i,uv',e,c,g,b.set (a:=[_]),a _ m,z00 (λ _ _ z=>z.imm m) d,z00 (λ _ _ z=>z.imm m) f⟩,z00 (λ _ _ z=>OeO.imm m z) h.oe⟩
theorem Lw.setN {K:o0} {B H:Hp} {A:La} {es:List (Option OE)} {N:LM} {us:List Nat} {uv':List V} (h:Lw K B H A es N) (a:uv'=natV us):Lw K B (upd H A.nx (.lst uv')) A es { N with nxt:=us }:=by subst a;obtain ⟨k,e,f,c,i,b,j,d,g⟩:=h.ct;have m:Imm H (upd H A.nx (.lst (natV us))):=Imm.lst (b.at (a:=[_,_,_]));exact ⟨⟨k,e,f,c,i,b.set (a:=[_,_,_]),z00 (λ _ _ z=>z.imm m) j,z00 (λ _ _ z=>z.imm m) d,z00 (λ _ _ z=>z.imm m) g⟩,z00 (λ _ _ z=>OeO.imm m z) h.oe⟩
theorem Lw.setR {K:o0} {B H:Hp} {A:La} {es:List (Option OE)} {N:LM} {r:Nat} {kvs:List (Key×V)} (h:Lw K B H A es N) (e:H A.st=some (.dK kvs)):Lw K B (upd H A.st (.dK (putK kvs (.inr "rounds") (.int r)))) A es { N with rounds:=r }:=by obtain ⟨d,i,j,f,l,c,n,g,k⟩:=h.ct;have b:H A.st=some (.dK d):=c.at (a:=[]);rw [e] at b;cases b;have m:Imm H (upd H A.st (.dK (putK kvs (.inr "rounds") (.int r)))):=Imm.dk e;exact ⟨⟨_,i,j,f,l.put,c.set (a:=[]),z00 (λ _ _ z=>z.imm m) n,z00 (λ _ _ z=>z.imm m) g,z00 (λ _ _ z=>z.imm m) k⟩,z00 (λ _ _ z=>OeO.imm m z) h.oe⟩
theorem z3y {α β:Type} {R:α->β->Prop} :∀{xs:List α} {ys:List β} (i:Nat) {x:α} {y:β},All2 R xs ys->R x y->All2 R (xs.set i x) (ys.set i y)
 | _,_,_,_,_,.nil,_=>.nil
 | _,_,0,_,_,.cons _ r,h=>.cons h r
 | _,_,i + 1,_,_,.cons a r,h=>.cons a (z3y i r h)
theorem Lw.setD {K:o0} {B H:Hp} {A:La} {es:List (Option OE)} {N:LM} {h:Nat} {y:OE} {D':LD} {kvs':List (Key×V)} (lw:Lw K B H A es N) (hy:es[h]? = some (some y)) (a :∀H',Imm H H'->OeAt K H' D' { y with kvs:=kvs' }):Lw K B (upd H y.d (.dK kvs')) A (es.set h (some { y with kvs:=kvs' })) { N with opn:=N.opn.set h (some D') }/\H y.d=some (.dK y.kvs)/\B y.d=none:=by
 obtain ⟨kvs,f,g,c,n,i,o,j,k⟩:=lw.ct;rw [z6a hy] at i;have b:Ms B H ((baseO A kvs f g (natV N.nxt) c (es.map oeV)++(es.take h).flatMap entO)++(y.d,.dK y.kvs) :: ((match y.l with|none=>[]|some y=>[(y.1,HO.lst y.2)])++(es.drop (h + 1)).flatMap entO)):=by rw [E2];exact i
 have m:Imm H (upd H y.d (.dK kvs')):=Imm.dk b.at;refine ⟨⟨⟨kvs,f,g,c,n,?_,z00 (λ _ _ z=>z.imm m) o,z00 (λ _ _ z=>z.imm m) j,z00 (λ _ _ z=>z.imm m) k⟩,z3y h (z00 (λ _ _ z=>OeO.imm m z) lw.oe) (show OeO K _ (some D') (some _) from a _ m)⟩,b.at,b.frA⟩;have:=b.set (o':=.dK kvs');rw [z2g _ hy,map_set];rw [E2] at this;have e:(es.map oeV).set h (oeV (some { y with kvs:=kvs' }))=es.map oeV:=by refine z5t ?_;rw [S0,hy];rfl
 rw [e];exact this
theorem Lw.setL {K:o0} {B H:Hp} {A:La} {es:List (Option OE)} {N:LM} {h:Nat} {y:OE} {D':LD} {kvs':List (Key×V)} {l:Addr} (lw:Lw K B H A es N) (hy:es[h]? = some (some y)) (hl:H l=none) (s:Same B H) (a :∀H',OeAt K H' D' ⟨y.d,kvs',some (l,[])⟩):Lw K B (upd (upd H l (.lst [])) y.d (.dK kvs')) A (es.set h (some ⟨y.d,kvs',some (l,[])⟩)) { N with opn:=N.opn.set h (some D') }:=by
 obtain ⟨g,c,f,b,q,j,v,k,p⟩:=lw.ct;rw [z6a hy] at j;have t:=Same.upd (o:=.lst []) hl;have n:=j.new (o:=.lst []) s hl;have i:Ms B (upd H l (.lst [])) (((l,.lst []) :: (baseO A g c f (natV N.nxt) b (es.map oeV)++(es.take h).flatMap entO))++(y.d,.dK y.kvs) :: ((match y.l with|none=>[]|some y=>[(y.1,HO.lst y.2)])++(es.drop (h + 1)).flatMap entO)):=by rw [List.cons_append,E2];exact n
 have m:Imm H (upd (upd H l (.lst [])) y.d (.dK kvs')):=(Imm.of t).trans (Imm.dk i.at);refine ⟨⟨g,c,f,b,q,?_,z00 (λ _ _ z=>z.imm m) v,z00 (λ _ _ z=>z.imm m) k,z00 (λ _ _ z=>z.imm m) p⟩,z3y h (z00 (λ _ _ z=>OeO.imm m z) lw.oe) (show OeO K _ (some D') (some _) from a _)⟩;have:=i.set (o':=.dK kvs');rw [z2g _ hy,map_set];have e:(es.map oeV).set h (oeV (some ⟨y.d,kvs',some (l,[])⟩))=es.map oeV:=by refine z5t ?_;rw [S0,hy];rfl
 rw [e];generalize baseO A g c f (natV N.nxt) b (es.map oeV)=b0 at this⊢;generalize (es.take h).flatMap entO=e1 at this⊢;generalize (es.drop (h + 1)).flatMap entO=e2 at this⊢;refine (this.sub (ys:=((l,.lst []) :: (b0++e1))++(y.d,.dK kvs') :: e2) ?_).perm ?_
 ·exact z8 (X8 _) (List.Sublist.cons₂ _ (j22 _ _))
 ·show List.Perm ((l,HO.lst []) :: ((b0++e1)++(y.d,HO.dK kvs') :: e2)) (b0++(e1++(y.d,HO.dK kvs') :: (l,HO.lst []) :: e2));have r:b0++(e1++(y.d,HO.dK kvs') :: (l,HO.lst []) :: e2)=((b0++e1)++[(y.d,HO.dK kvs')])++(l,HO.lst []) :: e2:=by simp
  have u:(b0++e1)++(y.d,HO.dK kvs') :: e2=((b0++e1)++[(y.d,HO.dK kvs')])++e2:=by simp
  rw [r,u];exact List.perm_middle.symm
theorem Lw.setO {K:o0} {B H:Hp} {A:La} {es:List (Option OE)} {N:LM} {h:Nat} {y:Option OE} (lw:Lw K B H A es N) (hy:es[h]? = some y):Lw K B (upd H A.op (.lst ((es.map oeV).set h .non))) A (es.set h none) { N with opn:=N.opn.set h none }:=by obtain ⟨f,c,d,b,j,e,k,g,i⟩:=lw.ct;have m:Imm H (upd H A.op (.lst ((es.map oeV).set h .non))):=Imm.lst (e.at (a:=[_,_,_,_,_]));refine ⟨⟨f,c,d,b,j,?_,z00 (λ _ _ z=>z.imm m) k,z00 (λ _ _ z=>z.imm m) g,z00 (λ _ _ z=>z.imm m) i⟩,z3y h (z00 (λ _ _ z=>OeO.imm m z) lw.oe) trivial⟩;have:Ms B _ (baseO A f c d (natV N.nxt) b ((es.map oeV).set h .non)++es.flatMap entO):=e.set (a:=[_,_,_,_,_]) (o':=.lst ((es.map oeV).set h .non));rw [z2g _ hy,map_set];rw [z6a hy] at this;refine Ms.sub this ?_;refine z8 (X8 _) ?_;exact z8 (X8 _) (j22 _ _)
theorem upd4 {H:Hp} {a l:Addr} {o1 o2 o3 o4:HO}:upd (upd (upd (upd H a o1) a o2) l o3) a o4=upd (upd H l o3) a o4:=by
 funext p;by_cases z:p=a
 ·rw [z,z04,z04]
 ·rw [upd_ne z,upd_ne z];by_cases y:p=l
  ·rw [y,z04,z04]
  ·rw [upd_ne y,upd_ne y,upd_ne z,upd_ne z]
theorem Lw.nest {K:o0} {B H:Hp} {A:La} {es:List (Option OE)} {N:LM} {h:Nat} {y:OE} (lw:Lw K B H A es N) (hy:es[h]? = some (some y)):A.st≠y.d/\H y.d=some (.dK y.kvs)/\B y.d=none:=by obtain ⟨kvs,i,j,g,m,a,n,k,l⟩:=lw.ct;have e:(y.d,HO.dK y.kvs)∈es.flatMap entO:=List.mem_flatMap.mpr ⟨some y,B1 hy,W1⟩;have f:(y.d,HO.dK y.kvs)∈baseO A kvs i j (natV N.nxt) g (es.map oeV)++es.flatMap entO:=List.mem_append.mpr (.inr e);refine ⟨λ z=>?_,a.c _ f,a.fr _ f⟩;have b:=a.nd;rw [V1] at b;exact (List.nodup_append.mp b).2.2 A.st (by simp [baseO]) y.d (List.mem_map.mpr ⟨_,e,rfl⟩) z
theorem up1 {H:Hp} {a p:Addr} {o q:HO} (n:p≠a) (e:H p=some q):upd H a o p=some q:=(upd_ne n).trans e
theorem zj0 {K:o0} {H:Hp} {x:Option Hd} {a b:V} (h:stV K H x a b):(!decide (a=V.non))=x.isSome:=by
 cases x with
 | none=>rw [h.1];rfl
 | some x=>obtain ⟨q,rfl,_⟩:=h;rfl
def z3n (K:o0):Sp:=λ vs H Q _=>∃(A:La) (h:Nat) (sv wv:V) (B:Hp) (es:List (Option OE)) (N:LM) (D:LD) (y:OE) (x:Option Hd),vs=[.ref A.st,.int h,sv,wv]/\Lw K B H A es N/\N.opn[h]? = some (some D)/\es[h]? = some (some y)/\stV K H x sv wv/\(x.isSome=true->valV y.kvs (.inr "answer")=some (avD D.ans))/\N.under.length<=10000/\N.held.length<=5/\Same B H/\
 ∀es' H',Same B H'->Lw K B H' A es' (N.sent h D x)->Q .non H'
theorem zam (T:TX (kx w) mg):Fo P w mg base CX0 1 437 y18 ["state","hand","stamp","worth"] (z3n (kx w)):=by
 refine (z4w w.params).ok sc__law_sent (λ vs H Q E h=>?_) (λ c6 A c5 s H vs Q E f h=>?_)
 ·obtain ⟨A,h,G,J,B,Z,N,D,y,x,rfl,_⟩:=h;rfl
 ·obtain ⟨b,h,G,J,B,Z,N,D,y,x,rfl,lw,hD,hy,sx,ha,ul,c7,sB,q⟩:=h;refine ⟨_,(z02 (z4a (hu_of f) (pv 0) pe_str (pe_op opAdd (z0e (hu_of f) (pv 0) pe_str (λ _ _=>rfl)) pe_int) rfl)
   (z02 (z4a (hu_of f) (pe_ix ix_seq (z0e (hu_of f) (pv 0) pe_str (λ _ _=>rfl)) (pv 1) (λ _ _=>rfl)) pe_str (z0e (hu_of f) (pv 0) pe_str (λ _ _=>rfl)) rfl)
   (z02 (z4a (hu_of f) (pe_ix ix_seq (z0e (hu_of f) (pv 0) pe_str (λ _ _=>rfl)) (pv 1) (λ _ _=>rfl)) pe_str (z28 z9c (pv 2) pe_non (nomark _)) rfl)
   (z02 (z4a (hu_of f) (pe_ix ix_seq (z0e (hu_of f) (pv 0) pe_str (λ _ _=>rfl)) (pv 1) (λ _ _=>rfl)) pe_str (pe_lst pa_nil) rfl)
   (z05 (ps_for W2 rfl (z0x rfl (T.no (z2a _)) (z01 (z06 z0i rfl (T.no (n_len _)) A2 (z01 (z0e (hu_of f) (pv 0) pe_str (λ _ _=>rfl)) pa_nil)) pa_nil)) (z0m (i:=4) sc__law_sent.nd rfl (O1 rfl))
   (z05 (z0f (z0o (z0e (hu_of f) (pv 0) pe_str (λ _ _=>rfl)) (z01 (pe_tup (z01 (pv 4) (z01 (pv 1) (z01 (z0e (hu_of f) (pv 0) pe_str (λ _ _=>rfl)) (z01 pe_str (z01 (pv 2) (z01 (pv 3) pa_nil))))))) pa_nil)))))))))),?_⟩
  obtain ⟨F,K,uv,vv,g,C,M,X,Y⟩:=id lw.ct;have e:H b.st=some (.dK F):=C.at (a:=[]);have l6:=g.ks.len;refine z59 ⟨_,rfl,b.st,_,rfl,g.grd e,?_⟩;refine .inl ⟨_,1,rfl,rfl,?_⟩;rw [show ((N.rounds:Int) + 1)=((N.rounds + 1:Nat):Int) by omega];refine ⟨_,rfl,b.st,_,rfl,DPut.k (k:=.inr "rounds") e (X0 l6 (by decide)),?_⟩;have S:=lw.setR (r:=N.rounds + 1) e;have a5:=Same.keep (o:=.dK (putK F (.inr "rounds") (.int ((N.rounds + 1:Nat):Int)))) sB (C.frA (a:=[]));have m1:Imm H (upd H b.st (.dK (putK F (.inr "rounds") (.int ((N.rounds + 1:Nat):Int))))):=Imm.dk e;generalize upd H b.st (.dK (putK F (.inr "rounds") (.int ((N.rounds + 1:Nat):Int))))=H1 at S a5 m1⊢;clear g C M X Y e l6;obtain ⟨F,K,uv,vv,g,C,M,X,Y⟩:=id S.ct;obtain ⟨a2,ed,b7⟩:=S.nest hy;have e:H1 b.st=some (.dK F):=C.at (a:=[]);have L:H1 b.op=some (.lst (Z.map oeV)):=C.at (a:=[_,_,_,_,_]);have a3:b.op≠y.d:=λ z=>by rw [z,ed] at L;cases L
  have a4:(Z.map oeV)[h]? = some (.ref y.d):=by rw [S0,hy];rfl
  obtain ⟨D0,a0,oa⟩:=z0k S.oe hy;have a0:N.opn[h]? = some D0:=a0;rw [hD] at a0;cases a0;obtain ⟨ks,v1,v2,v3,v4⟩:=(show OeAt (kx w) H1 D y from oa)
  refine z59 ⟨_,rfl,b.st,_,rfl,g.grd e,?_⟩;refine ⟨_,rfl,b.st,_,rfl,g.gop e,_,rfl,.inl ⟨b.op,_,h,.ref y.d,rfl,rfl,SqL.of L,z08 a4,y.d,_,rfl,DPut.k (k:=.inr "round") ed (X0 ks.len (by decide)),?_⟩⟩;have b2:=ks.put (k:=.inr "round") (v:=.int ((N.rounds + 1:Nat):Int)) (by simp [kD]);refine z59 ⟨_,rfl,rfl,?_⟩;refine ⟨_,rfl,b.st,_,rfl,g.gop (up1 a2 e),_,rfl,.inl ⟨b.op,_,h,.ref y.d,rfl,rfl,SqL.of (up1 a3 L),z08 a4,y.d,_,rfl,DPut.k (k:=.inr "keeps") z04 (X0 b2.len (by decide)),?_⟩⟩;rw [zj0 sx];have b3:=b2.put (k:=.inr "keeps") (v:=.bl x.isSome) (by simp [kD]);refine z59 ⟨w_0,λ l u=>?_⟩;have U:l≠y.d:=λ z=>by rw [z,z04] at u;cases u
  rw [upd_ne U,upd_ne U] at u;refine ⟨_,rfl,b.st,_,rfl,g.gop (up1 (λ z=>by rw [<-z,e] at u;cases u) (up1 a2 (up1 a2 e))),_,rfl,.inl ⟨b.op,_,h,.ref y.d,rfl,rfl,SqL.of (up1 (λ z=>by rw [<-z,L] at u;cases u) (up1 a3 (up1 a3 L))),z08 a4,y.d,_,rfl,DPut.k (k:=.inr "heard") (up1 U.symm z04) (X0 b3.len (by decide)),?_⟩⟩;rw [upd4];generalize hk3:putK (putK (putK y.kvs (.inr "round") (.int ((N.rounds + 1:Nat):Int))) (.inr "keeps") (.bl x.isSome)) (.inr "heard") (.ref l)=k3;have b4:KS kD k3:=hk3 ▸ b3.put (k:=.inr "heard") (by simp [kD]);have p3 :∀{j:Key} {v:V},j≠.inr "round"->j≠.inr "keeps"->j≠.inr "heard"->valV y.kvs j=some v->valV k3 j=some v:=λ h1 h2 h3 h=>hk3 ▸ (vp_ne h3).trans ((vp_ne h2).trans ((vp_ne h1).trans h));have p4:valV k3 (.inr "round")=some (.int ((N.rounds + 1:Nat):Int)):=hk3 ▸ (vp_ne (by decide +kernel)).trans ((vp_ne (by decide +kernel)).trans vp_eq);have p5:valV k3 (.inr "keeps")=some (.bl x.isSome):=hk3 ▸ (vp_ne (by decide +kernel)).trans vp_eq;have p6:valV k3 (.inr "heard")=some (.ref l):=hk3 ▸ vp_eq;have a6:=S.setL (D':={ D with round:=N.rounds + 1,keeps:=x.isSome,heard:=[] }) hy u a5 λ R=>⟨b4,p3 (by decide +kernel) (by decide +kernel) (by decide +kernel) v1,p3 (by decide +kernel) (by decide +kernel) (by decide +kernel) v2,λ z=>p3 (by decide +kernel) (by decide +kernel) (by decide +kernel) (ha z),λ _=>⟨p4,p5,l,[],rfl,p6,.nil⟩⟩
  have a9:Same B (upd (upd H1 l (.lst [])) y.d (.dK k3)):=Same.keep (a5.trans (Same.upd u)) b7;have m2:Imm H1 (upd (upd H1 l (.lst [])) y.d (.dK k3)):=(Imm.of (Same.upd u)).trans (Imm.dk (up1 U.symm ed));generalize upd (upd H1 l (.lst [])) y.d (.dK k3)=H5 at a6 a9 m2⊢;have b6:=sx.imm (m1.trans m2);clear g C M X Y e;obtain ⟨F,K,uv,vv,g,C,M,X,Y⟩:=id a6.ct;have e:H5 b.st=some (.dK F):=C.at (a:=[]);have b8:H5 b.hd=some (.lst K):=C.at (a:=[_]);have lh:K.length=N.held.length:=z03 M;refine ⟨_,rfl,b.st,_,rfl,g.ghd e,.inl ⟨b.hd,K,rfl,.inl (SqL.of b8),K.length,rfl,by omega,by omega,?_⟩⟩;refine z1o (lo:=0) (n:=K.length) (λ i σ R=>Same B R/\Imm H5 R/\Lw (kx w) B R b (Z.set h (some ⟨y.d,k3,some (l,[])⟩)) { N with rounds:=N.rounds + 1,opn:=N.opn.set h (some { D with round:=N.rounds + 1,keeps:=x.isSome,heard:=[] }),under:=N.under++(W0 i).map λ c=>⟨c,h,N.rounds + 1,true,x⟩ }/\∃x4,σ=[some (.ref b.st),some (.int (h:Nat)),some G,some J,x4])
   ⟨a9,Imm.of (Same.refl _),by rw [show (W0 0).map (λ c=>(⟨c,h,N.rounds + 1,true,x⟩:LL))=[] from rfl,L1];exact a6,_,rfl⟩ ?_ ?_
  ·rintro i σ O hi ⟨s6,m6,lw6,x4,rfl⟩;obtain ⟨b9,c9,W,c8,d0,d1,d2,d3,d4⟩:=id lw6.ct;have b1:O b.st=some (.dK b9):=d1.at (a:=[]);have a1:O b.un=some (.lst W):=d1.at (a:=[_,_]);refine g_name ?_;refine ⟨_,rfl,b.st,_,rfl,d0.gun b1,.inl ⟨rfl,_,SqL.of a1⟩,?_⟩;refine ⟨_,rfl,_,rfl,_,rfl,b.st,_,rfl,d0.grd b1,_,rfl,_,rfl,w_6,λ p hp=>?_⟩;rw [V6];have I:=Same.upd (o:=.tup [.int (i:Nat),.int (h:Nat),.int ((N.rounds + 1:Nat):Int),.str "to",G,J]) hp;have e7:upd O p (.tup [.int (i:Nat),.int (h:Nat),.int ((N.rounds + 1:Nat):Int),.str "to",G,J]) p=some (.tup [.int (i:Nat),.int (h:Nat),.int ((N.rounds + 1:Nat):Int),.str "to",G,J]):=z04;have lu:W.length<=10005:=by rw [z03 d3,G0,I0,C3];omega
   refine ⟨b.un,W,_,rfl,rfl,I _ _ a1,X0 lu (by decide),?_⟩;have b5:B b.un=none:=d1.frA (a:=[_,_]);have a7:=lw6.same I;have s7:=s6.trans I;have d7:=z00 (λ _ _ z=>LLAt.imm (Imm.of I) z) d3;have b0:=b6.imm (m6.trans (Imm.of I));have m7:=m6.trans (Imm.of I);have a8:=I _ _ a1;generalize upd O p (.tup [.int (i:Nat),.int (h:Nat),.int ((N.rounds + 1:Nat):Int),.str "to",G,J])=H7 at e7 a7 s7 d7 b0 m7 a8⊢;refine ⟨Same.keep s7 b5,m7.trans (Imm.lst a8),?_,_,rfl⟩;have:=a7.setU (us:=N.under++(W0 (i + 1)).map λ c=>⟨c,h,N.rounds + 1,true,x⟩) (uv':=W++[.ref p]) λ R m=>by rw [S8,V1,<-E2];exact z3z (z00 (λ _ _ z=>LLAt.imm m z) d7) (.cons ⟨p,G,J,rfl,m.t _ _ e7,b0.imm m⟩ .nil)
   exact this
  ·rintro σ O ⟨s6,m6,lw6,x4,rfl⟩;rw [lh] at lw6;exact q _ _ s6 lw6
def z57 (K:o0):Sp:=λ vs H Q _=>∃(A:La) (h:Nat) (a:Option Int) (B:Hp) (es:List (Option OE)) (N:LM) (y:OE),vs=[.ref A.st,.int h,avD a]/\Lw K B H A es N/\es[h]? = some (some y)/\N.events.length<=10000/\Same B H/\∀es' H',Same B H'->Lw K B H' A es' (N.ended h a)->Q .non H'
theorem z9x (T:TX (kx w) mg):Fo P w mg base CX0 1 444 y11 ["state","hand","answer"] (z57 (kx w)):=by
 refine (z3x w.params).ok z94 (λ V H Q E h=>?_) (λ X A Y s H V Q E n h=>?_)
 ·obtain ⟨A,h,a,B,d,N,y,rfl,_⟩:=h;rfl
 ·obtain ⟨b,h,a,B,d,N,y,rfl,I,C,M,L,q⟩:=h;refine ⟨_,(z02 (ps_asg pe_non (pg_sub (z0e (hu_of n) (pv 0) pe_str (λ _ _=>rfl)) (pv 1) z3q))
   (z05 (z0f (z0o (z0e (hu_of n) (pv 0) pe_str (λ _ _=>rfl)) (z01 (pe_tup (z01 pe_str (z01 (pv 1) (z01 (pv 2) pa_nil)))) pa_nil))))),?_⟩
  obtain ⟨k,S,U,e,g,c,v,F,j⟩:=id I.ct;have i:H b.st=some (.dK k):=c.at (a:=[]);have J:H b.op=some (.lst (d.map oeV)):=c.at (a:=[_,_,_,_,_]);have O:h < (d.map oeV).length:=by rw [I0];exact (List.getElem?_eq_some_iff.mp C).1
  refine ⟨_,rfl,b.st,_,rfl,g.gop i,_,rfl,b.op,_,h,h,rfl,rfl,J,z5r O,?_⟩;have l:=I.setO C;have x:=Same.keep (o:=.lst ((d.map oeV).set h .non)) L (c.frA (a:=[_,_,_,_,_]));generalize upd H b.op (.lst ((d.map oeV).set h .non))=H1 at l x⊢;clear g c v F j i;obtain ⟨k,S,U,e,g,c,v,F,j⟩:=id l.ct;have i:H1 b.st=some (.dK k):=c.at (a:=[]);have u:H1 b.ev=some (.lst e):=c.at (a:=[_,_,_,_]);refine ⟨_,rfl,b.st,_,rfl,g.gev i,.inl ⟨rfl,_,SqL.of u⟩,?_⟩;refine ⟨_,rfl,_,rfl,w_3,λ p W=>?_⟩;have f:=Same.upd (o:=.tup [.str "end",.int (h:Nat),avD a]) W;have r:upd H1 p (.tup [.str "end",.int (h:Nat),avD a]) p=some (.tup [.str "end",.int (h:Nat),avD a]):=z04;have R:e.length<=10000:=by rw [z03 j];exact M
  refine ⟨b.ev,e,_,rfl,rfl,f _ _ u,X0 R (by decide),?_⟩;have G:=z00 (λ _ _ z=>EvV.imm (Imm.of f) z) j;have D:=l.same f;generalize upd H1 p (.tup [.str "end",.int (h:Nat),avD a])=H2 at f r G D⊢;exact q _ _ (Same.keep (x.trans f) (c.frA (a:=[_,_,_,_]))) <| D.setV (us:=N.events++[.fin h a]) (uv':=e++[.ref p]) λ K m=>z3z (z00 (λ _ _ z=>EvV.imm m z) G) (.cons (show EvV K (.fin h a) (.ref p) from ⟨p,rfl,m.t _ _ r⟩) .nil)
theorem Lw.open_ {K:o0} {B H:Hp} {A:La} {es:List (Option OE)} {N:LM} {h:Nat} {D:LD} (lw:Lw K B H A es N) (hD:N.opn[h]? = some (some D)) :∃y,es[h]? = some (some y)/\OeAt K H D y:=by
 obtain ⟨c,b,a⟩:=z0r lw.oe hD;cases c with
 | none=>exact a.elim
 | some y=>exact ⟨y,b,a⟩
theorem Lw.hear_ {K:o0} {B H:Hp} {A:La} {es:List (Option OE)} {N:LM} {h:Nat} {y:OE} {l:Addr} {hs:List V} (lw:Lw K B H A es N) (hy:es[h]? = some (some y)) (hl:y.l=some (l,hs)):H l=some (.lst hs)/\B l=none:=by obtain ⟨k,g,j,f,o,b,p,m,n⟩:=lw.ct;have i:(l,HO.lst hs)∈es.flatMap entO:=List.mem_flatMap.mpr ⟨some y,B1 hy,by show _∈(y.d,HO.dK y.kvs) :: (match y.l with|none=>[]|some y=>[(y.1,HO.lst y.2)]);rw [hl];simp⟩;have e:=List.mem_append.mpr (N1 (a:=(l,HO.lst hs)∈baseO A k g j (natV N.nxt) f (es.map oeV)) i);exact ⟨b.c _ e,b.fr _ e⟩
theorem dg {H:Hp} {a:Addr} {kvs:List (Key×V)} {k:Str} {v:V} (e:H a=some (.dK kvs)) (h:valV kvs (.inr k)=some v):DGet H a (.str k) (some v):=h ▸ DGet.k (k:=.inr k) e
theorem zdu {N:LM} {h:Nat} {D:LD} {x:Option Hd} {o:Option LD}:LM.sent { N with opn:=N.opn.set h o } h D x=N.sent h D x:=by unfold LM.sent;rw [List.set_set]
def z3g (K:o0):Sp:=λ vs H Q _=>∃(A:La) (h:Nat) (bk:Bool) (B:Hp) (es:List (Option OE)) (N:LM) (D:LD),vs=[.ref A.st,.int h,.bl bk]/\Lw K B H A es N/\N.opn[h]? = some (some D)/\D.round≠0/\D.heard≠[]/\D.heard.length<=100/\N.under.length<=10000/\N.held.length<=5/\N.events.length<=10000/\Same B H/\
 ∀es' H',Same B H'->Lw K B H' A es' (N.goneOn bk h D)->Q .non H'
theorem z76 (T:TX (kx w) mg) (c5:Ca P w mg base "_law_sent" ["state","hand","stamp","worth"] 1 (z3n (kx w))) (c6:Ca P w mg base "_law_ended" ["state","hand","answer"] 1 (z57 (kx w))):Fo P w mg base CX0 2 451 y0h ["state","hand","back"] (z3g (kx w)):=by
 refine (z2h w.params).ok sc__law_gone_on (λ vs H Q E h=>?_) (λ b2 A b0 s H vs Q E c h=>?_)
 ·obtain ⟨A,h,bk,B,F,N,D,rfl,_⟩:=h;rfl
 ·obtain ⟨e,h,bk,B,F,N,D,rfl,G,hD,nr,nh,hl,U,a4,vl,K,q⟩:=h;refine ⟨_,(z02 (ps_set (i:=3) sc__law_gone_on.nd rfl (O1 rfl) (pe_ix ix_seq (z0e (hu_of c) (pv 0) pe_str (λ _ _=>rfl)) (pv 1) (λ _ _=>rfl)))
   (z02 (ps_if (pt_val (z0e (hu_of c) (pv 3) pe_str (λ _ _=>rfl)) (λ _=>rfl))
   (z02 (z0f (pe_cal c6 (c.mono (by decide)) rfl (z01 (pv 0) (z01 (pv 1) (z01 (z0e (hu_of c) (pv 3) pe_str (λ _ _=>rfl)) pa_nil)))))
   (z05 z7f))
   z0d)
   (z02 (ps_asg (z06 (zci rfl c) rfl (T.no (n_max _)) boot_max (z01 (z0e (hu_of c) (pv 3) pe_str (λ _ _=>rfl)) pa_nil)) (pg_tup rfl (z0s (z0m (i:=4) sc__law_gone_on.nd rfl (O1 rfl)) (z0s (z0m (i:=5) sc__law_gone_on.nd rfl (O1 rfl)) z6f))))
   (z05 (ps_if (z09 opEq (z0e (hu_of c) (pv 3) pe_str (λ _ _=>rfl)) pe_str (nomark _))
   (z02 (z4a (hu_of c) (pv 3) pe_str pe_str rfl)
   (z05 (z0f (pe_cal c5 (c.mono (by decide)) rfl (z01 (pv 0) (z01 (pv 1) (z01 (pe_tup (z01 (pe_op opAdd (pe_ix ix_seq (pv 4) pe_int (λ _ _=>rfl)) pe_int) (z01 (pv 1) pa_nil))) (z01 (z0e (hu_of c) (pv 3) pe_str (λ _ _=>rfl)) pa_nil))))))))
   (z05 (ps_if (pt_val (pv 2) (λ _=>rfl))
   (z02 (z4a (hu_of c) (pv 3) pe_str (pv 5) rfl)
   (z05 (z0f (pe_cal c5 (c.mono (by decide)) rfl (z01 (pv 0) (z01 (pv 1) (z01 (pv 4) (z01 (pv 5) pa_nil))))))))
   (z05 (z0f (pe_cal c6 (c.mono (by decide)) rfl (z01 (pv 0) (z01 (pv 1) (z01 (pv 5) pa_nil))))))))))))),?_⟩
  obtain ⟨kvs,hv,uv,vv,c0,Y,c2,c3,c4⟩:=id G.ct;have a5:H e.st=some (.dK kvs):=Y.at (a:=[]);have L:H e.op=some (.lst (F.map oeV)):=Y.at (a:=[_,_,_,_,_]);obtain ⟨y,n,oa⟩:=G.open_ hD;obtain ⟨a9,g,a3⟩:=G.nest n;have a7:(F.map oeV)[h]? = some (.ref y.d):=by rw [S0,n];rfl
  obtain ⟨ks,v1,M,v3,v4⟩:=id oa;obtain ⟨g1,g2,l,hs,g3,X,g5⟩:=v4 nr;refine z0b ⟨_,rfl,e.st,_,rfl,c0.gop a5,_,rfl,.inl ⟨e.op,_,h,.ref y.d,rfl,rfl,SqL.of L,z08 a7,?_⟩⟩;refine g_name ?_;obtain ⟨a8,_⟩:=G.hear_ n g3;obtain ⟨ps,rfl,a1,Z⟩:=z51 g5;refine sq_if ⟨_,rfl,y.d,_,rfl,dg g g2,_,rfl,?_⟩;cases hk:D.keeps with
  | true=>refine iteT ?_;refine ⟨_,rfl,_,rfl,_,rfl,y.d,_,rfl,dg g (v3 hk),e,h,D.ans,B,F,N,y,rfl,G,n,vl,K,λ C u v f=>?_⟩;exact q C u v (by rw [zdp hk];exact f)
  | false=>
   refine iteF (t_nx ?_);cases ps with
   | nil=>exact absurd a1.symm nh
   | cons m r=>
   refine z0b ⟨_,rfl,y.d,_,rfl,dg g X,l,m,r,rfl,SqL.of a8,Z,λ b hb hg=>?_⟩;have R:maxHd D.heard=b.2:=by rw [<-a1];refine ze6 (F7 hb) λ x hx=>?_;obtain ⟨y,n,rfl⟩:=List.mem_map.mp hx;exact hg y n
   obtain ⟨S,a6,a0⟩:=Z b hb;refine ⟨b.1,_,rfl,a6,rfl,_,_,rfl,_,_,rfl,rfl,?_⟩;refine ⟨_,rfl,y.d,_,rfl,dg g v1,rfl,_,rfl,?_⟩;have on :∀(a:Option Int),Lw (kx w) B (upd H y.d (.dK (putK y.kvs (.inr "answer") (avD a)))) e (F.set h (some { y with kvs:=putK y.kvs (.inr "answer") (avD a) })) { N with opn:=N.opn.set h (some { D with ans:=a }) }:=λ a=>(G.setD (D':={ D with ans:=a }) n λ u m=>⟨ks.put (by simp [kD]),(vp_ne (by decide +kernel)).trans v1,(vp_ne (by decide +kernel)).trans M,λ _=>vp_eq,λ _=>⟨(vp_ne (by decide +kernel)).trans g1,(vp_ne (by decide +kernel)).trans g2,l,_,g3,(vp_ne (by decide +kernel)).trans X,z00 (λ _ _ z=>z.imm m) g5⟩⟩).1;have V:h < F.length:=(List.getElem?_eq_some_iff.mp n).1;have a2:h < N.opn.length:=(List.getElem?_eq_some_iff.mp hD).1;have b1:e.op≠y.d:=λ z=>by rw [z,g] at L;cases L
   have k6:=X0 ks.len (show kD.length < sizeLine by decide);cases hd:D.d with
   | some w0=>rw [hd] at M;refine iteP rfl ?_;refine z59 ⟨_,rfl,y.d,_,rfl,DPut.k (k:=.inr "answer") g k6,?_⟩;have t:=on none;have I:=Same.keep (o:=.dK (putK y.kvs (.inr "answer") (.str "ok"))) K a3;have W:upd H y.d (.dK (putK y.kvs (.inr "answer") (.str "ok"))) y.d=some (.dK (putK y.kvs (.inr "answer") (.str "ok"))):=z04;have J:Imm H (upd H y.d (.dK (putK y.kvs (.inr "answer") (.str "ok")))):=Imm.dk g;have t:Lw (kx w) B (upd H y.d (.dK (putK y.kvs (.inr "answer") (.str "ok")))) e _ _:=t;generalize upd H y.d (.dK (putK y.kvs (.inr "answer") (.str "ok")))=H1 at t I W J⊢;refine ⟨_,rfl,_,rfl,_,rfl,.inr (.inl ⟨S,_,0,.int b.2.1.1,rfl,rfl,J.seqT a0,z08 (j:=0) rfl,.inl ⟨_,1,rfl,rfl,?_⟩⟩)⟩;refine ⟨_,rfl,w_2,λ p hp=>?_⟩;have O:=Same.upd (o:=.tup [.int (b.2.1.1 + 1),.int (h:Nat)]) hp;have e2:upd H1 p (.tup [.int (b.2.1.1 + 1),.int (h:Nat)]) p=some (.tup [.int (b.2.1.1 + 1),.int (h:Nat)]):=z04;refine ⟨_,rfl,y.d,_,rfl,dg (O _ _ W) ((vp_ne (by decide +kernel)).trans M),?_⟩;refine ⟨e,h,.ref p,.int w0,B,_,_,_,_,some ((b.2.1.1 + 1,(h:Int)),w0),rfl,t.same O,O0 a2,O0 V,⟨p,rfl,SqT.of e2,rfl⟩,λ _=>vp_eq,U,a4,I.trans O,λ C u v f=>q C u v ?_⟩;rw [zdu] at f;rw [zfx hk hd,R];exact f
   | none=>
    refine iteN (by simp [vbD];decide +kernel) ?_;refine ⟨_,rfl,_,rfl,?_⟩;cases hb':bk with
    | true=>refine iteT ?_;refine z59 ⟨_,rfl,_,rfl,y.d,_,rfl,DPut.k (k:=.inr "answer") g k6,?_⟩;have t:=on (some b.2.2);have I:=Same.keep (o:=.dK (putK y.kvs (.inr "answer") (.int b.2.2))) K a3;have J:Imm H (upd H y.d (.dK (putK y.kvs (.inr "answer") (.int b.2.2)))):=Imm.dk g;have t:Lw (kx w) B (upd H y.d (.dK (putK y.kvs (.inr "answer") (.int b.2.2)))) e _ _:=t;generalize upd H y.d (.dK (putK y.kvs (.inr "answer") (.int b.2.2)))=H1 at t I J⊢;refine ⟨_,rfl,_,rfl,_,rfl,_,rfl,e,h,.ref S,.int b.2.2,B,_,_,_,_,some b.2,rfl,t,O0 a2,O0 V,⟨S,rfl,J.seqT a0,rfl⟩,λ _=>vp_eq,U,a4,I,λ C u v f=>q C u v ?_⟩;rw [zdu] at f;rw [za6 hk hd,hb',if_pos rfl,R];exact f
    | false=>refine iteF ?_;refine ⟨_,rfl,_,rfl,_,rfl,e,h,some b.2.2,B,F,N,y,rfl,G,n,vl,K,λ C u v f=>q C u v ?_⟩;rw [za6 hk hd,hb',if_neg (by decide),R];exact f
theorem Lw.setH {K:o0} {B H:Hp} {A:La} {es:List (Option OE)} {N:LM} {h:Nat} {y:OE} {D':LD} {l:Addr} {hs hs':List V} (lw:Lw K B H A es N) (hy:es[h]? = some (some y)) (hl:y.l=some (l,hs)) (a :∀H',Imm H H'->OeAt K H' D' { y with l:=some (l,hs') }):Lw K B (upd H l (.lst hs')) A (es.set h (some { y with l:=some (l,hs') })) { N with opn:=N.opn.set h (some D') }:=by
 obtain ⟨j,f,g,c,p,b,q,k,o⟩:=lw.ct;rw [z6a hy] at b;have i:Ms B H ((baseO A j f g (natV N.nxt) c (es.map oeV)++(es.take h).flatMap entO++[(y.d,.dK y.kvs)])++(l,.lst hs) :: (es.drop (h + 1)).flatMap entO):=by
  have e:entO (some y)=[(y.d,.dK y.kvs),(l,.lst hs)]:=by show (y.d,HO.dK y.kvs) :: (match y.l with|none=>[]|some y=>[(y.1,HO.lst y.2)])=_;rw [hl]
  rw [e] at b;simpa using b
 have m:Imm H (upd H l (.lst hs')):=Imm.lst i.at;refine ⟨⟨j,f,g,c,p,?_,z00 (λ _ _ z=>z.imm m) q,z00 (λ _ _ z=>z.imm m) k,z00 (λ _ _ z=>z.imm m) o⟩,z3y h (z00 (λ _ _ z=>OeO.imm m z) lw.oe) (show OeO K _ (some D') (some _) from a _ m)⟩;have:=i.set (o':=.lst hs');rw [z2g _ hy,map_set];have e:(es.map oeV).set h (oeV (some { y with l:=some (l,hs') }))=es.map oeV:=by refine z5t ?_;rw [S0,hy];rfl
 rw [e];have n:entO (some { y with l:=some (l,hs') })=[(y.d,.dK y.kvs),(l,.lst hs')]:=rfl;rw [n];simpa using this
def z6s (K:o0):Sp:=λ vs H Q _=>∃(A:La) (y:V) (bk:Bool) (B:Hp) (es:List (Option OE)) (N:LM) (L:LL),vs=[.ref A.st,y,.bl bk]/\Lw K B H A es N/\LLAt K H L y/\L.copy < N.held.length/\L.hand < N.opn.length/\(L.to=false->∃x,L.x=some x)/\(∀D,N.opn[L.hand]? = some (some D)->D.round≠0/\D.heard.length<=50)/\N.under.length<=9000/\N.held.length<=5/\N.events.length<=9000/\Same B H/\
 ∀es' H',Same B H'->Lw K B H' A es' (N.come bk L)->Q .non H'
theorem zaf (T:TX (kx w) mg) (c5:Ca P w mg base "_law_gone_on" ["state","hand","back"] 2 (z3g (kx w))):Fo P w mg base CX0 3 458 y19 ["state","letter","back"] (z6s (kx w)):=by
 refine (z4v w.params).ok sc__law_come (λ vs H Q E h=>?_) (λ e6 A e4 s H vs Q E n h=>?_)
 ·obtain ⟨A,y,bk,B,u,N,L,rfl,_⟩:=h;rfl
 ·obtain ⟨b,y,bk,B,u,N,L,rfl,v,⟨pl,sv,wv,rfl,ep,U⟩,hc,hh,hx,d9,ul,d7,vl,M,q⟩:=h;refine ⟨_,(z02 (ps_asg (pv 1) (pg_tup rfl (z0s (z0m (i:=3) sc__law_come.nd rfl (O1 rfl)) (z0s (z0m (i:=4) sc__law_come.nd rfl (O1 rfl)) (z0s (z0m (i:=5) sc__law_come.nd rfl (O1 rfl)) (z0s (z0m (i:=6) sc__law_come.nd rfl (O1 rfl)) (z0s (z0m (i:=7) sc__law_come.nd rfl (O1 rfl)) (z0s (z0m (i:=8) sc__law_come.nd rfl (O1 rfl)) z6f))))))))
   (z02 (ps_if (z09 opEq (pv 6) pe_str (nomark _))
   (z02 (ps_if (PW.pt (pw_and (z09 z9c (pv 7) pe_non (nomark _)) (z27 (z09 (op_gtT n) (pv 7) (pe_ix ix_seq (pe_ix ix_seq (z0e (hu_of n) (pv 0) pe_str (λ _ _=>rfl)) (pv 3) (λ _ _=>rfl)) pe_int (λ _ _=>rfl)) (nomark _)))))
   (z05 (ps_asg (pe_tup (z01 (pv 7) (z01 (pv 8) pa_nil))) (pg_sub (z0e (hu_of n) (pv 0) pe_str (λ _ _=>rfl)) (pv 3) z3q)))
   z0d)
   (z02 (z0f (z0o (z0e (hu_of n) (pv 0) pe_str (λ _ _=>rfl)) (z01 (pe_op opAdd (pe_tup (z01 (pv 3) (z01 (pv 4) (z01 (pv 5) (z01 pe_str pa_nil))))) (pe_ix ix_seq (z0e (hu_of n) (pv 0) pe_str (λ _ _=>rfl)) (pv 3) (λ _ _=>rfl))) pa_nil)))
   (z05 z7f)))
   z0d)
   (z02 (ps_set (i:=9) sc__law_come.nd rfl (O1 rfl) (pe_ix ix_seq (z0e (hu_of n) (pv 0) pe_str (λ _ _=>rfl)) (pv 4) (λ _ _=>rfl)))
   (z05 (ps_if (PW.pt (pw_and (z09 z9c (pv 9) pe_non (nomark _)) (z27 (z09 opEq (z0e (hu_of n) (pv 9) pe_str (λ _ _=>rfl)) (pv 5) (nomark _)))))
   (z02 (z0f (z0o (z0e (hu_of n) (pv 9) pe_str (λ _ _=>rfl)) (z01 (pe_tup (z01 (pv 7) (z01 (pv 8) pa_nil))) pa_nil)))
   (z05 (ps_if (z09 op_gt (pe_op op_mul pe_int (z06 z0i rfl (T.no (n_len _)) A2 (z01 (z0e (hu_of n) (pv 9) pe_str (λ _ _=>rfl)) pa_nil))) (z06 z0i rfl (T.no (n_len _)) A2 (z01 (z0e (hu_of n) (pv 0) pe_str (λ _ _=>rfl)) pa_nil)) (nomark _))
   (z05 (z0f (pe_cal c5 (n.mono (by decide)) rfl (z01 (pv 0) (z01 (pv 4) (z01 (pv 2) pa_nil))))))
   z0d)))
   z0d))))),?_⟩
  obtain ⟨a4,hv,uv,vv,G,r,Y,c3,c4⟩:=id v.ct;have I:H b.st=some (.dK a4):=r.at (a:=[]);have S:H b.hd=some (.lst hv):=r.at (a:=[_]);have b2:H b.op=some (.lst (u.map oeV)):=r.at (a:=[_,_,_,_,_]);have le:u.length=N.opn.length:=z03 v.oe;refine z0b ⟨_,rfl,pl,_,rfl,SqT.of ep,rfl,_,_,rfl,_,_,rfl,_,_,rfl,_,_,rfl,_,_,rfl,_,_,rfl,rfl,?_⟩;cases hto:L.to with
  | true=>
   refine sq_if ⟨_,rfl,rfl,_,rfl,iteP (decide_eq_true rfl) ?_⟩;obtain ⟨xv,a0,xp,xq,rfl,x1,Z⟩:=z0r Y (A0 hc);have f:N.held[L.copy]? = some N.held[L.copy]:=A0 hc;generalize N.held[L.copy]=s0 at f x1 Z;have b3:L.copy < hv.length:=(List.getElem?_eq_some_iff.mp a0).1;refine z7h (λ σ' C=>Same B C/\Imm H C/\Lw (kx w) B C b u { N with held:=N.held.set L.copy (keepH L.x s0) }/\σ'=[some (.ref b.st),some (.ref pl),some (.bl bk),some (.int L.copy),some (.int L.hand),some (.int L.turn),some (.str (sideS true)),some sv,some wv,none]) ?_ λ go=>?_;rotate_left
   ·have same:keepH L.x s0=s0->Lw (kx w) B H b u { N with held:=N.held.set L.copy (keepH L.x s0) }:=λ e=>by rw [e,z5t f];exact v
    refine t_and ⟨_,rfl,rfl,_,rfl,?_⟩;cases X:L.x with
    | none=>rw [X] at U same go;obtain ⟨rfl,rfl⟩:=U;exact iteN (by decide) (iteF (t_nx (go _ _ ⟨M,Imm.of (Same.refl _),same rfl,rfl⟩)))
    | some k=>
     rw [X] at U same go;obtain ⟨F,rfl,k2,rfl⟩:=U;refine iteP (by simp) ?_;refine ⟨_,rfl,_,rfl,b.st,_,rfl,G.ghd I,_,rfl,.inl ⟨b.hd,hv,L.copy,.ref xp,rfl,rfl,SqL.of S,z08 a0,.inr (.inl ⟨xp,_,0,.ref xq,rfl,rfl,x1,z08 (j:=0) rfl,?_⟩)⟩⟩;refine ⟨F,xq,k.1,s0.1,rfl,rfl,k2,Z,_,rfl,?_⟩;by_cases gt:gtI k.1 s0.1=true
     ·refine iteP gt ?_;refine ⟨_,rfl,_,rfl,w_2,λ p hp=>?_⟩;have g:=Same.upd (o:=.tup [.ref F,.int k.2]) hp;have J:upd H p (.tup [.ref F,.int k.2]) p=some (.tup [.ref F,.int k.2]):=z04;refine ⟨_,rfl,b.st,_,rfl,G.ghd (g _ _ I),_,rfl,b.hd,_,L.copy,L.copy,rfl,rfl,g _ _ S,z5r b3,t_nx (go _ _ ⟨Same.keep (M.trans g) (r.frA (a:=[_])),(Imm.of g).trans (Imm.lst (g _ _ S)),?_,rfl⟩)⟩;have ek:keepH (some k) s0=k:=if_pos gt;rw [ek];exact (v.same g).setS λ C m=>z3y _ (z00 (λ _ _ z=>HdAt.imm ((Imm.of g).trans m) z) Y) ⟨p,F,rfl,SqT.of (m.t _ _ J),((Imm.of g).trans m).seqT k2⟩
     ·exact iteN gt (t_nx (go _ _ ⟨M,Imm.of (Same.refl _),same (if_neg gt),rfl⟩))
   rintro σ R ⟨s1,m1,a3,rfl⟩;clear G r Y c3 c4 I S x1 Z a0;obtain ⟨a4,b1,uv,vv,G,r,Y,c3,c4⟩:=id a3.ct;have I:R b.st=some (.dK a4):=r.at (a:=[]);have S:R b.hd=some (.lst b1):=r.at (a:=[_]);have a6:R b.un=some (.lst uv):=r.at (a:=[_,_]);have hk:(N.held.set L.copy (keepH L.x s0))[L.copy]? = some (keepH L.x s0):=O0 hc;obtain ⟨xv,a0,b0,W,rfl,x1,Z⟩:=z0r Y hk;refine ⟨_,rfl,b.st,_,rfl,G.gun I,.inl ⟨rfl,_,SqL.of a6⟩,?_⟩;refine ⟨_,rfl,_,rfl,_,rfl,w_4,λ p hp=>?_⟩;obtain ⟨H2,v_,g,J⟩:=newA (.tup [.int L.copy,.int L.hand,.int L.turn,.str "from"]) hp;rw [<-v_];refine ⟨_,rfl,b.st,_,rfl,G.ghd (g _ _ I),_,rfl,.inl ⟨b.hd,b1,L.copy,.ref b0,rfl,rfl,SqL.of (g _ _ S),z08 a0,?_⟩⟩;refine .inr (.inr (.inr ⟨p,b0,_,_,rfl,rfl,SqT.of J,g.seqT x1,by simp,w_6,(λ z=>by cases z),λ _ K b6=>?_⟩));have t3:=Same.upd (o:=.tup ([.int L.copy,.int L.hand,.int L.turn,.str "from"]++[.ref W,.int (keepH L.x s0).2])) b6;have e3:upd H2 K (.tup ([.int L.copy,.int L.hand,.int L.turn,.str "from"]++[.ref W,.int (keepH L.x s0).2])) K=some (.tup [.int L.copy,.int L.hand,.int L.turn,.str "from",.ref W,.int (keepH L.x s0).2]):=z04;have O:=g.trans t3;generalize upd H2 K (.tup ([.int L.copy,.int L.hand,.int L.turn,.str "from"]++[.ref W,.int (keepH L.x s0).2]))=H3 at O e3⊢;have lu:uv.length<=9000:=by rw [z03 c3];exact ul
   refine ⟨b.un,uv,_,rfl,rfl,O _ _ a6,X0 lu (by decide),?_⟩;have d5:=(a3.same O).setU (us:=N.under++[⟨L.copy,L.hand,L.turn,false,some (keepH L.x s0)⟩]) (uv':=uv++[.ref K]) λ C m=>z3z (z00 (λ _ _ z=>LLAt.imm ((Imm.of O).trans m) z) c3) (.cons (show LLAt (kx w) C ⟨L.copy,L.hand,L.turn,false,some (keepH L.x s0)⟩ (.ref K) from ⟨K,.ref W,_,rfl,m.t _ _ e3,W,rfl,((Imm.of O).trans m).seqT Z,rfl⟩) .nil);refine q _ _ (Same.keep (s1.trans O) (r.frA (a:=[_,_]))) (?_:Lw (kx w) B _ b u _);have c:N.come bk L={ N with held:=N.held.set L.copy (keepH L.x s0),under:=N.under++[⟨L.copy,L.hand,L.turn,false,some (keepH L.x s0)⟩] }:=by unfold LM.come;rw [if_pos hto,f]
   rw [c];exact d5
  | false=>
   refine sq_if ⟨_,rfl,rfl,_,rfl,iteN (show ¬ decide (V.str (sideS false)=V.str "to")=true by decide +kernel) (t_nx ?_)⟩;obtain ⟨x,X⟩:=hx hto;rw [X] at U;obtain ⟨F,rfl,k2,rfl⟩:=U;have ho:N.opn[L.hand]? = some N.opn[L.hand]:=A0 hh;obtain ⟨oe,a2,oo⟩:=z0r v.oe ho;have b5:(u.map oeV)[L.hand]? = some (oeV oe):=by rw [S0,a2];rfl
   refine z0b ⟨_,rfl,b.st,_,rfl,G.gop I,_,rfl,.inl ⟨b.op,_,L.hand,oeV oe,rfl,rfl,SqL.of b2,z08 b5,?_⟩⟩;refine g_name ?_;have c:N.come bk L=match N.opn[L.hand]?,L.x with|some (some D),some x=>N.hear bk L D x|_,_=>N:=by unfold LM.come;exact if_neg (by rw [hto];decide)
   rw [X,ho] at c;cases hD:N.opn[L.hand] with
   | none=>
    rw [hD] at oo c;cases oe with
    | some y=>exact oo.elim
    | none=>exact ⟨_,rfl,rfl,_,rfl,iteN (by decide) (iteF (q u _ M (by rw [c];exact v)))⟩
   | some D=>
    rw [hD] at oo c ho;cases oe with
    | none=>exact oo.elim
    | some y=>
    obtain ⟨nr,c8⟩:=d9 D ho;obtain ⟨e0,ed,e7⟩:=v.nest a2;obtain ⟨ks,v1,v2,v3,v4⟩:=(show OeAt (kx w) H D y from oo)
    obtain ⟨g1,g2,l,f,g3,g4,g5⟩:=v4 nr;obtain ⟨a9,b4⟩:=v.hear_ a2 g3;have c:N.come bk L=N.hear bk L D x:=c;unfold LM.hear at c;refine t_and ⟨_,rfl,rfl,_,rfl,iteP (by simp [oeV]) ?_⟩;refine ⟨_,rfl,y.d,_,rfl,dg ed g1,_,rfl,rfl,_,rfl,?_⟩;by_cases hrt:D.round=L.turn;rotate_left
    ·rw [if_neg hrt] at c;exact iteN (λ z=>hrt (by have:=of_decide_eq_true z;injection this with this;omega)) (q u _ M (by rw [c];exact v))
    rw [if_pos hrt] at c;refine iteP (decide_eq_true (by rw [hrt])) ?_;refine ⟨_,rfl,y.d,_,rfl,dg ed g4,.inl ⟨rfl,_,SqL.of a9⟩,?_⟩;refine ⟨_,rfl,_,rfl,w_2,λ p hp=>?_⟩;obtain ⟨R,v_,t1,e1⟩:=newA (.tup [.ref F,.int x.2]) hp;rw [<-v_];have d8:f.length<=50:=by rw [z03 g5];exact c8
    refine ⟨l,f,_,rfl,rfl,t1 _ _ a9,X0 d8 (by decide),t_nx ?_⟩;have a3:=v.same t1;have i1:=Imm.of t1;have a1:=a3.setH (D':=D.hear x) (hs':=f++[.ref p]) a2 g3 λ C m=>⟨ks,v1,v2,v3,λ _=>⟨g1,g2,l,_,rfl,g4,z3z (z00 (λ _ _ z=>HdAt.imm (i1.trans m) z) g5) (.cons ⟨p,F,rfl,SqT.of (m.t _ _ e1),(i1.trans m).seqT k2⟩ .nil)⟩⟩
    have s2:=Same.keep (o:=.lst (f++[.ref p])) (M.trans t1) b4;have J:upd R l (.lst (f++[.ref p])) l=some (.lst (f++[.ref p])):=z04;generalize upd R l (.lst (f++[.ref p]))=H2 at a1 s2 J⊢;obtain ⟨c6,a7,e8,e5,d0,d1,d2,d3,d4⟩:=id a1.ct;have b7:H2 b.st=some (.dK c6):=d1.at (a:=[]);have c7:H2 b.hd=some (.lst a7):=d1.at (a:=[_]);have b8:(u.set L.hand (some { y with l:=some (l,f++[.ref p]) }))[L.hand]? = some (some { y with l:=some (l,f++[.ref p]) }):=O0 (by omega);obtain ⟨_,b9,_⟩:=a1.nest b8;have a5:(f++[V.ref p]).length=(D.hear x).heard.length:=by rw [G0,z03 g5];show _=(D.heard++[x]).length;rw [G0];rfl
    have a8:a7.length=N.held.length:=z03 d2;refine ⟨_,rfl,y.d,_,rfl,dg b9 g4,.inl ⟨l,_,rfl,.inl (SqL.of J),2,_,rfl,rfl,.inl ⟨by decide,by decide⟩,?_⟩⟩;refine ⟨_,rfl,b.st,_,rfl,d0.ghd b7,.inl ⟨b.hd,_,rfl,.inl (SqL.of c7),_,_,rfl,rfl,_,rfl,?_⟩⟩;by_cases big:N.held.length < 2 * (D.hear x).heard.length
    ·rw [if_pos big] at c;refine iteP (decide_eq_true (by rw [a5,a8];omega)) ?_;refine ⟨_,rfl,_,rfl,_,rfl,b,L.hand,bk,B,_,_,D.hear x,rfl,a1,O0 hh,nr,by show D.heard++[x]≠[];simp,by rw [<-a5,G0];show f.length + 1<=100;omega,by show N.under.length<=_;omega,d7,by show N.events.length<=_;omega,s2,λ c9 C s' d6=>q c9 C s' (by rw [c];exact d6)⟩
    ·rw [if_neg big] at c;exact iteN (λ z=>big (by have:=of_decide_eq_true z;rw [a5,a8] at this;omega)) (q _ _ s2 (by rw [c];exact a1))
structure LOk (pl:List (List (Option Int))) (N:LM) (n:Nat):Prop where
 ol:N.opn.length=pl.length
 nl:N.nxt.length=pl.length
 h5:N.held.length<=5
 un :∀L∈N.under,L.copy < N.held.length/\L.hand < pl.length/\(L.to=false->∃x,L.x=some x)
 op :∀(h:Nat) (D:LD),N.opn[h]? = some (some D)->D.round≠0/\D.heard.length<=50
 ul:N.under.length<=6 * n
 vl:N.events.length<=n
theorem lok_of {pl:List (List (Option Int))} {M:CM} {N:LM} {n:Nat} (s:Sm pl M N) (wf:WfM M n):LOk pl N n:=by
 have q:N.under.length=M.letters.length:=z03 s.un;refine ⟨s.ol,s.nl,by rw [s.st];exact wf.st.2,λ L k=>?_,λ h D p=>?_,by rw [q];exact wf.ln,by rw [s.ev];exact wf.vn⟩
 ·obtain ⟨i,m⟩:=List.mem_iff_getElem?.mp k;obtain ⟨b,j,l,g,c,o,d,f,a⟩:=z0k s.un m;refine ⟨by rw [s.st,c];exact s.inb b (B1 j),by rw [d];exact (s.pa _ _ g).1,λ z=>?_⟩;rw [f] at z;cases hh:b.held with
  | none=>rw [hh] at z;cases z
  | some x=>rw [hh] at a;exact ⟨x,a⟩
 ·obtain ⟨e,l,j,g,c,o,d,f,a,r⟩:=s.cu h D p;have:=wf.st.2;exact ⟨by omega,by omega⟩
theorem Lw.newO {K:o0} {B H:Hp} {A:La} {es:List (Option OE)} {N:LM} {h:Nat} {d:Addr} {kv:List (Key×V)} {D:LD} (lw:Lw K B H A es N) (hy:es[h]? = some none) (hd:H d=none) (sB:Same B H) (a :∀H',OeAt K H' D ⟨d,kv,none⟩):Lw K B (upd (upd (upd H d (.dK [])) d (.dK kv)) A.op (.lst ((es.map oeV).set h (.ref d)))) A (es.set h (some ⟨d,kv,none⟩)) { N with opn:=N.opn.set h (some D) }:=by obtain ⟨g,e,f,b,n,q,p,k,l⟩:=lw.ct;have j:Ms B (upd (upd H d (.dK [])) d (.dK kv)) ([]++(d,.dK kv) :: (baseO A g e f (natV N.nxt) b (es.map oeV)++es.flatMap entO)):=Ms.set (a:=[]) (q.new (o:=.dK []) sB hd);have i:Ms B (upd (upd (upd H d (.dK [])) d (.dK kv)) A.op (.lst ((es.map oeV).set h (.ref d)))) ((d,.dK kv) :: (baseO A g e f (natV N.nxt) b ((es.map oeV).set h (.ref d))++es.flatMap entO)):=Ms.set (a:=[_,_,_,_,_,_]) j;have m:Imm H (upd (upd (upd H d (.dK [])) d (.dK kv)) A.op (.lst ((es.map oeV).set h (.ref d)))):=((Imm.of (Same.upd hd)).trans (Imm.dk z04)).trans (Imm.lst (j.c (A.op,.lst (es.map oeV)) (by simp [baseO])));refine ⟨⟨g,e,f,b,n,?_,z00 (λ _ _ z=>z.imm m) p,z00 (λ _ _ z=>z.imm m) k,z00 (λ _ _ z=>z.imm m) l⟩,z3y h (z00 (λ _ _ z=>OeO.imm m z) lw.oe) (show OeO K _ (some D) (some _) from a _)⟩;rw [z2g _ hy,map_set];rw [z6a hy] at i;refine i.perm ?_;show List.Perm ((d,HO.dK kv) :: (baseO A g e f (natV N.nxt) b ((es.map oeV).set h (.ref d))++((es.take h).flatMap entO++(es.drop (h + 1)).flatMap entO))) (baseO A g e f (natV N.nxt) b ((es.map oeV).set h (.ref d))++((es.take h).flatMap entO++(d,HO.dK kv) :: (es.drop (h + 1)).flatMap entO));rw [<-E2,<-E2];exact List.perm_middle.symm
def z2y (K:o0):Sp:=λ vs H Q _=>∃(A:La) (a:Addr) (n:Nat) (bk:Bool) (B:Hp) (es:List (Option OE)) (N:LM) (pl:List (List (Option Int))) (t:Nat),vs=[.ref A.st,.ref a,.int n,.bl bk]/\Lw K B H A es N/\PlR B a pl/\pl.length<=6/\(∀own∈pl,own.length<=24)/\LOk pl N t/\t<=1000/\n < (N.free pl).length + 2 * N.under.length/\Same B H/\
 ∀es' H',Same B H'->Lw K B H' A es' (N.moved pl bk n)->Q .non H'
theorem z9p (T:TX (kx w) mg) (c5:Ca P w mg base "_law_free" ["state","plan"] 1 (z1r (kx w))) (c6:Ca P w mg base "_law_sent" ["state","hand","stamp","worth"] 1 (z3n (kx w))) (c7:Ca P w mg base "_law_come" ["state","letter","back"] 3 (z6s (kx w))):Fo P w mg base CX0 4 465 y12 ["state","plan","number","back"] (z2y (kx w)):=by
 refine (z40 w.params).ok sc__law_moved (λ vs H Q E h=>?_) (λ e6 A e3 s H vs Q E C h=>?_)
 ·obtain ⟨A,a,n,bk,B,I,N,f,t,rfl,_⟩:=h;rfl
 ·obtain ⟨g,a,n,bk,B,I,N,f,t,rfl,lw,pr,l6,e7,ok,e5,hn,sB,q⟩:=h;refine ⟨_,(z02 (ps_set (i:=4) sc__law_moved.nd rfl (O1 rfl) (pe_cal c5 (C.mono (by decide)) rfl (z01 (pv 0) (z01 (pv 1) pa_nil))))
   (z02 (ps_if (z09 op_lt (pv 2) (z06 z0i rfl (T.no (n_len _)) A2 (z01 (pv 4) pa_nil)) (nomark _))
   (z02 (ps_set (i:=5) sc__law_moved.nd rfl (O1 rfl) (pe_ix ix_seq (pv 4) (pv 2) (λ _ _=>rfl)))
   (z02 (ps_asg (pe_ix ix_seq (pe_ix ix_seq (pv 1) (pv 5) (λ _ _=>rfl)) (pe_ix ix_seq (z0e (hu_of C) (pv 0) pe_str (λ _ _=>rfl)) (pv 5) (λ _ _=>rfl)) (λ _ _=>rfl)) (pg_tup rfl (z0s (z0m (i:=6) sc__law_moved.nd rfl (O1 rfl)) (z0s (z0m (i:=7) sc__law_moved.nd rfl (O1 rfl)) z6f))))
   (z02 (ps_asg (pe_op opAdd (pe_ix ix_seq (z0e (hu_of C) (pv 0) pe_str (λ _ _=>rfl)) (pv 5) (λ _ _=>rfl)) pe_int) (pg_sub (z0e (hu_of C) (pv 0) pe_str (λ _ _=>rfl)) (pv 5) z3q))
   (z02 (ps_asg (zi6 (z4l pe_str (pv 6) (z4l pe_str (pv 7) zia)) rfl rfl (by simp) (by decide)) (pg_sub (z0e (hu_of C) (pv 0) pe_str (λ _ _=>rfl)) (pv 5) z3q))
   (z02 (z0f (z0o (z0e (hu_of C) (pv 0) pe_str (λ _ _=>rfl)) (z01 (pe_tup (z01 pe_str (z01 (pv 5) (z01 pe_str (z01 (pv 6) (z01 (pv 7) pa_nil)))))) pa_nil)))
   (z02 (z0f (pe_cal c6 (C.mono (by decide)) rfl (z01 (pv 0) (z01 (pv 5) (z01 pe_non (z01 pe_non pa_nil))))))
   (z05 z7f)))))))
   z0d)
   (z02 (ps_set (i:=8) sc__law_moved.nd rfl (O1 rfl) (pe_op op_mod (pe_op op_sub (pv 2) (z06 z0i rfl (T.no (n_len _)) A2 (z01 (pv 4) pa_nil))) (z06 z0i rfl (T.no (n_len _)) A2 (z01 (z0e (hu_of C) (pv 0) pe_str (λ _ _=>rfl)) pa_nil))))
   (z02 (ps_set (i:=9) sc__law_moved.nd rfl (O1 rfl) (ze7 (z0e (hu_of C) (pv 0) pe_str (λ _ _=>rfl)) (z01 (pv 8) pa_nil)))
   (z05 (ps_if (z09 op_le (pe_op op_sub (pv 2) (z06 z0i rfl (T.no (n_len _)) A2 (z01 (pv 4) pa_nil))) (z06 z0i rfl (T.no (n_len _)) A2 (z01 (z0e (hu_of C) (pv 0) pe_str (λ _ _=>rfl)) pa_nil)) (nomark _))
   (z05 (z0f (pe_cal c7 (C.mono (by decide)) rfl (z01 (pv 0) (z01 (pv 9) (z01 (pv 3) pa_nil))))))
   z0d)))))),?_⟩
  have ol:=ok.ol;have nl:=ok.nl;have ul:=ok.ul;have vl:=ok.vl;refine z0b ⟨_,rfl,_,rfl,g,a,B,I,N,f,rfl,lw,pr.same sB,l6,ol,nl,λ Z R s1 d5 a5=>?_⟩;refine g_name ?_;have a7:=lw.same s1;have b3:=sB.trans s1;have a0:(natV (N.free f)).length=(N.free f).length:=I0 ..;obtain ⟨X,hv,l,J,x,j,Y,U,S⟩:=id a7.ct;have u:R g.st=some (.dK X):=j.at (a:=[]);have K:R g.un=some (.lst l):=j.at (a:=[_,_]);have a9:l.length=N.under.length:=z03 U;refine sq_if ⟨_,rfl,_,rfl,.inl ⟨Z,_,rfl,.inl (SqL.of a5),_,_,rfl,rfl,_,rfl,?_⟩⟩;by_cases hlt:n < (N.free f).length
  ·refine iteP (decide_eq_true (by rw [a0];omega)) ?_;have hf:(N.free f)[n]? = some (N.free f)[n]:=A0 hlt;have hm:(N.free f)[n]∈N.free f:=D3 hlt;generalize (N.free f)[n]=h at hf hm;obtain ⟨m1,F⟩:=List.mem_filter.mp (show h∈(W0 f.length).filter (N.fre f) from hm);have hh:h < f.length:=List.mem_range.mp m1;have F:((N.opn[h]?.getD none).isNone && decide (N.nxt[h]?.getD 0 < (f[h]?.getD []).length))=true:=F;have a6:h < N.opn.length:=by omega
   have d1:h < N.nxt.length:=by omega
   have hN:N.nxt[h]? = some N.nxt[h]:=A0 d1;have hP:f[h]? = some f[h]:=A0 hh;have ho:N.opn[h]? = some none:=by
    have hO:N.opn[h]? = some N.opn[h]:=A0 a6;rw [hO] at F⊢;cases e:N.opn[h] with
    | none=>rfl
    | some D=>rw [e] at F;cases F
   rw [Q4,decide_eq_true_iff,hN,hP] at F;have hx:N.nxt[h] < (f[h]).length:=F.2;obtain ⟨os,e2,d6⟩:=pr.same b3;obtain ⟨yv,d8,b,ys,rfl,eb,ad⟩:=z0r d6 hP;have b5:(f[h])[N.nxt[h]]? = some (f[h])[N.nxt[h]]:=A0 hx;obtain ⟨dv,d7,dp,rfl,b9⟩:=z0r ad b5;have a4:N.moved f bk n=N.begin h ((f[h])[N.nxt[h]]):=by unfold LM.moved;rw [if_pos hlt,hf];show (match (f[h]?.getD [])[N.nxt[h]?.getD 0]? with|some d=>N.begin h d|none=>N)=_;rw [hN,hP];show (match (f[h])[N.nxt[h]]? with|some d=>N.begin h d|none=>N)=_;rw [b5]
   generalize (f[h])[N.nxt[h]]=d at b9 a4;rw [a4] at q;have e0:N.nxt[h]?.getD 0=N.nxt[h]:=by rw [hN];rfl
   obtain ⟨oe,d9,oo⟩:=z0r a7.oe ho;cases oe with
   | some y=>exact oo.elim
   | none=>
   have a3:R g.nx=some (.lst (natV N.nxt)):=j.at (a:=[_,_,_]);have b6:(natV N.nxt)[h]? = some (.int (N.nxt[h]:Nat)):=by unfold natV;rw [S0,hN];rfl
   refine z0b ⟨_,rfl,_,rfl,.inl ⟨Z,_,n,.int (h:Nat),rfl,rfl,SqL.of a5,z08 (by unfold natV;rw [S0,hf];rfl),g_name ?_⟩⟩;refine z0b ⟨_,rfl,_,rfl,.inl ⟨a,os,h,.ref b,rfl,rfl,SqL.of e2,z08 d8,_,rfl,g.st,_,rfl,x.gnx u,_,rfl,.inl ⟨g.nx,_,h,_,rfl,rfl,SqL.of a3,z08 b6,.inl ⟨b,ys,N.nxt[h],.ref dp,rfl,rfl,SqL.of eb,z08 d7,dp,_,rfl,SqT.of b9,rfl,_,_,rfl,_,_,rfl,rfl,?_⟩⟩⟩⟩;refine z0b ⟨_,rfl,g.st,_,rfl,x.gnx u,_,rfl,.inl ⟨g.nx,_,h,_,rfl,rfl,SqL.of a3,z08 b6,.inl ⟨_,1,rfl,rfl,_,rfl,g.st,_,rfl,x.gnx u,_,rfl,g.nx,_,h,h,rfl,rfl,a3,z5r (by rw [show (natV N.nxt).length=N.nxt.length from I0 ..];exact d1),?_⟩⟩⟩;rw [show ((N.nxt[h]:Int) + 1)=((N.nxt[h] + 1:Nat):Int) by omega];have G:=a7.setN (us:=N.nxt.set h (N.nxt[h] + 1)) (uv':=(natV N.nxt).set h (.int ((N.nxt[h] + 1:Nat):Int))) (by unfold natV;rw [Y9]);have M:=Same.keep (o:=.lst ((natV N.nxt).set h (.int ((N.nxt[h] + 1:Nat):Int)))) b3 (j.frA (a:=[_,_,_]));generalize upd R g.nx (.lst ((natV N.nxt).set h (.int ((N.nxt[h] + 1:Nat):Int))))=H2 at G M⊢;clear x j Y U S u a3 K a9 l;obtain ⟨X,hv,l,J,x,j,Y,U,S⟩:=id G.ct;have u:H2 g.st=some (.dK X):=j.at (a:=[]);have a2:H2 g.op=some (.lst (I.map oeV)):=j.at (a:=[_,_,_,_,_]);refine z0b ?_;intro O a1;refine pairsC ⟨_,rfl,pairsC ⟨_,rfl,z04,[(.inr "verb",.str (vbD d)),(.inr "worth",wvD d)],rfl,(show (2:Nat)<=15 by decide),?_⟩⟩;rw [show mergeK ([]:List (Key×V)) [(.inr "verb",.str (vbD d)),(.inr "worth",wvD d)]=putK (putK [] (.inr "verb") (.str (vbD d))) (.inr "worth") (wvD d) from rfl];have n1:g.st≠O:=λ z=>by rw [z,a1] at u;cases u
   have n2:g.op≠O:=λ z=>by rw [z,a1] at a2;cases a2
   refine ⟨_,rfl,g.st,_,rfl,x.gop (up1 n1 (up1 n1 u)),_,rfl,g.op,_,h,h,rfl,rfl,up1 n2 (up1 n2 a2),z5r (by rw [I0,show I.length=N.opn.length from z03 G.oe];exact a6),?_⟩;have k0:KS kD (putK (putK [] (.inr "verb") (.str (vbD d))) (.inr "worth") (wvD d)):=(KS.nil.put (by simp [kD])).put (by simp [kD]);have k1:valV (κ:=Key) (putK (putK [] (.inr "verb") (.str (vbD d))) (.inr "worth") (wvD d)) (.inr "verb")=some (.str (vbD d)):=(vp_ne (by decide +kernel)).trans vp_eq;have k2:valV (κ:=Key) (putK (putK [] (.inr "verb") (.str (vbD d))) (.inr "worth") (wvD d)) (.inr "worth")=some (wvD d):=vp_eq;have b1:=G.newO (D:=⟨d,0,false,[],none⟩) (kv:=putK (putK [] (.inr "verb") (.str (vbD d))) (.inr "worth") (wvD d)) d9 a1 M λ W=>⟨k0,k1,k2,(λ z=>by cases z),λ z=>absurd rfl z⟩
   have d2:Same B (upd (upd (upd H2 O (.dK [])) O (.dK (putK (putK [] (.inr "verb") (.str (vbD d))) (.inr "worth") (wvD d)))) g.op (.lst ((I.map oeV).set h (.ref O)))):=Same.keep (Same.keep (M.trans (Same.upd a1)) (M.free a1)) (j.frA (a:=[_,_,_,_,_]));generalize upd (upd (upd H2 O (.dK [])) O (.dK (putK (putK [] (.inr "verb") (.str (vbD d))) (.inr "worth") (wvD d)))) g.op (.lst ((I.map oeV).set h (.ref O)))=H3 at b1 d2⊢;clear x j Y U S u a2;obtain ⟨X,hv,l,J,x,j,Y,U,S⟩:=id b1.ct;have u:H3 g.st=some (.dK X):=j.at (a:=[]);have b7:H3 g.ev=some (.lst J):=j.at (a:=[_,_,_,_]);refine ⟨_,rfl,g.st,_,rfl,x.gev u,.inl ⟨rfl,_,SqL.of b7⟩,?_⟩;refine ⟨_,rfl,_,rfl,_,rfl,w_5,λ p hp=>?_⟩;obtain ⟨H4,v_,t4,e4⟩:=newA (.tup [.str "begin",.int (h:Nat),.str "r",.str (vbD d),wvD d]) hp;rw [<-v_];have lv:J.length<=1000:=by rw [z03 S];show N.events.length<=_;omega
   refine ⟨g.ev,J,_,rfl,rfl,t4 _ _ b7,X0 lv (by decide),t_nx ?_⟩;have b8:=(b1.same t4).setV (us:=N.events++[.beg h d]) (uv':=J++[.ref p]) λ W m=>z3z (z00 (λ _ _ z=>EvV.imm ((Imm.of t4).trans m) z) S) (.cons (show EvV W (.beg h d) (.ref p) from ⟨p,rfl,m.t _ _ e4⟩) .nil);have c8:=Same.keep (o:=.lst (J++[.ref p])) (d2.trans t4) (j.frA (a:=[_,_,_,_]));generalize upd H4 g.ev (.lst (J++[.ref p]))=H5 at b8 c8⊢;refine ⟨_,rfl,_,rfl,g,h,.non,.non,B,_,_,_,_,none,rfl,b8,O0 a6,O0 (by rw [show I.length=N.opn.length from z03 G.oe];exact a6),⟨rfl,rfl⟩,(λ z=>by cases z),by show N.under.length<=_;omega,ok.h5,c8,λ b0 W s' b2=>q b0 W s' ?_⟩;unfold LM.begin;rw [e0];exact b2
  ·refine iteN (λ z=>hlt (by have:=of_decide_eq_true z;rw [a0] at this;omega)) (t_nx ?_);have u0:0 < N.under.length:=by omega
   have ek:((n:Int) - ((natV (N.free f)).length:Nat)) % ((l.length:Nat):Int)=(((n - (N.free f).length) % N.under.length:Nat):Int):=by rw [a0,a9,show (n:Int) - ((N.free f).length:Nat)=((n - (N.free f).length:Nat):Int) by omega];exact (Int.natCast_emod _ _).symm
   have kl:(n - (N.free f).length) % N.under.length < N.under.length:=j21 _ u0;have hL:N.under[(n - (N.free f).length) % N.under.length]? = some N.under[(n - (N.free f).length) % N.under.length]:=A0 kl;have a4:N.moved f bk n=if n < (N.free f).length + N.under.length then LM.come { N with under:=N.under.eraseIdx ((n - (N.free f).length) % N.under.length) } bk N.under[(n - (N.free f).length) % N.under.length] else { N with under:=N.under.eraseIdx ((n - (N.free f).length) % N.under.length) }:=by unfold LM.moved;rw [if_neg hlt,hL]
   rw [a4] at q;refine z0b ⟨_,rfl,_,rfl,.inl ⟨Z,_,rfl,.inl (SqL.of a5),_,_,rfl,rfl,_,rfl,g.st,_,rfl,x.gun u,.inl ⟨g.un,l,rfl,.inl (SqL.of K),_,_,rfl,rfl,(by show (0:Int) < (l.length:Int);omega),?_⟩⟩⟩;show gName 8 (V.int (((n:Int) - ((natV (N.free f)).length:Nat)) % ((l.length:Nat):Int))) _ _ _;rw [ek];generalize hkk:(n - (N.free f).length) % N.under.length=k at kl hL q⊢;generalize N.under[k]=L at hL q;have a8:=ok.un L (B1 hL);refine g_name ?_;obtain ⟨v,d4,aL⟩:=z0r U hL;refine z0b ⟨_,rfl,g.st,_,rfl,x.gun u,.inl ⟨rfl,l,SqL.of K⟩,_,rfl,g.un,l,_,k,v,rfl,rfl,K,by omega,by omega,z8e (by rw [a9];exact kl),d4,?_⟩;have F:Imm R (upd R g.un (.lst (l.eraseIdx k))):=Imm.lst K;have G:=a7.setU (us:=N.under.eraseIdx k) (uv':=l.eraseIdx k) λ W m=>z62 k (z00 (λ _ _ z=>LLAt.imm m z) U);have M:=Same.keep (o:=.lst (l.eraseIdx k)) b3 (j.frA (a:=[_,_]));have e1:Z≠g.un:=λ z=>by obtain ⟨_,_,_,_,_,c,_⟩:=lw.ct;have:=c.at (a:=[_,_]);rw [<-z,d5] at this;cases this
   have d0:upd R g.un (.lst (l.eraseIdx k)) Z=some (.lst (natV (N.free f))):=up1 e1 a5;generalize upd R g.un (.lst (l.eraseIdx k))=H2 at G M d0 F⊢;refine g_name ?_;clear x j Y S u K;obtain ⟨X,hv,b4,J,x,j,Y,d3,S⟩:=id G.ct;have u:H2 g.st=some (.dK X):=j.at (a:=[]);have K:H2 g.un=some (.lst b4):=j.at (a:=[_,_]);have c9:b4.length=N.under.length - 1:=by rw [z03 d3];show (N.under.eraseIdx k).length=_;rw [j49,if_pos kl]
   refine ⟨_,rfl,_,rfl,.inl ⟨Z,_,rfl,.inl (SqL.of d0),_,_,rfl,rfl,_,rfl,g.st,_,rfl,x.gun u,.inl ⟨g.un,b4,rfl,.inl (SqL.of K),_,_,rfl,rfl,_,rfl,?_⟩⟩⟩;by_cases hb:n < (N.free f).length + N.under.length
   ·rw [if_pos hb] at q;refine iteP (decide_eq_true (by rw [a0,c9];omega)) ?_;refine ⟨_,rfl,_,rfl,_,rfl,g,v,bk,B,I,_,L,rfl,G,aL.imm F,a8.1,by show L.hand < N.opn.length;rw [ol];exact a8.2.1,a8.2.2,λ D hD=>ok.op _ D hD,by show (N.under.eraseIdx k).length<=9000;have:=y8 N.under k;omega,ok.h5,by show N.events.length<=_;omega,M,λ b0 W s' b2=>q b0 W s' b2⟩
   ·rw [if_neg hb] at q;exact iteN (λ z=>hb (by have:=of_decide_eq_true z;rw [a0,c9] at this;omega)) (q I _ M G)
end
section
noncomputable def evH:CEv->Nat
 | .beg h _=>h
 | .fin h _=>h
noncomputable def own (h:Nat) (es:List CEv):List CEv:=es.filter λ e=>evH e == h
noncomputable def wrI:CEv->Option Int
 | .beg _ (some w)=>some w
 | _=>none
noncomputable def Wo (es:List CEv):List Int:=0 :: es.filterMap wrI
theorem Wo.app {es:List CEv} (r:List CEv) {x:Int} (h:x∈Wo es):x∈Wo (es++r):=by
 unfold Wo;rw [W8];rcases List.mem_cons.mp h with h|h
 ·rw [h];exact .head _
 ·exact .tail _ (List.mem_append.mpr (.inl h))
theorem z6h {α:Type} {o:List α} {x e:α} {i:Nat} (h:(o++[x])[i]? = some e):o[i]? = some e\/(i=o.length/\e=x):=by
 rw [List.getElem?_append] at h;split at h
 ·exact .inl h
 ·rename_i z;obtain ⟨y,_⟩:=List.getElem?_eq_some_iff.mp h;rw [Z2] at y;have a:i - o.length=0:=by omega
  rw [a] at h;cases h;exact .inr ⟨by omega,rfl⟩
structure HRt (row:List (Option Int)) (h:Nat) (o:List CEv):Prop where
 ev :∀(k:Nat) (e:CEv),o[2 * k]? = some e->∃d,row[k]? = some d/\e=.beg h d
 od :∀(k:Nat) (e:CEv),o[2 * k + 1]? = some e->∃d a,row[k]? = some d/\e=.fin h a/\a.isNone=d.isSome
theorem HRt.beg {row:List (Option Int)} {h n:Nat} {o:List CEv} {d:Option Int} (x:HRt row h o) (l:o.length=2 * n) (hd:row[n]? = some d):HRt row h (o++[.beg h d]):=by
 refine ⟨λ k e a=>?_,λ k e a=>?_⟩
 ·rcases z6h a with z|⟨z,rfl⟩
  ·exact x.ev k e z
  ·have:k=n:=by omega
   subst this;exact ⟨d,hd,rfl⟩
 ·rcases z6h a with z|⟨z,rfl⟩
  ·exact x.od k e z
  ·omega
theorem HRt.fin {row:List (Option Int)} {h n:Nat} {o:List CEv} {d a:Option Int} (x:HRt row h o) (l:o.length=2 * n + 1) (hd:row[n]? = some d) (ha:a.isNone=d.isSome):HRt row h (o++[.fin h a]):=by
 refine ⟨λ k e b=>?_,λ k e b=>?_⟩
 ·rcases z6h b with z|⟨z,rfl⟩
  ·exact x.ev k e z
  ·omega
 ·rcases z6h b with z|⟨z,rfl⟩
  ·exact x.od k e z
  ·have:k=n:=by omega
   subst this;exact ⟨d,a,hd,rfl,ha⟩
def AR (es:List CEv):Prop:=∀(i h:Nat) (v:Int),es[i]? = some (.fin h (some v))->v∈Wo (es.take i)
theorem AR.snoc {es:List CEv} {e:CEv} (x:AR es) (z :∀h v,e=.fin h (some v)->v∈Wo es):AR (es++[e]):=λ i h v a=>by
 rcases z6h a with y|⟨y,y'⟩
 ·rw [List.take_append_of_le_length (R8 (List.getElem?_eq_some_iff.mp y).1)];exact x i h v y
 ·rw [y,List.take_left];exact z h v y'.symm
theorem zf0 {h:Nat} {es:List CEv} {e:CEv} (z:evH e=h):own h (es++[e])=own h es++[e]:=by unfold own;rw [S4];congr 1;rw [u3 (by rw [z];exact beq_self_eq_true h)];rfl
theorem own_ne {h:Nat} {es:List CEv} {e:CEv} (z:evH e≠h):own h (es++[e])=own h es:=by unfold own;rw [S4,N3 (by rw [beq_iff_eq];exact z)];exact L1 _
noncomputable def OpO (row:List (Option Int)) (n l:Nat):Option LD->Prop
 | none=>l=2 * n
 | some D=>∃k,n=k + 1/\l=2 * k + 1/\row[k]? = some D.d/\(D.keeps=true->D.ans.isNone=D.d.isSome)
def DW (W:List Int) (D:LD):Prop:=(∀w,D.d=some w->w∈W)/\(∀x∈D.heard,x.2∈W)/\(∀v,D.ans=some v->v∈W)
structure Iv (pl:List (List (Option Int))) (N:LM):Prop where
 ol:N.opn.length=pl.length
 nl:N.nxt.length=pl.length
 hr :∀h:Nat,h < pl.length->HRt (pl[h]?.getD []) h (own h N.events)/\OpO (pl[h]?.getD []) (N.nxt[h]?.getD 0) (own h N.events).length (N.opn[h]?.getD none)
 hw :∀x∈N.held,x.2∈Wo N.events
 uw :∀L∈N.under,∀x,L.x=some x->x.2∈Wo N.events
 dw :∀(h:Nat) (D:LD),N.opn[h]? = some (some D)->DW (Wo N.events) D
 ar:AR N.events
theorem Iv.init {m:Nat} {pl:List (List (Option Int))}:Iv pl (LM.init m pl):=by
 refine ⟨I0 ..,I0 ..,λ h d=>?_,λ x c=>?_,λ L b=>absurd b L0,λ h D e=>?_,λ i h v e=>?_⟩
 ·refine ⟨⟨λ k e a=>?_,λ k e a=>?_⟩,?_⟩
  ·cases a
  ·cases a
  ·show OpO _ ((pl.map λ _=>0)[h]?.getD 0) 0 ((pl.map λ _=>(none:Option LD))[h]?.getD none);rw [S0,S0,A0 d];exact rfl
 ·rw [(List.mem_replicate.mp c).2];exact .head _
 ·have e:(pl.map λ _=>(none:Option LD))[h]? = some (some D):=e;rw [S0] at e;cases z:pl[h]? with
  | none=>rw [z] at e;cases e
  | some r=>rw [z] at e;cases e
 ·cases e
theorem z84 {α:Type} {l:List α} {h k:Nat} {x y:α} (hh:h < l.length):(l.set h x)[k]?.getD y=if k=h then x else l[k]?.getD y:=by
 by_cases z:k=h
 ·rw [if_pos z,z,O0 hh];rfl
 ·rw [if_neg z,X1 (C2 z)]
theorem zb8 {α:Type} {l:List α} {h k:Nat} {x y:α} (e:(l.set h x)[k]? = some y):(k=h/\y=x)\/l[k]? = some y:=by
 by_cases z:h=k
 ·subst z;have a:=(List.getElem?_eq_some_iff.mp e).1;rw [R0] at a;rw [O0 a] at e;cases e;exact .inl ⟨rfl,rfl⟩
 ·rw [X1 z] at e;exact .inr e
theorem Iv.setD {pl:List (List (Option Int))} {N:LM} {h:Nat} {D D':LD} (v:Iv pl N) (hD:N.opn[h]? = some (some D)) (e:D'.d=D.d) (k:D'.keeps=true->D'.ans.isNone=D'.d.isSome) (w:DW (Wo N.events) D'):Iv pl { N with opn:=N.opn.set h (some D') }:=by
 have c:=(List.getElem?_eq_some_iff.mp hD).1;refine ⟨by rw [R0];exact v.ol,v.nl,λ j m=>?_,v.hw,v.uw,λ j l f=>?_,v.ar⟩
 ·obtain ⟨i,a⟩:=v.hr j m;refine ⟨i,?_⟩;show OpO _ _ _ ((N.opn.set h (some D'))[j]?.getD none);rw [z84 c];split
  ·rename_i z;subst z;rw [hD] at a;obtain ⟨n,b,g,o,p⟩:=a;exact ⟨n,b,g,by rw [e];exact o,k⟩
  ·exact a
 ·rcases zb8 f with ⟨_,z⟩|z
  ·cases z;exact w
  ·exact v.dw j l z
theorem Iv.under {pl:List (List (Option Int))} {N:LM} {us:List LL} (v:Iv pl N) (h :∀L∈us,∀x,L.x=some x->x.2∈Wo N.events):Iv pl { N with under:=us }:=⟨v.ol,v.nl,v.hr,v.hw,h,v.dw,v.ar⟩
theorem Iv.sent {pl:List (List (Option Int))} {N:LM} {h:Nat} {D0 D:LD} {x:Option Hd} (v:Iv pl N) (hD:N.opn[h]? = some (some D0)) (e:D.d=D0.d) (w:DW (Wo N.events) D) (hx :∀y,x=some y->y.2∈Wo N.events) (k:x.isSome=true->D.ans.isNone=D.d.isSome):Iv pl (N.sent h D x):=by
 have a:=v.setD (D':={ D with round:=N.rounds + 1,keeps:=x.isSome,heard:=[] }) hD e k ⟨w.1,λ y b=>absurd b L0,w.2.2⟩;refine ⟨a.ol,a.nl,a.hr,a.hw,λ L f y b=>?_,a.dw,a.ar⟩;rcases List.mem_append.mp f with z|z
 ·exact v.uw L z y b
 ·obtain ⟨c,_,rfl⟩:=List.mem_map.mp z;exact hx y b
theorem Iv.ended {pl:List (List (Option Int))} {N:LM} {h:Nat} {D:LD} {a:Option Int} (v:Iv pl N) (hD:N.opn[h]? = some (some D)) (ha:a.isNone=D.d.isSome) (hv :∀x,a=some x->x∈Wo N.events):Iv pl (N.ended h a):=by
 have o:=(List.getElem?_eq_some_iff.mp hD).1;refine ⟨by show (N.opn.set h none).length=_;rw [R0];exact v.ol,v.nl,λ j s=>?_,λ x b=>Wo.app _ (v.hw x b),λ L i x b=>Wo.app _ (v.uw L i x b),λ j m p=>?_,v.ar.snoc λ _ x e=>hv x (by cases e;rfl)⟩
 ·obtain ⟨g,c⟩:=v.hr j s;show HRt _ j (own j (N.events++[.fin h a]))/\OpO _ _ (own j (N.events++[.fin h a])).length ((N.opn.set h none)[j]?.getD none);rw [z84 o];by_cases z:j=h
  ·subst z;rw [hD] at c;obtain ⟨n,t,f,r,u⟩:=c;rw [zf0 (h:=j) (e:=.fin j a) rfl,if_pos rfl];refine ⟨g.fin f r ha,?_⟩;show _=2 * _;rw [G0,Z2,f];show _=2 * (N.nxt[j]?.getD 0);omega
  ·rw [own_ne (λ y=>z y.symm),if_neg z];exact ⟨g,c⟩
 ·rcases zb8 p with ⟨_,z⟩|z
  ·cases z
  ·obtain ⟨k,q,l⟩:=v.dw j m z;exact ⟨λ w e=>Wo.app _ (k w e),λ x b=>Wo.app _ (q x b),λ y e=>Wo.app _ (l y e)⟩
theorem max_in {W:List Int} {l:List Hd} (h0:0∈W) (h :∀x∈l,x.2∈W):(maxHd l).2∈W:=by
 cases l with
 | nil=>exact h0
 | cons x r=>
  have d :∀(r:List Hd) (m:Hd),m.2∈W->(∀x∈r,x.2∈W)->(r.foldl (λ m y=>if gtN y m=true then y else m) m).2∈W:=by
   intro r;induction r with
   | nil=>exact λ m a _=>a
   | cons y r ih=>
    intro m a b;rw [U3];refine ih _ ?_ λ z c=>b z (.tail _ c);split
    ·exact b y (.head _)
    ·exact a
  exact d r x (h x (.head _)) λ y e=>h y (.tail _ e)
theorem Iv.goneOn {pl:List (List (Option Int))} {N:LM} {bk:Bool} {h:Nat} {D:LD} (v:Iv pl N) (hh:h < pl.length) (hD:N.opn[h]? = some (some D)):Iv pl (N.goneOn bk h D):=by
 obtain ⟨a,c,j⟩:=v.dw h D hD;have b:=max_in (W:=Wo N.events) (.head _) c;unfold LM.goneOn;split
 ·rename_i z;obtain ⟨_,g⟩:=v.hr h hh;rw [hD] at g;obtain ⟨n,k,l,m,i⟩:=g;exact v.ended hD (i z) j
 ·split
  ·rename_i w e;exact v.sent hD rfl ⟨a,c,λ _ z=>by cases z⟩ (λ y f=>by cases f;exact a w e) (λ _=>by show true=D.d.isSome;rw [e];rfl)
  ·rename_i e;split
   ·exact v.sent hD rfl ⟨a,c,λ y z=>by cases z;exact b⟩ (λ y f=>by cases f;exact b) (λ _=>by show false=D.d.isSome;rw [e];rfl)
   ·exact v.ended hD (by rw [e];rfl) (λ y z=>by cases z;exact b)
theorem zl2 {W:List Int} {k:Option Hd} {s:Hd} (hk :∀x,k=some x->x.2∈W) (hs:s.2∈W):(keepH k s).2∈W:=by
 cases k with
 | none=>exact hs
 | some x=>
  unfold keepH;dsimp only;split
  ·exact hk x rfl
  ·exact hs
theorem Iv.come {pl:List (List (Option Int))} {N:LM} {bk:Bool} {L:LL} (v:Iv pl N) (hL :∀x,L.x=some x->x.2∈Wo N.events):Iv pl (N.come bk L):=by
 unfold LM.come;split
 ·split
  ·rename_i s hs;have b:=zl2 hL (v.hw s (B1 hs));refine ⟨v.ol,v.nl,v.hr,λ x a=>?_,λ i k x a=>?_,v.dw,v.ar⟩
   ·rcases V4 a with z|z
    ·exact v.hw x z
    ·rw [z];exact b
   ·rcases List.mem_append.mp k with z|z
    ·exact v.uw i z x a
    ·rw [List.mem_singleton.mp z] at a;cases a;exact b
  ·exact v
 ·split
  ·rename_i D x hD a;unfold LM.hear;split
   ·obtain ⟨f,j,h⟩:=v.dw _ D hD;have e:L.hand < pl.length:=by rw [<-v.ol];exact (List.getElem?_eq_some_iff.mp hD).1
    have c:=(v.hr _ e).2;rw [hD] at c;obtain ⟨n,m,o,p,g⟩:=c;have d:=v.setD (D':=D.hear x) hD rfl g ⟨f,λ y l=>by
     rcases List.mem_append.mp l with z|z
     ·exact j y z
     ·rw [List.mem_singleton.mp z];exact hL x a,h⟩
    split
    ·exact d.goneOn e (O0 (List.getElem?_eq_some_iff.mp hD).1)
    ·exact d
   ·exact v
  ·exact v
theorem Iv.begin {pl:List (List (Option Int))} {N:LM} {h:Nat} {d:Option Int} (v:Iv pl N) (hh:h < pl.length) (ho:N.opn[h]?.getD none=none) (hd:(pl[h]?.getD [])[N.nxt[h]?.getD 0]? = some d):Iv pl (N.begin h d):=by
 have g:h < N.opn.length:=by rw [v.ol];exact hh
 have i:h < N.nxt.length:=by rw [v.nl];exact hh
 have c :∀w,d=some w->w∈Wo (N.events++[.beg h d]):=λ w e=>by subst e;unfold Wo;rw [W8];exact .tail _ (List.mem_append.mpr (.inr (.head _)))
 have p:Iv pl { N with nxt:=N.nxt.set h (N.nxt[h]?.getD 0 + 1),opn:=N.opn.set h (some ⟨d,0,false,[],none⟩),events:=N.events++[.beg h d] }:=by
  refine ⟨by rw [R0];exact v.ol,by rw [R0];exact v.nl,λ j r=>?_,λ x a=>Wo.app _ (v.hw x a),λ L k x a=>Wo.app _ (v.uw L k x a),λ j n o=>?_,v.ar.snoc λ _ x e=>by cases e⟩
  ·obtain ⟨f,b⟩:=v.hr j r;show HRt _ j (own j (N.events++[.beg h d]))/\OpO _ ((N.nxt.set h (N.nxt[h]?.getD 0 + 1))[j]?.getD 0) (own j (N.events++[.beg h d])).length ((N.opn.set h (some ⟨d,0,false,[],none⟩))[j]?.getD none);rw [z84 g,z84 i];by_cases z:j=h
   ·subst z;rw [ho] at b;rw [zf0 (h:=j) (e:=.beg j d) rfl,if_pos rfl,if_pos rfl];exact ⟨f.beg b hd,_,rfl,by rw [G0,Z2,b],hd,λ z=>by cases z⟩
   ·rw [own_ne (λ y=>z y.symm),if_neg z,if_neg z];exact ⟨f,b⟩
  ·rcases zb8 o with ⟨_,z⟩|z
   ·cases z;exact ⟨c,λ x a=>absurd a L0,λ _ z=>by cases z⟩
   ·obtain ⟨l,q,m⟩:=v.dw j n z;exact ⟨λ w e=>Wo.app _ (l w e),λ x a=>Wo.app _ (q x a),λ y e=>Wo.app _ (m y e)⟩
 exact p.sent (D0:=⟨d,0,false,[],none⟩) (O0 g) rfl ⟨c,λ x a=>absurd a L0,λ _ z=>by cases z⟩ (λ _ z=>by cases z) (λ z=>by cases z)
theorem Iv.moved {pl:List (List (Option Int))} {N:LM} {bk:Bool} {n:Nat} (v:Iv pl N):Iv pl (N.moved pl bk n):=by
 unfold LM.moved;split
 ·rename_i hn;have b:(N.free pl)[n]?.getD 0∈N.free pl:=by rw [A0 hn];exact D3 hn
  generalize (N.free pl)[n]?.getD 0=h at b;obtain ⟨e,a⟩:=List.mem_filter.mp b;have f:=List.mem_range.mp e;unfold LM.fre at a;rw [X3] at a;split
  ·rename_i d hd;exact v.begin f (Option.isNone_iff_eq_none.mp a.1) hd
  ·exact v
 ·split
  ·rename_i L hL;have c:=v.under (us:=N.under.eraseIdx ((n - (N.free pl).length) % N.under.length)) λ g i=>v.uw g ((j40 _ _).subset i);split
   ·exact c.come (v.uw L (B1 hL))
   ·exact c
  ·exact v
theorem Iv.go {pl:List (List (Option Int))} {N:LM} {bk:Bool} {c:Int} (v:Iv pl N):Iv pl (N.go pl bk c):=by
 unfold LM.go;split
 ·exact v
 ·exact v.moved
theorem Iv.walk {pl:List (List (Option Int))} {bk:Bool} :∀(cs:List Int) {N:LM},Iv pl N->Iv pl (cs.foldl (λ N c=>N.go pl bk c) N)
 | [],_,v=>v
 | c :: cs,_,v=>Iv.walk cs v.go
theorem zk3 {N:LM} {bk:Bool} {h:Nat} {D:LD} :∃r,(N.goneOn bk h D).events=N.events++r:=by
 unfold LM.goneOn;split
 ·exact ⟨_,rfl⟩
 ·split
  ·exact ⟨[],(L1 _).symm⟩
  ·split
   ·exact ⟨[],(L1 _).symm⟩
   ·exact ⟨_,rfl⟩
theorem zky {N:LM} {bk:Bool} {L:LL} :∃r,(N.come bk L).events=N.events++r:=by
 unfold LM.come;split
 ·split<;>exact ⟨[],(L1 _).symm⟩
 ·split
  ·unfold LM.hear;split
   ·split
    ·exact zk3
    ·exact ⟨[],(L1 _).symm⟩
   ·exact ⟨[],(L1 _).symm⟩
  ·exact ⟨[],(L1 _).symm⟩
theorem go_ev {pl:List (List (Option Int))} {N:LM} {bk:Bool} {c:Int} :∃r,(N.go pl bk c).events=N.events++r:=by
 unfold LM.go LM.moved;split
 ·exact ⟨[],(L1 _).symm⟩
 ·split
  ·split
   ·exact ⟨_,rfl⟩
   ·exact ⟨[],(L1 _).symm⟩
  ·split
   ·split
    ·exact zky
    ·exact ⟨[],(L1 _).symm⟩
   ·exact ⟨[],(L1 _).symm⟩
theorem zic {pl:List (List (Option Int))} {bk:Bool} :∀(cs:List Int) (N:LM),∃r,(cs.foldl (λ N c=>N.go pl bk c) N).events=N.events++r
 | [],N=>⟨[],(L1 _).symm⟩
 | c :: cs,N=>by obtain ⟨a,d⟩:=go_ev (pl:=pl) (N:=N) (bk:=bk) (c:=c);obtain ⟨e,b⟩:=zic cs (N.go pl bk c);exact ⟨a++e,by rw [U3,b,d,E2]⟩
theorem cm_of {m:Nat} {pl:List (List (Option Int))} (bk:Bool) (m35:m=3\/m=5) (cs:List Int):(cs.foldl CM.go (CM.init m bk pl)).events=(cs.foldl (λ N c=>N.go pl bk c) (LM.init m pl)).events:=((zcf (by omega) cs).ev).symm
theorem cm_iv {m:Nat} {pl:List (List (Option Int))} (bk:Bool) (m35:m=3\/m=5) (cs:List Int):(∀h,h < pl.length->HRt (pl[h]?.getD []) h (own h (cs.foldl CM.go (CM.init m bk pl)).events))/\AR (cs.foldl CM.go (CM.init m bk pl)).events:=by rw [cm_of bk m35];have v:=Iv.walk (bk:=bk) cs (Iv.init (m:=m) (pl:=pl));exact ⟨λ h a=>(v.hr h a).1,v.ar⟩
theorem cm_pre {m:Nat} {pl:List (List (Option Int))} (bk:Bool) (m35:m=3\/m=5) (cs:List Int) (n:Nat) :∃r,(cs.foldl CM.go (CM.init m bk pl)).events=((cs.take n).foldl CM.go (CM.init m bk pl)).events++r:=by rw [cm_of bk m35,cm_of bk m35];have:=zic (pl:=pl) (bk:=bk) (cs.drop n) ((cs.take n).foldl (λ N c=>N.go pl bk c) (LM.init m pl));rw [<-T5,j3i] at this;exact this
end
section
variable {P:Program} {w:Z0} {mg:Str->Option Value} {base:Heap}
def z4g (K:o0):Sp:=λ vs H Q _=>∃(A:La) (a:Addr) (x:Int) (su:Int) (B:Hp) (es:List (Option OE)) (N:LM) (pl:List (List (Option Int))) (t:Nat),vs=[.ref A.st,.ref a,.int x,.int su]/\Lw K B H A es N/\PlR B a pl/\pl.length<=6/\LOk pl N t/\t<=1000/\Same B H/\
 (∀H',Same H H'->(N.free pl).length + N.under.length=0->Q .non H')/\∀c H',Same H H'->(N.free pl).length + N.under.length≠0->Q (.int c) H'
theorem z7z (T:TX (kx w) mg) (c5:Ca P w mg base "_law_free" ["state","plan"] 1 (z1r (kx w))):Fo P w mg base CX0 2 472 y0p ["state","plan","x","sure"] (z4g (kx w)):=by
 refine (z34 w.params).ok sc__law_choice (λ vs H Q E h=>?_) (λ a1 A a5 s H vs Q E f h=>?_)
 ·obtain ⟨A,a,x,p,B,o,N,d,t,rfl,_⟩:=h;rfl
 ·obtain ⟨b,a,x,p,B,o,N,d,t,rfl,u,R,C,ok,a4,L,U,q⟩:=h;refine ⟨_,(z02 (ps_set (i:=4) sc__law_choice.nd rfl (O1 rfl) (pe_op opAdd (z06 z0i rfl (T.no (n_len _)) A2 (z01 (pe_cal c5 (f.mono (by decide)) rfl (z01 (pv 0) (z01 (pv 1) pa_nil))) pa_nil)) (z06 z0i rfl (T.no (n_len _)) A2 (z01 (z0e (hu_of f) (pv 0) pe_str (λ _ _=>rfl)) pa_nil))))
   (z02 (ps_set (i:=5) sc__law_choice.nd rfl (O1 rfl) (pe_op opAdd (pv 4) (z06 z0i rfl (T.no (n_len _)) A2 (z01 (z0e (hu_of f) (pv 0) pe_str (λ _ _=>rfl)) pa_nil))))
   (z02 (ps_if (z09 opEq (pv 5) pe_int (nomark _))
   (z05 (ps_ret pe_non))
   z0d)
   (z02 (ps_set (i:=6) sc__law_choice.nd rfl (O1 rfl) (pe_op op_mod (pe_op z1e (pv 2) pe_int) (pv 4)))
   (z02 (ps_if (PW.pt (pw_and (z09 op_lt (pe_op op_mod (pv 2) pe_int) (pv 3) (nomark _)) (z27 (z09 (zkp f) (z0e (hu_of f) (pv 0) pe_str (λ _ _=>rfl)) (pe_lst pa_nil) (nomark _)))))
   (z05 (ps_set (i:=6) sc__law_choice.nd rfl (O1 rfl) (pe_op opAdd (pv 4) (pe_op op_mod (pe_op z1e (pv 2) pe_int) (z06 z0i rfl (T.no (n_len _)) A2 (z01 (z0e (hu_of f) (pv 0) pe_str (λ _ _=>rfl)) pa_nil))))))
   z0d)
   (z05 (ps_ret (pe_op opAdd (pv 6) (pe_op op_mul (pv 5) (pe_op op_sub (pe_op op_mod (pe_op z1e (pv 2) pe_int) pe_int) pe_int)))))))))),?_⟩
  have ul:=ok.ul;refine z0b ⟨_,rfl,_,rfl,b,a,B,o,N,d,rfl,u,R.same L,C,ok.ol,ok.nl,λ lf m n a3 S=>?_⟩;have W:=u.same n;have Z:(natV (N.free d)).length=(N.free d).length:=I0 ..;obtain ⟨M,hv,c,vv,g,v,c2,Y,c4⟩:=id W.ct;have j:m b.st=some (.dK M):=v.at (a:=[]);have l:m b.un=some (.lst c):=v.at (a:=[_,_]);have a0:c.length=N.under.length:=z03 Y;have a2:(N.free d).length<=6:=N0 (Q5 _ _) (by rw [C3];exact C);refine .inl ⟨lf,_,rfl,.inl (SqL.of S),_,rfl,b.st,_,rfl,g.gun j,.inl ⟨b.un,c,rfl,.inl (SqL.of l),.inl ⟨_,_,rfl,rfl,g_name ?_⟩⟩⟩;refine z0b ⟨_,rfl,_,rfl,b.st,_,rfl,g.gun j,.inl ⟨b.un,c,rfl,.inl (SqL.of l),.inl ⟨_,_,rfl,rfl,g_name ?_⟩⟩⟩;rw [Z,a0];refine sq_if ⟨_,rfl,rfl,_,rfl,?_⟩;refine ite2 (λ z=>?_) λ z=>t_nx ?_
  ·have z:=of_decide_eq_true z;injection z with z;exact U m n (by omega)
  have V:(N.free d).length + N.under.length≠0:=λ y=>z (decide_eq_true (by congr 1;omega));have r:CDivB x 64:=⟨by decide,by decide⟩
  refine z0b ⟨_,rfl,_,_,rfl,rfl,r,_,rfl,_,_,rfl,rfl,(by omega),g_name ?_⟩;refine z7h (λ I G=>Same m G/\∃k:Int,I=[some (.ref b.st),some (.ref a),some (.int x),some (.int p),some (.int (((N.free d).length:Nat) + (N.under.length:Nat))),some (.int (((N.free d).length:Nat) + (N.under.length:Nat) + (N.under.length:Nat))),some (.int k)]) ?_ λ go=>?_;rotate_left
  ·refine t_and ⟨_,rfl,_,_,rfl,rfl,(show (0:Int) < 64 by decide),_,rfl,_,_,rfl,rfl,_,rfl,?_⟩;refine ite2 (λ _=>?_) λ _=>iteF (t_nx (go _ _ ⟨Same.refl _,_,rfl⟩));refine ⟨_,rfl,b.st,_,rfl,g.gun j,w_0,λ X K=>?_⟩;obtain ⟨F,O,e,D⟩:=newA (.lst []) K;rw [<-O];refine ⟨b.un,X,c,rfl,rfl,SqL.of (e _ _ l),SqL.of D,_,rfl,?_⟩;refine ite2 (λ z=>?_) λ _=>t_nx (go _ _ ⟨e,_,rfl⟩);have J:c≠[]:=of_decide_eq_true z;have up:0 < c.length:=List.length_pos_iff.mpr J;refine ⟨_,rfl,_,rfl,_,_,rfl,rfl,r,_,rfl,b.st,_,rfl,g.gun (e _ _ j),.inl ⟨b.un,c,rfl,.inl (SqL.of (e _ _ l)),_,_,rfl,rfl,(by show (0:Int) < (c.length:Nat);omega),.inl ⟨_,_,rfl,rfl,g_name (t_nx (go _ _ ⟨e,_,rfl⟩))⟩⟩⟩
  rintro σ F ⟨e,k,rfl⟩;refine sq_ret ⟨_,rfl,_,rfl,_,rfl,_,_,rfl,rfl,(show CDivB x 65536 from ⟨by decide,by decide⟩),_,_,rfl,rfl,(show (0:Int) < 7 by decide),_,_,rfl,rfl,_,_,rfl,rfl,.inl ⟨by omega,by omega⟩,.inl ⟨_,_,rfl,rfl,q _ _ (n.trans e) V⟩⟩
theorem cut3 (ns:List Int) :∃ms:List Int,cutV (ns.map V.int) (some 3) (some 63)=ms.map V.int/\ms.length<=60:=by
 refine ⟨(ns.drop (HT.sIx (ns.map V.int).length 0 (some 3))).take (HT.sIx (ns.map V.int).length (ns.map V.int).length (some 63) - HT.sIx (ns.map V.int).length 0 (some 3)),?_,?_⟩
 ·unfold cutV;rw [List.map_take,List.map_drop]
 ·refine N0 (List.length_take_le _ _) ?_;have a:HT.sIx (ns.map V.int).length (ns.map V.int).length (some 63)=min 63 (ns.map V.int).length:=HT.sIx_nat _ _ 63;have b:HT.sIx (ns.map V.int).length 0 (some 3)=min 3 (ns.map V.int).length:=HT.sIx_nat _ _ 3;rw [a,b];omega
def z7l (K:o0):Sp:=λ vs H Q _=>∃(sc:Addr) (ns:List Int),vs=[.ref sc]/\SqL K H sc (ns.map V.int)/\ns.length<=63/\∀(l:Addr) (cs:List Int) (H':Hp),Same H H'->H l=none->H' l=some (.lst (cs.map V.int))->cs.length<=360->Q (.ref l) H'
theorem zd1 (T:TX (kx w) mg):Fo P w mg base CX0 1 486 y1l ["script"] (z7l (kx w)):=by
 refine (z6i w.params).ok sc__law_raw (λ I H Q E h=>?_) (λ L A U s H I Q E M h=>?_)
 ·obtain ⟨sc,p,rfl,_⟩:=h;rfl
 ·obtain ⟨sc,p,rfl,B,S,q⟩:=h;refine ⟨_,(z02 (ps_set (i:=1) sc__law_raw.nd rfl (O1 rfl) (pe_lst pa_nil))
   (z02 (ps_for W2 rfl (z1l (z8a slSeq (pv 0) (z7n pe_int) (z7n pe_int))) (z0m (i:=2) sc__law_raw.nd rfl (O1 rfl))
   (z05 (ps_for W2 rfl (z0x rfl (T.no (z2a _)) (z01 pe_int pa_nil)) (z0m (i:=3) sc__law_raw.nd rfl (O1 rfl))
   (z02 (z0f (z0o (pv 1) (z01 (pe_op op_mod (pv 2) pe_int) pa_nil)))
   (z05 (ps_set (i:=2) sc__law_raw.nd rfl (O1 rfl) (pe_op z1e (pv 2) pe_int)))))))
   (z05 (ps_ret (pv 1))))),?_⟩
  obtain ⟨f,F,N⟩:=cut3 p;refine z0b ⟨w_0,λ d g=>g_name ?_⟩;obtain ⟨R,l,u,x⟩:=newA (.lst []) g;rw [<-l];refine ⟨_,rfl,3,rfl,63,rfl,.inl ⟨sc,_,rfl,u.seq B,λ e k=>?_⟩⟩;rw [F];obtain ⟨J,l,o,t⟩:=newA (.lst (f.map V.int)) k;rw [<-l];have D:e≠d:=λ z=>by rw [z,x] at k;cases k
  refine ⟨e,rfl,⟨_,SqL.of t⟩,?_⟩;refine z65 (K:=KX w.params) (a:=e) (xs:=f.map V.int) (λ i σ b=>∃(cs:List Int) (x2 x3:Option V),Same H b/\b e=some (.lst (f.map V.int))/\b d=some (.lst (cs.map V.int))/\cs.length<=6 * i/\σ=[some (.ref sc),some (.ref d),x2,x3]) ⟨[],_,_,u.trans o,t,o _ _ x,J2 _,rfl⟩ (λ _ σ b _ h=>by obtain ⟨_,_,_,_,h,_⟩:=h;exact SqL.of h) ?_ ?_
  ·rintro i y σ r v ⟨cs,x2,x3,s3,q3,e3,l3,rfl⟩;rw [S0] at v;obtain ⟨c,G,rfl⟩:=Option.map_eq_some_iff.mp v;have O:i < f.length:=(List.getElem?_eq_some_iff.mp G).1;refine g_name ?_;refine ⟨6,rfl,by decide,by decide,?_⟩;refine z1o (lo:=0) (n:=6) (λ j σ b=>∃(cs:List Int) (c:Int) (x3:Option V),Same H b/\b e=some (.lst (f.map V.int))/\b d=some (.lst (cs.map V.int))/\cs.length<=6 * i + j/\σ=[some (.ref sc),some (.ref d),some (.int c),x3]) ⟨cs,c,_,s3,q3,e3,l3,rfl⟩ ?_ ?_
   ·rintro j σ C W ⟨cs,c,x3,s4,q4,e4,l4,rfl⟩;refine g_name ?_;refine ⟨_,rfl,.inl ⟨rfl,_,SqL.of e4⟩,_,rfl,_,_,rfl,rfl,(show (0:Int) < 50 by decide),?_⟩;refine ⟨d,_,_,rfl,rfl,e4,X0 (m:=400) (by rw [I0];omega) (by decide),t_nx ?_⟩;refine ⟨_,rfl,_,_,rfl,rfl,(show CDivB c 50 from ⟨by decide,by decide⟩),g_name ?_⟩;exact ⟨cs++[_],_,_,Same.keep s4 g,up1 D q4,by rw [z04,V1];rfl,by rw [G0];show cs.length + 1<=_;omega,rfl⟩
   ·rintro σ C ⟨cs,c,x3,s4,q4,e4,l4,rfl⟩;exact ⟨cs,_,_,s4,q4,e4,by omega,rfl⟩
  ·rintro σ r ⟨cs,x2,x3,s3,q3,e3,l3,rfl⟩;rw [I0] at l3;exact ⟨_,rfl,q d cs r s3 g e3 (by omega)⟩
theorem go_end {pl:List (List (Option Int))} {bk:Bool} {N:LM} (h:(N.free pl).length + N.under.length=0) :∀cs:List Int,cs.foldl (λ N c=>N.go pl bk c) N=N
 | []=>rfl
 | c :: cs=>by have e:N.go pl bk c=N:=if_pos h;rw [U3,e];exact go_end h cs
theorem go_on {pl:List (List (Option Int))} {bk:Bool} {N:LM} {c:Int} (h:(N.free pl).length + N.under.length≠0):N.go pl bk c=N.moved pl bk (c % (((N.free pl).length:Int) + 2 * (N.under.length:Int))).toNat:=if_neg h
theorem zew {pl:List (List (Option Int))} {m:Nat} {bk:Bool} (g:PlG pl) (m35:m=3\/m=5) (cs:List Int) (hl:cs.length<=450):LOk pl (cs.foldl (λ N c=>N.go pl bk c) (LM.init m pl)) 900:=by have s:=zcf (pl:=pl) (bk:=bk) (m:=m) (by omega) cs;have a:=zbm cs (zc6 (bk:=bk) g (by omega) (by omega:m<=5));rw [G5] at a;exact lok_of s (a.m.le1 (by omega))
theorem Lw.rb {K:o0} {B H:Hp} {A:La} {es:List (Option OE)} {N:LM} {l:Addr} {o:HO} (h:Lw K B H A es N) (m:Imm H (upd H l o)) (n :∀p x,B p=none->H p=some x->p≠l):Lw K (upd B l o) (upd H l o) A es N:=by obtain ⟨i,e,f,d,q,b,r,j,k⟩:=h.ct;have g :∀p∈baseO A i e f (natV N.nxt) d (es.map oeV)++es.flatMap entO,p.1≠l:=λ p a=>n _ _ (b.fr p a) (b.c p a);exact ⟨⟨i,e,f,d,q,⟨λ p a=>by rw [upd_ne (g p a)];exact b.c p a,b.nd,λ p a=>by rw [upd_ne (g p a)];exact b.fr p a⟩,z00 (λ _ _ z=>z.imm m) r,z00 (λ _ _ z=>z.imm m) j,z00 (λ _ _ z=>z.imm m) k⟩,z00 (λ _ _ z=>OeO.imm m z) h.oe⟩
theorem Same.upd2 {B H:Hp} {l:Addr} {o:HO} (s:Same B H):Same (upd B l o) (upd H l o):=λ p x e=>by
 by_cases z:p=l
 ·subst z;rw [z04] at e⊢;exact e
 ·rw [upd_ne z] at e⊢;exact s _ _ e
def z4i (K:o0):Sp:=λ vs H Q _=>∃(sc:Addr) (ns:List Int) (m:Nat) (a:Addr) (bk:Bool) (su:Int) (pl:List (List (Option Int))),vs=[.ref sc,.int m,.ref a,.bl bk,.int su]/\SqL K H sc (ns.map V.int)/\(m=3\/m=5)/\PlR H a pl/\PlG pl/\
 ∀t lc x (cs:List Int) H',Same H H'->H' t=some (.tup [.ref lc,x])->H lc=none->H' lc=some (.lst (cs.map V.int))->cs.length<=360->Q (.ref t) H'
theorem z7t (T:TX (kx w) mg) (c5:Ca P w mg base "_law_begun" ["many","plan"] 1 (z2x (kx w))) (c6:Ca P w mg base "_law_mix" ["cell","k"] 1 z29) (c7:Ca P w mg base "_law_choice" ["state","plan","x","sure"] 2 (z4g (kx w))) (c8:Ca P w mg base "_law_free" ["state","plan"] 1 (z1r (kx w))) (c9:Ca P w mg base "_law_moved" ["state","plan","number","back"] 4 (z2y (kx w))):Fo P w mg base CX0 5 479 y0q ["script","many","plan","back","sure"] (z4i (kx w)):=by
 refine (z3a w.params).ok sc__law_guided (λ vs H Q E h=>?_) (λ e0 A d9 s H vs Q E D h=>?_)
 ·obtain ⟨sc,ns,m,a,bk,W,d,rfl,_⟩:=h;rfl
 ·obtain ⟨sc,ns,m,a,bk,W,d,rfl,sq,b5,M,g,q⟩:=h;refine ⟨_,(z02 (ps_set (i:=5) sc__law_guided.nd rfl (O1 rfl) (pe_cal c5 (D.mono (by decide)) rfl (z01 (pv 1) (z01 (pv 2) pa_nil))))
   (z02 (ps_set (i:=6) sc__law_guided.nd rfl (O1 rfl) (pe_lst pa_nil))
   (z02 (ps_for W2 rfl (z1l (z8a slSeq (pv 0) (z7n pe_int) (z7n pe_int))) (z0m (i:=7) sc__law_guided.nd rfl (O1 rfl))
   (z05 (ps_for W2 rfl (z0x rfl (T.no (z2a _)) (z01 pe_int pa_nil)) (z0m (i:=8) sc__law_guided.nd rfl (O1 rfl))
   (z02 (ps_set (i:=9) sc__law_guided.nd rfl (O1 rfl) (pe_cal c7 (D.mono (by decide)) rfl (z01 (pv 5) (z01 (pv 2) (z01 (pe_cal c6 (D.mono (by decide)) rfl (z01 (pv 7) (z01 (pe_op opAdd pe_int (pv 8)) pa_nil))) (z01 (pv 4) pa_nil))))))
   (z02 (ps_if (z09 op_isN (pv 9) pe_non (nomark _))
   (z05 (ps_ret (pe_tup (z01 (pv 6) (z01 (z0e (hu_of D) (pv 5) pe_str (λ _ _=>rfl)) pa_nil)))))
   z0d)
   (z02 (z0f (z0o (pv 6) (z01 (pv 9) pa_nil)))
   (z02 (ps_set (i:=10) sc__law_guided.nd rfl (O1 rfl) (pe_op opAdd (z06 z0i rfl (T.no (n_len _)) A2 (z01 (pe_cal c8 (D.mono (by decide)) rfl (z01 (pv 5) (z01 (pv 2) pa_nil))) pa_nil)) (pe_op op_mul pe_int (z06 z0i rfl (T.no (n_len _)) A2 (z01 (z0e (hu_of D) (pv 5) pe_str (λ _ _=>rfl)) pa_nil)))))
   (z05 (z0f (pe_cal c9 (D.mono (by decide)) rfl (z01 (pv 5) (z01 (pv 2) (z01 (pe_op op_mod (pv 9) (pv 10)) (z01 (pv 3) pa_nil))))))))))))))
   (z05 (ps_ret (pe_tup (z01 (pv 6) (z01 (z0e (hu_of D) (pv 5) pe_str (λ _ _=>rfl)) pa_nil)))))))),?_⟩
  obtain ⟨C,b7,ml⟩:=cut3 ns;have X:=g.n6;have d3 :∀own∈d,own.length<=24:=(zc6 (bk:=bk) g (by omega:0 < m) (by omega)).m.lw;obtain ⟨os,d7,d1⟩:=id M;refine z0b ⟨_,rfl,_,rfl,m,a,os,d,rfl,by omega,d7,z03 d1,X,λ f H1 s1 d5=>?_⟩;refine g_name ?_;refine z0b ⟨w_0,λ b a3=>g_name ?_⟩;have fl:=s1.free a3;have a6:=d5.rb (Imm.of (Same.upd (o:=.lst []) a3)) (λ p x _ e z=>by rw [z,a3] at e;cases e);have b2:Same H (upd H b (.lst [])):=Same.upd fl;have J:=Same.upd2 (l:=b) (o:=.lst []) s1;have a1:upd H b (.lst []) b=some (.lst []):=z04;generalize upd H1 b (.lst [])=H2 at a6 J⊢;generalize upd H b (.lst [])=B2 at a6 b2 J a1⊢;refine ⟨_,rfl,3,rfl,63,rfl,.inl ⟨sc,_,rfl,(b2.trans J).seq sq,λ v a0=>?_⟩⟩;rw [b7];have fq:=J.free a0;have a2:=a6.rb (Imm.of (Same.upd (o:=.lst (C.map V.int)) a0)) (λ p x _ e z=>by rw [z,a0] at e;cases e);have b3:Same B2 (upd B2 v (.lst (C.map V.int))):=Same.upd fq;have U:=Same.upd2 (l:=v) (o:=.lst (C.map V.int)) J;have a5:upd B2 v (.lst (C.map V.int)) v=some (.lst (C.map V.int)):=z04;generalize upd H2 v (.lst (C.map V.int))=H3 at a2 U⊢;generalize upd B2 v (.lst (C.map V.int))=B3 at a2 b3 U a5⊢;have nq:v≠b:=λ z=>by rw [z,a1] at fq;cases fq
  refine ⟨v,rfl,⟨_,SqL.of (U _ _ a5)⟩,?_⟩;have fin :∀{B r:Hp} {es:List (Option OE)} {cs:List Int} {N:LM} {σ:List (Option V)},Same H B->B b=some (.lst (cs.map V.int))->Same B r->Lw (kx w) B r f es N->cs.length<=360->DGet r f.st (.str "events") (some (.ref f.ev))/\∀t,r t=none->Q (.ref t) (upd r t (.tup [.ref b,.ref f.ev])):=λ {B r es cs N σ} hB el G a4 hc=>by obtain ⟨b1,hv,O,vv,Z,R,c2,c3,c4⟩:=a4.ct;refine ⟨Z.gev (R.at (a:=[])),λ t ht=>?_⟩;have u:=Same.upd (o:=.tup [.ref b,.ref f.ev]) ht;exact q t b _ cs _ ((hB.trans G).trans u) z04 fl (u _ _ (G _ _ el)) hc
  refine z65 (K:=KX w.params) (a:=v) (xs:=C.map V.int) (λ i σ r=>∃(B:Hp) (cs:List Int) (es:List (Option OE)) (x7 x8 x9 x10:Option V),Same H B/\B v=some (.lst (C.map V.int))/\B b=some (.lst (cs.map V.int))/\Same B r/\Lw (kx w) B r f es (cs.foldl (λ N c=>N.go d bk c) (LM.init m d))/\cs.length<=6 * i/\σ=[some (.ref sc),some (.int m),some (.ref a),some (.bl bk),some (.int W),some (.ref f.st),some (.ref b),x7,x8,x9,x10]) ⟨B3,[],_,_,_,_,_,b2.trans b3,a5,b3 _ _ a1,U,a2,J2 _,rfl⟩ (λ _ σ r _ h=>by obtain ⟨B,_,_,_,_,_,_,_,h,_,G,_⟩:=h;exact SqL.of (G _ _ h)) ?_ ?_
  ·rintro i y σ H4 hy ⟨B,cs,es,x7,x8,x9,x10,hB,e1,e2,s4,lw4,l4,rfl⟩;rw [S0] at hy;obtain ⟨c,hc,rfl⟩:=Option.map_eq_some_iff.mp hy;have hi:i < C.length:=(List.getElem?_eq_some_iff.mp hc).1;refine g_name ?_;refine ⟨6,rfl,by decide,by decide,?_⟩;refine z1o (lo:=0) (n:=6) (λ j σ r=>∃(B:Hp) (cs:List Int) (es:List (Option OE)) (x8 x9 x10:Option V),Same H B/\B v=some (.lst (C.map V.int))/\B b=some (.lst (cs.map V.int))/\Same B r/\Lw (kx w) B r f es (cs.foldl (λ N c=>N.go d bk c) (LM.init m d))/\cs.length<=6 * i + j/\σ=[some (.ref sc),some (.int m),some (.ref a),some (.bl bk),some (.int W),some (.ref f.st),some (.ref b),some (.int c),x8,x9,x10]) ⟨B,cs,es,_,_,_,hB,e1,e2,s4,lw4,l4,rfl⟩ ?_ ?_
   ·rintro j σ H5 hj ⟨B,cs,es,x8,x9,x10,hB,e1,e2,s5,lw5,l5,rfl⟩;have ok:=zew (bk:=bk) g b5 cs (by omega);have F :∀k,(cs++[k]).foldl (λ N c=>N.go d bk c) (LM.init m d)=(cs.foldl (λ N c=>N.go d bk c) (LM.init m d)).go d bk k:=λ k=>by rw [T5];rfl
    generalize cs.foldl (λ N c=>N.go d bk c) (LM.init m d)=N at lw5 ok F;refine g_name ?_;have pB:=M.same hB;have j6:j < 6:=hj;refine z0b ⟨_,rfl,_,rfl,_,rfl,_,rfl,.inl ⟨_,_,rfl,rfl,c,_,rfl,by omega,by omega,_,rfl,f,a,_,W,B,es,N,d,900,rfl,lw5,pB,X,ok,by decide,s5,λ H6 I z0=>g_name ?_,λ k H6 I nz=>g_name ?_⟩⟩
    ·obtain ⟨f1,f2⟩:=fin (σ:=[]) hB e2 (s5.trans I) (lw5.same I) (by omega);exact sq_if ⟨_,rfl,rfl,_,rfl,iteP rfl ⟨_,rfl,_,rfl,f.st,_,rfl,f1,w_2,f2⟩⟩
    refine sq_if ⟨_,rfl,rfl,_,rfl,iteN (λ z=>by cases of_decide_eq_true z) (t_nx ?_)⟩;have a8:=s5.trans I;have e6:=a8 _ _ e2;have Y:=(lw5.same I).rb (l:=b) (o:=.lst (cs.map V.int++[.int k])) (Imm.lst e6) (λ p x eb _ z=>by rw [z,e2] at eb;cases eb);refine ⟨_,rfl,.inl ⟨rfl,_,SqL.of e6⟩,_,rfl,?_⟩;refine ⟨b,_,_,rfl,rfl,e6,X0 (m:=400) (by rw [I0];omega) (by decide),t_nx ?_⟩;have L:Same H (upd B b (.lst (cs.map V.int++[.int k]))):=Same.keep hB fl;have b0:upd B b (.lst (cs.map V.int++[.int k])) v=some (.lst (C.map V.int)):=up1 nq e1;have a9:upd B b (.lst (cs.map V.int++[.int k])) b=some (.lst ((cs++[k]).map V.int)):=by rw [z04,V1];rfl
    have S:=Same.upd2 (l:=b) (o:=.lst (cs.map V.int++[.int k])) a8;generalize upd H6 b (.lst (cs.map V.int++[.int k]))=H7 at Y S⊢;generalize upd B b (.lst (cs.map V.int++[.int k]))=B7 at Y L b0 a9 S;refine z0b ⟨_,rfl,_,rfl,f,a,B7,es,N,d,rfl,Y,M.same (L.trans S),X,ok.ol,ok.nl,λ lf H8 s8 d8 d4=>?_⟩;have a7:=Y.same s8;have d6:=S.trans s8;have b9:(natV (N.free d)).length=(N.free d).length:=I0 ..;obtain ⟨b1,hv,O,vv,Z,R,c2,c3,c4⟩:=id a7.ct;have b8:H8 f.st=some (.dK b1):=R.at (a:=[]);have b6:H8 f.un=some (.lst O):=R.at (a:=[_,_]);have d0:O.length=N.under.length:=z03 c3;have ul:=ok.ul;refine .inl ⟨lf,_,rfl,.inl (SqL.of d4),_,rfl,f.st,_,rfl,Z.gun b8,.inl ⟨f.un,O,rfl,.inl (SqL.of b6),2,_,rfl,rfl,.inl ⟨by decide,by decide⟩,.inl ⟨_,_,rfl,rfl,g_name ?_⟩⟩⟩;rw [b9,d0];have b4:(0:Int) < ((N.free d).length:Nat) + 2 * (N.under.length:Nat):=by omega
    have h0:=N6 k (by omega:(((N.free d).length:Nat) + 2 * (N.under.length:Nat):Int)≠0);have h1:=J5 k b4;have ec:k % (((N.free d).length:Nat) + 2 * (N.under.length:Nat):Int)=(((k % (((N.free d).length:Int) + 2 * (N.under.length:Int))).toNat:Nat):Int):=(K9 h0).symm;have F:=F k;rw [go_on nz] at F;refine ⟨_,rfl,_,rfl,_,rfl,_,rfl,_,_,rfl,rfl,b4,?_⟩;generalize hkk:(k % (((N.free d).length:Int) + 2 * (N.under.length:Int))).toNat=kk at F ec;refine ⟨_,rfl,f,a,kk,bk,B7,es,N,d,900,?_,a7,M.same L,X,d3,ok,by decide,by omega,d6,λ d2 r G a4=>⟨B7,cs++[k],d2,_,_,_,L,b0,a9,G,by rw [F];exact a4,by rw [G0];show cs.length + 1<=_;omega,rfl⟩⟩;rw [<-ec];rfl
   ·rintro σ H5 ⟨B,cs,es,x8,x9,x10,hB,e1,e2,s5,lw5,l5,rfl⟩;exact ⟨B,cs,es,_,_,_,_,hB,e1,e2,s5,lw5,by omega,rfl⟩
  ·rintro σ H4 ⟨B,cs,es,x7,x8,x9,x10,hB,e1,e2,s4,lw4,l4,rfl⟩;rw [I0] at l4;obtain ⟨f1,f2⟩:=fin (σ:=[]) hB e2 s4 lw4 (by omega);exact ⟨_,rfl,_,rfl,f.st,_,rfl,f1,w_2,f2⟩
theorem ev_of {H:Hp} {e:CEv} {y:V} (h:HPd H (evP e) y):EvV H e y:=by
 cases e with
 | beg k d=>obtain ⟨p,w,rfl,f,b,t,rfl,m,g,v,rfl,l,i,n,rfl,c,o,x,rfl,u,q,r,rfl,s,j⟩:=h;cases (show r=[] from j);cases (show b=_ from m);cases (show g=_ from l);cases (show i=_ from c);cases (show o=_ from u);refine ⟨p,rfl,?_⟩;cases d<;>(cases (show q=_ from s);exact f)
 | fin k a=>obtain ⟨p,w,rfl,f,b,t,rfl,m,g,v,rfl,l,i,n,rfl,c,j⟩:=h;cases (show n=[] from j);cases (show b=_ from m);cases (show g=_ from l);refine ⟨p,rfl,?_⟩;cases a<;>(cases (show i=_ from c);exact f)
theorem zje (ns:List Int):(ns.map V.int).all flatV=true:=List.all_eq_true.mpr λ y a=>by obtain ⟨c,_,rfl⟩:=List.mem_map.mp a;rfl
def z1m (K:o0):Sp:=λ vs H Q _=>∃(ep:Addr) (ys:List V) (es:List CEv),vs=[.ref ep]/\H ep=some (.tup ys)/\All2 (EvV H) es ys/\es.length<=1000/\AR es/\∀H',Same H H'->Q (.bl true) H'
theorem z3f (T:TX (kx w) mg):Fo P w mg base CX0 1 498 y08 ["events"] (z1m (kx w)):=by
 refine (z12 w.params).ok sc__law_answers_right (λ W H Q E h=>?_) (λ X A a1 s H W Q E Y h=>?_)
 ·obtain ⟨f,D,c,rfl,_⟩:=h;rfl
 ·obtain ⟨f,D,c,rfl,z,L,a0,M,q⟩:=h;refine ⟨_,(z02 (ps_set (i:=1) sc__law_answers_right.nd rfl (O1 rfl) (pe_lst (z01 pe_int pa_nil)))
   (z02 (ps_for W2 rfl (pi_tup (pv 0)) (z0m (i:=2) sc__law_answers_right.nd rfl (O1 rfl))
   (z02 (ps_if (PW.pt (pw_and (z09 opEq (pe_ix ix_seq (pv 2) pe_int (λ _ _=>rfl)) pe_str (nomark _)) (z27 (z09 opEq (pe_ix ix_seq (pv 2) pe_int (λ _ _=>rfl)) pe_str (nomark _)))))
   (z05 (z0f (z0o (pv 1) (z01 (pe_ix ix_seq (pv 2) pe_int (λ _ _=>rfl)) pa_nil))))
   z0d)
   (z05 (ps_if (PW.pt (pw_and (z09 opEq (pe_ix ix_seq (pv 2) pe_int (λ _ _=>rfl)) pe_str (nomark _)) (pw_and (z09 opNe (pe_ix ix_seq (pv 2) pe_int (λ _ _=>rfl)) pe_str (nomark _)) (z27 (z09 z66 (pe_ix ix_seq (pv 2) pe_int (λ _ _=>rfl)) (pv 1) (by with_unfolding_all rfl))))))
   (z05 (ps_ret pe_bl))
   z0d))))
   (z05 (ps_ret pe_bl)))),?_⟩
  refine z0b ⟨w_1,λ l B=>g_name ?_⟩;obtain ⟨H1,J,C,S⟩:=newA (.lst [.int 0]) B;rw [<-J];refine ⟨_,rfl,f,rfl,⟨_,SqT.of (C _ _ z)⟩,?_⟩;refine zka (K:=KX w.params) (a:=f) (xs:=D) (λ i σ g=>Same H g/\g l=some (.lst ((Wo (c.take i)).map V.int))/\∃x,σ=[some (.ref f),some (.ref l),x]) ⟨C,S,_,rfl⟩ (λ _ σ g _ h=>SqT.of (h.1 _ _ z)) ?_ ?_;rotate_left
  ·rintro σ u ⟨s2,_,x,rfl⟩;exact q _ s2
  rintro i y σ u O ⟨s2,e2,x,rfl⟩;obtain ⟨e,n,N⟩:=z0k L O;have Z:i < c.length:=(List.getElem?_eq_some_iff.mp n).1;have G:=N.imm (Imm.of s2);have r:Wo (c.take (i + 1))=Wo (c.take i)++(match wrI e with|some w=>[w]|none=>[]):=by
   unfold Wo;rw [j1b,n,W8];show _ :: (_++([e].filterMap wrI))=_;cases e with
   | beg k d=>cases d<;>rfl
   | fin k a=>rfl
  have U:(Wo (c.take i)).length<=1001:=by show (List.filterMap wrI (c.take i)).length + 1<=1001;have:=g8 wrI (c.take i);rw [A6] at this;omega
  refine g_name ?_;cases e with
  | beg k d=>
   obtain ⟨p,rfl,b⟩:=G;refine sq_if (t_and ⟨_,rfl,.inr (.inl ⟨p,_,0,_,rfl,rfl,SqT.of b,z08 (j:=0) rfl,rfl,_,rfl,iteP (decide_eq_true rfl) ?_⟩)⟩);cases d with
   | some v=>refine ⟨_,rfl,.inr (.inl ⟨p,_,3,_,rfl,rfl,SqT.of b,z08 (j:=3) rfl,rfl,_,rfl,iteP (decide_eq_true rfl) ?_⟩)⟩;refine ⟨_,rfl,.inl ⟨rfl,_,SqL.of e2⟩,_,rfl,.inr (.inl ⟨p,_,4,_,rfl,rfl,SqT.of b,z08 (j:=4) rfl,l,_,_,rfl,rfl,e2,X0 (m:=1001) (by rw [I0];exact U) (by decide),t_nx ?_⟩)⟩;have I:=(Imm.lst (o:=.lst ((Wo (c.take i)).map V.int++[wvD (some v)])) e2).t _ _ b;refine z15 (t_and ⟨_,rfl,.inr (.inl ⟨p,_,0,_,rfl,rfl,SqT.of I,z08 (j:=0) rfl,rfl,_,rfl,iteK (iteF ?_)⟩)⟩);exact ⟨Same.keep s2 B,by rw [z04,r,V1];rfl,_,rfl⟩
   | none=>refine ⟨_,rfl,.inr (.inl ⟨p,_,3,_,rfl,rfl,SqT.of b,z08 (j:=3) rfl,rfl,_,rfl,iteK (t_nx ?_)⟩)⟩;refine z15 (t_and ⟨_,rfl,.inr (.inl ⟨p,_,0,_,rfl,rfl,SqT.of b,z08 (j:=0) rfl,rfl,_,rfl,iteK (iteF ?_)⟩)⟩);exact ⟨s2,by rw [r];exact e2.trans (by rw [show (match wrI (.beg k none) with|some w=>[w]|none=>[])=([]:List Int) from rfl,L1]),_,rfl⟩
  | fin k a=>
   obtain ⟨p,rfl,b⟩:=G;have F:u l=some (.lst ((Wo (c.take (i + 1))).map V.int)):=by rw [r];exact e2.trans (by rw [show (match wrI (.fin k a) with|some w=>[w]|none=>[])=([]:List Int) from rfl,L1])
   refine sq_if (t_and ⟨_,rfl,.inr (.inl ⟨p,_,0,_,rfl,rfl,SqT.of b,z08 (j:=0) rfl,rfl,_,rfl,iteK (iteF (t_nx ?_))⟩)⟩);refine z15 (t_and ⟨_,rfl,.inr (.inl ⟨p,_,0,_,rfl,rfl,SqT.of b,z08 (j:=0) rfl,rfl,_,rfl,iteP (decide_eq_true rfl) ?_⟩)⟩);cases a with
   | none=>exact t_and ⟨_,rfl,.inr (.inl ⟨p,_,2,_,rfl,rfl,SqT.of b,z08 (j:=2) rfl,rfl,_,rfl,iteK (iteF ⟨s2,F,_,rfl⟩)⟩)⟩
   | some v=>have R:=M i k v n;refine t_and ⟨_,rfl,.inr (.inl ⟨p,_,2,_,rfl,rfl,SqT.of b,z08 (j:=2) rfl,rfl,_,rfl,iteP (by simp [avD]) ?_⟩)⟩;refine ⟨_,rfl,.inr (.inl ⟨p,_,2,_,rfl,rfl,SqT.of b,z08 (j:=2) rfl,_,rfl,l,_,rfl,.inl (SqL.of e2),rfl,zje _,_,rfl,iteN ?_ ⟨s2,F,_,rfl⟩⟩)⟩;show ¬ (!inV (.int v) ((Wo (c.take i)).map V.int))=true;rw [z5y,decide_eq_true R];decide
theorem z95 {α β:Type} {R:α->β->Prop} :∀{xs:List α} {x:α} {ys:List β},All2 R (xs++[x]) ys->∃ys' y,ys=ys'++[y]/\All2 R xs ys'/\R x y
 | [],x,_,.cons a .nil=>⟨[],_,rfl,.nil,a⟩
 | z :: xs,x,_,.cons a r=>by obtain ⟨ys',y,rfl,b,c⟩:=z95 r;exact ⟨_ :: ys',y,rfl,.cons a b,c⟩
theorem zag {α β:Type} {S:α->β->Prop} {q:α->Bool} {es:List α} :∀(n:Nat),n<=es.length->∀{ws:List β},All2 (λ i y=>∀e,es[i]? = some e->S e y) ((W0 n).filter λ i=>(es[i]?.map q).getD false) ws->All2 S ((es.take n).filter q) ws
 | 0,_,ws,h=>by cases h;exact .nil
 | n + 1,hn,ws,h=>by
  have e:es[n]? = some es[n]:=A0 hn;rw [S8,S4] at h;rw [j1b,e,S4];by_cases z:q es[n]=true
  ·rw [u3 (by rw [e];exact z)] at h;obtain ⟨c,y,rfl,a,b⟩:=z95 h;show All2 S (_++[es[n]].filter q) _;rw [u3 z];exact z1g (zag n (by omega) a) (b _ e)
  ·rw [N3 (by rw [e];exact z)] at h;show All2 S (_++[es[n]].filter q) _;rw [N3 z,List.filter_nil,L1];rw [List.filter_nil,L1] at h;exact zag n (by omega) h
theorem ne_ok {a d:Option Int} (ha:a.isNone=d.isSome):¬ (!decide (V.bl (decide (avD a=.str "ok"))=V.bl (decide (V.str (vbD d)=.str "write"))))=true:=by
 have b:decide (avD a=V.str "ok")=decide (V.str (vbD d)=V.str "write"):=by
  cases a with
  | none=>cases d with
   | none=>cases ha
   | some w=>exact (decide_eq_true rfl).trans (decide_eq_true (show V.str "write" = V.str "write" from rfl)).symm
  | some v=>cases d with
   | none=>exact (decide_eq_false (λ z=>by cases z)).trans (decide_eq_false (show ¬ V.str "read" = V.str "write" by decide +kernel)).symm
   | some w=>cases ha
 rw [b,decide_eq_true rfl];decide
def z26 (K:o0):Sp:=λ vs H Q _=>∃(ep b:Addr) (h:Nat) (ys zs:List V) (es:List CEv) (row:List (Option Int)),vs=[.ref ep,.ref b,.int (h:Nat)]/\H ep=some (.tup ys)/\All2 (EvV H) es ys/\es.length<=1000/\H b=some (.lst zs)/\All2 (DdV H) row zs/\HRt row h (own h es)/\∀H',Same H H'->Q (.bl true) H'
theorem z54 (T:TX (kx w) mg):Fo P w mg base CX0 1 491 y0d ["events","row","hand"] (z26 (kx w)):=by
 refine (z1k w.params).ok sc__law_hand_right (λ vs H Q E h=>?_) (λ b3 A b2 s H vs Q E hr h=>?_)
 ·obtain ⟨X,b,h,ys,L,f,row,rfl,_⟩:=h;rfl
 ·obtain ⟨X,b,h,ys,L,f,row,rfl,ee,al,b0,eb,az,a2,q⟩:=h;have ly:=z03 al;have lz:=z03 az;refine ⟨_,(z02 (zbu (i:=3) sc__law_hand_right.nd rfl (O1 rfl) (xs:=["event"]) (g:=gName 0) (fr:=[(2,"hand")]) rfl (pi_tup (pv 0)) (by intro p hp;obtain rfl:=List.mem_singleton.mp hp;first|exact ⟨rfl,.inl rfl⟩|exact ⟨rfl,.inr rfl⟩) (zfz (n:="hand") (by decide +kernel) (λ _=>by first|exact .inl rfl|exact .inr rfl)) (by intro p hp;obtain rfl:=List.mem_singleton.mp hp;exact ⟨by decide +kernel,by first|exact .inl rfl|exact .inr rfl⟩) (by decide +kernel) rfl (by decide +kernel) (λ _ _ _ _ _=>(pg_cn (N:=["event","hand"]) 0)) (λ _ _ _ _ _=>(pf_one (z09 opEq (pe_ix (z5z (K:=KX w.params) rfl) (pv 0) pe_int (λ _ _=>rfl)) (pv 1) (nomark _)))) (λ _ _ _ _ _=>(pv 0)))
   (z02 (ps_for W2 rfl (z0x rfl (T.no (z2a _)) (z01 (z06 z0i rfl (T.no (n_len _)) A2 (z01 (pv 3) pa_nil)) pa_nil)) (z0m (i:=4) sc__law_hand_right.nd rfl (O1 rfl))
   (z02 (ps_if (PW.pt (pw_and (z09 opEq (pe_op op_mod (pv 4) pe_int) pe_int (nomark _)) (z27 (z09 op_ge (pe_op z1e (pv 4) pe_int) (z06 z0i rfl (T.no (n_len _)) A2 (z01 (pv 1) pa_nil)) (nomark _)))))
   (z05 (ps_ret pe_bl))
   z0d)
   (z02 (ps_if (PW.pt (pw_and (z09 opEq (pe_op op_mod (pv 4) pe_int) pe_int (nomark _)) (z27 (z09 (op_neS hr) (pe_ix ix_seq (pv 3) (pv 4) (λ _ _=>rfl)) (pe_op opAdd (pe_tup (z01 pe_str (z01 (pv 2) (z01 pe_str pa_nil)))) (pe_ix ix_seq (pv 1) (pe_op z1e (pv 4) pe_int) (λ _ _=>rfl))) (nomark _)))))
   (z05 (ps_ret pe_bl))
   z0d)
   (z02 (ps_if (PW.pt (pw_and (z09 opEq (pe_op op_mod (pv 4) pe_int) pe_int (nomark _)) (z27 (z09 opNe (pe_ix ix_seq (pe_ix ix_seq (pv 3) (pv 4) (λ _ _=>rfl)) pe_int (λ _ _=>rfl)) pe_str (nomark _)))))
   (z05 (ps_ret pe_bl))
   z0d)
   (z05 (ps_if (PW.pt (pw_and (z09 opEq (pe_op op_mod (pv 4) pe_int) pe_int (nomark _)) (z27 (z09 opNe (z28 opEq (pe_ix ix_seq (pe_ix ix_seq (pv 3) (pv 4) (λ _ _=>rfl)) pe_int (λ _ _=>rfl)) pe_str (nomark _)) (z28 opEq (pe_ix ix_seq (pe_ix ix_seq (pv 3) (pe_op op_sub (pv 4) pe_int) (λ _ _=>rfl)) pe_int (λ _ _=>rfl)) pe_str (nomark _)) (nomark _)))))
   (z05 (ps_ret pe_bl))
   z0d))))))
   (z05 (ps_ret pe_bl)))),?_⟩
  refine z0b ?_;refine zc1 (K:=KX w.params) (a:=X) (xs:=ys) (H1:=H) (λ i=>(f[i]?.map λ e=>evH e == h).getD false) (λ i y H'=>∀e,f[i]? = some e->EvV H' e y) (λ _ _ _ _ s z e C=>(z e C).imm (Imm.of s)) (λ R h=>⟨_,rfl,h⟩) (SqT.of ee) (N0 (m:=1000) (by omega) (by decide)) ?_ ?_
  ·intro j W v H3 u hv KT KF h1 h2;obtain ⟨e,C,U⟩:=z0k al hv;have a0:=U.imm (Imm.of u);rw [C] at h1 h2;refine ⟨[some v],rfl,rfl,?_⟩;obtain ⟨p,xs,rfl,B,hx⟩ :∃p xs,v=V.ref p/\H3 p=some (.tup xs)/\xs[1]? = some (.int (evH e:Nat)):=by
    cases e with
    | beg k d=>exact a0.elim λ p z=>⟨p,_,z.1,z.2,rfl⟩
    | fin k a=>exact a0.elim λ p z=>⟨p,_,z.1,z.2,rfl⟩
   refine ⟨_,rfl,.inr (.inl ⟨p,xs,1,_,rfl,rfl,SqT.of B,z08 (j:=1) hx,_,rfl,rfl,_,rfl,?_⟩)⟩;refine ite2 (λ z=>?_) λ z=>?_
   ·have z:=of_decide_eq_true z;injection z with z;exact ⟨_,rfl,h1 (beq_iff_eq.mpr (Int.ofNat_inj.mp z)) _ _ (Same.refl _) λ e' Z=>by cases Z;exact a0⟩
   ·exact h2 (beq_eq_false_iff_ne.mpr λ y=>z (decide_eq_true (by rw [y]))) _ (Same.refl _)
  intro l H2 c s2 hl a4;rw [ly] at a4;have S:=zag f.length (K0 _) a4;rw [List.take_length] at S;have lw:=z03 S;have lo:(own h f).length<=f.length:=Q5 _ _;have u:=s2.trans (Same.upd (o:=.lst c) hl);have el:upd H2 l (.lst c) l=some (.lst c):=z04;have a1:All2 (EvV (upd H2 l (.lst c))) (own h f) c:=z00 (λ _ _ z=>z.imm (Imm.of (Same.upd (o:=.lst c) hl))) S;generalize upd H2 l (.lst c)=H3 at u el a1⊢;have lw:c.length<=1000:=by rw [lw];exact N0 lo b0
  refine g_name ?_;refine ⟨_,rfl,.inl ⟨l,c,rfl,.inl (SqL.of el),_,rfl,?_⟩⟩;refine ⟨by omega,by omega,?_⟩;refine z1o (lo:=0) (n:=c.length) (λ _ σ H'=>Same H3 H'/\∃x,σ=[some (.ref X),some (.ref b),some (.int (h:Nat)),some (.ref l),x]) ⟨Same.refl _,_,rfl⟩ ?_ ?_;rotate_left
  ·rintro σ H4 ⟨s4,x,rfl⟩;exact q _ (u.trans s4)
  rintro j σ H4 W ⟨s4,x,rfl⟩;refine g_name ?_;have J:=s4 _ _ el;have a6:=s4 _ _ (u _ _ eb);have W:j < c.length:=by omega
  obtain ⟨y,O⟩ :∃y,c[j]? = some y:=⟨_,A0 W⟩
  obtain ⟨e,C,U⟩:=z0k a1 O;have a3:=U.imm (Imm.of s4);rw [V6];rcases Nat.mod_two_eq_zero_or_one j with jm|jm
  ·obtain ⟨t,rfl⟩ :∃t,j=2 * t:=⟨j / 2,by omega⟩
   obtain ⟨d,M,rfl⟩:=a2.ev t e C;have G:decide (V.int (((2 * t:Nat):Int) % 2)=V.int 0)=true:=decide_eq_true (congrArg V.int (by omega));have F:¬ decide (V.int (((2 * t:Nat):Int) % 2)=V.int 1)=true:=λ z=>by have z:=of_decide_eq_true z;injection z with z;omega
   have ed:((2 * t:Nat):Int) / 2=(t:Nat):=by omega
   have ht:t < row.length:=(List.getElem?_eq_some_iff.mp M).1;obtain ⟨z,hz⟩ :∃z,L[t]? = some z:=⟨_,A0 (by omega)⟩
   obtain ⟨d2,D,p2,rfl,B⟩:=z0k az hz;rw [M] at D;cases D;refine sq_if (t_and ⟨_,rfl,_,_,rfl,rfl,(show (0:Int) < 2 by decide),rfl,_,rfl,iteP G ?_⟩);refine ⟨_,rfl,_,_,rfl,rfl,(show CDivB ((2 * t:Nat):Int) 2 from ⟨by decide,by decide⟩),_,rfl,.inl ⟨b,L,rfl,.inl (SqL.of a6),_,_,rfl,rfl,_,rfl,iteN (λ z=>by have z:=of_decide_eq_true z;omega) (t_nx ?_)⟩⟩;refine sq_if (t_and ⟨_,rfl,_,_,rfl,rfl,(show (0:Int) < 2 by decide),rfl,_,rfl,iteP G ?_⟩);refine ⟨_,rfl,_,rfl,.inl ⟨l,c,_,y,rfl,rfl,SqL.of J,z08 O,_,rfl,w_3,λ p1 a8=>?_⟩⟩;obtain ⟨H5,v_,I,e5⟩:=newA (.tup [.str "begin",.int (h:Nat),.str "r"]) a8;rw [<-v_];refine ⟨_,rfl,_,rfl,_,_,rfl,rfl,(show CDivB ((2 * t:Nat):Int) 2 from ⟨by decide,by decide⟩),.inl ⟨b,L,_,.ref p2,rfl,rfl,SqL.of (I _ _ a6),by rw [ed];exact z08 hz,.inr (.inr (.inr ⟨p1,p2,_,_,rfl,rfl,SqT.of e5,SqT.of (I _ _ (s4 _ _ (u _ _ B))),List.cons_ne_nil _ _,(show 3 + 2<=sizeLine by decide),λ z=>(by cases z),λ _ p9 a7=>?_⟩))⟩⟩;have s6:=Same.upd (o:=.tup [.str "begin",.int (h:Nat),.str "r",.str (vbD d),wvD d]) a7;have e6:HPd (upd H5 p9 (.tup [.str "begin",.int (h:Nat),.str "r",.str (vbD d),wvD d])) (evP (.beg h d)) (.ref p9):=ev_hpd (e:=.beg h d) ⟨p9,rfl,z04⟩;refine ⟨_,.inr ⟨ev_hpd (a3.imm (Imm.of (I.trans s6))),e6⟩,(by cases d<;>simp [wP,j2c,F2]),_,rfl,iteN (by decide) (t_nx ?_)⟩;refine sq_if (t_and ⟨_,rfl,_,_,rfl,rfl,(show (0:Int) < 2 by decide),rfl,_,rfl,iteN F (iteF (t_nx ?_))⟩);refine z15 (t_and ⟨_,rfl,_,_,rfl,rfl,(show (0:Int) < 2 by decide),rfl,_,rfl,iteN F (iteF ?_)⟩);exact ⟨s4.trans (I.trans s6),_,rfl⟩
  ·obtain ⟨t,rfl⟩ :∃t,j=2 * t + 1:=⟨j / 2,by omega⟩
   obtain ⟨d,a,M,rfl,ha⟩:=a2.od t e C;have F:decide (V.int (((2 * t + 1:Nat):Int) % 2)=V.int 1)=true:=decide_eq_true (congrArg V.int (by omega));have G:¬ decide (V.int (((2 * t + 1:Nat):Int) % 2)=V.int 0)=true:=λ z=>by have z:=of_decide_eq_true z;injection z with z;omega
   obtain ⟨p,rfl,B⟩:=a3;obtain ⟨y',a5⟩ :∃y,c[2 * t]? = some y:=⟨_,A0 (by omega)⟩
   obtain ⟨e',Z,b1⟩:=z0k a1 a5;obtain ⟨d',D,rfl⟩:=a2.ev t e' Z;rw [M] at D;cases D;obtain ⟨p',rfl,a9⟩:=b1.imm (Imm.of s4);have ed:((2 * t + 1:Nat):Int) - 1=(2 * t:Nat):=by omega
   refine sq_if (t_and ⟨_,rfl,_,_,rfl,rfl,(show (0:Int) < 2 by decide),rfl,_,rfl,iteN G (iteF (t_nx ?_))⟩);refine sq_if (t_and ⟨_,rfl,_,_,rfl,rfl,(show (0:Int) < 2 by decide),rfl,_,rfl,iteN G (iteF (t_nx ?_))⟩);refine sq_if (t_and ⟨_,rfl,_,_,rfl,rfl,(show (0:Int) < 2 by decide),rfl,_,rfl,iteP F ?_⟩);refine ⟨_,rfl,_,rfl,.inl ⟨l,c,_,.ref p,rfl,rfl,SqL.of J,z08 O,.inr (.inl ⟨p,_,0,_,rfl,rfl,SqT.of B,z08 (j:=0) rfl,rfl,_,rfl,iteK (t_nx ?_)⟩)⟩⟩;refine z15 (t_and ⟨_,rfl,_,_,rfl,rfl,(show (0:Int) < 2 by decide),rfl,_,rfl,iteP F ?_⟩);have fin :∀Y:V,avD a=Y->scal Y (.str "ok")=true:=λ Y e=>by rw [<-e];cases a<;>rfl
   refine ⟨_,rfl,_,rfl,.inl ⟨l,c,_,.ref p,rfl,rfl,SqL.of J,z08 O,.inr (.inl ⟨p,_,2,_,rfl,rfl,SqT.of B,z08 (j:=2) rfl,fin _ rfl,?_⟩)⟩⟩;refine ⟨_,rfl,_,rfl,_,_,rfl,rfl,.inl ⟨l,c,_,.ref p',rfl,rfl,SqL.of J,by rw [ed];exact z08 a5,.inr (.inl ⟨p',_,3,_,rfl,rfl,SqT.of a9,z08 (j:=3) rfl,rfl,rfl,_,rfl,iteN ?_ ⟨s4,_,rfl⟩⟩)⟩⟩;exact ne_ok ha
section
variable {X:Cx}
noncomputable def rEqD:R2:=λ x y H Q=>∃ds,HPd H (.tuple ds) x/\HPd H (.tuple ds) y/\F2 ds<=49/\Q (.bl true) H
theorem op_eqD {k:Nat} (hr:Room k X.A):OpR X (X2 .Eq) rEqD:=by
 intro N s σ H x y u v Q I C r h;obtain ⟨f,o,D,M,q⟩:=h;have P:=hr.units;obtain ⟨a,E,rfl,F,c⟩:=o;obtain ⟨b,z,rfl,t,g⟩:=D;cases (show u=.ref a from C);cases (show v=.ref b from r);obtain ⟨l,m,n,_⟩:=I.tuple (SqT.of F);obtain ⟨i,d,p,_⟩:=I.tuple (SqT.of t);have O:=m.length;have L:=d.length;have K:=c.length;have R:=g.length;have B:SeqAt.RcAt X.A s (.ref a) (.ref b) true:=by
  have:=j2f (A:=X.A) (e:=λ _=>true) n p (by omega) (λ j G J=>?_)
  ·rw [z9a,N5] at this
   rwa [show (l.toArray.size == i.toArray.size)=true by simp;omega] at this
  ·have:=z4r I f X.A.in1 E z l i c g m d (show X.A.units + 1 + F2 f + 1 < cLine by omega) j (by simpa using G) (by simpa using J);simpa using this
 exact B X.prog X.w _ _ ⟨.bl _,H,I,rfl,q⟩
end
theorem zg2 {c:TT} {tb:TS} {D:Ends} {σ:L2.St} {H:Hp} (W B:Nat->L2.St->Hp->Prop) (m0:Nat) (w0:W m0 σ H)
  (body :∀m σ H1,B m σ H1->tb { D with nx:=λ σ' H'=>∃m',m' < m/\W m' σ' H',ct:=λ σ' H'=>∃m',m' < m/\W m' σ' H',bk:=D.nx } σ H1)
  (cond :∀m σ H,W m σ H->(∀H1,B m σ H1->∃N:L2.St->Hp->Prop,(∀σ' H',N σ' H'->∃m',m' < m/\W m' σ' H')/\tb { D with nx:=N,ct:=N,bk:=D.nx } σ H1)->c σ H λ b H1=>if b=true then∃N:L2.St->Hp->Prop,(∀σ' H',N σ' H'->∃m',m' < m/\W m' σ' H')/\tb { D with nx:=N,ct:=N,bk:=D.nx } σ H1 else D.nx σ H1):tWhile c tb D σ H:=
 ⟨W,⟨m0,w0⟩,λ m σ H h=>cond m σ H h λ H1 b=>⟨_,λ _ _ z=>z,body m σ H1 b⟩⟩
theorem zjo {c:TT} {tb rest:TS} {D:Ends} {σ:L2.St} {H:Hp} (h:tWhile c tb { D with nx:=rest D } σ H):tSeq (tWhile c tb) rest D σ H:=h
theorem zj8 (e:CEv):(evP e).depth<=3:=by
 cases e with
 | beg h d=>cases d<;>simp [evP,wP,j2c,F2]
 | fin h a=>cases a<;>simp [evP,aP,j2c,F2]
theorem zbq (es:List CEv):F2 (es.map evP)<=3:=zaq λ d a=>by obtain ⟨e,_,rfl⟩:=List.mem_map.mp a;exact zj8 e
theorem zer (es:List CEv):F2 [.tuple [.tuple [.str "r",.str "register"]],.tuple (es.map evP)]<=49:=by
 have h:=zbq es;refine zaq λ d a=>?_;rcases List.mem_cons.mp a with rfl|a
 ·decide
 ·rw [List.mem_singleton.mp a];show F2 (es.map evP) + 1<=49;omega
structure RO (K:o0) (H:Hp) (pl:List (List (Option Int))) (m:Nat) (bk:Bool) (A:La) (lc:Addr) (B H':Hp) (cs:List Int) (es:List (Option OE)):Prop where
 hB:Same H B
 el:B lc=some (.lst (cs.map V.int))
 s:Same B H'
 lw:Lw K B H' A es (cs.foldl (λ N c=>N.go pl bk c) (LM.init m pl))
 l:cs.length<=390
def z3h (K:o0):Sp:=λ vs H Q _=>∃(sc:Addr) (ns:List Int) (m:Nat) (a:Addr) (bk:Bool) (pl:List (List (Option Int))),vs=[.ref sc,.int m,.ref a,.bl bk]/\SqL K H sc (ns.map V.int)/\(m=3\/m=5)/\HPd H (.list (rowsP pl)) (.ref a)/\PlG pl/\∀H',Q (.bl true) H'
theorem z75 (T:TX (kx w) mg) (c5:Ca P w mg base "_law_begun" ["many","plan"] 1 (z2x (kx w))) (c6:Ca P w mg base "_law_free" ["state","plan"] 1 (z1r (kx w))) (c7:CaE P w mg base "run_copies" ["many","plan","choices","back"] 9 (z30 (kx w))) (c8:Ca P w mg base "_law_mix" ["cell","k"] 1 z29) (c9:Ca P w mg base "_law_cell_at" ["script","k"] 1 (z1f (kx w))) (c10:Ca P w mg base "_law_moved" ["state","plan","number","back"] 4 (z2y (kx w))):Fo P w mg base CX0 10 505 y0i ["script","many","plan","back"] (z3h (kx w)):=by
 refine (z2d w.params).ok sc__law_run_out (λ vs H Q E h=>?_) (λ e2 A e1 s H vs Q E j h=>?_)
 ·obtain ⟨sc,ns,m,a,bk,b,rfl,_⟩:=h;rfl
 ·obtain ⟨sc,ns,m,a,bk,b,rfl,sq,D,hp,g,q⟩:=h;refine ⟨_,(z02 (ps_set (i:=4) sc__law_run_out.nd rfl (O1 rfl) (pe_cal c5 (j.mono (by decide)) rfl (z01 (pv 1) (z01 (pv 2) pa_nil))))
   (z02 (ps_set (i:=5) sc__law_run_out.nd rfl (O1 rfl) (pe_lst pa_nil))
   (z02 (zjh W2 (z09 op_lt (z06 z0i rfl (T.no (n_len _)) A2 (z01 (pv 5) pa_nil)) pe_int (nomark _))
   (z02 (ps_set (i:=6) sc__law_run_out.nd rfl (O1 rfl) (pe_op opAdd (z06 z0i rfl (T.no (n_len _)) A2 (z01 (pe_cal c6 (j.mono (by decide)) rfl (z01 (pv 4) (z01 (pv 2) pa_nil))) pa_nil)) (pe_op op_mul pe_int (z06 z0i rfl (T.no (n_len _)) A2 (z01 (z0e (hu_of j) (pv 4) pe_str (λ _ _=>rfl)) pa_nil)))))
   (z02 (ps_if (z09 opEq (pv 6) pe_int (nomark _))
   (z02 (ps_set (i:=7) sc__law_run_out.nd rfl (O1 rfl) (zbz c7 (j.mono (by decide)) rfl (z01 (pv 1) (z01 (pv 2) (z01 (pv 5) (z01 (pv 3) pa_nil))))))
   (z05 (ps_ret (z28 (op_eqD j) (zbz c7 (j.mono (by decide)) rfl (z01 (pv 1) (z01 (pv 2) (z01 (pe_op opAdd (pv 5) (pe_lst (z01 pe_int (z01 pe_int (z01 (pe_un un_neg pe_int) pa_nil))))) (z01 (pv 3) pa_nil))))) (pv 7) (nomark _)))))
   z0d)
   (z02 (ps_set (i:=8) sc__law_run_out.nd rfl (O1 rfl) (pe_op op_sub (pv 6) pe_int))
   (z02 (ps_if (PW.pt (pw_or (z09 op_gt (pe_op op_mod (pe_cal c8 (j.mono (by decide)) rfl (z01 (pe_cal c9 (j.mono (by decide)) rfl (z01 (pv 0) (z01 pe_int pa_nil))) (z01 (z06 z0i rfl (T.no (n_len _)) A2 (z01 (pv 5) pa_nil)) pa_nil))) pe_int) pe_int (nomark _)) (pw_or1 (z09 (zjn (Nat.lt_of_succ_lt (hu_of j))) (z0e (hu_of j) (pv 4) pe_str (λ _ _=>rfl)) (pe_lst pa_nil) (nomark _)))))
   (z05 (ps_set (i:=8) sc__law_run_out.nd rfl (O1 rfl) pe_int))
   z0d)
   (z02 (z0f (z0o (pv 5) (z01 (pv 8) pa_nil)))
   (z05 (z0f (pe_cal c10 (j.mono (by decide)) rfl (z01 (pv 4) (z01 (pv 2) (z01 (pv 8) (z01 (pv 3) pa_nil)))))))))))))
   (z05 (ps_ret pe_bl))))),?_⟩
  have X:=g.n6;have d3 :∀own∈b,own.length<=24:=(zc6 (bk:=bk) g (by omega:0 < m) (by omega)).m.lw;have R:=plR_of hp;obtain ⟨os,d8,b9⟩:=id R;refine z0b ⟨_,rfl,_,rfl,m,a,os,b,rfl,by omega,d8,z03 b9,X,λ f H1 s1 d7=>?_⟩;refine g_name ?_;refine z0b ⟨w_0,λ d a0=>g_name ?_⟩;have fl:=s1.free a0;have a1:=d7.rb (Imm.of (Same.upd (o:=.lst []) a0)) (λ p x _ e z=>by rw [z,a0] at e;cases e);have b2:Same H (upd H d (.lst [])):=Same.upd fl;have s2:=Same.upd2 (l:=d) (o:=.lst []) s1;have a8:upd H d (.lst []) d=some (.lst []):=z04;generalize upd H1 d (.lst [])=H2 at a1 s2⊢;generalize upd H d (.lst [])=B2 at a1 b2 s2 a8⊢;refine zjo (zg2 (λ k σ u=>∃B cs es n x7 x8,RO (kx w) H b m bk f d B u cs es/\k=390 - cs.length/\σ=[some (.ref sc),some (.int m),some (.ref a),some (.bl bk),some (.ref f.st),some (.ref d),n,x7,x8])
   (λ k σ u=>∃B cs es n x7 x8,RO (kx w) H b m bk f d B u cs es/\k=390 - cs.length/\cs.length < 390/\σ=[some (.ref sc),some (.int m),some (.ref a),some (.bl bk),some (.ref f.st),some (.ref d),n,x7,x8]) 390 ⟨B2,[],_,_,_,_,⟨b2,a8,s2,a1,J2 _⟩,rfl,rfl⟩ ?_ ?_)
  rotate_left
  ·rintro k σ H3 ⟨B,cs,es,n,x7,x8,r,rfl,rfl⟩ body;have e3:=r.s _ _ r.el;refine ⟨_,rfl,.inl ⟨d,_,rfl,.inl (SqL.of e3),_,_,rfl,rfl,_,rfl,?_⟩⟩;refine ite2 (λ z=>?_) λ _=>q _;have z:=of_decide_eq_true z;rw [I0] at z;exact body _ ⟨B,cs,es,_,_,_,r,rfl,by omega,rfl⟩
  rintro k σ H3 ⟨B,cs,es,n,x7,x8,r,rfl,lt,rfl⟩;have ok:=zew (bk:=bk) g D cs (by omega);have F :∀k,(cs++[k]).foldl (λ N c=>N.go b bk c) (LM.init m b)=(cs.foldl (λ N c=>N.go b bk c) (LM.init m b)).go b bk k:=λ k=>by rw [T5];rfl
  obtain ⟨I,G,s3,Z,_⟩:=r;have eN:cs.foldl (λ N c=>N.go b bk c) (LM.init m b)=cs.foldl (λ N c=>N.go b bk c) (LM.init m b):=rfl;generalize hN:cs.foldl (λ N c=>N.go b bk c) (LM.init m b)=N at Z ok F;clear eN;refine z0b ⟨_,rfl,_,rfl,f,a,B,es,N,b,rfl,Z,R.same (I.trans s3),X,ok.ol,ok.nl,λ lf K s8 e0 d6=>?_⟩;have a5:=Z.same s8;have C:=s3.trans s8;have b6:(natV (N.free b)).length=(N.free b).length:=I0 ..;obtain ⟨d4,hv,J,vv,c0,c1,c2,c3,c4⟩:=id a5.ct;have a6:K f.st=some (.dK d4):=c1.at (a:=[]);have a2:K f.un=some (.lst J):=c1.at (a:=[_,_]);have b7:J.length=N.under.length:=z03 c3;have ul:=ok.ul;refine .inl ⟨lf,_,rfl,.inl (SqL.of d6),_,rfl,f.st,_,rfl,c0.gun a6,.inl ⟨f.un,J,rfl,.inl (SqL.of a2),2,_,rfl,rfl,.inl ⟨by decide,by decide⟩,.inl ⟨_,_,rfl,rfl,g_name ?_⟩⟩⟩;rw [b6,b7];refine sq_if ⟨_,rfl,rfl,_,rfl,?_⟩;refine ite2 (λ z=>?_) λ z=>t_nx ?_
  ·have z:=of_decide_eq_true z;injection z with z;have z0:(N.free b).length + N.under.length=0:=by omega
   refine z0b ⟨_,rfl,_,rfl,_,rfl,_,rfl,m,a,d,bk,cs,b,rfl,D,hp.same (I.trans C),g,C _ _ G,by omega,λ t H9 v ht=>g_name ?_⟩;refine ⟨_,rfl,_,rfl,_,rfl,_,rfl,w_3,λ q3 b5=>?_⟩;obtain ⟨W,v_,a7,d5⟩:=newA (.lst [.int 5,.int 0,.int (-3)]) b5;rw [<-v_];have a4:=C.trans (v.trans a7);refine .inr (.inr (.inl ⟨d,q3,_,_,rfl,rfl,a4 _ _ G,d5,N0 (m:=400) (by rw [I0];show cs.length + 3<=400;omega) (by decide),λ L b8=>?_⟩));have S:=Same.upd (o:=.lst (cs.map V.int++[.int 5,.int 0,.int (-3)])) b8;have a3:upd W L (.lst (cs.map V.int++[.int 5,.int 0,.int (-3)])) L=some (.lst ((cs++[5,0,-3]).map V.int)):=by rw [z04,V1];rfl
   generalize upd W L (.lst (cs.map V.int++[.int 5,.int 0,.int (-3)]))=H11 at S a3⊢;refine ⟨_,rfl,m,a,L,bk,cs++[5,0,-3],b,rfl,D,hp.same (I.trans (a4.trans S)),g,a3,by rw [G0];show cs.length + 3<=450;omega,λ t2 d9 d1 b1=>?_⟩;rw [cm_of bk D,T5,hN,go_end z0,<-hN,<-cm_of bk D] at b1;exact ⟨_,rfl,_,b1,ht.same (a7.trans (S.trans d1)),zer _,q _⟩
  have nz:(N.free b).length + N.under.length≠0:=λ y=>z (decide_eq_true (by congr 1;omega));refine z0b ⟨_,rfl,_,_,rfl,rfl,g_name ?_⟩;have ev:((N.free b).length:Int) + 2 * (N.under.length:Int) - 1=(((N.free b).length + 2 * N.under.length - 1:Nat):Int):=by omega
  have b3:=C _ _ G;refine z7h (λ σ' u=>Same K u/\∃c:Nat,c < (N.free b).length + 2 * N.under.length/\∃n,σ'=[some (.ref sc),some (.int m),some (.ref a),some (.bl bk),some (.ref f.st),some (.ref d),n,x7,some (.int (c:Nat))]) ?_ λ go=>?_;rotate_left
  ·refine z15 (t_or ⟨_,rfl,sc,ns,1,rfl,(I.trans C).seq sq,λ z3=>⟨_,rfl,.inl ⟨d,_,rfl,.inl (SqL.of b3),z3,_,rfl,by omega,by rw [I0];omega,_,_,rfl,rfl,(show (0:Int) < 3 by decide),_,_,rfl,rfl,_,rfl,?_⟩⟩⟩);have g0 :∀u,Same K u->∀n,_:=λ u Y n=>go [some (.ref sc),some (.int m),some (.ref a),some (.bl bk),some (.ref f.st),some (.ref d),n,x7,some (.int (0:Nat))] u ⟨Y,0,by omega,n,rfl⟩;refine ite2 (λ _=>iteT (g_name (g0 _ (Same.refl _) _))) λ _=>?_;refine ⟨_,rfl,f.st,_,rfl,c0.gun a6,w_0,λ l9 b4=>?_⟩;have v:=Same.upd (o:=.lst []) b4;refine ⟨f.un,l9,J,rfl,rfl,SqL.of (v _ _ a2),SqL.of z04,_,rfl,ite2 (λ _=>g_name (g0 _ v _)) λ _=>t_nx ?_⟩;refine go _ _ ⟨v,(N.free b).length + 2 * N.under.length - 1,by omega,some (.int (((N.free b).length:Int) + 2 * (N.under.length:Int))),?_⟩;rw [<-ev];rfl
  rintro σ H9 ⟨v,c,hc,x6',rfl⟩;have a9:=C.trans v;have e9:=a9 _ _ G;have O:=(a5.same v).rb (l:=d) (o:=.lst (cs.map V.int++[.int (c:Nat)])) (Imm.lst e9) (λ p x eb _ z=>by rw [z,G] at eb;cases eb);refine ⟨_,rfl,.inl ⟨rfl,_,SqL.of e9⟩,_,rfl,?_⟩;refine ⟨d,_,_,rfl,rfl,e9,X0 (m:=400) (by rw [I0];omega) (by decide),t_nx ?_⟩;have M:Same H (upd B d (.lst (cs.map V.int++[.int (c:Nat)]))):=Same.keep I fl;have b0:upd B d (.lst (cs.map V.int++[.int (c:Nat)])) d=some (.lst ((cs++[(c:Int)]).map V.int)):=by rw [z04,V1];rfl
  have U:=Same.upd2 (l:=d) (o:=.lst (cs.map V.int++[.int (c:Nat)])) a9;generalize upd H9 d (.lst (cs.map V.int++[.int (c:Nat)]))=W at O U⊢;generalize upd B d (.lst (cs.map V.int++[.int (c:Nat)]))=B7 at O M b0 U;have em:N.go b bk (c:Int)=N.moved b bk c:=by rw [go_on nz,Int.emod_eq_of_lt (by omega) (by omega)];rfl
  have F:=F c;rw [em] at F;exact ⟨_,rfl,_,rfl,_,rfl,_,rfl,f,a,c,bk,B7,es,N,b,900,rfl,O,R.same M,X,d3,ok,by decide,hc,U,λ d0 u Y d2=>⟨390 - (cs++[(c:Int)]).length,by rw [G0];show 390 - (cs.length + 1) < _;omega,B7,cs++[(c:Int)],d0,_,_,_,⟨M,b0,Y,by rw [F];exact d2,by rw [G0];show cs.length + 1<=390;omega⟩,rfl,rfl⟩⟩
theorem cut_to (cs:List Int) (z:Int) :∃n,cutV (cs.map V.int) none (some z)=(cs.take n).map V.int:=⟨_,by unfold cutV;rw [show HT.sIx (cs.map V.int).length 0 none=0 from rfl,z5,<-List.map_take]⟩
theorem zib {α β:Type} {R:α->β->Prop} :∀{xs:List α} {ys:List β} (n:Nat),All2 R xs ys->All2 R (xs.take n) (ys.take n)
 | _,_,0,_=>.nil
 | _,_,_ + 1,.nil=>.nil
 | _,_,n + 1,.cons a r=>.cons a (zib n r)
def sp_law (K:o0):Sp:=λ vs H Q _=>∃(sc:Addr) (ns:List Int),vs=[.ref sc]/\SqL K H sc (ns.map V.int)/\ns.length<=63/\∀H',Q (.bl true) H'
theorem ok_law (T:TX (kx w) mg) (c0:Ca P w mg base "_law_cell_at" ["script","k"] 1 (z1f (kx w))) (c1:Ca P w mg base "_law_mix" ["cell","k"] 1 z29) (c2:Ca P w mg base "_law_plan" ["script","hands","most","writers"] 3 (z67 (kx w))) (c3:Ca P w mg base "_law_raw" ["script"] 1 (z7l (kx w))) (c4:Ca P w mg base "_law_guided" ["script","many","plan","back","sure"] 5 (z4i (kx w))) (c5:CaE P w mg base "run_copies" ["many","plan","choices","back"] 9 (z30 (kx w))) (c6:Ca P w mg base "_law_answers_right" ["events"] 1 (z1m (kx w))) (c7:Ca P w mg base "_law_hand_right" ["events","row","hand"] 1 (z26 (kx w))) (c8:Ca P w mg base "_law_run_out" ["script","many","plan","back"] 10 (z3h (kx w))):Fo P w mg base CX0 11 512 fd_law ["script"] (sp_law (kx w)):=by
 refine (F_law w.params).ok sc_law (λ vs H Q E h=>?_) (λ e3 A e2 s H vs Q E c h=>?_)
 ·obtain ⟨sc,f,rfl,_⟩:=h;rfl
 ·obtain ⟨sc,f,rfl,L,hn,q⟩:=h;refine ⟨_,(z02 (ps_set (i:=1) sc_law.nd rfl (O1 rfl) (pe_op op_mod (pe_cal c0 (c.mono (by decide)) rfl (z01 (pv 0) (z01 pe_int pa_nil))) pe_int))
   (z02 (ps_set (i:=2) sc_law.nd rfl (O1 rfl) (pe_op opAdd pe_int (pe_op op_mod (pe_op z1e (pe_cal c0 (c.mono (by decide)) rfl (z01 (pv 0) (z01 pe_int pa_nil))) pe_int) pe_int)))
   (z02 (ps_set (i:=3) sc_law.nd rfl (O1 rfl) (pe_cal c2 (c.mono (by decide)) rfl (z01 (pv 0) (z01 (pv 2) (z01 pe_int (z01 (pv 2) pa_nil))))))
   (z02 (ps_set (i:=4) sc_law.nd rfl (O1 rfl) (pe_op opAdd pe_int (pe_op op_mul pe_int (pe_op op_mod (pe_op z1e (pe_cal c0 (c.mono (by decide)) rfl (z01 (pv 0) (z01 pe_int pa_nil))) pe_int) pe_int))))
   (z02 (ps_set (i:=5) sc_law.nd rfl (O1 rfl) (z28 opEq (pe_op op_mod (pe_op z1e (pe_cal c0 (c.mono (by decide)) rfl (z01 (pv 0) (z01 pe_int pa_nil))) pe_int) pe_int) pe_int (nomark _)))
   (z02 (ps_set (i:=6) sc_law.nd rfl (O1 rfl) (pe_cal c3 (c.mono (by decide)) rfl (z01 (pv 0) pa_nil)))
   (z02 (ps_if (z09 opEq (pv 1) pe_int (nomark _))
   (z05 (ps_set (i:=6) sc_law.nd rfl (O1 rfl) (pe_ix ix_seq (pe_cal c4 (c.mono (by decide)) rfl (z01 (pv 0) (z01 (pv 4) (z01 (pv 3) (z01 (pv 5) (z01 pe_int pa_nil)))))) pe_int (λ _ _=>rfl))))
   z0d)
   (z02 (ps_asg (zbz c5 (c.mono (by decide)) rfl (z01 (pv 4) (z01 (pv 3) (z01 (pv 6) (z01 (pv 5) pa_nil))))) (pg_tup rfl (z0s (z0m (i:=7) sc_law.nd rfl (O1 rfl)) (z0s (z0m (i:=8) sc_law.nd rfl (O1 rfl)) z6f))))
   (z02 (ps_if (PW.pt (pw_or (z09 (op_neS c) (pv 7) (pe_tup (z01 (pe_tup (z01 pe_str (z01 pe_str pa_nil))) pa_nil)) (nomark _)) (pw_or1 (pt_not (pt_val (pe_cal c6 (c.mono (by decide)) rfl (z01 (pv 8) pa_nil)) (λ _=>rfl))))))
   (z05 (ps_ret pe_bl))
   z0d)
   (z02 (ps_for W2 rfl (z0x rfl (T.no (z2a _)) (z01 (pv 2) pa_nil)) (z0m (i:=9) sc_law.nd rfl (O1 rfl))
   (z05 (ps_if (pt_not (pt_val (pe_cal c7 (c.mono (by decide)) rfl (z01 (pv 8) (z01 (pe_ix ix_seq (pv 3) (pv 9) (λ _ _=>rfl)) (z01 (pv 9) pa_nil)))) (λ _=>rfl)))
   (z05 (ps_ret pe_bl))
   z0d)))
   (z02 (ps_for W2 rfl (z0x rfl (T.no (z2a _)) (z01 pe_int pa_nil)) (z0m (i:=10) sc_law.nd rfl (O1 rfl))
   (z02 (ps_set (i:=11) sc_law.nd rfl (O1 rfl) (z8a slSeqW (pv 6) zi9 (z7n (pe_op op_mod (pe_cal c1 (c.mono (by decide)) rfl (z01 (pe_cal c0 (c.mono (by decide)) rfl (z01 (pv 0) (z01 pe_int pa_nil))) (z01 (pe_op opAdd pe_int (pv 10)) pa_nil))) (pe_op opAdd (z06 z0i rfl (T.no (n_len _)) A2 (z01 (pv 6) pa_nil)) pe_int)))))
   (z02 (ps_set (i:=12) sc_law.nd rfl (O1 rfl) (pe_ix ix_seq (zbz c5 (c.mono (by decide)) rfl (z01 (pv 4) (z01 (pv 3) (z01 (pv 11) (z01 (pv 5) pa_nil))))) pe_int (λ _ _=>rfl)))
   (z05 (ps_if (z09 (op_neS c) (pv 12) (z8a slSeqW (pv 8) zi9 (z7n (z06 z0i rfl (T.no (n_len _)) A2 (z01 (pv 12) pa_nil)))) (nomark _))
   (z05 (ps_ret pe_bl))
   z0d)))))
   (z05 (ps_ret (pe_cal c8 (c.mono (by decide)) rfl (z01 (pv 0) (z01 (pv 4) (z01 (pv 3) (z01 (pv 5) pa_nil)))))))))))))))))),?_⟩
  refine z0b ⟨_,rfl,sc,f,0,rfl,L,λ W=>⟨_,_,rfl,rfl,(show (0:Int) < 2 by decide),g_name ?_⟩⟩;refine z0b ⟨_,rfl,sc,f,0,rfl,L,λ z1=>⟨_,_,rfl,rfl,(show CDivB z1 2 from ⟨by decide,by decide⟩),_,_,rfl,rfl,(show (0:Int) < 6 by decide),.inl ⟨_,_,rfl,rfl,g_name ?_⟩⟩⟩;obtain ⟨k,hk,k0,k6⟩ :∃k:Nat,1 + z1 / 2 % 6=(k:Int)/\0 < k/\k<=6:=⟨(1 + z1 / 2 % 6).toNat,by omega,by omega,by omega⟩
  rw [hk];refine z0b ⟨_,rfl,_,rfl,_,rfl,sc,f,k,24,k,rfl,L,k0,k6,by decide,by decide,λ u pl H1 s1 g lp _ hp=>g_name ?_⟩;have G:=s1.seq L;refine z0b ⟨_,rfl,sc,f,0,rfl,G,λ z2=>⟨_,_,rfl,rfl,(show CDivB z2 12 from ⟨by decide,by decide⟩),_,_,rfl,rfl,(show (0:Int) < 2 by decide),2,_,rfl,rfl,.inl ⟨by decide,by decide⟩,.inl ⟨_,_,rfl,rfl,g_name ?_⟩⟩⟩;obtain ⟨m,hm,l⟩ :∃m:Nat,3 + 2 * (z2 / 12 % 2)=(m:Int)/\(m=3\/m=5):=⟨(3 + 2 * (z2 / 12 % 2)).toNat,by omega,by omega⟩
  rw [hm];have l6:pl.length<=6:=by omega
  have d5 :∀{a:List Int} (bk:Bool),a.length<=360->(a.foldl CM.go (CM.init m bk pl)).events.length<=1000:=λ {a} bk hc=>by have:=(zew (bk:=bk) g l a (by omega)).vl;rw [<-cm_of bk l] at this;omega
  refine z0b ⟨_,rfl,sc,f,0,rfl,G,λ z3=>⟨_,_,rfl,rfl,(show CDivB z3 24 from ⟨by decide,by decide⟩),_,_,rfl,rfl,(show (0:Int) < 2 by decide),rfl,g_name ?_⟩⟩;generalize decide (V.int (z3 / 24 % 2)=V.int 0)=bk;refine z0b ⟨_,rfl,sc,f,rfl,G,hn,λ lr rs H5 J _ F d4=>g_name ?_⟩;refine z7h (λ σ' v=>∃(e:Addr) (a:List Int),Same H1 v/\v e=some (.lst (a.map V.int))/\a.length<=360/\σ'=[some (.ref sc),some (.int (W % 2)),some (.int k),some (.ref u),some (.int m),some (.bl bk),some (.ref e),none,none,none,none,none,none]) ?_ λ go=>?_;rotate_left
  ·refine z15 ⟨_,rfl,rfl,_,rfl,?_⟩;refine ite2 (λ _=>?_) λ _=>go _ _ ⟨lr,rs,J,F,d4,rfl⟩;refine ⟨_,rfl,_,rfl,_,rfl,_,rfl,sc,f,m,u,bk,2,pl,rfl,J.seq G,l,plR_of (hp.same J),g,λ t e x a H6 O et _ M a0=>?_⟩;exact .inr (.inl ⟨t,_,0,.ref e,rfl,rfl,SqT.of et,z08 (j:=0) rfl,g_name (go _ _ ⟨e,a,J.trans O,M,a0,rfl⟩)⟩)
  rintro σ H6 ⟨e,a,O,M,a0,rfl⟩;have a3:=hp.same O;have a4:=O.seq G;have iv:=cm_iv (pl:=pl) bk l a;refine z0b ⟨_,rfl,_,rfl,_,rfl,_,rfl,m,u,e,bk,a,pl,rfl,l,a3,g,M,by omega,λ t Y s7 ht=>?_⟩;generalize hes:(a.foldl CM.go (CM.init m bk pl)).events=es at ht iv;have b2:es.length<=1000:=by rw [<-hes];exact d5 bk a0
  obtain ⟨tp,xs,rfl,et,x1,r1,rfl,h1,x2,r2,rfl,h2,h3⟩:=ht;cases (show r2=[] from h3);obtain ⟨B,d,rfl,ee,b5⟩:=h2;have al:All2 (EvV Y) es d:=z00 (λ _ _ z=>ev_of z) (z5q b5);refine ⟨tp,_,rfl,SqT.of et,rfl,_,_,rfl,_,_,rfl,rfl,?_⟩;refine sq_if (t_or ⟨_,rfl,w_2,λ D c9=>⟨w_1,λ R d1=>?_⟩⟩);have u1:=Same.upd (o:=.tup [.str "r",.str "register"]) c9;have u2:=Same.upd (o:=.tup [.ref D]) d1;have I:=u1.trans u2;have a9:HPd (upd (upd Y D (.tup [.str "r",.str "register"])) R (.tup [.ref D])) (.tuple [.tuple [.str "r",.str "register"]]) (.ref R):=⟨R,_,rfl,z04,_,_,rfl,⟨D,_,rfl,u2 _ _ z04,_,_,rfl,rfl,_,_,rfl,rfl,rfl⟩,rfl⟩
  refine ⟨_,.inr ⟨h1.same I,a9⟩,by decide,_,rfl,iteN (by decide) ?_⟩;generalize upd (upd Y D (.tup [.str "r",.str "register"])) R (.tup [.ref D])=H8 at I⊢;clear a9;refine tB_not ⟨_,rfl,B,d,es,rfl,I _ _ ee,z00 (λ _ _ z=>z.imm (Imm.of I)) al,b2,iv.2,λ H9 s9=>⟨_,rfl,iteN (by decide) (t_nx ?_)⟩⟩;have U:=I.trans s9;have K:=s7.trans U;have Z:=a3.same K;have a7:=U _ _ ee;have a2:All2 (EvV H9) es d:=z00 (λ _ _ z=>z.imm (Imm.of U)) al;refine ⟨_,rfl,_,rfl,by omega,by omega,?_⟩;refine z1o (lo:=0) (n:=k) (λ _ σ v=>Same H9 v/\∃x9,σ=[some (.ref sc),some (.int (W % 2)),some (.int k),some (.ref u),some (.int m),some (.bl bk),some (.ref e),some x1,some (.ref B),x9,none,none,none]) ⟨Same.refl _,_,rfl⟩ ?_ ?_
  ·rintro j σ d0 hj ⟨s10,x9,rfl⟩;refine g_name ?_;rw [V6];obtain ⟨os,e0,a6⟩:=plR_of (Z.same s10);have lo:=z03 a6;obtain ⟨y,hy⟩ :∃y,os[j]? = some y:=⟨_,A0 (by omega)⟩
   obtain ⟨row,b8,b,zs,rfl,eb,az⟩:=z0k a6 hy;have hh:=iv.1 j (by omega);rw [b8] at hh;exact z15 (tB_not ⟨_,rfl,_,rfl,_,rfl,.inl ⟨u,os,_,.ref b,rfl,rfl,SqL.of e0,z08 hy,_,rfl,B,b,j,d,zs,es,row,rfl,s10 _ _ a7,z00 (λ _ _ z=>z.imm (Imm.of s10)) a2,b2,eb,az,hh,λ a5 p=>⟨_,rfl,iteN (by decide) ⟨s10.trans p,_,rfl⟩⟩⟩⟩)
  rintro σ d0 ⟨s10,x9,rfl⟩;refine ⟨4,rfl,by decide,by decide,?_⟩;refine z1o (lo:=0) (n:=4) (λ _ σ v=>Same H9 v/\∃x10 x11 x12,σ=[some (.ref sc),some (.int (W % 2)),some (.int k),some (.ref u),some (.int m),some (.bl bk),some (.ref e),some x1,some (.ref B),x9,x10,x11,x12]) ⟨s10,_,_,_,rfl⟩ ?_ ?_;rotate_left
  ·rintro σ a5 ⟨p,x10,x11,x12,rfl⟩;exact ⟨_,rfl,_,rfl,_,rfl,_,rfl,sc,f,m,u,bk,pl,rfl,(K.trans p).seq a4,l,Z.same p,g,λ v=>q v⟩
  rintro j σ a5 hj ⟨p,x10,x11,x12,rfl⟩;refine g_name ?_;have a8:=p _ _ (K _ _ M);refine z0b ⟨_,rfl,_,rfl,sc,f,2,rfl,(K.trans p).seq a4,λ z4=>⟨_,rfl,.inl ⟨_,_,rfl,rfl,z4,_,rfl,by omega,by omega,_,rfl,.inl ⟨e,_,rfl,.inl (SqL.of a8),.inl ⟨_,_,rfl,rfl,_,_,rfl,rfl,(by omega),_,rfl,.inl (.inl ⟨e,_,rfl,SqL.of a8,λ la d6=>g_name ?_⟩)⟩⟩⟩⟩⟩;obtain ⟨n,en⟩:=cut_to a (mixZ z4 (90 + (0 + (j:Int))) % (((a.map V.int).length:Nat) + 1:Int));rw [en];obtain ⟨e1,v_,d8,b9⟩:=newA (.lst ((a.take n).map V.int)) d6;rw [<-v_];have b3:=p.trans d8;refine z0b ⟨_,rfl,_,rfl,_,rfl,_,rfl,m,u,la,bk,a.take n,pl,rfl,l,Z.same b3,g,b9,by rw [A6];omega,λ t2 d3 b4 b0=>?_⟩;obtain ⟨r,F⟩:=cm_pre (pl:=pl) bk l a n;rw [hes] at F;generalize ((a.take n).foldl CM.go (CM.init m bk pl)).events=es1 at F b0;obtain ⟨tq,xs,rfl,d7,w1,r1,rfl,_,w2,r2,rfl,k2,k3⟩:=b0;cases (show r2=[] from k3);have b1:=k2;obtain ⟨eq,C,rfl,b6,d2⟩:=k2;have l2:=z03 (z5q d2);refine .inr (.inl ⟨tq,_,1,.ref eq,rfl,rfl,SqT.of d7,z08 (j:=1) rfl,g_name ?_⟩);have N:=b3.trans b4;have X:=N _ _ a7;have S:All2 (EvV d3) es1 (d.take es1.length):=by have:=zib es1.length (z00 (λ _ _ z=>z.imm (Imm.of N)) a2);rw [F,List.take_left] at this;exact this
  have i1:HT.sIx d.length d.length (some (C.length:Nat))=min C.length d.length:=HT.sIx_nat _ _ C.length;refine z15 ⟨_,rfl,_,rfl,_,rfl,.inl ⟨eq,C,rfl,.inr (SqT.of b6),_,rfl,?_⟩⟩;have dp:F2 (es1.map evP)<=49:=N0 (zbq es1) (by decide);by_cases wh:d.length<=C.length
  ·rw [E5 (by omega)] at S;exact .inr ⟨B,d,rfl,SqT.of X,⟨rfl,by rw [i1];omega⟩,_,.inr ⟨b1,⟨B,d,rfl,X,z6d (z00 (λ _ _ z=>ev_hpd z) S)⟩⟩,dp,_,rfl,iteN (by decide) ⟨N,_,_,_,rfl⟩⟩
  ·refine .inl (.inr (.inl ⟨B,d,rfl,SqT.of X,λ z=>by have:=z.2;rw [i1] at this;omega,λ p9 d9=>?_⟩));have b7:cutV d none (some (C.length:Nat))=d.take es1.length:=by unfold cutV;rw [show HT.sIx d.length 0 none=0 from rfl,i1,z5];congr 1;omega
   rw [b7];have a1:=Same.upd (o:=.tup (d.take es1.length)) d9;exact ⟨_,.inr ⟨b1.same a1,⟨p9,_,rfl,z04,z6d (z00 (λ _ _ z=>ev_hpd (z.imm (Imm.of a1))) S)⟩⟩,dp,_,rfl,iteN (by decide) ⟨N.trans a1,_,_,_,rfl⟩⟩
end
theorem all_law {P:Program} {w:Z0} {mg:Str->Option Value} {base:Heap} (T:TX (kx w) mg):Fo P w mg base CX0 11 512 fd_law ["script"] (sp_law (kx w)):=by have m:=@cal_mk P w (kx w) mg base;have i:=@zkb P w (kx w) mg base;have d:=m T (z60 _) (zeh _) (zfu _) (zd0 T );have f:=m T (z4p _) (zd6 _) (zdh _) (zb3 T d);have X:=m T (z6q _) (zfa _) (zfl _) (zd3 T f);have a:=m T (z31 _) (z9m _) (z90 _) (z85 T );have t:=m T (z88 _) (zgf _) (zgd _) (zfb T );have l:=m T (z7y _) (zge _) (zgx _) (zdm T t X a);have p:=m T (z81 _) (zg7 _) (zgj _) (zfj T );have K:=m T (z6j _) (zf3 _) (ze8 _) (zcv T a p t);have v:=m T (z2w _) (z9u _) (z97 _) (z8o T K);have M:=m T (z7q _) (zgz _) (zhd _) (ze4 T d);have j:=m T (z6t _) (zff _) (zey _) (zdg T a M);have y:=m T (z50 _) (zcs _) (zcn _) (zbh T f);have A:=m T (z68 _) (zet _) (zdz _) (zcu T j p l);have a2:=m T (zav _) (zjb _) (ziw _) (zg1 T j y);have I:=m T (z38 _) (z8z _) (z9v _) (z8r T );have U:=m T (z35 _) (za0 _) (z98 _) (z8h T A a2 I);have O:=m T (z4m _) (zdj _) (zdb _) (zb6 T v U);have o:=m T (z8k _) (zhj _) (zgq _) (zdo T );have a0:=m T (z42 _) (zae _) (zal _) (za5 T a l);have Q:=m T (z7p _) (zgo _) (zgl _) (zfk T o a0);have Z:=i T (z3r _) (zaa _) (zat _) (z9b T d Q o);have e:=m T (z2e _) (z7v _) (z8c _) (z78 T );have b:=m T (z69 _) (zep _) (zex _) (zd9 T );have L:=m T (z3l _) (zay _) (zaw _) (z9d T b);have G:=m T (z4u _) (zcq _) (zde _) (zar T e L);have k:=zg9 (P:=P) (w:=w) (base:=base) T;have r:=zgu (P:=P) (w:=w) (base:=base) T;have u:=z8n (P:=P) (w:=w) (base:=base) T r;have q:=z4s (P:=P) (w:=w) (base:=base) T;have C:=z1v (P:=P) (w:=w) (base:=base) T k u q;have E:=z3t (P:=P) (w:=w) (base:=base) T q C;have W:=z2v (P:=P) (w:=w) (base:=base) T r;have R:=z71 (P:=P) (w:=w) (base:=base) T W E;have J:=z43 (P:=P) (w:=w) (base:=base) T k u;have B:=z70 (P:=P) (w:=w) (base:=base) T J R;have Y:=zh6 (P:=P) (w:=w) (base:=base) T;have s:=i T (z46 _) (zab _) (zb7 _) (za4 T Z Y B O);have g:=m T (z41 _) (zad _) (zbe _) (z9r T );have c:=m T (z4x _) (zd5 _) (zcr _) (za8 T );have n:=m T (z4w _) (zcy _) (zcx _) (zam T );have V:=m T (z3x _) (za7 _) (zb9 _) (z9x T );have z:=m T (z2h _) (z83 _) (z8l _) (z76 T n V);have D:=m T (z4v _) (zdd _) (zd8 _) (zaf T z);have h:=m T (z40 _) (zb5 _) (zaz _) (z9p T c n D);have F:=m T (z34 _) (z8u _) (z9k _) (z7z T c);have N:=m T (z6i _) (zfv _) (zea _) (zd1 T );have H:=m T (z3a _) (z9i _) (z9h _) (z7t T g b F c h);have x:=m T (z12 _) (z3v _) (z3p _) (z3f T );have a1:=m T (z1k _) (z5j _) (z5k _) (z54 T );have S:=m T (z2d _) (z89 _) (z8q _) (z75 T g c s b e h);exact ok_law T e b G N H s x a1 S
end K29
open PySem PySem.W PyProof.Rows
set_option maxRecDepth 100000 in
set_option maxHeartbeats 0 in
theorem PySem.Challenge.cw_talejudge_k29_beginnings_by_choices_holds : PySem.Challenge.rw_talejudge_k29_beginnings_by_choices.Holds := by
 w_on;o_law
 refine holds_open (q:=K29.viewX) (loose:=K29.looseX) (Xt:=K29.XtX) (XP:=XL K29.viewX []) (Yf:=Hook.obs K29.HX) (Ya:=Hook.val K29.HX) (YP:=Hook.says K29.HX) (N:=200000) K29.leftX (Hook.of K29.HX) (Hook.keeps K29.HX) (λ s e=>xl_of s (Bool.and_eq_true_iff.mp e).1) XL.keeps (by rfl) (by rfl) (by rfl) (λ s e=>recFacts_of (Bool.and_eq_true_iff.mp e).2) (by rfl) (by assumption) (by decide +kernel) ⟨rfl,rfl,rfl,rfl,rfl,by decide +kernel⟩ ?hw ?hc
 case hw=>w_witness2
 case hc=>
  refine L2.walk_of (l:=PySem.Challenge.rw_talejudge_k29_beginnings_by_choices) (n:=63) (k:=11) (x:="script") (K:=K29.KX) (CX:=λ _=>L2.CX0) (sp:=λ w=>K29.sp_law (K29.KX w.params)) rfl (by decide) rfl ⟨rfl,by decide,by decide,rfl⟩ (λ w h Y=>PySem.W.kIn_of Y) ?F ?S ?C
  case F=>intro w j o h KX G b;have T:=L2.TX.mk' KX G;have g:=b.symm.trans (T.of (K29.g_law _));cases g;exact ⟨K29.fd_law,λ s u=>.of_eq rfl,λ r i m=>K29.all_law T⟩
  case S=>exact λ w H a c f p d=>⟨a,c,rfl,d,f,λ _=>rfl⟩
  case C=>exact λ _ _ _ _ _ z=>z
