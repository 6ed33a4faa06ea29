import PyProof.Rows.All
import Wide.All
import OpenK.AllK
import Wide.FinOn
import Lean
import PyProof.EqAt
import PyProof.EqKinds
import PyProof.TupleCall
import Open.Tops
import KE.KIntText
import PyProof.ZipIter
import PyProof.ReprRoads
import PyProof.Draws
import KE.KDictSum
import KE.KSortedM
import OpenK.KRaise
import OpenK.KOwn
import PyProof.ExcBaseAll.ValueError
import KE.KTryMore
import PyProof.NsDelKeeps
import KE.KDictOf
import KE.KEqDict
import PyProof.DictWalks
import PyProof.TupleKey
import PyProof.MinMaxWalk
import KE.KSortTup
import PyProof.StrWalks
import KE.KRevIter
import KE.KListMore
import PyProof.StrLawsTight
import PyProof.StrLawsChain
import PySem.Challenge.RW_talejudge_k33_turned_without_back
open PySem.PyData renaming keyHash->g0,depthAll->C4
open PySem.W renaming Frag->j0,nsIn->W3,kia_one->y4,findIn->F4,instObj->F5,keepIn->L5,kas_sort->z6,fnOf->T6,hideAll_get->E7,plainGet->C8,lookIn->d9,codeIn->f9,plainGet_of->w9,excIn->C9,callWith_K->O9,methodObj->X9,hasDictIn->Y9,takerIn->j12,hideAll->j13,isFn->j2d,cellsFrom_some->j2e,KasT->j2f,of_hideAll->j4b,specialIn->j4h,plainOver->j4i,kitx_list->j4j,kitx_dict->j50
open PySem renaming wpAny_bind->o0,Shared->C0,wpAny_pure->F0,Params->P0,wpAny->T0,World->W0,starEach->E1,model->N1,reduceHash->U1,wpAny_holding->N2,Around->P2,mainGlobals->Q2,boot_len->X2,compareOp->E3,codeAny_builtin->P3,OsState->Q3,wpAny_truthy_bool->T3,eval->Z3,treeTable->D4,wpAny_mono->N4,wpAny_Call_Name_kw->U4,backTo->V4,wpAny_pyNext_list_item->D5,attributeBase->E5,strKind->K5,intKind->M5,bootBuiltins->N5,sysModules->R5,codeAny->T5,binaryOp->y6,wpAny_pyNext_list_end->C6,wpAny_pyIter_list->F6,wpAny_newObj_type->G6,mem_of_lookup->J6,NameKind->L6,wpAny_isInstance->P6,codeAny_mono->Q6,Keyword->R6,intKind_is->Y6,tupleKind->b7,keywordEach->f7,eqIsQuiet->g7,wpAny_tryCatch->y7,placesWithHash->z7,foldedSetIterable->A7,wpAny_rule->O7,plainId_quiet->R7,sliceBounds->V7,callSpecialIfBoundUnlessNone?->W7,SetTable->X7,wpAny_passesOwn->j8,pyNext->n8,importedModules->o8,wpAny_typeOf->z8,wpAny_tupleItemsOf->F8,tupleKind_room_in1->G8,getattributeRaised->J8,richCompare->W8,relabel->X8,behindInMarks->b9,wpAny_call_entry->r9,swapsWith->u9,backToKw->v9,strKind_is->G9,holding->K9,call_meets->L9,assignEach->N9,Paired->P9,Builtin->R9,letOwnedTupleGo->S9,getAttrByItsOwn->T9,wpAny_seqItems->j08,codeAny_call_builtin->j09,boundAndCalled->j0a,getItem->j0d,Fin->j14,wpAny_attempt->j18,atKey->j19,IsPart->j1g,valueAt->j1i,getAttr?->j1j,callerA->j20,Result->j2c,wpAny_of_eq->j2j,wpAny_letGo->j30,subscripted->j31,wpAny_updateSeq->j36,wpAny_execs_nil->j37,Within->j39,wpAny_richCompare_same_room->j3d,standAt->j3e,spliced->j3f,dictSet->j3g,wpAny_call->j42,typeLookup->j43,relayAll->j44,isInstance->j45,hookBehind->j46,Thread->j4a
open List renaming getElem?_eq_getElem->v0,length_map->B0,length_append->I0,getElem?_map->K0,not_mem_nil->N0,range->O0,getElem?_set_self->Q0,length_set->U0,size_toArray->V0,length_cons->X0,getElem?_append_right->A1,replicate->F1,getElem?_append_left->K1,map_cons->L1,mem_of_getElem?->O1,map_append->P1,getD_eq_getElem?_getD->Q1,mem_append_right->R1,mem_cons_of_mem->V1,length_range->W1,mem_cons_self->X1,getElem?_set_ne->D2,forall_mem_cons->K2,append_assoc->T2,map_map->V2,foldl_cons->W2,length_replicate->Y2,getElem?_cons_succ->Z2,append_nil->C3,getElem_mem->J3,mem_cons->M3,filter_cons_of_pos->R3,length_singleton->A4,getElem?_cons_zero->E4,length_nil->K4,filter_cons_of_neg->W4,getElem?_range->a5,map_nil->w5,find?_cons->G5,filterMap_cons->O5,lookup_cons->P5,ext_getElem->Q5,map_set->U5,nodup_cons->W5,all_cons->Y5,mem_or_eq_of_mem_set->K6,take_of_length_le->U6,drop_zero->V6,length_filter_le->p7,filterMap_append->u7,mem_append_left->F7,lookup->G7,range_succ->K7,forIn_cons->L7,mem_map_of_mem->P7,getElem_of_mem->Q7,forIn_nil->a8,drop_eq_getElem_cons->y8,flatten_cons->D8,any_cons->E8,length_take->K8,length_eraseIdx_le->L8,length_drop->N8,getElem_map->O8,getElem?_replicate->P8,all_eq_true->Q8,pairwise_lt_range->Y8,all_map->Z8,map_congr_left->V9,zip_cons_cons->j03,getElem_range->j04,filter_append->j05,filterMap_map->j06,pairwise_map->j0e,nodup_append->j0f,foldl_append->j0g,flatMap_cons->j0h,tail->j1a,cons_append->j1b,of_mem_zip->j1h,sublist_append_right->j2i,length_filterMap_le->j35,eraseIdx_cons_succ->j3b,length_pos_of_mem->j3i,drop_eq_nil_of_le->j3j,take_eq_take_iff->j4e,getElem?_eq_none->j4f,range'->j52,mem_erase_of_ne->j53,length_eraseIdx->j54,length->j55
open PySem.Builtin.Tuple renaming tupleHashOf->A0,tupleExact->g6
open PySem.Heap renaming get?_push_of_some->G0,lt_size->R0,get?_push_size->C1,DictOf->L4,get?_update_other->z5,size_push->W6,get?_update_self->v7,SameBut->T7,SetOf->f8
open Nat renaming le_refl->J0,le_trans->L0,lt_of_le_of_lt->Y0,ne_of_lt->Z0,zero_le->E2,lt_of_lt_of_le->F2,lt_succ_of_lt->U2,le_succ->K3,lt_succ_self->O3,ne_of_gt->J4,lt_irrefl->Q4,add_sub_cancel_left->Y4,zero_add->V5,lt_trans->Z6,sub_self->Y7,mul_le_mul_right->Q9,mod_lt->j0c,lt_or_ge->j15,le_of_lt->j16,le_of_not_lt->j1e,le_add_right->j1f,lt_of_succ_lt_succ->j4d
open Bool renaming false_ne_true->D1,false_eq_true->L3,and_eq_true_iff->V3,and_eq_true->A5,not_true->Z5,true_and->O6,false_and->g8,not_false->F9,or_false->j02,not_eq_true->j1d,and_false->j29
open PySem.Value renaming ref->J1,type->N3,none->U3,int->S7,isStrOf->A8,str->A9,bool->W9,isInt->j48,float->j49
open Or renaming inr->Y1,inl->Z1
open Ne renaming symm->A2
open PySem.NameKind renaming free->C2
open Array renaming length_toList->J2,getElem?_eq_none->v5,getElem?_eq_getElem->j2a,mem_of_getElem?->j41
open Option.some renaming inj->O2
open PySem.SetTable renaming below->A3,grown->a6,insertAt->U9,advance->j4g
open Option renaming map->F3,isSome_map->p8,map_some->V8,some_ne_none->j4c
open PySem.Str renaming ofString->X3
open PyProof.Rows renaming boot_isinstance->Y3,callWith_type1->T4,envOfC->Z4,IntsAre->J5,callWith_builtin1->S6,AllBare->a9,slot_tuple_getitem->x9,seqObj->J9,boot_all->j21,boot_list->j2b,boot_str->j47
open PySem.PassesOwn renaming never->w4
open Pure renaming pure->O4,pure->j3a
open PySem.Obj renaming mapSeq->P4,mapDictKeys->n9,putSet->j0b
open ForInStep renaming yield->R4
open False renaming elim->X4
open PySem.Calls renaming spliced_cons->C5,spliced_nil->b6,evalArgs_plain->y9,Name_function_global->j26,callWith_builtin->j3c
open PySem.F renaming plain_max_loop->S5,plainAttrs_list->N6,slot_dict_get->U8,slot_tuple_gt->E9,excBase_ValueError->j00,args_tuple_add_2->j24,entry_max_loop->j25,entry_tuple_add->j27,args_dict_get_3->j28,slot_tuple_add->j2g,entry_dict_get->j2h
open PySem.Builtin.Slice renaming slicePlaces->X5,sliceAdjust->D7,sliceApplied->j01
open PySem.W.Fast renaming tw16697807410369149715->o6,tw13926502685295537346->u6,tw13383273872528276517->v6,te14364793385576792824->w6,tw4214721358667687652->A6,tw14364793385576792824->T8
open PySem.SeqAt.EqAt renaming same->D6,of_refs->j9,int_int->m9,str_str->j32,str_int->j33,int_str->j34
open PySem.Builtin.Dict renaming updateFrom->E6,selfAndRest->j0j,addKeywords->j10,pairItems->j1c
open PyProof.Rows.F renaming entry_set_update_loop->X6
open Int renaming toNat_natCast->a7,emod_lt_of_pos->u8,zero_add->g9,emod_nonneg->p9
open PySem.Shared renaming TypeIs->o7
open PySem.SetTable.below renaming go->C7
open List.Pairwise renaming nil->J7
open PySem.Builtin.List renaming listTooLong->N7
open PySem.Code renaming builtin->U7,isFrame->j0i,frames->j56
open PySem.Builtin.Str renaming occurrences->Z7
open PySem.Paired renaming length->v8
open List.Sublist renaming append->R8,refl->o9
open PySem.Heap.SameBut renaming update->S8
open PySem.Builtin.Frozenset renaming updateFrom->i9
open PySem.Around renaming under_plainId->q9,under->j07,under_plain->j57
open PySem.Builtin.Builtins renaming bindParams->z9
open Prod.mk renaming injEq->D9
open PUnit renaming unit->Z9
open Sum renaming inl->j11
open List.Perm renaming refl->j17
open PySem.SetTable.probe renaming go->j22
open PySem.SeqAt renaming EqAt->j23
open Sum.inr renaming inj->j38
open PySem.SeqAt.RcAt renaming lists->j3h
open PySem.Heap.DictOf renaming new->j40
open Prod renaming ext->j51
set_option maxRecDepth 100000
set_option maxHeartbeats 0
namespace PySem.W.Fast
noncomputable def tw14284532392628982051:=0
noncomputable def tw8572601018968249655:=0
noncomputable def tw12214083233714352456:=0
noncomputable def tw2385559816339163649:=0
noncomputable def tw18200941661328036492:=0
noncomputable def tw4257850532432825929:=0
noncomputable def tw18236756853028246991:=0
noncomputable def tw7973956350631941905:=0
noncomputable def tw8309014409268174436:=0
noncomputable def tw14644735932143454278:=0
noncomputable def tw8370950605621857663:=0
noncomputable def tw555925064367447582:=0
noncomputable def tw2702966583440193300:=0
noncomputable def tw13851049326543867414:=0
noncomputable def tw14597650633223125595:=0
end PySem.W.Fast
namespace K33
open_shared pre for PySem.Challenge.pw_talejudge_k33_turned_without_back leaving 49
end K33
set_option maxHeartbeats 200000
-- CHANGE: your row's module here,as the last of these rows
set_option Elab.async false
set_option linter.all false
namespace L2
open PySem PySem.Spec PyProof.Rows
noncomputable abbrev Key:=Sum Int Str
noncomputable def keyIs:Key->Value->Bool
 | .inl k,v=>j48 k v
 | .inr x,v=>A8 x v
noncomputable def keyH (w:W0):Key->Int
 | .inl k=>hashInt k
 | .inr x=>hashStr w x
theorem z0w :∀{k:Key} {v:Value},keyIs k v=true->(∃i t,k=j11 i/\v=S7 i t)\/(∃x t,k=Sum.inr x/\v=A9 x t)
 | .inl i,v,h=>by obtain ⟨t,e⟩:=Value.isInt_shape (k:=i) (v:=v) h;exact .inl ⟨i,t,rfl,e⟩
 | .inr x,v,h=>by obtain ⟨t,e⟩:=Value.isStrOf_shape (x:=x) (v:=v) h;exact .inr ⟨x,t,rfl,e⟩
theorem zh9 (i:Int) (t:Tok):keyIs (.inl i) (.int i t)=true:=by simp [keyIs,j48]
theorem zgv (x:Str) (t:Tok):keyIs (.inr x) (.str x t)=true:=by simp [keyIs,A8]
theorem key_ll (a b:Int):decide ((j11 a:Key)=j11 b)=(a == b):=by
 by_cases e:a=b
 ·subst e;simp
 ·have h:¬ (j11 a:Key)=j11 b:=λ q=>e (Sum.inl.inj q);rw [decide_eq_false h];exact (beq_eq_false_iff_ne.mpr e).symm
theorem key_rr (a b:Str):decide ((Sum.inr a:Key)=Sum.inr b)=decide (a=b):=by
 by_cases e:a=b
 ·subst e;simp
 ·have h:¬ (Sum.inr a:Key)=Sum.inr b:=λ q=>e (j38 q);rw [decide_eq_false h,decide_eq_false e]
theorem key_lr (a:Int) (b:Str):decide ((j11 a:Key)=Sum.inr b)=false:=decide_eq_false (λ q=>nomatch q)
theorem key_rl (a:Str) (b:Int):decide ((Sum.inr a:Key)=j11 b)=false:=decide_eq_false (λ q=>nomatch q)
noncomputable def z0i (prog:Program) (w:W0):PySem.KeyKind prog w Key where
 is:=keyIs
 hash:=keyH w
 inj:=λ v a b ha hb=>by
  rcases z0w ha with ⟨i,t,rfl,rfl⟩|⟨x,t,rfl,rfl⟩
  ·rcases z0w hb with ⟨j,u,rfl,e⟩|⟨y,u,rfl,e⟩
   ·injection e with e1 _;rw [e1]
   ·exact nomatch e
  ·rcases z0w hb with ⟨j,u,rfl,e⟩|⟨y,u,rfl,e⟩
   ·exact nomatch e
   ·injection e with e1 _;rw [e1]
 byValue:=λ k v h=>by rcases z0w h with ⟨i,t,rfl,rfl⟩|⟨x,t,rfl,rfl⟩<;>rfl
 pyHash:=λ hv h=>by
  rcases z0w hv with ⟨i,t,rfl,rfl⟩|⟨x,t,rfl,rfl⟩
  ·exact wpAny_pyHash_int h
  ·exact wpAny_pyHash_str h
 eqBool:=λ hu hv h=>by
  rcases z0w hu with ⟨i,t,rfl,rfl⟩|⟨x,t,rfl,rfl⟩
  ·rcases z0w hv with ⟨j,u,rfl,rfl⟩|⟨y,u,rfl,rfl⟩
   ·rw [key_ll] at h;exact wpAny_eqBool_int h
   ·rw [key_lr] at h;exact j34 i t y u _ _ _ _ h
  ·rcases z0w hv with ⟨j,u,rfl,rfl⟩|⟨y,u,rfl,rfl⟩
   ·rw [key_rl] at h;exact j33 x t j u _ _ _ _ h
   ·rw [key_rr] at h;exact wpAny_eqBool_str h
 «strs»:=λ k x t v h=>by
  rcases z0w h with ⟨i,u,rfl,e⟩|⟨y,u,rfl,e⟩
  ·exact nomatch e
  ·injection e with e1 _;subst e1;cases v<;>rfl
theorem zd1 (prog:Program) (w:W0) (i:Int) (t:Tok):(z0i prog w).is (.inl i) (.int i t)=true:=zh9 i t
theorem zck (prog:Program) (w:W0) (x:Str) (t:Tok):(z0i prog w).is (.inr x) (.str x t)=true:=zgv x t
inductive V where
 | non|bl (b:Bool)|int (i:Int)|str (x:Str)|byt (b:Array UInt8)|flt (b:UInt64)|ref (a:Addr)|ty (n:String)
 deriving DecidableEq
noncomputable def RelV:V->Value->Prop
 | .non,u=>u=U3
 | .bl b,u=>u=W9 b
 | .int i,u=>∃t,u=S7 i t
 | .str x,u=>∃t,u=A9 x t
 | .byt b,u=>∃t,u=Value.bytes b t
 | .flt b,u=>∃t,u=j49 b t
 | .ref a,u=>u=J1 a
 | .ty n,u=>u=N3 n
abbrev Vals:List V->List Value->Prop:=P9 RelV
theorem Vals.length {xs:List V} {us:List Value} (r:Vals xs us):xs.length=us.length:=v8 r
theorem Vals.get :∀{xs:List V} {us:List Value} {i:Nat} {x:V},Vals xs us->xs[i]? = some x->∃u,us[i]? = some u/\RelV x u
 | _,_,_,_,.nil,e=>by simp at e
 | _,_,0,_,.cons r _,e=>by simp at e;subst e;exact ⟨_,rfl,r⟩
 | _,_,i + 1,x,.cons _ t,e=>by obtain ⟨u,b,a⟩:=Vals.get (i:=i) (x:=x) t (by simpa using e);exact ⟨u,by simpa using b,a⟩
theorem Vals.set {x:V} {u:Value} (r:RelV x u) :∀{xs:List V} {us:List Value} (i:Nat),Vals xs us->Vals (xs.set i x) (us.set i u)
 | _,_,_,.nil=>.nil
 | _,_,0,.cons _ t=>.cons r t
 | _,_,i + 1,.cons q t=>.cons q (Vals.set r i t)
theorem Vals.append :∀{xs ys:List V} {us ws:List Value},Vals xs us->Vals ys ws->Vals (xs++ys) (us++ws)
 | _,_,_,_,.nil,s=>s
 | _,_,_,_,.cons r t,s=>.cons r (Vals.append t s)
theorem Vals.take :∀{xs:List V} {us:List Value} (n:Nat),Vals xs us->Vals (xs.take n) (us.take n)
 | _,_,0,_=>.nil
 | _,_,_ + 1,.nil=>.nil
 | _,_,n + 1,.cons r t=>.cons r (Vals.take n t)
theorem Vals.drop :∀{xs:List V} {us:List Value} (n:Nat),Vals xs us->Vals (xs.drop n) (us.drop n)
 | _,_,0,r=>r
 | _,_,_ + 1,.nil=>.nil
 | _,_,n + 1,.cons _ t=>Vals.drop n t
noncomputable def RelO:Option V->Option Value->Prop
 | some v,some u=>RelV v u
 | none,none=>True
 | _,_=>False
def KV {κ:Type}:List (κ×V)->List (κ×Value)->Prop:=P9 λ (p:κ×V) (q:κ×Value)=>p.1=q.1/\RelV p.2 q.2
noncomputable def kV:Key->V
 | .inl i=>.int i
 | .inr x=>.str x
inductive HO where
 | lst (xs:List V)
 | tup (xs:List V)
 | dK (kvs:List (Key×V))|dT (kvs:List (List Key×V))
 | set (S:Int->Bool) (n:Nat)
 | ins (C dx:Addr) (fs:List (Str×V))
 | own (x:Addr)
 | xd (fs:List (Str×V))
 | met (f x:Addr)
 | rng (lo hi:Int)
 | frz (o:Obj) (u:HO)
 | tbl (ps:Array Value)
 | ext (φ:Heap->Prop)
noncomputable abbrev Hp:=Addr->Option HO
noncomputable def upd (H:Hp) (a:Addr) (o:HO):Hp:=λ b=>if b=a then some o else H b
theorem z04 {H:Hp} {a:Addr} {o:HO}:upd H a o a=some o:=by unfold upd;rw [if_pos rfl]
theorem upd_ne {H:Hp} {a b:Addr} {o:HO} (h:b≠a):upd H a o b=H b:=by unfold upd;rw [if_neg h]
theorem ne_of {H:Hp} {a b:Addr} {o u:HO} (h:H a=some o) (h':H b=some u) (d:o≠u):a≠b:=by intro e;subst e;rw [h] at h';exact d (O2 h')
theorem z0m {H:Hp} {a b:Addr} {o:HO} (h:H a=some o) (h':H b=none):a≠b:=by intro e;subst e;rw [h] at h';cases h'
section
variable (P:Program) (w:W0)
def IsTupN (h:Heap) (a:Addr) (items:Array Value):Prop:=IsTup h a items/\∃o,h.get? a=some o/\o.dict=none
theorem IsTupN.new (h:Heap) (items:Array Value):IsTupN (h.push { cls:=.type "tuple",data:=.seq items }) h.objs.size items:=⟨IsTup.new _ _,_,C1 _ rfl,rfl⟩
noncomputable def ObjOk (H:Hp) (h:Heap) (a:Addr):HO->Prop
 | .lst xs=>xs.length<=sizeLine/\∃(its:List Value) (n:Nat),Vals xs its/\h.get? a=some { cls:=.type "list",data:=.seq its.toArray n }
 | .tup xs=>xs.length<=sizeLine/\∃its:List Value,Vals xs its/\IsTupN h a its.toArray
 | .dK kvs=>kvs.length<=sizeLine/\(a == R5)=false/\∃vs,KV kvs vs/\h.DictOf (z0i P w) a vs
 | .dT kvs=>kvs.length<=sizeLine/\(a == R5)=false/\∃xs:List (List Key×Addr×Value),
   P9 (λ (p:List Key×V) (q:List Key×Addr×Value)=>p.1=q.1/\H q.2.1=some (.tup (p.1.map kV))/\RelV p.2 q.2.2) kvs xs/\
   ∃o es ep,h.get? a=some o/\o.ExactDict/\o.data=.dict es ep/\es.toList=xs.map (entryOfKey (b7 (z0i P w)))/\(xs.map (·.1)).Nodup
 | .set S n=>h.SetOf (M5 P w) a S n
 | .ins C dx fs=>H dx=some (.own a)/\fs.length<=1000/\dx≠a/\h.get? a=some (F5 C dx)/\
   ∃mA,h.Ns1 dx mA/\(∀f,RelO (fs.lookup f) (mA f))/\j39 mA (fs.map (·.1))
 | .own _=>∃o,h.get? a=some o
 | .xd fs=>∃mA,h.Ns1 a mA/\∀f,RelO (fs.lookup f) (mA f)
 | .rng lo hi=>∃t u v,h.get? a=some { cls:=.type "range",data:=.fields #[.int lo t,.int hi u,.int 1 v] }
 | .frz o u=>h.get? a=some o/\ObjOk H h a u
 | .tbl ps=>h.get? a=some { cls:=.none,data:=.fields ps }
 | .met f x=>h.get? a=some (X9 (.ref f) (.ref x))
 | .ext φ=>φ h/\(∃o,h.get? a=some o)/\∀h1 h2:Heap,φ h1->(∀o,h1.get? a=some o->h2.get? a=some o)->φ h2
def HOk (H:Hp) (h:Heap):Prop:=∀a o,H a=some o->ObjOk P w H h a o
end
section
variable {P:Program} {w:W0} {H H':Hp} {h h':Heap} {a:Addr} {o:HO}
theorem ObjOk.lt (x:ObjOk P w H h a o):a < h.objs.size:=by
 cases o with
 | lst xs=>obtain ⟨_,_,_,_,e⟩:=x;exact R0 e
 | tup xs=>obtain ⟨_,_,_,p⟩:=x;exact p.1.lt
 | dK kvs=>obtain ⟨_,_,_,_,o,_,_,e,_⟩:=x;exact R0 e
 | dT kvs=>obtain ⟨_,_,_,_,o,_,_,e,_⟩:=x;exact R0 e
 | set S n=>obtain ⟨o,_,_,_,e,_⟩:=x;exact R0 e
 | ins C dx fs=>obtain ⟨_,_,_,e,_⟩:=x;exact R0 e
 | own y=>obtain ⟨_,e⟩:=x;exact R0 e
 | xd fs=>obtain ⟨_,⟨_,_,_,e,_⟩,_⟩:=x;exact R0 e
 | rng lo hi=>obtain ⟨_,_,_,e⟩:=x;exact R0 e
 | frz ob u=>obtain ⟨e,_⟩:=x;exact R0 e
 | tbl ps=>exact R0 (show h.get? a=some _ from x)
 | met f y=>exact R0 (show h.get? a=some _ from x)
 | ext φ=>obtain ⟨_,⟨_,e⟩,_⟩:=x;exact R0 e
theorem Paired.mapP {α β:Type} {F G:α->β->Prop} :∀{l₁:List α} {l₂:List β},P9 F l₁ l₂->(∀a b,F a b->G a b)->P9 G l₁ l₂
 | _,_,.nil,_=>.nil
 | _,_,.cons r t,f=>.cons (f _ _ r) (Paired.mapP t f)
theorem ObjOk.stay (x:ObjOk P w H h a o) (k :∀b u,(b=a\/H b=some (.own a))->h.get? b=some u->h'.get? b=some u)
  (ho :∀b,H b=some (.own a)->H' b=some (.own a)) (ht :∀b xs,H b=some (.tup xs)->H' b=some (.tup xs)):ObjOk P w H' h' a o:=by
 induction o with
 | lst xs=>obtain ⟨z,A,n,r,e⟩:=x;exact ⟨z,A,n,r,k _ _ (.inl rfl) e⟩
 | tup xs=>obtain ⟨z,A,r,⟨g,e,c⟩,G,l,D⟩:=x;exact ⟨z,A,r,⟨g,k _ _ (.inl rfl) e,c⟩,G,k _ _ (.inl rfl) l,D⟩
 | dK kvs=>obtain ⟨z,y,E,r,g,i,j,e,c⟩:=x;exact ⟨z,y,E,r,g,i,j,k _ _ (.inl rfl) e,c⟩
 | dT kvs=>obtain ⟨z,y,xs,r,g,i,j,e,c⟩:=x;exact ⟨z,y,xs,Paired.mapP r λ p q z=>⟨z.1,ht _ _ z.2.1,z.2.2⟩,g,i,j,k _ _ (.inl rfl) e,c⟩
 | set S n=>obtain ⟨g,i,j,t,e,c⟩:=x;exact ⟨g,i,j,t,k _ _ (.inl rfl) e,c⟩
 | ins C dx fs=>obtain ⟨d,z,F,e,m,⟨s,i,j,l,c⟩,r⟩:=x;exact ⟨ho _ d,z,F,k _ _ (.inl rfl) e,m,⟨s,i,j,k _ _ (.inr d) l,c⟩,r⟩
 | own y=>obtain ⟨g,e⟩:=x;exact ⟨g,k _ _ (.inl rfl) e⟩
 | xd fs=>obtain ⟨m,⟨s,i,j,e,c⟩,r⟩:=x;exact ⟨m,⟨s,i,j,k _ _ (.inl rfl) e,c⟩,r⟩
 | rng lo hi=>obtain ⟨t,u,v,e⟩:=x;exact ⟨t,u,v,k _ _ (.inl rfl) e⟩
 | frz g u ih=>obtain ⟨e,q⟩:=x;exact ⟨k _ _ (.inl rfl) e,ih q⟩
 | tbl ps=>have e:h.get? a=some { cls:=.none,data:=.fields ps }:=x;show h'.get? a=some { cls:=.none,data:=.fields ps };exact k a _ (.inl rfl) e
 | met f y=>have e:h.get? a=some (X9 (.ref f) (.ref y)):=x;show h'.get? a=some (X9 (.ref f) (.ref y));exact k a _ (.inl rfl) e
 | ext φ=>obtain ⟨p,⟨o,e⟩,B⟩:=x;exact ⟨B _ _ p λ o q=>k _ _ (.inl rfl) q,⟨o,k _ _ (.inl rfl) e⟩,B⟩
theorem HOk.lt (x:HOk P w H h) (e:H a=some o):a < h.objs.size:=(x a o e).lt
theorem HOk.fresh (x:HOk P w H h) (e:h.objs.size<=a):H a=none:=by
 cases q:H a with
 | none=>rfl
 | some u=>exact absurd (F2 (x.lt q) e) (Q4 _)
theorem HOk.kept (x:HOk P w H h) (k :∀b u,h.get? b=some u->h'.get? b=some u):HOk P w H h':=λ a o e=>(x a o e).stay (λ b u _ q=>k b u q) (λ _ q=>q) λ _ _ q=>q
theorem HOk.laid (x:HOk P w H h) (k :∀b u,h.get? b=some u->h'.get? b=some u) (hp:h.objs.size<=a) (new:ObjOk P w (upd H a o) h' a o):HOk P w (upd H a o) h':=λ b u e=>by
 have d:=x.fresh hp;by_cases hb:b=a
 ·subst hb;rw [z04] at e;cases e;exact new
 ·rw [upd_ne hb] at e;exact (x b u e).stay (λ c v _ q=>k c v q) (λ c q=>by rw [upd_ne (z0m q d)];exact q) λ c f q=>by rw [upd_ne (z0m q d)];exact q
end
def Rd (H:Hp) (a:Addr) (u:HO):Prop:=H a=some u\/∃o,H a=some (.frz o u)
theorem Rd.ok {P:Program} {w:W0} {H:Hp} {h:Heap} {a:Addr} {u:HO} (r:Rd H a u) (x:HOk P w H h):ObjOk P w H h a u:=by
 rcases r with r|⟨o,r⟩
 ·exact x a u r
 ·obtain ⟨_,q⟩:=x a _ r;exact q
noncomputable def Mut:Option HO->Prop
 | some (.lst _)=>True
 | some (.dK _)=>True
 | some (.dT _)=>True
 | some (.set _ _)=>True
 | some (.ins _ _ _)=>True
 | some (.ext _)=>True
 | _=>False
section
variable {P:Program} {w:W0} {H:Hp} {h h':Heap} {x e:Addr} {o':HO}
theorem HOk.write (ok:HOk P w H h) (mu:Mut (H x)) (he:e=x\/H e=some (.own x)) (k :∀b u,b≠e->h.get? b=some u->h'.get? b=some u) (heo :∃u,h'.get? e=some u)
  (new:ObjOk P w (upd H x o') h' x o'):HOk P w (upd H x o') h':=λ b u q=>by
 have g :∀c y,H c=some (.own y)->c≠x:=λ c y r z=>by subst z;rw [r] at mu;exact mu
 have j :∀c a,H c=some (.tup a)->c≠x:=λ c a r z=>by subst z;rw [r] at mu;exact mu
 by_cases hb:b=x
 ·subst hb;rw [z04] at q;cases q;exact new
 ·rw [upd_ne hb] at q;by_cases hbe:b=e
  ·have f:H b=some (.own x):=by
    rcases he with z|z
    ·exact absurd (hbe.trans z) hb
    ·rw [hbe];exact z
   rw [q] at f;cases f;obtain ⟨v,i⟩:=heo;exact ⟨v,by rw [hbe];exact i⟩
  ·refine (ok b u q).stay (λ c v d r=>k c v ?_ r) (λ c r=>by rw [upd_ne (g c b r)];exact r) λ c a r=>by rw [upd_ne (j c a r)];exact r
   rcases d with rfl|d
   ·exact hbe
   ·rintro rfl;rcases he with z|z
    ·exact g c b d z
    ·rw [d] at z;cases z;exact hb rfl
end
structure Un (fs ex:List Addr) (H H':Hp) (h h':Heap):Prop where
 keep :∀b o,h.get? b=some o->H b=none->b∉fs->b∉ex->h'.get? b=some o
 slot :∀b o,h.get? b=some o->H b=none->b∈fs->b∉ex->∃sl,h'.get? b=some { o with slots:=sl }
 free :∀b o,h.get? b=some o->H b=none->b∉ex->H' b=none
 there :∀b o,h.get? b=some o->b∉ex->∃o',h'.get? b=some o'
 tups :∀b xs,H b=some (.tup xs)->H' b=some (.tup xs)
 frzs :∀b o u,H b=some (.frz o u)->H' b=some (.frz o u)
 tbls :∀b ps,H b=some (.tbl ps)->∃more,H' b=some (.tbl (ps++more))
section
variable {fs fs' ex ex':List Addr} {H H1 H2:Hp} {h h1 h2 h':Heap} {a x e:Addr} {o:HO}
theorem Un.any (u:Un fs ex H H1 h h1) {b:Addr} {ob:Obj} (q:h.get? b=some ob) (n:H b=none) (hx:b∉ex) :∃sl,h1.get? b=some { ob with slots:=sl }:=by
 by_cases hb:b∈fs
 ·exact u.slot b ob q n hb hx
 ·exact ⟨ob.slots,u.keep b ob q n hb hx⟩
theorem Un.kept (k :∀b u,h.get? b=some u->h'.get? b=some u):Un fs ex H H h h':=
 ⟨λ b a q _ _ _=>k b a q,λ b a q _ _ _=>⟨a.slots,k b a q⟩,λ _ _ _ n _=>n,λ b a q _=>⟨a,k b a q⟩,λ _ _ q=>q,λ _ _ _ q=>q,λ _ c q=>⟨#[],by rw [q];simp⟩⟩
theorem Un.refl:Un fs ex H H h h:=Un.kept λ _ _ q=>q
theorem Un.laid (k :∀b u,h.get? b=some u->h'.get? b=some u) (hp:h.objs.size<=a) (hn:H a=none):Un fs ex H (upd H a o) h h' where
 keep:=λ b u q _ _ _=>k b u q
 slot:=λ b u q _ _ _=>⟨u.slots,k b u q⟩
 free:=λ b u q n _=>by rw [upd_ne (Z0 (F2 (R0 q) hp))];exact n
 there:=λ b u q _=>⟨u,k b u q⟩
 tups:=λ b c q=>by rw [upd_ne (z0m q hn)];exact q
 frzs:=λ b u c q=>by rw [upd_ne (z0m q hn)];exact q
 tbls:=λ b d q=>⟨#[],by rw [upd_ne (z0m q hn),q];simp⟩
theorem Un.write (mu:Mut (H x)) (he:e=x\/H e=some (.own x)) (k :∀b u,b≠e->h.get? b=some u->h'.get? b=some u) (heo :∃u,h'.get? e=some u):Un fs ex H (upd H x o) h h':=by
 have d :∀b,H b=none->b≠x:=λ b n z=>by subst z;rw [n] at mu;exact mu
 have c :∀b,H b=none->b≠e:=λ b n z=>by
  subst z;rcases he with r|r
  ·exact d b n r
  ·rw [n] at r;cases r
 have a :∀b u,H b=some u->¬ Mut (some u)->b≠x:=λ b u q f z=>by subst z;rw [q] at mu;exact f mu
 refine ⟨λ b u q n _ _=>k b u (c b n) q,λ b u q n _ _=>⟨u.slots,k b u (c b n) q⟩,λ b u q n _=>by rw [upd_ne (d b n)];exact n,λ b u q _=>?_,
  λ b g q=>by rw [upd_ne (a b _ q λ z=>z)];exact q,λ b u g q=>by rw [upd_ne (a b _ q λ z=>z)];exact q,λ b i q=>⟨#[],by rw [upd_ne (a b _ q λ z=>z),q];simp⟩⟩
 by_cases hbe:b=e
 ·subst hbe;exact heo
 ·exact ⟨u,k b u hbe q⟩
end
noncomputable def trk (h:Heap) (H:Hp):List Addr:=(O0 h.objs.size).filter λ a=>(H a).isSome
noncomputable def hidT (h:Heap) (H:Hp):Heap:=j13 h (trk h H)
theorem zh4 (h:Heap) (H:Hp):(hidT h H).objs.size=h.objs.size:=PySem.W.hideAll_size _ _
theorem zjp {h:Heap} {H:Hp} {b:Addr} {o:Obj} (e:h.get? b=some o) (n:H b=none):(hidT h H).get? b=some o:=
 E7 _ e λ a=>by have q:(H b).isSome=true:=(List.mem_filter.mp a).2;rw [n] at q;simp at q
theorem zla {h:Heap} {H:Hp} {b:Addr} {o:Obj} (e:(hidT h H).get? b=some o):h.get? b=some o/\H b=none:=by
 have a:h.get? b=some o:=j4b (trk h H) e;refine ⟨a,?_⟩;cases q:H b with
 | none=>rfl
 | some x=>have c:b∈trk h H:=List.mem_filter.mpr ⟨List.mem_range.mpr (R0 a),by simp [q]⟩;have z:(hidT h H).get? b=none:=PySem.W.hideAll_none (trk h H) c;rw [z] at e;cases e
noncomputable def zk9 (g h:Heap) (L:Addr):List (Addr×Obj):=(O0 h.objs.size).filterMap λ a=>if a=L\/(g.get? a).isSome=true then none else (h.get? a).map λ o=>(a,o)
noncomputable def rest (g h:Heap) (L d:Addr):List (Addr×Obj):=(zk9 g h L).filter λ p=>decide (p.1≠d)
structure Mod (K:j0) (mg:Str->Option Value) (base:Heap):Prop where
 kin:K.In base
 glob:base.Ns Q2 mg
 blt :∃mb,base.Ns builtinsNs mb/\∀x:Str,x≠"__name__"->mb x=N5 x
 nolimit:base.NoLimit
structure Cx where
 prog:Program
 w:W0
 K:j0
 mg:Str->Option Value
 base:Heap
 A:P2
 N:List Str
 s₀:C0
 H₀:Hp
 env:Env
 outer:List Env
 stack:List Env
 ex:List Addr
 fn:Str->Bool
 calm:Bool
 pn:List (Addr×Obj)
 xe:Value->C0->Prop
noncomputable def frs (l:List Env):List Addr:=l.filterMap (·.frame)
noncomputable abbrev Cx.fs (X:Cx):List Addr:=frs X.outer
def Vis (sc:Scope) (x:Str):Prop:=sc.names.lookup x=some .local\/sc.names.lookup x=some .cell\/sc.names.lookup x=some .free
def Loc (sc:Scope) (x:Str):Prop:=sc.names.lookup x=some .local\/sc.names.lookup x=some .cell
def Look (env:Env) (h:Heap) (m:Str->Option Value) (x:Str) (u:Value):Prop:=
 (env.kindOf x=some .local/\m x=some u)\/((env.kindOf x=some .cell\/env.kindOf x=some .free)/\∃c,env.cells.lookup x=some c/\h.IsCell c (some u))
structure Cx.Ok (X:Cx):Prop where
 mod:Mod X.K X.mg X.base
 kind:X.env.scope.kind=.function
 glob:X.env.globals=Q2
 blt:X.env.builtins=builtinsNs
 above:X.s₀.heap.objs.size<=X.env.locals
 inj :∀x y c,X.env.cells.lookup x=some c->X.env.cells.lookup y=some c->x=y
 has :∀x,(X.env.kindOf x=some .cell\/X.env.kindOf x=some .free)->∃c,X.env.cells.lookup x=some c
 cab :∀x c,X.fn x=true->X.env.cells.lookup x=some c->X.s₀.heap.objs.size<=c
 hd:X.calm=true->X.A.handled=none
 frames:X.A.frames=some X.stack
 stk:X.stack=X.outer\/(X.stack=X.env :: X.outer/\X.env.frame=some X.env.locals)
 exf :∀b∈X.ex,b≠X.env.locals/\∀x c,X.env.cells.lookup x=some c->c≠b
 bs :∀b o,X.base.get? b=some o->X.s₀.heap.get? b=some o/\X.H₀ b=none
 bsz:X.base.objs.size<=X.s₀.heap.objs.size
 noex :∀b o,X.base.get? b=some o->b∉X.ex
 exfs :∀b∈X.ex,b∉X.fs
 funs:X.s₀.heap.FunFrames X.base X.outer
 frf :∀b∈X.fs,X.H₀ b=none
structure Inv (X:Cx) (pins:List (Addr×Obj)) (σ:List (Option V)) (H:Hp) (s:C0):Prop where
 ok:X.Ok
 os:s.os=X.s₀.os
 bare:a9 s.gens
 base:Un X.fs X.ex X.H₀ H X.s₀.heap s.heap
 loc :∃m,s.heap.Ns X.env.locals m/\∀(i:Nat) (x:Str) (v:V),X.N[i]? = some x->σ[i]? = some (some v)->Vis X.env.scope x->∃u,RelV v u/\Look X.env s.heap m x u
 cell :∀x c,X.env.cells.lookup x=some c->∃v,s.heap.IsCell c v
 free:H X.env.locals=none
 freeC :∀x c,X.env.cells.lookup x=some c->H c=none
 pin :∀p∈X.pn++pins,s.heap.get? p.1=some p.2/\H p.1=none/\p.1≠X.env.locals/\p.1∉X.fs/\∀v,p.2.data≠.cell v
 hok:HOk X.prog X.w H s.heap
 len:σ.length=X.N.length
section
variable {X:Cx} {pins:List (Addr×Obj)} {σ:List (Option V)} {H H':Hp} {s:C0} {h':Heap}
theorem Cx.Ok.nofr (ok:X.Ok) {b:Addr} {o:Obj} (e:X.base.get? b=some o):b∉X.fs:=λ a=>by have:=(ok.funs.mem a).1;rw [e] at this;cases this
theorem Inv.bs (I:Inv X pins σ H s) :∀b o,X.base.get? b=some o->s.heap.get? b=some o/\H b=none:=λ b o e=>⟨I.base.keep b o (I.ok.bs b o e).1 (I.ok.bs b o e).2 (I.ok.nofr e) (I.ok.noex b o e),I.base.free b o (I.ok.bs b o e).1 (I.ok.bs b o e).2 (I.ok.noex b o e)⟩
theorem Inv.bk (I:Inv X pins σ H s) :∀b o,X.base.get? b=some o->s.heap.get? b=some o:=λ b o e=>(I.bs b o e).1
theorem Inv.mod (I:Inv X pins σ H s):Mod X.K X.mg X.base:=I.ok.mod
theorem Inv.kIn (I:Inv X pins σ H s):X.K.In s.heap:=I.ok.mod.kin.keeps I.bk
theorem Inv.lt (I:Inv X pins σ H s):X.env.locals < s.heap.objs.size:=let ⟨_,hn,_⟩:=I.loc;hn.lt
theorem Inv.sz (I:Inv X pins σ H s):X.s₀.heap.objs.size<=s.heap.objs.size:=L0 I.ok.above (j16 I.lt)
theorem Inv.nofs (I:Inv X pins σ H s) {a:Addr} (h:s.heap.objs.size<=a):a∉X.fs:=λ c=>by obtain ⟨_,o,b,_⟩:=I.ok.funs.mem c;exact absurd (F2 (R0 b) (L0 I.sz h)) (Q4 _)
theorem Inv.cne (I:Inv X pins σ H s) :∀x c,X.env.cells.lookup x=some c->c≠X.env.locals:=λ x c e z=>by obtain ⟨v,o,b,a⟩:=I.cell x c e;obtain ⟨m,⟨i,g,h,d,f,_⟩,_⟩:=I.loc;rw [z,d] at b;cases b;rw [f] at a;cases a
theorem Inv.funs (I:Inv X pins σ H s):s.heap.FunFrames X.base X.outer:=by
 have all :∀(l:List Env),(∀b∈frs l,b∈X.fs)->X.s₀.heap.FunFrames X.base l->s.heap.FunFrames X.base l:=by
  intro l;induction l with
  | nil=>intro _ _;trivial
  | cons env r ih=>intro f m;obtain ⟨g,⟨L,o,a,h,k,j⟩,i⟩:=m;have c:L∈X.fs:=f L (by unfold frs;rw [O5,a];exact X1);obtain ⟨n,e⟩:=I.base.slot L o k (I.ok.frf L c) c λ z=>I.ok.exfs L z c;exact ⟨g,⟨L,_,a,h,e,j⟩,ih (λ b d=>f b (by unfold frs;rw [O5,a];exact V1 _ d)) i⟩
 exact all X.outer (λ _ d=>d) I.ok.funs
theorem Inv.stack (I:Inv X pins σ H s):s.heap.FunFrames X.base X.stack:=by
 rcases I.ok.stk with e|⟨e,hf⟩
 ·rw [e];exact I.funs
 ·rw [e];obtain ⟨m,a,_⟩:=I.loc;refine .cons (by rw [I.ok.kind];decide) hf a ?_ I.funs;exact Heap.get?_none_of_le (L0 I.ok.bsz I.ok.above)
theorem Inv.stkSub (I:Inv X pins σ H s) :∀b∈frs X.stack,b∈X.env.locals :: X.fs:=λ b a=>by
 rcases I.ok.stk with e|⟨e,hf⟩
 ·rw [e] at a;exact V1 _ a
 ·rw [e] at a;unfold frs at a;rw [O5,hf] at a;exact a
theorem Inv.stkFree (I:Inv X pins σ H s) :∀b∈frs X.stack,H b=none:=λ b a=>by
 rcases List.mem_cons.mp (I.stkSub b a) with e|a
 ·rw [e];exact I.free
 ·obtain ⟨_,o,c,_⟩:=I.ok.funs.mem a;exact I.base.free b o c (I.ok.frf b a) λ z=>I.ok.exfs b z a
theorem Inv.step {g':Array GenState} {t':Nat} {d':Drawn} {ch:List Addr} (I:Inv X pins σ H s)
  (hch :∀b∈ch,(b∈X.ex\/X.s₀.heap.objs.size<=b)/\b≠X.env.locals/\(∀x c,X.env.cells.lookup x=some c->c≠b)/\∀p∈X.pn++pins,p.1≠b)
  (keep :∀b o,b≠X.env.locals->b∉X.fs->b∉ch->s.heap.get? b=some o->H b=none->h'.get? b=some o)
  (slot :∀b o,b≠X.env.locals->b∈X.fs->b∉ch->s.heap.get? b=some o->H b=none->∃sl,h'.get? b=some { o with slots:=sl }) (free :∀b o,b∉ch->s.heap.get? b=some o->H b=none->H' b=none)
  (there :∀b o,b∉ch->s.heap.get? b=some o->∃o',h'.get? b=some o')
  (tups :∀b xs,H b=some (.tup xs)->H' b=some (.tup xs)) (frzs :∀b o u,H b=some (.frz o u)->H' b=some (.frz o u)) (tbls :∀b ps,H b=some (.tbl ps)->∃more,H' b=some (.tbl (ps++more)))
  (ns :∀m,s.heap.Ns X.env.locals m->h'.Ns X.env.locals m) (hok:HOk X.prog X.w H' h') (hg:a9 g') :
  Inv X pins σ H' { s with heap:=h',gens:=g',drawn:=d',toks:=t' }:=by
 have D :∀b o,X.s₀.heap.get? b=some o->b≠X.env.locals:=λ b o e=>Z0 (F2 (R0 e) I.ok.above);have y :∀b o,X.s₀.heap.get? b=some o->b∉X.ex->b∉ch:=λ b o e a g=>by
  rcases (hch b g).1 with z|z
  ·exact a z
  ·exact absurd (F2 (R0 e) z) (Q4 _)
 have C :∀x c,X.env.cells.lookup x=some c->∀v,s.heap.IsCell c v->h'.IsCell c v:=λ x c e v ⟨o,h,A⟩=>by
  have j:c∉ch:=λ z=>(hch c z).2.2.1 x c e rfl;by_cases hc:c∈X.fs
  ·obtain ⟨sl,q⟩:=slot c o (I.cne x c e) hc j h (I.freeC x c e);exact ⟨_,q,A⟩
  ·exact ⟨o,keep c o (I.cne x c e) hc j h (I.freeC x c e),A⟩
 refine ⟨I.ok,I.os,hg,⟨λ b o e n g a=>?_,λ b o e n g a=>?_,λ b o e n a=>?_,λ b o e a=>?_,λ b xs e=>tups b xs (I.base.tups b xs e),λ b o xs e=>frzs b o xs (I.base.frzs b o xs e),λ b ps e=>?_⟩,?_,λ x c e=>?_,?_,λ x c e=>?_,λ p E=>?_,hok,I.len⟩
 ·exact keep b o (D b o e) g (y b o e a) (I.base.keep b o e n g a) (I.base.free b o e n a)
 ·obtain ⟨sl,f⟩:=I.base.slot b o e n g a;obtain ⟨N,t⟩:=slot b _ (D b o e) g (y b o e a) f (I.base.free b o e n a);exact ⟨N,t⟩
 ·obtain ⟨o',f⟩:=I.base.there b o e a;exact free b o' (y b o e a) f (I.base.free b o e n a)
 ·obtain ⟨o',f⟩:=I.base.there b o e a;exact there b o' (y b o e a) f
 ·obtain ⟨L,f⟩:=I.base.tbls b ps e;obtain ⟨G,t⟩:=tbls b _ f;exact ⟨L++G,by rw [t,Array.append_assoc]⟩
 ·obtain ⟨m,K,M⟩:=I.loc;refine ⟨m,ns m K,λ i x v f t J=>?_⟩;obtain ⟨u,r,l⟩:=M i x v f t J;refine ⟨u,r,?_⟩;rcases l with l|⟨k,c,e,z⟩
  ·exact .inl l
  ·exact .inr ⟨k,c,e,C x c e _ z⟩
 ·obtain ⟨v,z⟩:=I.cell x c e;exact ⟨v,C x c e v z⟩
 ·obtain ⟨m,⟨o,_,_,h,_⟩,_⟩:=I.loc;exact free _ o (λ z=>(hch _ z).2.1 rfl) h I.free
 ·obtain ⟨v,o,h,A⟩:=I.cell x c e;exact free c o (λ z=>(hch c z).2.2.1 x c e rfl) h (I.freeC x c e)
 ·obtain ⟨e,n,F,B,d⟩:=I.pin p E;have j:p.1∉ch:=λ z=>(hch p.1 z).2.2.2 p E rfl;exact ⟨keep p.1 p.2 F B j e n,free p.1 p.2 j e n,F,B,d⟩
theorem Inv.un {t':Nat} (I:Inv X pins σ H s) (u:Un X.fs [] H H' s.heap h') (hok:HOk X.prog X.w H' h'):Inv X pins σ H' { s with heap:=h',toks:=t' }:=by obtain ⟨m,⟨o,l,p,d,r⟩,_⟩:=id I.loc;obtain ⟨t,j⟩:=u.any d I.free (by simp);exact I.step (g':=s.gens) (d':=s.drawn) (ch:=[]) (λ _ z=>nomatch z) (λ b o _ a _ e n=>u.keep b o e n a (by simp)) (λ b o _ a _ e n=>u.slot b o e n a (by simp)) (λ b o _ e n=>u.free b o e n (by simp)) (λ b o _ e=>u.there b o e (by simp)) u.tups u.frzs u.tbls (λ q i=>by obtain ⟨k,h,g,c,f⟩:=i;rw [d] at c;cases c;exact ⟨_,h,g,j,f⟩) hok I.bare
theorem Inv.call {g':Array GenState} {t':Nat} {d':Drawn} {ch:List Addr} (I:Inv X pins σ H s) (u:Un (frs X.stack) ch H H' s.heap h') (hok:HOk X.prog X.w H' h') (hg:a9 g')
  (hch :∀b∈ch,(b∈X.ex\/X.s₀.heap.objs.size<=b)/\b≠X.env.locals/\(∀x c,X.env.cells.lookup x=some c->c≠b)/\∀p∈X.pn++pins,p.1≠b) :
  Inv X pins σ H' { s with heap:=h',gens:=g',drawn:=d',toks:=t' }:=by
 obtain ⟨m,⟨o,t,v,g,r⟩,_⟩:=id I.loc;obtain ⟨A,d⟩:=u.any g I.free λ z=>(hch _ z).2.1 rfl;exact I.step (ch:=ch) hch (λ b o d k a e n=>u.keep b o e n (λ z=>(List.mem_cons.mp (I.stkSub b z)).elim d k) a) (λ b o _ _ a e n=>u.any e n a) (λ b o a e n=>u.free b o e n a) (λ b o a e=>u.there b o e a) u.tups u.frzs u.tbls (λ y l=>by obtain ⟨q,j,i,f,h⟩:=l;rw [g] at f;cases f;exact ⟨_,j,i,d,h⟩) hok hg
theorem Inv.turned {t':Nat} {it:Addr} (I:Inv X pins σ H s) (k :∀b o,b≠it->s.heap.get? b=some o->h'.get? b=some o) (hn:H it=none) (hL:it≠X.env.locals)
  (h1:it∈X.ex\/X.s₀.heap.objs.size<=it) (h2 :∀x c,X.env.cells.lookup x=some c->c≠it) (h3 :∀p∈X.pn++pins,p.1≠it):Inv X pins σ H { s with heap:=h',toks:=t' }:=by
 have d :∀b u,H b=some u->b≠it:=λ b u e z=>by rw [z,hn] at e;cases e
 refine I.step (g':=s.gens) (d':=s.drawn) (ch:=[it]) (λ b i=>?_) (λ b o _ _ a e _=>k b o (λ z=>a (by simp [z])) e) (λ b o _ _ a e _=>⟨o.slots,k b o (λ z=>a (by simp [z])) e⟩) (λ _ _ _ _ n=>n)
  (λ b o a e=>⟨o,k b o (λ z=>a (by simp [z])) e⟩) (λ _ _ e=>e) (λ _ _ _ e=>e) (λ b l e=>⟨#[],by rw [e];simp⟩) (λ m j=>?_) (λ b u e=>?_) I.bare
 ·have e:b=it:=by simpa using i
  subst e;exact ⟨h1,hL,h2,h3⟩
 ·obtain ⟨o,f,g,h,r⟩:=j;exact ⟨o,f,g,k _ o (A2 hL) h,r⟩
 ·refine (I.hok b u e).stay (λ c v a q=>k c v ?_ q) (λ _ q=>q) λ _ _ q=>q;rcases a with z|z
  ·rw [z];exact d b u e
  ·exact d c _ z
theorem Inv.tok (I:Inv X pins σ H s) (t:Nat):Inv X pins σ H { s with toks:=t }:=I.un (h':=s.heap) (t':=t) Un.refl I.hok
theorem Inv.kept {t':Nat} (I:Inv X pins σ H s) (k :∀b u,s.heap.get? b=some u->h'.get? b=some u):Inv X pins σ H { s with heap:=h',toks:=t' }:=I.un (Un.kept k) (I.hok.kept k)
theorem Inv.laid {a:Addr} {o:HO} {t':Nat} (I:Inv X pins σ H s) (k :∀b u,s.heap.get? b=some u->h'.get? b=some u) (hp:s.heap.objs.size<=a) (new:ObjOk X.prog X.w (upd H a o) h' a o) :
  Inv X pins σ (upd H a o) { s with heap:=h',toks:=t' }:=I.un (Un.laid k hp (I.hok.fresh hp)) (I.hok.laid k hp new)
theorem Inv.write {x e:Addr} {o:HO} {t':Nat} (I:Inv X pins σ H s) (mu:Mut (H x)) (he:e=x\/H e=some (.own x)) (k :∀b u,b≠e->s.heap.get? b=some u->h'.get? b=some u) (heo :∃u,h'.get? e=some u)
  (new:ObjOk X.prog X.w (upd H x o) h' x o):Inv X pins σ (upd H x o) { s with heap:=h',toks:=t' }:=I.un (Un.write mu he k heo) (I.hok.write mu he k heo new)
theorem Inv.weak {σ':List (Option V)} (I:Inv X pins σ H s) (hl:σ'.length=σ.length) (w :∀(i:Nat) v,σ'[i]? = some (some v)->σ[i]? = some (some v)):Inv X pins σ' H s:=
 ⟨I.ok,I.os,I.bare,I.base,let ⟨m,hn,hl'⟩:=I.loc;⟨m,hn,λ i x v b c a=>hl' i x v b (w i v c) a⟩,I.cell,I.free,I.freeC,I.pin,I.hok,hl.trans I.len⟩
theorem Inv.pins_of {pins':List (Addr×Obj)} (I:Inv X pins σ H s) (h :∀p∈pins',s.heap.get? p.1=some p.2/\H p.1=none/\p.1≠X.env.locals/\p.1∉X.fs/\∀v,p.2.data≠.cell v):Inv X pins' σ H s:=
 ⟨I.ok,I.os,I.bare,I.base,I.loc,I.cell,I.free,I.freeC,λ p a=>(List.mem_append.mp a).elim (λ z=>I.pin p (F7 _ z)) (h p),I.hok,I.len⟩
theorem zd8 {N:List Str} (hN:N.Nodup) {i j:Nat} {x:Str} (a:N[i]? = some x) (b:N[j]? = some x):i=j:=by obtain ⟨f,c⟩:=List.getElem?_eq_some_iff.mp a;obtain ⟨e,d⟩:=List.getElem?_eq_some_iff.mp b;exact (List.getElem_inj hN).mp (c.trans d.symm)
theorem zgr {M:Model} {A:P2} {E:Value->C0->Prop} {i:Nat} {x:Str} {v:V} {u:Value} {Q:Unit->C0->Prop} (I:Inv X pins σ H s) (hN:X.N.Nodup) (hi:X.N[i]? = some x) (hx:Loc X.env.scope x) (r:RelV v u)
  (h :∀s',Inv X pins (σ.set i (some v)) H s'->(∃a,T7 a s.heap s'.heap/\(a=X.env.locals\/X.env.cells.lookup x=some a))->Q () s') (hf:X.fn x=true\/X.env.scope.names.lookup x=some .local:=by first|exact .inl rfl|exact .inr rfl|assumption):T0 M A (storeName X.env x u) Q E s:=by
 obtain ⟨m,R,hl⟩:=id I.loc;have a6:(X.env.scope.kind == .class || (X.env.scope.kind == .module && X.env.locals != X.env.globals))=false:=by rw [I.ok.kind];rfl
 have a2:i < σ.length:=by rw [I.len];exact (List.getElem?_eq_some_iff.mp hi).1
 have cne:=I.cne;have a0 :∀{a:Addr} {C:Heap},(∃o,s.heap.get? a=some o/\H a=none)->T7 a s.heap C->HOk X.prog X.w H C:=λ {a C} ha f b ob e=>by
  obtain ⟨_,_,Y⟩:=ha;refine (I.hok b ob e).stay (λ c G l q=>(f.2 c ?_).trans q) (λ _ q=>q) λ _ _ q=>q;rintro rfl;rcases l with rfl|l
  ·rw [Y] at e;cases e
  ·rw [Y] at l;cases l
 rcases hx with hk|hk
 ·refine wpAny_storeName_local hk R (λ C a5 f=>?_) a6;obtain ⟨oL,_,_,a3,_⟩:=id R;refine h _ ⟨I.ok,I.os,I.bare,⟨λ b o e n B hx=>?_,λ b o e n B hx=>?_,I.base.free,λ b o e hx=>?_,I.base.tups,I.base.frzs,I.base.tbls⟩,⟨_,a5,λ j y S g t L=>?_⟩,λ y c e=>?_,I.free,I.freeC,λ p P=>?_,a0 ⟨oL,a3,I.free⟩ f,by simpa using I.len⟩ ⟨_,f,.inl rfl⟩
  ·exact (f.2 b (Z0 (F2 (R0 e) I.ok.above))).trans (I.base.keep b o e n B hx)
  ·obtain ⟨U,g⟩:=I.base.slot b o e n B hx;exact ⟨U,(f.2 b (Z0 (F2 (R0 e) I.ok.above))).trans g⟩
  ·obtain ⟨W,g⟩:=I.base.there b o e hx;exact ⟨W,(f.2 b (Z0 (F2 (R0 e) I.ok.above))).trans g⟩
  ·by_cases hj:j=i
   ·subst hj;rw [hi] at g;cases g;rw [Q0 a2] at t;cases t;exact ⟨u,r,.inl ⟨hk,by simp⟩⟩
   ·rw [D2 (A2 hj)] at t;obtain ⟨T,J,q⟩:=hl j y S g t L;refine ⟨T,J,?_⟩;rcases q with ⟨k,e⟩|⟨k,c,e,z⟩
    ·refine .inl ⟨k,?_⟩;have:y≠x:=λ e=>hj (zd8 hN g (e ▸ hi));simp [this,e]
    ·exact .inr ⟨k,c,e,z.sameBut f (cne y c e)⟩
  ·obtain ⟨G,z⟩:=I.cell y c e;exact ⟨G,z.sameBut f (cne y c e)⟩
  ·obtain ⟨e,n,F,K,d⟩:=I.pin p P;exact ⟨(f.2 p.1 F).trans e,n,F,K,d⟩
 ·have O:X.fn x=true:=by
   rcases hf with z|z
   ·exact z
   ·rw [z] at hk;cases hk
  obtain ⟨c,l⟩:=I.ok.has x (.inl hk);obtain ⟨G,z⟩:=I.cell x c l;refine wpAny_storeName_cell I.ok.kind hk l z (λ C a1 f=>?_);obtain ⟨oc,Z,a4⟩:=id z;refine h { s with heap:=C } ⟨I.ok,I.os,I.bare,⟨λ b o e n B hx=>?_,λ b o e n B hx=>?_,I.base.free,λ b o e hx=>?_,I.base.tups,I.base.frzs,I.base.tbls⟩,⟨m,R.sameBut f (A2 (cne x c l)),λ j y S g t L=>?_⟩,λ y D e=>?_,I.free,I.freeC,λ p P=>?_,a0 ⟨oc,Z,I.freeC x c l⟩ f,by simpa using I.len⟩ ⟨c,f,.inr l⟩
  ·exact (f.2 b (Z0 (F2 (R0 e) (I.ok.cab x c O l)))).trans (I.base.keep b o e n B hx)
  ·obtain ⟨U,g⟩:=I.base.slot b o e n B hx;exact ⟨U,(f.2 b (Z0 (F2 (R0 e) (I.ok.cab x c O l)))).trans g⟩
  ·obtain ⟨W,g⟩:=I.base.there b o e hx;exact ⟨W,(f.2 b (Z0 (F2 (R0 e) (I.ok.cab x c O l)))).trans g⟩
  ·by_cases hj:j=i
   ·subst hj;rw [hi] at g;cases g;rw [Q0 a2] at t;cases t;exact ⟨u,r,.inr ⟨.inl hk,c,l,a1⟩⟩
   ·rw [D2 (A2 hj)] at t;obtain ⟨T,J,q⟩:=hl j y S g t L;refine ⟨T,J,?_⟩;rcases q with q|⟨k,D,e,z'⟩
    ·exact .inl q
    ·refine .inr ⟨k,D,e,z'.sameBut f ?_⟩;rintro rfl;exact hj (zd8 hN g (I.ok.inj _ _ _ e l ▸ hi))
  ·by_cases hcc:D=c
   ·subst hcc;exact ⟨_,a1⟩
   ·obtain ⟨w2,z2⟩:=I.cell y D e;exact ⟨w2,z2.sameBut f hcc⟩
  ·obtain ⟨e,n,F,K,d⟩:=I.pin p P;refine ⟨(f.2 p.1 ?_).trans e,n,F,K,d⟩;intro q;rw [q,Z] at e;have q':oc=p.2:=O2 e;exact d G (by rw [<-q'];exact a4)
theorem zfj {M:Model} {A:P2} {E:Value->C0->Prop} {i:Nat} {x:Str} {v:V} {u:Value} {Q:Unit->C0->Prop} (I:Inv X pins σ H s) (hN:X.N.Nodup) (hi:X.N[i]? = some x) (hx:Loc X.env.scope x) (r:RelV v u)
  (h :∀s',Inv X pins (σ.set i (some v)) H s'->Q () s') (hf:X.fn x=true\/X.env.scope.names.lookup x=some .local:=by first|exact .inl rfl|exact .inr rfl|assumption):T0 M A (storeName X.env x u) Q E s:=
 zgr I hN hi hx r (λ s' a _=>h s' a) hf
theorem Inv.call' {s':C0} {ch:List Addr} (I:Inv X pins σ H s) (ho:s'.os=s.os) (u:Un (frs X.stack) ch H H' s.heap s'.heap) (hok:HOk X.prog X.w H' s'.heap) (hg:a9 s'.gens)
  (hch :∀b∈ch,(b∈X.ex\/X.s₀.heap.objs.size<=b)/\b≠X.env.locals/\(∀x c,X.env.cells.lookup x=some c->c≠b)/\∀p∈X.pn++pins,p.1≠b):Inv X pins σ H' s':=by
 obtain ⟨d,g',d',t',a⟩:=s';have e:a=s.os:=ho;subst e;exact I.call (g':=g') (t':=t') (d':=d') u hok hg hch
end
noncomputable abbrev XK:=Value->Option Addr->Hp->Prop
noncomputable abbrev St:=List (Option V)
noncomputable abbrev VK:=V->Hp->Prop
noncomputable abbrev TE:=St->Hp->VK->Prop
noncomputable abbrev TT:=St->Hp->(Bool->Hp->Prop)->Prop
noncomputable abbrev TA:=St->Hp->(List V->Hp->Prop)->Prop
structure Ends where
 nx:St->Hp->Prop
 rt:VK
 bk:St->Hp->Prop:=λ _ _=>False
 ct:St->Hp->Prop:=λ _ _=>False
noncomputable abbrev TS:=Ends->St->Hp->Prop
def EP (X:Cx) (pins:List (Addr×Obj)) (σ:St) (Q:VK) (u:Value) (s':C0):Prop:=∃v H',Inv X pins σ H' s'/\RelV v u/\Q v H'
def TP (X:Cx) (pins:List (Addr×Obj)) (σ:St) (Q:Bool->Hp->Prop) (b:Bool) (s':C0):Prop:=∃H',Inv X pins σ H' s'/\Q b H'
def AP (X:Cx) (pins:List (Addr×Obj)) (σ:St) (Q:List V->Hp->Prop) (us:List Value) (s':C0):Prop:=∃vs H',Inv X pins σ H' s'/\Vals vs us/\Q vs H'
def SP (X:Cx) (pins:List (Addr×Obj)) (D:Ends) (f:Flow) (s':C0):Prop:=
 match f with
 | .next=>∃σ' H',Inv X pins σ' H' s'/\D.nx σ' H'
 | .brk=>∃σ' H',Inv X pins σ' H' s'/\D.bk σ' H'
 | .cont=>∃σ' H',Inv X pins σ' H' s'/\D.ct σ' H'
 | .ret u=>∃v σ' H',Inv X pins σ' H' s'/\RelV v u/\D.rt v H'
def PE (X:Cx) (e:Expr) (t:TE):Prop:=
 ∀(pins:List (Addr×Obj)) (s:C0) (σ:St) (H:Hp) (Q:VK),Inv X pins σ H s->t σ H Q->T0 (N1 X.prog X.w) X.A (Z3 e X.env) (EP X pins σ Q) X.xe s
def PT (X:Cx) (e:Expr) (t:TT):Prop:=
 ∀(pins:List (Addr×Obj)) (s:C0) (σ:St) (H:Hp) (Q:Bool->Hp->Prop),Inv X pins σ H s->t σ H Q->T0 (N1 X.prog X.w) X.A (isTrue e X.env (Z3 e X.env)) (TP X pins σ Q) X.xe s
def PW (X:Cx) (e:Expr) (t:TT):Prop:=
 ∀(whole:Sem Value) (pins:List (Addr×Obj)) (s:C0) (σ:St) (H:Hp) (Q:Bool->Hp->Prop),Inv X pins σ H s->t σ H Q->T0 (N1 X.prog X.w) X.A (isTrue e X.env whole) (TP X pins σ Q) X.xe s
theorem PW.pt {X:Cx} {e:Expr} {t:TT} (h:PW X e t):PT X e t:=h _
def PA (X:Cx) (es:List Expr) (t:TA):Prop:=
 ∀(pos:Pos) (pins:List (Addr×Obj)) (s:C0) (σ:St) (H:Hp) (Q:List V->Hp->Prop),Inv X pins σ H s->t σ H Q->T0 (N1 X.prog X.w) X.A (j3f (V4 pos (E1 es X.env))) (AP X pins σ Q) X.xe s
def PS (X:Cx) (st:Stmt) (t:TS):Prop:=
 ∀(pins:List (Addr×Obj)) (s:C0) (σ:St) (H:Hp) (D:Ends),Inv X pins σ H s->t D σ H->T0 (N1 X.prog X.w) X.A (exec st X.env) (SP X pins D) X.xe s
def PSs (X:Cx) (st:List Stmt) (t:TS):Prop:=
 ∀(pins:List (Addr×Obj)) (s:C0) (σ:St) (H:Hp) (D:Ends),Inv X pins σ H s->t D σ H->T0 (N1 X.prog X.w) X.A (execs st X.env) (SP X pins D) X.xe s
theorem thn {α:Type} {t:Sem α} {Q Q':α->C0->Prop} {M:Model} {A:P2} {E:Value->C0->Prop} {s:C0} (h:T0 M A t Q E s) (hQ :∀a s,Q a s->Q' a s):T0 M A t Q' E s:=N4 h hQ λ _ _ x=>x
section
variable {X:Cx}
noncomputable def tVar (i:Nat):TE:=λ σ H Q=>∃v,σ[i]? = some (some v)/\Q v H
noncomputable def tC (v:V):TE:=λ _ H Q=>Q v H
theorem pe_var {i:Nat} {x:Str} {pos:Pos} (hN:X.N[i]? = some x) (hv:Vis X.env.scope x) (hd:(x == ("__debug__" : Str))=false:=by decide) (hcd:(x == ("__classdict__" : Str))=false:=by decide):PE X (.Name x pos) (tVar i):=by
 intro g s σ H Q I h;obtain ⟨v,e,h⟩:=h;obtain ⟨m,d,f⟩:=I.loc;obtain ⟨u,r,l⟩:=f i x v hN e hv;have b:EP X g σ Q u s:=⟨v,H,I,r,h⟩
 rcases l with ⟨a,j⟩|⟨a,c,hc,hcell⟩
 ·exact wpAny_Name (wpAny_loadName_local I.ok.kind a d j b) hd
 ·rcases a with a|a
  ·exact wpAny_Name (wpAny_loadName_cell I.ok.kind a hc hcell b) hd
  ·exact wpAny_Name (wpAny_loadName_free I.ok.kind a hc hcell b hcd) hd
theorem pe_int {i j pos}:PE X (.Constant (.int i) j pos) (tC (.int i)):=λ _ _ _ H _ I h=>wpAny_Constant_int ⟨.int i,H,I.tok _,⟨_,rfl⟩,h⟩
theorem pe_bl {b j pos}:PE X (.Constant (.bool b) j pos) (tC (.bl b)):=λ _ _ _ H _ I h=>Constant_bool ⟨.bl b,H,I,rfl,h⟩
theorem pe_non {j pos}:PE X (.Constant .none j pos) (tC .non):=λ _ _ _ H _ I h=>Constant_none ⟨.non,H,I,rfl,h⟩
theorem pe_str {x j pos}:PE X (.Constant (.str x) j pos) (tC (.str x)):=λ _ _ _ H _ I h=>Calls.Constant_str ⟨.str x,H,I.tok _,⟨_,rfl⟩,h⟩
def Gl (X:Cx) (x:Str):Prop:=X.env.kindOf x=some .globalImplicit
theorem zc1 {E:Value->C0->Prop} {pins:List (Addr×Obj)} {s:C0} {σ:St} {H:Hp} {x:Str} {u:Value} {pos:Pos} {Q:Value->C0->Prop} (I:Inv X pins σ H s) (hg:Gl X x) (hm:X.mg x=some u) (h:Q u s)
  (hd:(x == ("__debug__" : Str))=false:=by decide):T0 (N1 X.prog X.w) X.A (Z3 (.Name x pos) X.env) Q E s:=
 j26 I.ok.kind hg (Calls.loadGlobal_global (by rw [I.ok.glob];exact I.mod.glob.keeps I.bk) hm h) hd
theorem ld_blt {E:Value->C0->Prop} {pins:List (Addr×Obj)} {s:C0} {σ:St} {H:Hp} {x:Str} {u:Value} {pos:Pos} {Q:Value->C0->Prop} (I:Inv X pins σ H s) (hg:Gl X x) (hm:X.mg x=none) (hv:N5 x=some u) (h:Q u s)
  (hn:x≠"__name__":=by decide) (hd:(x == ("__debug__" : Str))=false:=by decide):T0 (N1 X.prog X.w) X.A (Z3 (.Name x pos) X.env) Q E s:=by
 obtain ⟨c,b,a⟩:=I.mod.blt;exact j26 I.ok.kind hg (Calls.loadGlobal_builtin (by rw [I.ok.glob];exact I.mod.glob.keeps I.bk) hm (by rw [I.ok.blt];exact b.keeps I.bk) ((a x hn).trans hv) h) hd
theorem z1s {x:Str} {v:V} {u:Value} {pos:Pos} (hg:Gl X x) (hm:X.mg x=some u) (r:RelV v u) (hd:(x == ("__debug__" : Str))=false:=by decide):PE X (.Name x pos) (tC v):=
 λ _ _ _ H _ I h=>zc1 I hg hm ⟨v,H,I,r,h⟩ hd
theorem z2f {x:Str} {v:V} {u:Value} {pos:Pos} (hg:Gl X x) (hm:X.mg x=none) (hv:N5 x=some u) (r:RelV v u) (hn:x≠"__name__":=by decide) (hd:(x == ("__debug__" : Str))=false:=by decide):PE X (.Name x pos) (tC v):=
 λ _ _ _ H _ I h=>ld_blt I hg hm hv ⟨v,H,I,r,h⟩ hn hd
variable {a b:Expr} {ta tb:TE} {pos:Pos}
def PC (X:Cx) (op:CmpOp) (a b:Expr) (t:TE):Prop:=
 ∀(pins:List (Addr×Obj)) (s:C0) (σ:St) (H:Hp) (Q:VK),Inv X pins σ H s->t σ H Q->
  T0 (N1 X.prog X.w) X.A (Z3 a X.env) (λ v s₁=>T0 (N1 X.prog X.w) X.A (Z3 b X.env) (λ u s₂=>T0 (N1 X.prog X.w) X.A (E3 op v u) (EP X pins σ Q) X.xe s₂) X.xe s₁) X.xe s
noncomputable def tB (t:TE):TT:=λ σ H Q=>t σ H λ x H1=>∃c,x=.bl c/\Q c H1
theorem pt_cmp {op:CmpOp} {t:TE} (h:PC X op a b t) (h1:b9 op b=false:=by first|exact nobehind _ (by decide) (by decide)|rfl):PT X (.Compare a [op] [b] pos) (tB t):=by intro g s σ H Q I e;refine wpAny_isTrue_Compare1 (thn (h g s σ H _ I e) λ v i h1=>thn h1 λ u k f=>thn f λ c j ⟨x,H1,I1,r1,q1⟩=>?_) h1;obtain ⟨d,rfl,q⟩:=q1;cases r1;exact T3 ⟨H1,I1,q⟩
theorem pt_val {e:Expr} {t:TE} (h:PE X e t) (he :∀whole,isTrue e X.env whole=(do let v <-whole;j3e e.pos;K9 [v] (truthy v)):=by intro _;rfl):PT X e (tB t):=by intro b s σ H Q I a;refine isTrue_plain (thn (h b s σ H _ I a) λ v c ⟨x,H1,I1,r1,q1⟩=>?_) (he _);obtain ⟨d,rfl,q⟩:=q1;cases r1;exact T3 ⟨H1,I1,q⟩
variable {tA tB':TT} {rest:List Expr}
noncomputable def tAnd (t u:TT):TT:=λ σ H Q=>t σ H λ c H1=>if c=true then u σ H1 Q else Q false H1
noncomputable def tOr (t u:TT):TT:=λ σ H Q=>t σ H λ c H1=>if c=true then Q true H1 else u σ H1 Q
noncomputable def tNot (t:TT):TT:=λ σ H Q=>t σ H λ c H1=>Q (!c) H1
theorem z4z (ha:PT X a tA):PW X (.BoolOp .And [a] pos) tA:=by
 intro d b s σ H Q I h;refine isTrue_and (thn (ha b s σ H Q I h) λ c f e=>?_);cases c with
 | true=>exact isTrue_and_nil e
 | false=>exact e
theorem pw_or1 (ha:PT X a tA):PW X (.BoolOp .Or [a] pos) tA:=by
 intro d b s σ H Q I h;refine isTrue_or (thn (ha b s σ H Q I h) λ c f e=>?_);cases c with
 | false=>exact isTrue_or_nil e
 | true=>exact e
theorem pw_and (ha:PT X a tA) (hb:PW X (.BoolOp .And (b :: rest) pos) tB'):PW X (.BoolOp .And (a :: b :: rest) pos) (tAnd tA tB'):=by
 intro e d s σ H Q I h;refine isTrue_and (thn (ha d s σ H _ I h) λ c f ⟨H1,I1,q1⟩=>?_);cases c with
 | true=>exact hb e d f σ H1 Q I1 q1
 | false=>exact ⟨H1,I1,q1⟩
theorem pw_or (ha:PT X a tA) (hb:PW X (.BoolOp .Or (b :: rest) pos) tB'):PW X (.BoolOp .Or (a :: b :: rest) pos) (tOr tA tB'):=by
 intro e d s σ H Q I h;refine isTrue_or (thn (ha d s σ H _ I h) λ c f ⟨H1,I1,q1⟩=>?_);cases c with
 | true=>exact ⟨H1,I1,q1⟩
 | false=>exact hb e d f σ H1 Q I1 q1
theorem pt_not (ha:PT X a tA):PT X (.UnaryOp .Not a pos) (tNot tA):=by intro d s σ H Q I h;exact isTrue_not (ha d s σ H (λ c b=>Q (!c) b) I h)
noncomputable def tAndV (ta tb:TE):TE:=λ σ H Q=>ta σ H λ x H1=>∃c,x=.bl c/\if c=true then tb σ H1 Q else Q (.bl false) H1
noncomputable def tOrV (ta tb:TE):TE:=λ σ H Q=>ta σ H λ x H1=>∃c,x=.bl c/\if c=true then Q (.bl true) H1 else tb σ H1 Q
noncomputable def tNotV (ta:TE):TE:=λ σ H Q=>ta σ H λ x H1=>∃c,x=.bl c/\Q (.bl (!c)) H1
theorem pe_one {op} {t:TE} (h:PE X a t):PE X (.BoolOp op [a] pos) t:=λ c s σ H Q I b=>BoolOp_one (h c s σ H Q I b)
theorem pe_and (ha:PE X a ta) (hb:PE X (.BoolOp .And (b :: rest) pos) tb):PE X (.BoolOp .And (a :: b :: rest) pos) (tAndV ta tb):=by
 intro e s σ H Q I h;refine BoolOp_and (thn (ha e s σ H _ I h) λ v f ⟨x,H1,I1,r1,d⟩=>?_);obtain ⟨c,rfl,d⟩:=d;cases r1;refine T3 ?_;cases c with
 | true=>exact hb e f σ H1 Q I1 d
 | false=>exact ⟨.bl false,H1,I1,rfl,d⟩
theorem pe_or (ha:PE X a ta) (hb:PE X (.BoolOp .Or (b :: rest) pos) tb):PE X (.BoolOp .Or (a :: b :: rest) pos) (tOrV ta tb):=by
 intro e s σ H Q I h;refine BoolOp_or (thn (ha e s σ H _ I h) λ v f ⟨x,H1,I1,r1,d⟩=>?_);obtain ⟨c,rfl,d⟩:=d;cases r1;refine T3 ?_;cases c with
 | false=>exact hb e f σ H1 Q I1 d
 | true=>exact ⟨.bl true,H1,I1,rfl,d⟩
theorem pe_not (ha:PE X a ta):PE X (.UnaryOp .Not a pos) (tNotV ta):=by intro d s σ H Q I h;refine UnaryOp_ (thn (ha d s σ H _ I h) λ v e ⟨x,H1,I1,r1,b⟩=>?_);obtain ⟨c,rfl,b⟩:=b;cases r1;exact not_of (T3 ⟨.bl (!c),H1,I1,rfl,b⟩)
noncomputable def tIf (t:TT) (ta tb:TE):TE:=λ σ H Q=>t σ H λ c H1=>if c=true then ta σ H1 Q else tb σ H1 Q
theorem zjo {c:Expr} (hc:PT X c tA) (ha:PE X a ta) (hb:PE X b tb):PE X (.IfExp c a b pos) (tIf tA ta tb):=by
 intro e s σ H Q I h;refine wpAny_IfExp (thn (hc e s σ H _ I h) λ d f ⟨H1,I1,q1⟩=>?_);cases d with
 | true=>exact ha e f σ H1 Q I1 q1
 | false=>exact hb e f σ H1 Q I1 q1
end
def SqL (K:j0) (H:Hp) (a:Addr) (xs:List V):Prop:=
 Rd H a (.lst xs)\/
  ∃(o:Obj) (its:Array Value) (n:Nat),K.lookup a=some o/\o.cls=.type "list"/\o.dict=none/\o.data=.seq its n/\its.size<=sizeLine/\Vals xs its.toList
def SqT (K:j0) (H:Hp) (a:Addr) (xs:List V):Prop:=
 Rd H a (.tup xs)\/
  ∃(o:Obj) (its:Array Value) (n:Nat),K.lookup a=some o/\o.cls=.type "tuple"/\o.data=.seq its n/\its.size<=sizeLine/\Vals xs its.toList
noncomputable def absV:Value->Option V
 | .none=>some .non
 | .bool b=>some (.bl b)
 | .int i _=>some (.int i)
 | .str x _=>some (.str x)
 | .bytes b _=>some (.byt b)
 | .float b _=>some (.flt b)
 | .ref a=>some (.ref a)
 | .type n=>some (.ty n)
 | _=>none
theorem RelV.abs {x:V} {u:Value} (r:RelV x u):absV u=some x:=by
 cases x with
 | non=>cases r;rfl
 | bl _=>cases r;rfl
 | int _=>obtain ⟨t,rfl⟩:=r;rfl
 | str _=>obtain ⟨t,rfl⟩:=r;rfl
 | byt _=>obtain ⟨t,rfl⟩:=r;rfl
 | flt _=>obtain ⟨t,rfl⟩:=r;rfl
 | ref _=>cases r;rfl
 | ty _=>cases r;rfl
theorem RelV.inj {x y:V} {u:Value} (r:RelV x u) (q:RelV y u):x=y:=O2 (r.abs.symm.trans q.abs)
theorem Vals.inj :∀{xs ys:List V} {us:List Value},Vals xs us->Vals ys us->xs=ys
 | _,_,_,.nil,.nil=>rfl
 | _,_,_,.cons r t,.cons r' t'=>by rw [r.inj r',Vals.inj t t']
section
variable {X:Cx} {pins:List (Addr×Obj)} {σ:St} {H:Hp} {s:C0} {a:Addr} {xs ys:List V}
theorem SqL.of {K:j0} (h:H a=some (.lst xs)):SqL K H a xs:=.inl (.inl h)
theorem SqT.of {K:j0} (h:H a=some (.tup xs)):SqT K H a xs:=.inl (.inl h)
theorem Inv.list (I:Inv X pins σ H s) (h:SqL X.K H a xs) :∃its:List Value,Vals xs its/\PlainL s.heap a its.toArray/\xs.length<=sizeLine:=by
 rcases h with h|⟨o,its,n,hk,hc,hd,hs,hz,r⟩
 ·obtain ⟨z,its,n,r,e⟩:=h.ok I.hok;exact ⟨its,r,⟨_,n,e,rfl,rfl,rfl⟩,z⟩
 ·refine ⟨its.toList,r,⟨o,n,I.kIn a o hk,hc,hd,by simpa using hs⟩,?_⟩;have e:=r.length;simp only [J2] at e;omega
theorem Inv.tuple (I:Inv X pins σ H s) (h:SqT X.K H a xs) :∃its:List Value,Vals xs its/\IsTup s.heap a its.toArray/\xs.length<=sizeLine:=by
 rcases h with h|⟨o,its,n,hk,hc,hs,hz,r⟩
 ·obtain ⟨z,its,r,p⟩:=h.ok I.hok;exact ⟨its,r,p.1,z⟩
 ·refine ⟨its.toList,r,⟨o,I.kIn a o hk,hc,n,by simpa using hs⟩,?_⟩;have e:=r.length;simp only [J2] at e;omega
theorem Inv.list_inj (I:Inv X pins σ H s) (h:SqL X.K H a xs) (h':SqL X.K H a ys):xs=ys:=by
 obtain ⟨i,r,⟨o,n,e,_,_,d⟩,_⟩:=I.list h;obtain ⟨g,f,⟨j,k,b,_,_,c⟩,_⟩:=I.list h';rw [e] at b;cases b;rw [d] at c;injection c with d1 _;have:i=g:=by simpa using congrArg Array.toList d1
 subst this;exact r.inj f
theorem Inv.tuple_inj (I:Inv X pins σ H s) (h:SqT X.K H a xs) (h':SqT X.K H a ys):xs=ys:=by
 obtain ⟨i,r,⟨o,e,_,n,d⟩,_⟩:=I.tuple h;obtain ⟨g,f,⟨j,b,_,k,c⟩,_⟩:=I.tuple h';rw [e] at b;cases b;rw [d] at c;injection c with d1 _;have:i=g:=by simpa using congrArg Array.toList d1
 subst this;exact r.inj f
end
noncomputable abbrev Cx.wish (X:Cx) (E:Value->C0->Prop):Cx:={ X with xe:=E }
noncomputable abbrev Cx.nox (X:Cx):Cx:=X.wish λ _ _=>False
theorem Cx.Ok.wish {X:Cx} (ok:X.Ok) (E:Value->C0->Prop):(X.wish E).Ok:=
 ⟨ok.mod,ok.kind,ok.glob,ok.blt,ok.above,ok.inj,ok.has,ok.cab,ok.hd,ok.frames,ok.stk,ok.exf,ok.bs,ok.bsz,ok.noex,ok.exfs,ok.funs,ok.frf⟩
theorem Cx.Ok.unwish {X:Cx} {E:Value->C0->Prop} (ok:(X.wish E).Ok):X.Ok:=
 ⟨ok.mod,ok.kind,ok.glob,ok.blt,ok.above,ok.inj,ok.has,ok.cab,ok.hd,ok.frames,ok.stk,ok.exf,ok.bs,ok.bsz,ok.noex,ok.exfs,ok.funs,ok.frf⟩
section
variable {X:Cx} {pins:List (Addr×Obj)} {σ:St} {H:Hp} {s:C0} {E:Value->C0->Prop}
theorem Inv.wish (I:Inv X pins σ H s) (E:Value->C0->Prop):Inv (X.wish E) pins σ H s:=⟨I.ok.wish E,I.os,I.bare,I.base,I.loc,I.cell,I.free,I.freeC,I.pin,I.hok,I.len⟩
theorem Inv.unwish (I:Inv (X.wish E) pins σ H s):Inv X pins σ H s:=⟨I.ok.unwish,I.os,I.bare,I.base,I.loc,I.cell,I.free,I.freeC,I.pin,I.hok,I.len⟩
theorem SP.unwish {D:Ends} {f:Flow} {s':C0} (h:SP (X.wish E) pins D f s'):SP X pins D f s':=by
 cases f with
 | next=>obtain ⟨a,b,I,q⟩:=h;exact ⟨a,b,I.unwish,q⟩
 | brk=>obtain ⟨a,b,I,q⟩:=h;exact ⟨a,b,I.unwish,q⟩
 | cont=>obtain ⟨a,b,I,q⟩:=h;exact ⟨a,b,I.unwish,q⟩
 | ret u=>obtain ⟨v,a,b,I,r,q⟩:=h;exact ⟨v,a,b,I.unwish,r,q⟩
theorem PSs.nox {st:List Stmt} {t:TS} (h:PSs X.nox st t):PSs X st t:=λ b s σ H D I a=>N4 (h b s σ H D (I.wish _) a) (λ _ _ q=>q.unwish) λ _ _ z=>X4 z
end
section
variable {X:Cx} {st:Stmt} {rest:List Stmt} {t u:TS} {e:Expr} {te:TE} {pos:Pos}
noncomputable def tNext:TS:=λ D σ H=>D.nx σ H
noncomputable def tSeq (t u:TS):TS:=λ D σ H=>t { D with nx:=u D } σ H
theorem z0j:PSs X [] tNext:=λ _ _ σ H _ I h=>j37 ⟨σ,H,I,h⟩
theorem z02 (h1:PS X st t) (h2:PSs X rest u):PSs X (st :: rest) (tSeq t u):=by
 intro a s σ H D I h;refine wpAny_execs_cons (thn (h1 a s σ H { D with nx:=u D } I h) λ f d q=>?_);cases f with
 | next=>obtain ⟨b,e,c,q⟩:=q;exact h2 a d b e D c q
 | ret v=>exact q
 | brk=>exact q
 | cont=>exact q
theorem z05 (h1:PS X st t):PSs X [st] t:=by
 intro a s σ H D I h;refine wpAny_execs_cons (thn (h1 a s σ H D I h) λ f b q=>?_);cases f with
 | next=>exact j37 q
 | ret v=>exact q
 | brk=>exact q
 | cont=>exact q
theorem Inv.quiet {pins:List (Addr×Obj)} {σ:St} {H:Hp} {s:C0} (I:Inv X pins σ H s):interactive X.env=false:=by simp [interactive,I.ok.kind]
noncomputable def tDrop (te:TE):TS:=λ D σ H=>te σ H λ _ H1=>D.nx σ H1
theorem z0d (he:PE X e te) (hs:u9 e none pos.line X.env=O4 false:=by rfl):PS X (.Expr e pos) (tDrop te):=by intro a s σ H D I h;exact wpAny_Expr_any (thn (he a s σ H _ I h) λ v b ⟨x,H1,I1,r1,q1⟩=>⟨σ,H1,I1,q1⟩) I.quiet hs
noncomputable def tRet (te:TE):TS:=λ D σ H=>te σ H D.rt
theorem ps_ret (he:PE X e te):PS X (.Return (some e) pos) (tRet te):=by intro a s σ H D I h;exact wpAny_Return_some (thn (he a s σ H _ I h) λ v b ⟨x,H1,I1,r1,q1⟩=>⟨x,σ,H1,I1,r1,q1⟩)
noncomputable def tRetN:TS:=λ D _ H=>D.rt .non H
theorem z74:PS X (.Return none pos) tRetN:=λ _ _ σ H _ I h=>wpAny_Return_none ⟨.non,σ,H,I,rfl,h⟩
noncomputable def tIfS (c:TT) (t u:TS):TS:=λ D σ H=>c σ H λ b H1=>if b=true then t D σ H1 else u D σ H1
theorem ps_if {c:Expr} {a b:List Stmt} {tc:TT} (hc:PT X c tc) (ha:PSs X a t) (hb:PSs X b u):PS X (.If c a b pos) (tIfS tc t u):=by
 intro e s σ H D I h;refine wpAny_If (thn (hc e s σ H _ I h) λ d f ⟨H1,I1,q1⟩=>?_);cases d with
 | true=>exact ha e f σ H1 D I1 q1
 | false=>exact hb e f σ H1 D I1 q1
noncomputable def tNever:TS:=λ _ _ _=>False
theorem z4f:PS X st tNever:=λ _ _ _ _ _ _ h=>h.elim
end
noncomputable abbrev TG:=V->St->Hp->(St->Hp->Prop)->Prop
noncomputable abbrev TGs:=List V->St->Hp->(St->Hp->Prop)->Prop
def PG (X:Cx) (target:Expr) (t:TG):Prop:=
 ∀(pins:List (Addr×Obj)) (s:C0) (σ:St) (H:Hp) (v:V) (u:Value) (Q:St->Hp->Prop),Inv X pins σ H s->RelV v u->t v σ H Q->
  T0 (N1 X.prog X.w) X.A (assign target X.env u) (λ _ s'=>∃σ' H',Inv X pins σ' H' s'/\Q σ' H') X.xe s
def PGs (X:Cx) (ts:List Expr) (t:TGs):Prop:=
 ∀(pins:List (Addr×Obj)) (s:C0) (σ:St) (H:Hp) (vs:List V) (us:List Value) (Q:St->Hp->Prop),Inv X pins σ H s->Vals vs us->t vs σ H Q->
  T0 (N1 X.prog X.w) X.A (assignInOrder ((N9 ts X.env).map (·.2)) us) (λ _ s'=>∃σ' H',Inv X pins σ' H' s'/\Q σ' H') X.xe s
noncomputable abbrev TSet:=V->V->V->Hp->(Hp->Prop)->Prop
def PSet (X:Cx) (t:TSet):Prop:=
 ∀(pins:List (Addr×Obj)) (s:C0) (σ:St) (H:Hp) (o i v:V) (ov iv u:Value) (Q:Hp->Prop),Inv X pins σ H s->RelV o ov->RelV i iv->RelV v u->t o i v H Q->
  T0 (N1 X.prog X.w) X.A (setItem ov iv u) (λ _ s'=>∃H',Inv X pins σ H' s'/\Q H') X.xe s
section
variable {X:Cx} {pos:Pos}
noncomputable def gName (i:Nat):TG:=λ v σ H Q=>Q (σ.set i (some v)) H
theorem z0s {i:Nat} {x:Str} (hN:X.N.Nodup) (hi:X.N[i]? = some x) (hx:Loc X.env.scope x) (hf:X.fn x=true\/X.env.scope.names.lookup x=some .local:=by first|exact .inl rfl|exact .inr rfl|assumption):PG X (.Name x pos) (gName i):=by intro c s σ H v u Q I r h;exact wpAny_assign_Name (zfj I hN hi hx r (λ b a=>⟨_,H,a,h⟩) hf)
noncomputable def gNil:TGs:=λ vs σ H Q=>vs=[]/\Q σ H
noncomputable def gCons (t:TG) (u:TGs):TGs:=λ vs σ H Q=>∃v r,vs=v :: r/\t v σ H λ σ' H'=>u r σ' H' Q
theorem z8x:PGs X [] gNil:=by intro b s σ H a c Q I r h;obtain ⟨e,h⟩:=h;subst e;cases r;exact assignInOrder_nil ⟨σ,H,I,h⟩
theorem z12 {e:Expr} {es:List Expr} {t:TG} {u:TGs} (h1:PG X e t) (h2:PGs X es u)
  (hs:(N9 (e :: es) X.env).map (·.2)=assign e X.env :: (N9 es X.env).map (·.2):=by rfl):PGs X (e :: es) (gCons t u):=by
 intro a s σ H f g Q I r h;obtain ⟨v,d,b,h⟩:=h;subst b;cases r with
 | cons r rr=>rw [hs];refine assignInOrder_cons (thn (h1 a s σ H _ _ _ I r h) λ _ c ⟨σ1,H1,I1,q1⟩=>?_);exact h2 a c σ1 H1 _ _ Q I1 rr q1
noncomputable def gTup (K:j0) (n:Nat) (t:TGs):TG:=λ v σ H Q=>∃a xs,v=.ref a/\SqT K H a xs/\xs.length=n/\t xs σ H Q
theorem pg_tup {es:List Expr} {k:Nat} {t:TGs} {n:Nat} (hc:X.calm=true) (h:PGs X es t)
  (hn:(N9 es X.env).length=n:=by rfl) (hst:(N9 es X.env).findIdx? (·.1)=none:=by rfl):PG X (.Tuple es k pos) (gTup X.K n t):=by
 intro f s σ H v u Q I r c;obtain ⟨a,q,p,m,w,c⟩:=c;subst p;cases r;obtain ⟨y,d,g,x⟩:=I.tuple m;refine assign_Tuple_tuple (I.ok.hd hc) g (by simp [hn,<-w,d.length]) hst λ i l=>?_;have j:Inv X f σ H { s with heap:=i }:=I.kept (t':=s.toks) λ b o e=>l b o (Z0 (R0 e)) e;exact h f _ σ H q _ Q j (by simpa using d) c
noncomputable def gSub (to ti:TE) (t:TSet):TG:=λ v σ H Q=>to σ H λ o H1=>ti σ H1 λ i H2=>t o i v H2 λ H3=>Q σ H3
theorem pg_sub {o i:Expr} {to ti:TE} {t:TSet} (ho:PE X o to) (hi:PE X i ti) (hs:PSet X t)
  (ha :∀v,assign (.Subscript o i pos) X.env v=(do
   let ov <-K9 [v] (Z3 o X.env)
   let iv <-K9 [v,ov] (Z3 i X.env)
   j3e pos
   K9 [v,ov,iv] (setItem ov iv v)
   release [v,ov,iv] []):=by intro _;rfl):PG X (.Subscript o i pos) (gSub to ti t):=by
 intro a s σ H v u Q I r h;rw [ha];refine o0 (N2 (thn (ho a s σ H _ I h) λ ov b ⟨x,H1,I1,r1,q1⟩=>?_));refine o0 (N2 (thn (hi a b σ H1 _ I1 q1) λ iv c ⟨y,H2,I2,r2,q2⟩=>?_));refine o0 (wpAny_standAt (o0 (N2 (thn (hs a c σ H2 x y v ov iv u _ I2 r1 r2 r q2) λ _ d ⟨H3,I3,q3⟩=>?_))));exact wpAny_release ⟨σ,H3,I3,q3⟩
noncomputable def tAsg (te:TE) (g:TG):TS:=λ D σ H=>te σ H λ x H1=>g x σ H1 D.nx
theorem ps_asg {tg e:Expr} {te:TE} {g:TG} (he:PE X e te) (hg:PG X tg g) (hs:swapsWithSole [tg] e pos.line X.env=O4 false:=by rfl) (hw:swappedStores [tg] e X.env=O4 none:=by rfl)
  (h1:(N9 [tg] X.env).map (·.2)=[assign tg X.env]:=by rfl):PS X (.Assign [tg] e pos) (tAsg te g):=by
 intro a s σ H D I h;refine wpAny_Assign_stores (thn (he a s σ H _ I h) λ v b ⟨x,H1,I1,r1,q1⟩=>?_) hs hw;rw [h1];exact thn (hg a b σ H1 x v _ I1 r1 q1) λ _ c q=>q
theorem ps_set {i:Nat} {x:Str} {e:Expr} {te:TE} {pos':Pos} (hN:X.N.Nodup) (hi:X.N[i]? = some x) (hx:Loc X.env.scope x) (he:PE X e te) (hs:u9 e (some (.Name x pos')) pos.line X.env=O4 false:=by rfl) (hf:X.fn x=true\/X.env.scope.names.lookup x=some .local:=by first|exact .inl rfl|exact .inr rfl|assumption) :
  PS X (.Assign [.Name x pos'] e pos) (tAsg te (gName i)):=by
 intro a s σ H D I h;refine wpAny_Assign_Name (thn (he a s σ H _ I h) λ v c ⟨y,H1,I1,r1,q1⟩=>?_) hs;exact zfj I1 hN hi hx r1 (λ d b=>⟨_,H1,b,q1⟩) hf
end
structure It where
 go:Nat->Hp->Prop
 yld:Nat->Hp->V->Hp->Prop
 stop:Nat->Hp->Prop
def FpOk (X:Cx) (pins:List (Addr×Obj)) (H:Hp) (b:Addr):Prop:=
 H b=none/\b≠X.env.locals/\b∉X.fs/\(b∈X.ex\/X.s₀.heap.objs.size<=b)/\(∀x c,X.env.cells.lookup x=some c->c≠b)/\∀p∈X.pn++pins,p.1≠b
theorem Inv.fpOk {X:Cx} {pins:List (Addr×Obj)} {σ:St} {H H':Hp} {s:C0} {b:Addr} (I:Inv X pins σ H s) (hb:s.heap.objs.size<=b) (hn:H' b=none):FpOk X pins H' b:=by
 refine ⟨hn,J4 (F2 I.lt hb),I.nofs hb,.inr (L0 I.sz hb),λ x c e z=>?_,λ p a z=>?_⟩
 ·obtain ⟨v,q⟩:=I.cell x c e;exact absurd (F2 q.lt (by rw [z];exact hb)) (Q4 _)
 ·exact absurd (F2 (R0 (I.pin p a).1) (by rw [z];exact hb)) (Q4 _)
structure Turn (P:Program) (w:W0) (K:j0) (tg:Expr) (J:It) (fp:List Addr) (it:Addr) (tn:Nat->Heap->Prop):Prop where
 mem:it∈fp
 obj :∀i h,tn i h->∀b∈fp,∃o,h.get? b=some o/\∀v,o.data≠.cell v
 keep :∀i h h',tn i h->(∀b∈fp,∀o,h.get? b=some o->h'.get? b=some o)->tn i h'
 item :∀(X:Cx),X.prog=P->X.w=w->X.K=K->X.calm=true->∀(i:Nat) (pins:List (Addr×Obj)) (s:C0) (σ:St) (H:Hp) (E:Value->C0->Prop),Inv X pins σ H s->(∀b∈fp,FpOk X pins H b)->tn i s.heap->J.go i H->
  T0 (N1 P w) X.A (n8 (.ref it)) (λ r s1=>∃u,r=some u/\
   T0 (N1 P w) X.A (S9 tg (.ref it) u) (λ _ s2=>∃x H',Inv X pins σ H' s2/\RelV x u/\J.yld i H x H'/\tn (i + 1) s2.heap/\∀b∈fp,H' b=none) E s1) E s
 done :∀(X:Cx),X.prog=P->X.w=w->X.K=K->X.calm=true->∀(i:Nat) (pins:List (Addr×Obj)) (s:C0) (σ:St) (H:Hp) (E:Value->C0->Prop),Inv X pins σ H s->(∀b∈fp,FpOk X pins H b)->tn i s.heap->J.stop i H->
  T0 (N1 P w) X.A (n8 (.ref it)) (λ r s1=>r=none/\Inv X pins σ H s1) E s
 self :∀(A:P2) (i:Nat) (s:C0) (Q:Value->C0->Prop) (E:Value->C0->Prop),tn i s.heap->Q (.ref it) s->T0 (N1 P w) A (pyIter (.ref it)) Q E s
noncomputable abbrev TI:=St->Hp->(It->Hp->Prop)->Prop
def PIE (X:Cx) (pins:List (Addr×Obj)) (σ:St) (tg:Expr) (R:It->Hp->Prop) (itv:Value) (s2:C0):Prop:=
 ∃(it:Addr) (fp:List Addr) (tn:Nat->Heap->Prop) (J:It) (H':Hp),itv=.ref it/\Inv X pins σ H' s2/\Turn X.prog X.w X.K tg J fp it tn/\tn 0 s2.heap/\(∀b∈fp,FpOk X pins H' b)/\R J H'
def PI (X:Cx) (tg iter:Expr) (wi:TI):Prop:=
 ∀(pins:List (Addr×Obj)) (s:C0) (σ:St) (H:Hp) (R:It->Hp->Prop),Inv X pins σ H s->wi σ H R->
  T0 (N1 X.prog X.w) X.A (Z3 iter X.env) (λ v s1=>T0 (N1 X.prog X.w) X.A (pyIter v) (PIE X pins σ tg R) X.xe s1) X.xe s
theorem go_of {M:Model} {A:P2} {E:Value->C0->Prop} {s:C0} {tg:Expr} {it:Addr} {u:Value} {o:Obj} {n:String} {vs:Array Value} {Q:Unit->C0->Prop} (ho:s.heap.get? it=some o) (hc:o.cls=.type n) (hd:o.data=.fields vs)
    (hn:["enumerate","zip","dict_itemiterator","dict_reverseitemiterator","odict_iterator","itertools.zip_longest","itertools.pairwise"].contains n=false) (hQ:Q () s):T0 M A (S9 tg (.ref it) u) Q E s:=by
  unfold S9;cases tg<;>first
    | exact F0 hQ
    | (cases u<;>first
        | exact F0 hQ
        | (refine o0 (wpAny_load ho ?_)
           rw [hc,hd];show T0 M A (if (["enumerate","zip","dict_itemiterator","dict_reverseitemiterator","odict_iterator","itertools.zip_longest","itertools.pairwise"].contains n && vs[0]? == some (rawInt _))=true then _ else _) Q E s;rw [if_neg (by intro h;rw [hn,g8] at h;cases h)];exact F0 hQ))
noncomputable def Itl (K:j0) (a:Addr):It:=
 ⟨λ i H=>∃xs x,SqL K H a xs/\xs[i]? = some x,λ i H x H'=>H'=H/\∀xs,SqL K H a xs->xs[i]? = some x,λ i H=>∃xs,SqL K H a xs/\xs.length<=i⟩
noncomputable def Itt (K:j0) (a:Addr):It:=
 ⟨λ i H=>∃xs x,SqT K H a xs/\xs[i]? = some x,λ i H x H'=>H'=H/\∀xs,SqT K H a xs->xs[i]? = some x,λ i H=>∃xs,SqT K H a xs/\xs.length<=i⟩
noncomputable def Itr (lo:Int) (n:Nat):It:=⟨λ i _=>i < n,λ i H x H'=>H'=H/\x=.int (lo + i),λ i _=>n<=i⟩
theorem zgw {P:Program} {w:W0} {K:j0} {tg:Expr} (a it:Addr):Turn P w K tg (Itl K a) [it] it (λ i h=>h.IsListIter it a i) where
 mem:=by simp
 obj:=λ i h f b g=>by
  have e:b=it:=by simpa using g
  subst e;obtain ⟨o,e,c,d⟩:=f;exact ⟨o,e,λ v z=>by rw [d] at z;cases z⟩
 keep:=λ i h j f k=>f.at λ o e=>k it (by simp) o e
 item:=by intro X n D r L i M s σ H E I l f t;subst n D r;obtain ⟨W,x,m,A⟩:=t;obtain ⟨Y,G,p,V⟩:=I.list m;obtain ⟨u,O,N⟩:=G.get A;obtain ⟨y,q,U,B,C,F⟩:=l it (by simp);refine D5 f p.isList (x:=u) (by simpa using O) λ j J R=>?_;have S:Inv X M σ H { s with heap:=j }:=I.turned (t':=s.toks) (λ b o g e=>(R.2 b g).trans e) y q B C F;obtain ⟨o,e,c,d⟩:=id J;exact ⟨u,rfl,go_of (s:={ s with heap:=j }) e c d (by decide) ⟨x,H,S,N,⟨rfl,λ Z Q=>by rw [I.list_inj Q m];exact A⟩,J,λ b g=>(l b g).1⟩⟩
 done:=by intro X n D r L i M s σ H E I l f t;subst n D r;obtain ⟨W,m,A⟩:=t;obtain ⟨Y,G,p,V⟩:=I.list m;obtain ⟨y,q,U,B,C,F⟩:=l it (by simp);have hl:=G.length;exact C6 (I.ok.hd L) f p.isList (by simp;omega) λ j T=>⟨rfl,I.turned (t':=s.toks) (λ b o g e=>T b o g e) y q B C F⟩
 self:=λ _ _ _ _ _ f h=>wpAny_pyIter_listiter f h
theorem zdp {P:Program} {w:W0} {K:j0} {tg:Expr} (a it:Addr):Turn P w K tg (Itt K a) [it] it (λ i h=>h.IsTupleIter it a i) where
 mem:=by simp
 obj:=λ i h f b g=>by
  have e:b=it:=by simpa using g
  subst e;obtain ⟨o,e,c,d⟩:=f;exact ⟨o,e,λ v z=>by rw [d] at z;cases z⟩
 keep:=λ i h j f k=>f.at λ o e=>k it (by simp) o e
 item:=by intro X n D r M i N s σ H E I l f t;subst n D r;obtain ⟨Y,x,m,A⟩:=t;obtain ⟨G,J,p,W⟩:=I.tuple m;obtain ⟨u,Q,O⟩:=J.get A;obtain ⟨y,q,V,B,C,F⟩:=l it (by simp);refine wpAny_pyNext_tuple_item f (show s.heap.IsTuple a G.toArray from p) (x:=u) (by simpa using Q) λ j L S=>?_;have T:Inv X N σ H { s with heap:=j }:=I.turned (t':=s.toks) (λ b o g e=>(S.2 b g).trans e) y q B C F;obtain ⟨o,e,c,d⟩:=id L;exact ⟨u,rfl,go_of (s:={ s with heap:=j }) e c d (by decide) ⟨x,H,T,O,⟨rfl,λ Z R=>by rw [I.tuple_inj R m];exact A⟩,L,λ b g=>(l b g).1⟩⟩
 done:=by intro X n D r M i N s σ H E I l f t;subst n D r;obtain ⟨Y,m,A⟩:=t;obtain ⟨G,J,p,W⟩:=I.tuple m;obtain ⟨y,q,V,B,C,F⟩:=l it (by simp);have hl:=J.length;exact wpAny_pyNext_tuple_end (I.ok.hd M) f (show s.heap.IsTuple a G.toArray from p) (by simp;omega) λ j U=>⟨rfl,I.turned (t':=s.toks) (λ b o g e=>U b o g e) y q B C F⟩
 self:=λ _ _ _ _ _ f h=>wpAny_pyIter_tupleiter f h
theorem zfm {P:Program} {w:W0} {K:j0} {tg:Expr} (it:Addr) (lo:Int) (n:Nat):Turn P w K tg (Itr lo n) [it] it (λ i h=>IsRangeIter h it (lo + (i:Nat) * 1) ((n:Int) - (i:Nat)) 1) where
 mem:=by simp
 obj:=λ i h a b c=>by
  have e:b=it:=by simpa using c
  subst e;exact ⟨_,a,λ v z=>by have M:Data.fields _=Data.cell v:=z;cases M⟩
 keep:=λ i h d a k=>k it (by simp) _ a
 item:=by intro X g x l r i C s σ H E I f a m;subst g x l;obtain ⟨p,j,L,q,u,y⟩:=f it (by simp);have W:=Walks.range (prog:=X.prog) (w:=X.w) (I.ok.hd r) it lo 1 n;refine W.item i s _ _ m a λ v d A D B J=>?_;obtain ⟨t,rfl⟩:=D;have F:Inv X C σ H { s with heap:=d,toks:=A }:=I.turned (λ b o c e=>J b o (by simpa using c) e) p j q u y;refine ⟨_,rfl,go_of (s:={ s with heap:=d,toks:=A }) (n:="range_iterator") B rfl rfl (by decide) ⟨.int (lo + i),H,F,⟨t,?_⟩,⟨rfl,rfl⟩,B,λ b c=>(f b c).1⟩⟩;rw [Int.mul_one]
 done:=by intro X g x l r i C s σ H E I f a m;subst g x l;obtain ⟨p,j,L,q,u,y⟩:=f it (by simp);exact wpAny_pyNext_range_end (I.ok.hd r) a (by have:n<=i:=m;omega) λ d G=>⟨rfl,I.turned (t':=s.toks) (λ b o c e=>G b o c e) p j q u y⟩
 self:=λ _ _ _ _ _ a h=>wpAny_pyIter_rangeiter a h
section
variable {X:Cx} {tg:Expr}
noncomputable def iList (K:j0) (tl:TE):TI:=λ σ H R=>tl σ H λ x H1=>∃a,x=.ref a/\(∃xs,SqL K H1 a xs)/\R (Itl K a) H1
noncomputable def iTup (K:j0) (tl:TE):TI:=λ σ H R=>tl σ H λ x H1=>∃a,x=.ref a/\(∃xs,SqT K H1 a xs)/\R (Itt K a) H1
theorem z1e {l:Expr} {tl:TE} (hl:PE X l tl):PI X tg l (iList X.K tl):=by
 intro g s σ H R I h;refine thn (hl g s σ H _ I h) λ v c ⟨x,H1,I1,r1,q1⟩=>?_;obtain ⟨a,e,⟨j,d⟩,q⟩:=q1;subst e;cases r1;obtain ⟨k,m,p,i⟩:=I1.list d;refine F6 p.isList ?_;refine ⟨c.heap.objs.size,[c.heap.objs.size],_,_,H1,rfl,I1.kept (t':=c.toks) λ b o e=>G0 _ e,zgw a _,⟨_,C1 _ rfl,rfl,rfl⟩,λ b f=>?_,q⟩;have e:b=c.heap.objs.size:=by simpa using f
 subst e;exact I1.fpOk (J0 _) (I1.hok.fresh (J0 _))
theorem pi_tup {l:Expr} {tl:TE} (hl:PE X l tl):PI X tg l (iTup X.K tl):=by
 intro i s σ H R I h;refine thn (hl i s σ H _ I h) λ v c ⟨x,H1,I1,r1,q1⟩=>?_;obtain ⟨a,e,⟨k,d⟩,q⟩:=q1;subst e;cases r1;obtain ⟨g,m,p,j⟩:=I1.tuple d;refine wpAny_pyIter_tuple (show c.heap.IsTuple a g.toArray from p) ?_;refine ⟨c.heap.objs.size,[c.heap.objs.size],_,_,H1,rfl,I1.kept (t':=c.toks) λ b o e=>G0 _ e,zdp a _,⟨_,C1 _ rfl,rfl,rfl⟩,λ b f=>?_,q⟩;have e:b=c.heap.objs.size:=by simpa using f
 subst e;exact I1.fpOk (J0 _) (I1.hok.fresh (J0 _))
theorem zjt {pins:List (Addr×Obj)} {σ:St} {H:Hp} {s:C0} {R:It->Hp->Prop} {E:Value->C0->Prop} {lo hi:Int} {t u v:Tok} {tk:Nat} (I:Inv X pins σ H s) (h1:-(2 ^ 62)<=lo) (h2:lo < 2 ^ 62) (h3:-(2 ^ 62)<=hi) (h4:hi < 2 ^ 62)
  (q:R (Itr lo (hi - lo).toNat) H):T0 (N1 X.prog X.w) X.A (pyIter (.ref s.heap.objs.size)) (PIE X pins σ tg R) E { s with heap:=s.heap.push { cls:=.type "range",data:=.fields #[.int lo t,.int hi u,.int 1 v] },toks:=tk }:=by
 refine wpAny_pyIter_range (IsRange.new ..) (small_one h1 h2 h3 h4) ?_;have a:Inv X pins σ H { s with heap:=s.heap.push { cls:=.type "range",data:=.fields #[.int lo t,.int hi u,.int 1 v] },toks:=tk }:=I.kept λ b o e=>G0 _ e;refine ⟨(s.heap.push { cls:=.type "range",data:=.fields #[.int lo t,.int hi u,.int 1 v] }).objs.size,[(s.heap.push { cls:=.type "range",data:=.fields #[.int lo t,.int hi u,.int 1 v] }).objs.size],_,_,H,rfl,
  a.kept (t':=tk) λ b o e=>G0 _ e,zfm _ lo (hi - lo).toNat,?_,λ b f=>?_,q⟩
 ·have d:lo + ((0:Nat):Int) * 1=lo:=by simp
  have c:(((hi - lo).toNat:Nat):Int) - ((0:Nat):Int)=Builtin.Range.rangeSize lo hi 1:=by rw [rangeSize_one];split<;>omega
  show IsRangeIter _ _ (lo + ((0:Nat):Int) * 1) ((((hi - lo).toNat:Nat):Int) - ((0:Nat):Int)) 1;rw [d,c];exact C1 _ rfl
 ·have e:b=(s.heap.push { cls:=.type "range",data:=.fields #[.int lo t,.int hi u,.int 1 v] }).objs.size:=by simpa using f
  subst e;exact a.fpOk (J0 _) (a.hok.fresh (J0 _))
noncomputable def iRng1 (ta:TA):TI:=λ σ H R=>ta σ H λ vs H1=>∃j:Int,vs=[.int j]/\-(2 ^ 62)<=j/\j < 2 ^ 62/\R (Itr 0 j.toNat) H1
theorem z1c {a:Expr} {ta:TA} {p pos:Pos} (hg:Gl X "range") (hm:X.mg "range" = none) (ha:PA X [a] ta) (hs:E1 [a] X.env=[(false,Z3 a X.env)]:=by rfl):PI X tg (.Call (.Name "range" p) [a] [] pos) (iRng1 ta):=by
 intro d s σ H R I h;refine Call_ (ld_blt I hg hm boot_range (T4 (thn (ha pos d s σ H _ I h) λ g f ⟨vs,H1,I1,r1,b⟩=>?_) hs rfl));obtain ⟨j,e,b,c,q⟩:=b;subst e;cases r1 with
 | cons r rr=>cases rr;obtain ⟨t,rfl⟩:=r;exact call_range_1 (zjt I1 (by omega) (by omega) b c (by simpa using q))
noncomputable def tFor (wi:TI) (g:TG) (tb:TS):TS:=λ D σ H=>wi σ H λ J H1=>∃W:Nat->Nat->St->Hp->Prop,(∃m,W 0 m σ H1)/\∀i m σ H,W i m σ H->
 (J.stop i H/\D.nx σ H)\/(J.go i H/\∃N:St->Hp->Prop,(∀σ' H',N σ' H'->∃m',m' < m/\W (i + 1) m' σ' H')/\∀x H',J.yld i H x H'->g x σ H' λ σ2 H2=>tb { D with nx:=N,ct:=N,bk:=D.nx } σ2 H2)
noncomputable def pinsAt (fp:List Addr) (h:Heap):List (Addr×Obj):=fp.filterMap λ b=>(h.get? b).map λ o=>(b,o)
theorem z3v {fp:List Addr} {h:Heap} {b:Addr} {o:Obj} (hb:b∈fp) (e:h.get? b=some o):(b,o)∈pinsAt fp h:=List.mem_filterMap.mpr ⟨b,hb,by rw [e];rfl⟩
theorem zb8 {fp:List Addr} {h:Heap} {p:Addr×Obj} (hp:p∈pinsAt fp h):p.1∈fp/\h.get? p.1=some p.2:=by
 obtain ⟨b,c,e⟩:=List.mem_filterMap.mp hp;cases q:h.get? b with
 | none=>rw [q] at e;cases e
 | some o=>rw [q] at e;have a:(b,o)=p:=O2 e;subst a;exact ⟨c,q⟩
theorem Inv.pinned {pins:List (Addr×Obj)} {σ:St} {H:Hp} {s:C0} {fp:List Addr} (I:Inv X pins σ H s) (hf :∀b∈fp,FpOk X pins H b) (ho :∀b∈fp,∃o,s.heap.get? b=some o/\∀v,o.data≠.cell v):Inv X (pins++pinsAt fp s.heap) σ H s:=
 I.pins_of λ p f=>(List.mem_append.mp f).elim (λ z=>I.pin p (R1 _ z)) λ z=>by obtain ⟨a,e⟩:=zb8 z;obtain ⟨i,h,g,_⟩:=hf p.1 a;obtain ⟨o,c,d⟩:=ho p.1 a;rw [e] at c;cases c;exact ⟨e,i,h,g,d⟩
theorem Inv.unpinned {pins pl:List (Addr×Obj)} {σ:St} {H:Hp} {s:C0} (I:Inv X (pins++pl) σ H s):Inv X pins σ H s:=I.pins_of λ p a=>I.pin p (R1 _ (F7 _ a))
theorem ps_for {iter:Expr} {body:List Stmt} {wi:TI} {g:TG} {tb:TS} {pos:Pos} (hp:PassesOwn (N1 X.prog X.w) X.A X.env X.xe) (hc:X.calm=true) (hi:PI X tg iter wi) (hg:PG X tg g) (hb:PSs X body tb)
  (hs :∀x,A7 iter X.env x=O4 x:=by intro _;rfl):PS X (.For tg iter body [] pos) (tFor wi g tb):=by
 intro l s σ H D I h;refine wpAny_For (thn (hi l s σ H _ I h) λ v s1 h1=>thn h1 λ a2 s2 h2=>?_) hs;obtain ⟨it,q,E,J,M,e,S,T,a0,C,W,⟨U,O⟩,a1⟩:=h2;subst e
 -- what stays true of the iterator's objects through the loop
 have y :∀{H':Hp},(∀b∈q,H' b=none)->∀b∈q,FpOk X l H' b:=λ Y b hb=>⟨Y b hb,(C b hb).2⟩
 refine codeAny_forLoop_any (λ n z=>∃i σ' H',Inv X l σ' H' z/\E i z.heap/\(∀b∈q,H' b=none)/\W i n σ' H') ?_ U ⟨0,σ,M,S,a0,λ b hb=>(C b hb).1,O⟩;rintro n B ⟨i,σ3,H3,I3,st3,fr3,w3⟩;rcases a1 i n σ3 H3 w3 with ⟨stop,qn⟩|⟨go,N,hN,step⟩
 ·refine j8 hp (thn (T.done X rfl rfl rfl hc i l B σ3 H3 X.xe I3 (y fr3) st3 stop) λ r Q ⟨hr,I4⟩=>?_);subst hr;exact j37 ⟨σ3,H3,I4,qn⟩
 ·refine j8 hp (thn (T.item X rfl rfl rfl hc i l B σ3 H3 X.xe I3 (y fr3) st3 go) λ r Q ⟨u,hr,h4⟩=>?_);subst hr;refine j8 hp (thn h4 λ _ G ⟨x,H5,I5,r5,y5,st5,fr5⟩=>?_);have L:=I5.pinned (y fr5) (T.obj _ _ st5);refine j8 hp (thn (hg _ G σ3 H5 x u _ L r5 (step x H5 y5)) λ _ Z ⟨σ6,H6,I6,q6⟩=>?_);refine j8 hp (thn (hb _ Z σ6 H6 _ I6 q6) λ f t k=>?_);have F :∀{a:St} {c:Hp},Inv X (l++pinsAt q G.heap) a c t->N a c->∃m,m < n/\∃i σ' H',Inv X l σ' H' t/\E i t.heap/\(∀b∈q,H' b=none)/\W i m σ' H':=λ {a c} j p=>by obtain ⟨R,hm,V⟩:=hN a c p;refine ⟨R,hm,i + 1,a,c,j.unpinned,T.keep _ _ _ st5 λ b hb o e=>(j.pin (b,o) (R1 _ (R1 _ (z3v hb e)))).1,λ b hb=>?_,V⟩;obtain ⟨o,e,d⟩:=T.obj _ _ st5 b hb;exact (j.pin (b,o) (R1 _ (R1 _ (z3v hb e)))).2.1
  cases f with
  | next=>obtain ⟨a,c,j,p⟩:=k;exact F j p
  | cont=>obtain ⟨a,c,j,p⟩:=k;exact F j p
  | brk=>obtain ⟨a,c,j,k⟩:=k;exact ⟨a,c,j.unpinned,k⟩
  | ret v=>obtain ⟨K,a,c,j,P,k⟩:=k;exact ⟨K,a,c,j.unpinned,P,k⟩
end
theorem z5n {K:j0} {a:Addr} {xs:List V} {g:TG} {tb:TS} {D:Ends} {σ:St} {H:Hp} (Pv:Nat->St->Hp->Prop) (h0:Pv 0 σ H) (hl :∀i σ H,i<=xs.length->Pv i σ H->SqL K H a xs)
  (hs :∀i x σ H,xs[i]? = some x->Pv i σ H->g x σ H λ σ2 H2=>tb { D with nx:=Pv (i + 1),ct:=Pv (i + 1),bk:=D.nx } σ2 H2) (hd :∀σ H,Pv xs.length σ H->D.nx σ H) :
  ∃W:Nat->Nat->St->Hp->Prop,(∃m,W 0 m σ H)/\∀i m σ H,W i m σ H->
   ((Itl K a).stop i H/\D.nx σ H)\/((Itl K a).go i H/\∃N:St->Hp->Prop,(∀σ' H',N σ' H'->∃m',m' < m/\W (i + 1) m' σ' H')/\∀x H',(Itl K a).yld i H x H'->g x σ H' λ σ2 H2=>tb { D with nx:=N,ct:=N,bk:=D.nx } σ2 H2):=by
 refine ⟨λ i m σ H=>m=xs.length - i/\i<=xs.length/\Pv i σ H,⟨xs.length,by simp,E2 _,h0⟩,?_⟩;rintro i m σ H ⟨rfl,hi,p⟩;have q:=hl i σ H hi p;by_cases hlt:i < xs.length
 ·refine .inr ⟨⟨xs,xs[i],q,by simp [hlt]⟩,Pv (i + 1),λ σ' H' b=>⟨xs.length - (i + 1),by omega,rfl,hlt,b⟩,λ x H' y=>?_⟩;obtain ⟨e,y⟩:=y;subst e;exact hs i x σ _ (y xs q) p
 ·have e:i=xs.length:=by omega
  subst e;exact .inl ⟨⟨xs,q,J0 _⟩,hd σ H p⟩
theorem zkc {K:j0} {a:Addr} {xs:List V} {g:TG} {tb:TS} {D:Ends} {σ:St} {H:Hp} (Pv:Nat->St->Hp->Prop) (h0:Pv 0 σ H) (hl :∀i σ H,i<=xs.length->Pv i σ H->SqT K H a xs)
  (hs :∀i x σ H,xs[i]? = some x->Pv i σ H->g x σ H λ σ2 H2=>tb { D with nx:=Pv (i + 1),ct:=Pv (i + 1),bk:=D.nx } σ2 H2) (hd :∀σ H,Pv xs.length σ H->D.nx σ H) :
  ∃W:Nat->Nat->St->Hp->Prop,(∃m,W 0 m σ H)/\∀i m σ H,W i m σ H->
   ((Itt K a).stop i H/\D.nx σ H)\/((Itt K a).go i H/\∃N:St->Hp->Prop,(∀σ' H',N σ' H'->∃m',m' < m/\W (i + 1) m' σ' H')/\∀x H',(Itt K a).yld i H x H'->g x σ H' λ σ2 H2=>tb { D with nx:=N,ct:=N,bk:=D.nx } σ2 H2):=by
 refine ⟨λ i m σ H=>m=xs.length - i/\i<=xs.length/\Pv i σ H,⟨xs.length,by simp,E2 _,h0⟩,?_⟩;rintro i m σ H ⟨rfl,hi,p⟩;have q:=hl i σ H hi p;by_cases hlt:i < xs.length
 ·refine .inr ⟨⟨xs,xs[i],q,by simp [hlt]⟩,Pv (i + 1),λ σ' H' b=>⟨xs.length - (i + 1),by omega,rfl,hlt,b⟩,λ x H' y=>?_⟩;obtain ⟨e,y⟩:=y;subst e;exact hs i x σ _ (y xs q) p
 ·have e:i=xs.length:=by omega
  subst e;exact .inl ⟨⟨xs,q,J0 _⟩,hd σ H p⟩
theorem z44 {lo:Int} {n:Nat} {g:TG} {tb:TS} {D:Ends} {σ:St} {H:Hp} (Pv:Nat->St->Hp->Prop) (h0:Pv 0 σ H)
  (hs :∀i σ H,i < n->Pv i σ H->g (.int (lo + i)) σ H λ σ2 H2=>tb { D with nx:=Pv (i + 1),ct:=Pv (i + 1),bk:=D.nx } σ2 H2) (hd :∀σ H,Pv n σ H->D.nx σ H) :
  ∃W:Nat->Nat->St->Hp->Prop,(∃m,W 0 m σ H)/\∀i m σ H,W i m σ H->
   ((Itr lo n).stop i H/\D.nx σ H)\/((Itr lo n).go i H/\∃N:St->Hp->Prop,(∀σ' H',N σ' H'->∃m',m' < m/\W (i + 1) m' σ' H')/\∀x H',(Itr lo n).yld i H x H'->g x σ H' λ σ2 H2=>tb { D with nx:=N,ct:=N,bk:=D.nx } σ2 H2):=by
 refine ⟨λ i m σ H=>m=n - i/\i<=n/\Pv i σ H,⟨n,by simp,E2 _,h0⟩,?_⟩;rintro i m σ H ⟨rfl,hi,p⟩;by_cases hlt:i < n
 ·refine .inr ⟨hlt,Pv (i + 1),λ σ' H' a=>⟨n - (i + 1),by omega,rfl,hlt,a⟩,λ x H' y=>?_⟩;obtain ⟨e,y⟩:=y;subst e y;exact hs i σ _ hlt p
 ·have e:i=n:=by omega
  subst e;exact .inl ⟨J0 _,hd σ H p⟩
noncomputable abbrev R2:=V->V->Hp->VK->Prop
def OpR (X:Cx) (f:Value->Value->Sem Value) (r:R2):Prop:=
 ∀(pins:List (Addr×Obj)) (s:C0) (σ:St) (H:Hp) (x y:V) (v u:Value) (Q:VK),Inv X pins σ H s->RelV x v->RelV y u->r x y H Q->
  T0 (N1 X.prog X.w) X.A (f v u) (EP X pins σ Q) X.xe s
def UnR (X:Cx) (f:Value->Sem Value) (r:V->Hp->VK->Prop):Prop:=
 ∀(pins:List (Addr×Obj)) (s:C0) (σ:St) (H:Hp) (x:V) (v:Value) (Q:VK),Inv X pins σ H s->RelV x v->r x H Q->
  T0 (N1 X.prog X.w) X.A (f v) (EP X pins σ Q) X.xe s
def CallR (X:Cx) (f:Value) (r:List V->Hp->VK->Prop):Prop:=
 ∀(pins:List (Addr×Obj)) (s:C0) (σ:St) (H:Hp) (xs:List V) (us:List Value) (Q:VK),Inv X pins σ H s->Vals xs us->r xs H Q->
  T0 (N1 X.prog X.w) X.A (call f us) (EP X pins σ Q) X.xe s
noncomputable def tOp (r:R2) (ta tb:TE):TE:=λ σ H Q=>ta σ H λ x H1=>tb σ H1 λ y H2=>r x y H2 Q
noncomputable def tUn (r:V->Hp->VK->Prop) (ta:TE):TE:=λ σ H Q=>ta σ H λ x H1=>r x H1 Q
noncomputable def rI (C:Int->Int->Prop) (g:Int->Int->V):R2:=λ x y H Q=>∃i j,x=.int i/\y=.int j/\C i j/\Q (g i j) H
noncomputable def rI0 (g:Int->Int->V):R2:=λ x y H Q=>∃i j,x=.int i/\y=.int j/\Q (g i j) H
def rU (g:Int->V):V->Hp->VK->Prop:=λ x H Q=>∃i,x=.int i/\Q (g i) H
section
variable {X:Cx} {a b c:Expr} {ta tb tc:TE} {pos:Pos}
theorem binT (ha:PE X a ta) (hb:PE X b tb) {pins:List (Addr×Obj)} {s:C0} {σ:St} {H:Hp} {R:V->V->Hp->Prop} (I:Inv X pins σ H s)
  (h:ta σ H λ x H1=>tb σ H1 λ y H2=>R x y H2) {Q:Value->C0->Prop} {f:Value->Value->Sem Value}
  (hf :∀v u s2 x y H2,Inv X pins σ H2 s2->RelV x v->RelV y u->R x y H2->T0 (N1 X.prog X.w) X.A (f v u) Q X.xe s2) :
  T0 (N1 X.prog X.w) X.A (Z3 a X.env) (λ v s₁=>T0 (N1 X.prog X.w) X.A (Z3 b X.env) (λ u s₂=>T0 (N1 X.prog X.w) X.A (f v u) Q X.xe s₂) X.xe s₁) X.xe s:=by
 refine thn (ha pins s σ H _ I h) λ v c ⟨x,H1,I1,r1,q1⟩=>?_;refine thn (hb pins c σ H1 _ I1 q1) λ u s2 ⟨y,H2,I2,r2,q2⟩=>?_;exact hf v u s2 x y H2 I2 r1 r2 q2
theorem pe_op {op:Operator} {r:R2} (ho:OpR X (y6 op) r) (ha:PE X a ta) (hb:PE X b tb):PE X (.BinOp a op b pos) (tOp r ta tb):=by intro f s σ H Q I h;exact wpAny_BinOp (binT ha hb I h λ v u c x y g e i d q=>ho f c σ g x y v u Q e i d q)
theorem pe_un {op:UnaryOp} {r:V->Hp->VK->Prop} (ho:UnR X (unaryOp op) r) (ha:PE X a ta):PE X (.UnaryOp op a pos) (tUn r ta):=by intro b s σ H Q I h;exact UnaryOp_ (thn (ha b s σ H _ I h) λ v c ⟨x,H1,I1,r1,q1⟩=>ho b c σ H1 x v Q I1 r1 q1)
theorem opI {f:Value->Value->Sem Value} {C:Int->Int->Prop} {g:Int->Int->Int}
  (rule :∀(i j:Int) (t u:Tok) (s:C0) (Q:Value->C0->Prop) (E:Value->C0->Prop),C i j->Q (.int (g i j) s.toks) { s with toks:=s.toks + 1 }->T0 (N1 X.prog X.w) X.A (f (.int i t) (.int j u)) Q E s) :
  OpR X f (rI C λ i j=>.int (g i j)):=by
 intro e s σ H x y v u Q I c a h;obtain ⟨i,j,rfl,rfl,b,q⟩:=h;obtain ⟨t,rfl⟩:=c;obtain ⟨d,rfl⟩:=a;exact rule i j t d s _ _ b ⟨.int (g i j),H,I.tok _,⟨_,rfl⟩,q⟩
theorem opI0 {f:Value->Value->Sem Value} {g:Int->Int->Int}
  (rule :∀(i j:Int) (t u:Tok) (s:C0) (Q:Value->C0->Prop) (E:Value->C0->Prop),Q (.int (g i j) s.toks) { s with toks:=s.toks + 1 }->T0 (N1 X.prog X.w) X.A (f (.int i t) (.int j u)) Q E s) :
  OpR X f (rI0 λ i j=>.int (g i j)):=by
 intro d s σ H x y v u Q I b a h;obtain ⟨i,j,rfl,rfl,q⟩:=h;obtain ⟨t,rfl⟩:=b;obtain ⟨c,rfl⟩:=a;exact rule i j t c s _ _ ⟨.int (g i j),H,I.tok _,⟨_,rfl⟩,q⟩
theorem opB0 {f:Value->Value->Sem Value} {g:Int->Int->Bool}
  (rule :∀(i j:Int) (t u:Tok) (s:C0) (Q:Value->C0->Prop) (E:Value->C0->Prop),Q (.bool (g i j)) s->T0 (N1 X.prog X.w) X.A (f (.int i t) (.int j u)) Q E s) :
  OpR X f (rI0 λ i j=>.bl (g i j)):=by
 intro d s σ H x y v u Q I b a h;obtain ⟨i,j,rfl,rfl,q⟩:=h;obtain ⟨t,rfl⟩:=b;obtain ⟨c,rfl⟩:=a;exact rule i j t c s _ _ ⟨.bl (g i j),H,I,rfl,q⟩
def CPow (i j:Int):Prop:=0<=j/\j<=1000000/\i.natAbs < 2 ^ 64
def CMul (i j:Int):Prop:=(-(2 ^ 64) < i/\i < 2 ^ 64)\/(-(2 ^ 64) < j/\j < 2 ^ 64)
theorem CMul.ok {i j:Int} (h:CMul i j):IntMulOk i j:=by
 rcases h with ⟨b,a⟩|⟨b,a⟩
 ·exact .of_left (intBits_le_64 b a)
 ·exact .of_right (intBits_le_64 b a)
theorem op_add:OpR X (y6 .Add) (rI0 λ i j=>.int (i + j)):=opI0 λ _ _ _ _ _ _ _ q=>add_int q
theorem op_sub:OpR X (y6 .Sub) (rI0 λ i j=>.int (i - j)):=opI0 λ _ _ _ _ _ _ _ q=>sub_int q
theorem op_mul:OpR X (y6 .Mult) (rI CMul λ i j=>.int (i * j)):=opI λ _ _ _ _ _ _ _ a q=>mul_int q a.ok
theorem op_mod:OpR X (y6 .Mod) (rI (λ _ j=>0 < j) λ i j=>.int (i % j)):=opI λ i j _ _ _ _ _ a q=>by have b:(0:Int) < j:=a;exact mod_int' (by omega) (by rw [Int.fmod_eq_emod_of_nonneg i (by omega)];exact q)
theorem op_pow:OpR X (y6 .Pow) (rI CPow λ i j=>.int (i ^ j.toNat)):=opI λ _ _ _ _ _ _ _ a q=>pow_int_small a.1 a.2.1 a.2.2 q
theorem unI {f:Value->Sem Value} {g:Int->Int}
  (rule :∀(i:Int) (t:Tok) (s:C0) (Q:Value->C0->Prop) (E:Value->C0->Prop),Q (.int (g i) s.toks) { s with toks:=s.toks + 1 }->T0 (N1 X.prog X.w) X.A (f (.int i t)) Q E s) :
  UnR X f (rU λ i=>.int (g i)):=by
 intro b s σ H x v Q I a h;obtain ⟨i,rfl,q⟩:=h;obtain ⟨t,rfl⟩:=a;exact rule i t s _ _ ⟨.int (g i),H,I.tok _,⟨_,rfl⟩,q⟩
theorem un_neg:UnR X (unaryOp .USub) (rU λ i=>.int (-i)):=unI λ _ _ _ _ _ q=>neg_int q
end
noncomputable def scal:V->V->Bool
 | .non,.non=>true | .non,.int _=>true | .int _,.non=>true | .non,.bl _=>true | .bl _,.non=>true | .non,.str _=>true | .str _,.non=>true
 | .int _,.int _=>true | .bl _,.bl _=>true | .str _,.str _=>true | .byt _,.byt _=>true
 | .int _,.str _=>true | .str _,.int _=>true | .bl _,.str _=>true | .str _,.bl _=>true
 | _,_=>false
noncomputable def rEq:R2:=λ x y H Q=>scal x y=true/\Q (.bl (decide (x=y))) H
noncomputable def rNe:R2:=λ x y H Q=>scal x y=true/\Q (.bl (!decide (x=y))) H
theorem zhx {i j:Int}:decide (V.int i=V.int j)=(i == j):=by rw [Bool.eq_iff_iff];simp
theorem dec_bl {i j:Bool}:decide (V.bl i=V.bl j)=(i == j):=by rw [Bool.eq_iff_iff];simp
theorem zbq {i j:Str}:decide (V.str i=V.str j)=(i == j):=by rw [Bool.eq_iff_iff];simp
theorem zht {i j:Array UInt8}:decide (V.byt i=V.byt j)=(i.toList == j.toList):=by rw [Bool.eq_iff_iff];cases i;cases j;simp
section
variable {X:Cx} {a b c:Expr} {ta tb tc:TE} {pos:Pos}
theorem fin_bl {pins:List (Addr×Obj)} {σ:St} {H:Hp} {s:C0} {Q:VK} {k k':Bool} (I:Inv X pins σ H s) (q:Q (.bl k) H) (e:k=k'):EP X pins σ Q (.bool k') s:=by subst e;exact ⟨.bl k,H,I,rfl,q⟩
theorem op_eq:OpR X (E3 .Eq) rEq:=by
 intro e s σ H x y v u Q I d a h;obtain ⟨c,q⟩:=h;cases x with
 | non=>
  cases d;cases y with
  | non=>cases a;exact PySem.EqNone.eq_none_none (fin_bl I q (by simp))
  | bl j=>cases a;exact PySem.EqNone.eq_none_bool (fin_bl I q (by simp))
  | int j=>obtain ⟨b,rfl⟩:=a;exact PySem.EqNone.eq_none_int (fin_bl I q (by simp))
  | str j=>obtain ⟨b,rfl⟩:=a;exact PySem.EqNone.eq_none_str (fin_bl I q (by simp))
  | _=>exact absurd (show false=true from c) D1
 | bl i=>
  cases d;cases y with
  | non=>cases a;exact PySem.EqNone.eq_bool_none (fin_bl I q (by simp))
  | bl j=>cases a;exact eq_bool (fin_bl I q dec_bl)
  | str j=>obtain ⟨b,rfl⟩:=a;exact PySem.EqMixed.eq_bool_str (fin_bl I q (by simp))
  | _=>exact absurd (show false=true from c) D1
 | int i=>
  obtain ⟨t,rfl⟩:=d;cases y with
  | non=>cases a;exact PySem.EqNone.eq_int_none (fin_bl I q (by simp))
  | int j=>obtain ⟨b,rfl⟩:=a;exact eq_int (fin_bl I q zhx)
  | str j=>obtain ⟨b,rfl⟩:=a;exact PySem.EqMixed.eq_int_str (fin_bl I q (by simp))
  | _=>exact absurd (show false=true from c) D1
 | str i=>
  obtain ⟨t,rfl⟩:=d;cases y with
  | non=>cases a;exact PySem.EqNone.eq_str_none (fin_bl I q (by simp))
  | bl j=>cases a;exact PySem.EqMixed.eq_str_bool (fin_bl I q (by simp))
  | int j=>obtain ⟨b,rfl⟩:=a;exact PySem.EqMixed.eq_str_int (fin_bl I q (by simp))
  | str j=>obtain ⟨b,rfl⟩:=a;exact eq_str (fin_bl I q zbq)
  | _=>exact absurd (show false=true from c) D1
 | byt i=>
  obtain ⟨t,rfl⟩:=d;cases y with
  | byt j=>obtain ⟨b,rfl⟩:=a;exact PySem.W.eq_bytes (fin_bl I q zht)
  | _=>exact absurd (show false=true from c) D1
 | _=>cases y<;>exact absurd (show false=true from c) D1
theorem op_ne:OpR X (E3 .NotEq) rNe:=by
 intro e s σ H x y v u Q I d a h;obtain ⟨c,q⟩:=h;cases x with
 | non=>
  cases d;cases y with
  | non=>cases a;exact PySem.EqNone.ne_none_none (fin_bl I q (by simp))
  | bl j=>cases a;exact PySem.EqNone.ne_none_bool (fin_bl I q (by simp))
  | int j=>obtain ⟨b,rfl⟩:=a;exact PySem.EqNone.ne_none_int (fin_bl I q (by simp))
  | str j=>obtain ⟨b,rfl⟩:=a;exact PySem.EqNone.ne_none_str (fin_bl I q (by simp))
  | _=>exact absurd (show false=true from c) D1
 | bl i=>
  cases d;cases y with
  | non=>cases a;exact PySem.EqNone.ne_bool_none (fin_bl I q (by simp))
  | bl j=>cases a;exact ne_bool (fin_bl I q (congrArg not dec_bl))
  | str j=>obtain ⟨b,rfl⟩:=a;exact PySem.EqMixed.ne_bool_str (fin_bl I q (by simp))
  | _=>exact absurd (show false=true from c) D1
 | int i=>
  obtain ⟨t,rfl⟩:=d;cases y with
  | non=>cases a;exact PySem.EqNone.ne_int_none (fin_bl I q (by simp))
  | int j=>obtain ⟨b,rfl⟩:=a;exact ne_int (fin_bl I q (congrArg not zhx))
  | str j=>obtain ⟨b,rfl⟩:=a;exact PySem.EqMixed.ne_int_str (fin_bl I q (by simp))
  | _=>exact absurd (show false=true from c) D1
 | str i=>
  obtain ⟨t,rfl⟩:=d;cases y with
  | non=>cases a;exact PySem.EqNone.ne_str_none (fin_bl I q (by simp))
  | bl j=>cases a;exact PySem.EqMixed.ne_str_bool (fin_bl I q (by simp))
  | int j=>obtain ⟨b,rfl⟩:=a;exact PySem.EqMixed.ne_str_int (fin_bl I q (by simp))
  | str j=>obtain ⟨b,rfl⟩:=a;exact ne_str (fin_bl I q (congrArg not zbq))
  | _=>exact absurd (show false=true from c) D1
 | byt i=>
  obtain ⟨t,rfl⟩:=d;cases y with
  | byt j=>obtain ⟨b,rfl⟩:=a;exact PySem.W.ne_bytes (fin_bl I q (congrArg not zht))
  | _=>exact absurd (show false=true from c) D1
 | _=>cases y<;>exact absurd (show false=true from c) D1
theorem op_lt:OpR X (E3 .Lt) (rI0 λ i j=>.bl (decide (i < j))):=opB0 λ _ _ _ _ _ _ _ q=>lt_int q
theorem op_le:OpR X (E3 .LtE) (rI0 λ i j=>.bl (decide (i<=j))):=opB0 λ _ _ _ _ _ _ _ q=>le_int q
theorem op_gt:OpR X (E3 .Gt) (rI0 λ i j=>.bl (decide (j < i))):=opB0 λ _ _ _ _ _ _ _ q=>gt_int q
theorem zg3:OpR X (E3 .In) (λ x y H Q=>∃i j,x=.str i/\y=.str j/\Q (.bl (!(Z7 j i 0 j.length 1).isEmpty)) H):=by intro c s σ H x y v u Q I b a h;obtain ⟨i,j,rfl,rfl,q⟩:=h;obtain ⟨t,rfl⟩:=b;obtain ⟨d,rfl⟩:=a;exact in_str (fin_bl I q rfl)
theorem op_isN:OpR X (E3 .Is) (λ x y H Q=>y=.non/\Q (.bl (decide (x=.non))) H):=by
 intro c s σ H x y v u Q I a b h;obtain ⟨rfl,q⟩:=h;cases b;refine is_none_gen (fin_bl I q ?_);cases x<;>first
  | (cases a;rfl)
  | (obtain ⟨t,rfl⟩:=a;rfl)
theorem z66:OpR X (E3 .IsNot) (λ x y H Q=>y=.non/\Q (.bl (!decide (x=.non))) H):=by
 intro c s σ H x y v u Q I a b h;obtain ⟨rfl,q⟩:=h;cases b;refine isnot_none_gen (fin_bl I q ?_);cases x<;>first
  | (cases a;rfl)
  | (obtain ⟨t,rfl⟩:=a;rfl)
theorem OpR.or {f:Value->Value->Sem Value} {r r':R2} (h:OpR X f r) (h':OpR X f r'):OpR X f (λ x y H Q=>r x y H Q\/r' x y H Q):=by
 intro b s σ H x y v u Q I c a q;rcases q with q|q
 ·exact h b s σ H x y v u Q I c a q
 ·exact h' b s σ H x y v u Q I c a q
theorem nomark (b:Expr) {op:CmpOp} (h:op≠.In:=by decide) (h2:op≠.NotIn:=by decide):b9 op b=false:=by
 have a:(op == CmpOp.In)=false:=by cases op<;>first|rfl|exact absurd rfl h
 have c:(op == CmpOp.NotIn)=false:=by cases op<;>first|rfl|exact absurd rfl h2
 cases b<;>simp [b9,a,c]
theorem z33 {op:CmpOp} {r:R2} (ho:OpR X (E3 op) r) (ha:PE X a ta) (hb:PE X b tb) (hm:b9 op b=false):PE X (.Compare a [op] [b] pos) (tOp r ta tb):=by intro f s σ H Q I h;exact wpAny_Compare1 (binT ha hb I h λ v u c x y g e i d q=>ho f c σ g x y v u Q e i d q) hm
noncomputable def tTest (t:TE):TT:=λ σ H Q=>t σ H λ x H'=>∃k,x=.bl k/\Q k H'
theorem z0b {op:CmpOp} {r:R2} (ho:OpR X (E3 op) r) (ha:PE X a ta) (hb:PE X b tb) (hm:b9 op b=false):PT X (.Compare a [op] [b] pos) (tTest (tOp r ta tb)):=by
 intro d s σ H Q I h;refine wpAny_isTrue_Compare1 (thn (ha d s σ H _ I h) λ v f ⟨x,H1,I1,r1,q1⟩=>thn (hb d f σ H1 _ I1 q1) λ u g ⟨y,H2,I2,r2,q2⟩=>thn (ho d g σ H2 x y v u _ I2 r1 r2 q2) λ c i ⟨z,H3,I3,r3,k,e,q3⟩=>?_) hm;subst e;cases r3;exact T3 ⟨H3,I3,q3⟩
noncomputable def tChain (r r':R2) (ta tb tc:TE):TE:=λ σ H Q=>ta σ H λ x H1=>tb σ H1 λ y H2=>r x y H2 λ z H3=>∃k,z=.bl k/\
 (if k=true then tc σ H3 λ w' H4=>r' y w' H4 Q else Q (.bl false) H3)
theorem zee {op op':CmpOp} {r r':R2} (ho:OpR X (E3 op) r) (ho':OpR X (E3 op') r') (ha:PE X a ta) (hb:PE X b tb) (hc:PE X c tc)
  (hm:lastMarks [op,op'] [b,c]=false:=by with_unfolding_all rfl):PE X (.Compare a [op,op'] [b,c] pos) (tChain r r' ta tb tc):=by
 intro f s σ H Q I h;refine Compare_chain (thn (ha f s σ H _ I h) λ v i ⟨x,H1,I1,r1,q1⟩=>chain_link (thn (hb f i σ H1 _ I1 q1) λ u m ⟨y,H2,I2,r2,q2⟩=>thn (ho f m σ H2 x y v u _ I2 r1 r2 q2) λ d j ⟨z,H3,I3,r3,k,e,q3⟩=>?_)) hm;subst e;cases r3;refine T3 ?_;cases k with
 | false=>exact ite_ff ⟨.bl false,H3,I3,rfl,q3⟩
 | true=>exact ite_tt (chain_last (thn (hc f j σ H3 _ I3 q3) λ g l ⟨z',H4,I4,r4,q4⟩=>ho' f l σ H4 y z' u g Q I4 r2 r4 q4))
theorem zj5 {op op':CmpOp} {r r':R2} (ho:OpR X (E3 op) r) (ho':OpR X (E3 op') r') (ha:PE X a ta) (hb:PE X b tb) (hc:PE X c tc)
  (hm:lastMarks [op,op'] [b,c]=false:=by with_unfolding_all rfl):PT X (.Compare a [op,op'] [b,c] pos) (tTest (tChain r r' ta tb tc)):=by
 intro f s σ H Q I h;refine isTrue_chain (thn (ha f s σ H _ I h) λ v l ⟨x,H1,I1,r1,q1⟩=>test_link (thn (hb f l σ H1 _ I1 q1) λ u i ⟨y,H2,I2,r2,q2⟩=>thn (ho f i σ H2 x y v u _ I2 r1 r2 q2) λ d j ⟨z,H3,I3,r3,k,e,q3⟩=>?_)) hm;subst e;cases r3;refine T3 ?_;cases k with
 | false=>obtain ⟨p,g,o⟩:=q3;cases g;exact ite_ff ⟨H3,I3,o⟩
 | true=>refine ite_tt (test_last (thn (hc f j σ H3 _ I3 q3) λ n m ⟨z',H4,I4,r4,q4⟩=>thn (ho' f m σ H4 y z' u n _ I4 r2 r4 q4) λ q t ⟨z2,H5,I5,r5,k2,e2,q5⟩=>?_));subst e2;cases r5;exact T3 ⟨H5,I5,q5⟩
theorem line63:(sizeLine:Nat) < 2 ^ 63:=by rw [sizeLine_eq];decide
theorem op_add_str:OpR X (y6 .Add) (λ x y H Q=>∃i j,x=.str i/\y=.str j/\i.length + j.length<=sizeLine/\Q (.str (i++j)) H):=by intro e s σ H x y v u Q I c b h;obtain ⟨i,j,rfl,rfl,a,q⟩:=h;obtain ⟨t,rfl⟩:=c;obtain ⟨d,rfl⟩:=b;exact add_str (λ d f=>⟨.str (i++j),H,I.tok _,⟨_,rfl⟩,q⟩) a
theorem vals1 {x:V} {us:List Value} (r:Vals [x] us) :∃u,us=[u]/\RelV x u:=by
 cases r with
 | cons r1 r2=>cases r2;exact ⟨_,rfl,r1⟩
theorem vals2 {x y:V} {us:List Value} (r:Vals [x,y] us) :∃u w',us=[u,w']/\RelV x u/\RelV y w':=by
 cases r with
 | cons r1 r2=>
  cases r2 with
  | cons r3 r4=>cases r4;exact ⟨_,_,rfl,r1,r3⟩
end
structure ObjM (h:Heap) (x dx C:Addr) (mA:Str->Option Value):Prop where
 obj:h.get? x=some (F5 C dx)
 ns:h.Ns1 dx mA
 ne:dx≠x
theorem zh7 {h:Heap} {dx:Addr} {mA:Str->Option Value} (n:h.Ns1 dx mA) :∃od,h.get? dx=some od/\∀name,d9 name od=some (mA name):=by
 obtain ⟨o,b,l,g,d,j,_,k⟩:=n;refine ⟨o,g,λ name=>?_⟩;have e:=k name;unfold nsFind findBy at e;rw [<-Array.find?_toList] at e;unfold d9;rw [d];dsimp only;split
 ·rename_i y q;rw [q] at e;exact congrArg some e
 ·rename_i q;rw [q] at e;have a:b.toList.any (·.refKey)=false:=by rw [List.any_eq_false];intro y c;obtain ⟨z,t,i⟩:=j y (Array.mem_toList_iff.mp c);simp [DictEntry.refKey,i]
  have f:¬ b.toList.any (·.refKey)=true:=by rw [a];exact D1
  rw [if_neg f];exact congrArg some e
theorem ObjM.look {h:Heap} {x dx C:Addr} {mA:Str->Option Value} (I:ObjM h x dx C mA) :∃od,PySem.W.InstAt h x (F5 C dx) C (some od)/\∀name,d9 name od=some (mA name):=
 let ⟨od,ho,hl⟩:=zh7 I.ns
 ⟨od,⟨I.obj,rfl,rfl,ho⟩,hl⟩
section
variable {prog:Program} {w:W0} {A:P2} {E:Value->C0->Prop} {s:C0} {K:j0} {x dx C f:Addr} {mA:Str->Option Value} {name:Str} {v:Value}
theorem zli {expr:Bool} {Q:Value->C0->Prop} (X:K.In s.heap) (I:ObjM s.heap x dx C mA) (hg:C8 K C name=true) (hh:Y9 K C=true)
  (ha:F4 K (.ref C) name=some none) (hv:mA name=some v) (hv':PySem.W.handedIn v=true) (h:Q v { s with toks:=s.toks + 1 }) :
  T0 (N1 prog w) A (getAttr (.ref x) name expr) Q E s:=by
 obtain ⟨b,J,a⟩:=I.look;exact PySem.W.get_value X J (w9 hg).1 (PySem.W.findObj_own hh ha rfl (by rw [a,hv])) hv' h
theorem zih {pl:Sem Bool} {Q:Value×List Value->C0->Prop} (X:K.In s.heap) (I:ObjM s.heap x dx C mA) (hg:C8 K C name=true)
  (hf:F4 K (.ref C) name=some (some (.ref f))) (ht:j2d K (.ref f)=true) (hv:mA name=none) (h:Q (.ref f,[.ref x]) s) :
  T0 (N1 prog w) A (getMethod (.ref x) name pl) Q E s:=by
 obtain ⟨a,J,b⟩:=I.look;exact PySem.W.method_fn X J (w9 hg).1 (w9 hg).2 hf (beq_iff_eq.mp ht) (by show (d9 name a).map (·.isSome)=some false;rw [b,hv];rfl) h
theorem zkf {ns:List Str} {Q:Unit->C0->Prop} (X:K.In s.heap) (I:ObjM s.heap x dx C mA)
  (hs:F4 K (.ref C) "__setattr__" = some (some (.builtin "object.__setattr__"))) (hp:j4i K C=true) (ht:j12 K C name=some none) (hh:Y9 K C=true)
  (hw:j39 mA ns) (hsz:ns.length<=sizeLine)
  (h :∀h',ObjM h' x dx C (λ y=>if y=name then some v else mA y)->T7 dx s.heap h'->Q () { s with heap:=h',toks:=s.toks + 2 }) :
  T0 (N1 prog w) A (setAttr (.ref x) name v) Q E s:=by
 obtain ⟨l,J,p⟩:=I.look;refine PySem.W.set_plain X J hs (PySem.W.osa_open (s:={ s with toks:=s.toks + 1 }) (r:=none) X J hp ht λ b=>?_);obtain ⟨n,g,j⟩:=PySem.W.any_some hh;have k:s.heap.get? x=some ⟨.ref C,some dx,.plain,#[]⟩:=I.obj;refine o0 (F0 (o0 (o0 (wpAny_loadPart k (o0 (PySem.W.Looks.here (s:={ s with toks:=s.toks + 1 }) (PySem.W.looks_clsIn X g) ?_))))));rw [j];refine F0 (a:=some dx) (o0 (F0 (o0 ?_)));refine wpAny_nsSet1 (s:={ s with toks:=s.toks + 1 }) I.ns λ h' c d=>?_;obtain ⟨o,q,m,i,f,e⟩:=c.count (PySem.Within.cons name v hw);refine o0 (wpAny_lookBehind i (by rw [f];exact pastItsLine_dict (L0 e (by rw [X0];omega))) ?_);exact F0 (h _ ⟨(d.2 _ (A2 I.ne)).trans I.obj,c,I.ne⟩ d)
theorem zib {R:j2c->C0->Prop} {vs:List Value} {kw:List (Str×Value)} (X:K.In s.heap) (hm:PySem.W.makesIn K C=true)
  (hi:F4 K (.ref C) "__init__" = some (some (.ref f))) (hf:PySem.W.typeIn K (.ref f)=some (.type "function"))
  (h:T5 (N1 prog w) (A.under (.builtin "type.__call__" ⟨.ref C :: vs,kw⟩)) (.call (.ref f) ⟨.ref (s.heap.objs.size + 1) :: vs,kw⟩) (PySem.W.InitBack (s.heap.objs.size + 1) R)
   { s with heap:=(s.heap.push PySem.W.emptyDict).push (F5 C s.heap.objs.size) }) :
  T5 (N1 prog w) A (.call (.ref C) ⟨vs,kw⟩) R s:=by
 obtain ⟨b,g,d,t,c⟩:=s;exact PySem.W.make_core (PySem.W.makes_of X hm) (PySem.W.looks_findIn X hi) (λ a=>PySem.W.bind_fn X a hf) (.inl rfl) h
end
noncomputable def putF (f:Str) (v:V):List (Str×V)->List (Str×V)
 | []=>[(f,v)]
 | (g,x) :: r=>if g=f then (g,v) :: r else (g,x) :: putF f v r
theorem z2y (f g:Str) (v:V) :∀fs:List (Str×V),(putF f v fs).lookup g=if g=f then some v else fs.lookup g
 | []=>by
  show G7 g [(f,v)]=_;by_cases h:g=f
  ·have a:(g == f)=true:=beq_iff_eq.mpr h;simp only [G7,a,if_pos h]
  ·have a:(g == f)=false:=beq_eq_false_iff_ne.mpr h;simp only [G7,a,if_neg h]
 | (k,x) :: r=>by
  have b:=z2y f g v r;rw [show putF f v ((k,x) :: r)=(if k=f then (k,v) :: r else (k,x) :: putF f v r) from rfl];by_cases hk:k=f
  ·rw [if_pos hk];by_cases h:g=k
   ·have a:(g == k)=true:=beq_iff_eq.mpr h;simp only [G7,a,if_pos (h.trans hk)]
   ·have a:(g == k)=false:=beq_eq_false_iff_ne.mpr h;simp only [G7,a,if_neg (λ e:g=f=>h (e.trans hk.symm))]
  ·rw [if_neg hk];by_cases h:g=k
   ·have a:(g == k)=true:=beq_iff_eq.mpr h;simp only [G7,a,if_neg (λ e:g=f=>hk (h.symm.trans e))]
   ·have a:(g == k)=false:=beq_eq_false_iff_ne.mpr h;simp only [G7,a];exact b
theorem z7f (f:Str) (v:V) :∀fs:List (Str×V),f∈(putF f v fs).map (·.1)/\∀g,g∈fs.map (·.1)->g∈(putF f v fs).map (·.1)
 | []=>⟨by simp [putF],λ g h=>by simp at h⟩
 | (k,x) :: r=>by
  obtain ⟨b,a⟩:=z7f f v r;rw [show putF f v ((k,x) :: r)=(if k=f then (k,v) :: r else (k,x) :: putF f v r) from rfl];by_cases hk:k=f
  ·rw [if_pos hk];subst hk;exact ⟨by simp,λ g h=>by simpa using h⟩
  ·rw [if_neg hk];refine ⟨?_,λ g h=>?_⟩
   ·rw [L1];exact V1 _ b
   ·rw [L1] at h⊢;rcases List.mem_cons.mp h with e|e
    ·exact List.mem_cons.mpr (.inl e)
    ·exact V1 _ (a g e)
theorem z77 (f:Str) (v:V) :∀fs:List (Str×V),(putF f v fs).length<=fs.length + 1
 | []=>by simp [putF]
 | (k,x) :: r=>by
  have a:=z77 f v r;rw [show putF f v ((k,x) :: r)=(if k=f then (k,v) :: r else (k,x) :: putF f v r) from rfl];by_cases hk:k=f
  ·rw [if_pos hk,X0,X0];omega
  ·rw [if_neg hk,X0,X0];omega
theorem RelO.some_of {v:V} {o:Option Value} (r:RelO (some v) o) :∃u,o=some u/\RelV v u:=by
 cases o with
 | none=>exact (show False from r).elim
 | some u=>exact ⟨u,rfl,r⟩
theorem RelO.none_of {o:Option Value} (r:RelO none o):o=none:=by
 cases o with
 | none=>rfl
 | some u=>exact (show False from r).elim
theorem zg4 {v:V} {u:Value} (r:RelV v u):PySem.W.handedIn u=true:=by
 cases v with
 | non=>cases (show u=U3 from r);rfl
 | bl b=>cases (show u=W9 b from r);rfl
 | int i=>obtain ⟨t,e⟩:=(show∃t,u=S7 i t from r);cases e;rfl
 | str x=>obtain ⟨t,e⟩:=(show∃t,u=A9 x t from r);cases e;rfl
 | byt b=>obtain ⟨t,e⟩:=(show∃t,u=Value.bytes b t from r);cases e;rfl
 | flt b=>obtain ⟨t,e⟩:=(show∃t,u=j49 b t from r);cases e;rfl
 | ref a=>cases (show u=J1 a from r);rfl
 | ty n=>cases (show u=N3 n from r);rfl
section
variable {P:Program} {w:W0} {H H':Hp} {h h':Heap} {a C dx:Addr} {fs fs':List (Str×V)}
theorem zbl (hok:HOk P w H h) (e:H a=some (.ins C dx fs)) :∃mA,ObjM h a dx C mA/\(∀f,RelO (fs.lookup f) (mA f))/\j39 mA (fs.map (·.1))/\fs.length<=1000/\H dx=some (.own a):=by
 obtain ⟨d,z,c,b,mA,n,r,q⟩:=(show ObjOk P w H h a (.ins C dx fs) from hok a _ e)
 exact ⟨mA,⟨b,n,c⟩,r,q,z,d⟩
end
structure Cls (K:j0) (C:Addr):Prop where
 pg:C8 K C Str.empty=true
 hd:Y9 K C=true
 po:j4i K C=true
 sa:F4 K (.ref C) "__setattr__" = some (some (.builtin "object.__setattr__"))
theorem Cls.get {K:j0} {C:Addr} (c:Cls K C) (f:Str):C8 K C f=true:=c.pg
def NoAttr (K:j0) (C:Addr) (f:Str):Prop:=F4 K (.ref C) f=some none
theorem NoAttr.taker {K:j0} {C:Addr} {f:Str} (n:NoAttr K C f):j12 K C f=some none:=by unfold j12;rw [show F4 K (.ref C) f=some none from n];rfl
structure Con (K:j0) (C:Addr) (f:Str) (v:V) (u:Value):Prop where
 at_:F4 K (.ref C) f=some (some u)
 rel:RelV v u
 get:j4h K u "__get__" = some none
 cp:PySem.W.copiedNames.contains f=false
structure Meth (K:j0) (C:Addr) (m:Str) (f:Addr):Prop where
 at_:F4 K (.ref C) m=some (some (.ref f))
 fn:j2d K (.ref f)=true
 kp:L5 K (.ref f)=true
section
variable {X:Cx} {pins:List (Addr×Obj)} {σ:St} {H:Hp} {s:C0} {a C dx:Addr} {fs:List (Str×V)} {f:Str} {v:V} {A:P2} {E:Value->C0->Prop}
theorem zdl {b:Bool} {Q:Value->C0->Prop} (I:Inv X pins σ H s) (e:H a=some (.ins C dx fs)) (c:Cls X.K C) (n:NoAttr X.K C f) (l:fs.lookup f=some v)
  (h :∀u s',Inv X pins σ H s'->RelV v u->Q u s'):T0 (N1 X.prog X.w) A (getAttr (.ref a) f b) Q E s:=by
 obtain ⟨i,O,r,_,_,_⟩:=zbl I.hok e;obtain ⟨u,g,d⟩:=RelO.some_of (v:=v) (o:=i f) (by rw [<-l];exact r f);exact zli I.kIn O (c.get f) c.hd n g (zg4 d) (h u _ (I.tok _) d)
theorem zet {m:Str} {g:Addr} {pl:Sem Bool} {Q:Value×List Value->C0->Prop} (I:Inv X pins σ H s) (e:H a=some (.ins C dx fs)) (c:Cls X.K C) (k:Meth X.K C m g) (l:fs.lookup m=none)
  (h:Q (.ref g,[.ref a]) s):T0 (N1 X.prog X.w) A (getMethod (.ref a) m pl) Q E s:=by
 obtain ⟨d,O,r,_,_,_⟩:=zbl I.hok e;have b:d m=none:=RelO.none_of (by rw [<-l];exact r m);exact zih I.kIn O (c.get m) k.at_ k.fn b h
theorem zf7 {y:V} {u:Value} {Q:Unit->C0->Prop} (I:Inv X pins σ H s) (e:H a=some (.ins C dx fs)) (c:Cls X.K C) (n:NoAttr X.K C f) (hl:fs.length < 1000) (ry:RelV y u)
  (h :∀s',Inv X pins σ (upd H a (.ins C dx (putF f y fs))) s'->Q () s'):T0 (N1 X.prog X.w) A (setAttr (.ref a) f u) Q E s:=by
 obtain ⟨k,O,r,i,_,j⟩:=zbl I.hok e;have p:(fs.map (·.1)).length<=sizeLine:=by rw [B0,sizeLine_eq];omega
 refine zkf I.kIn O c.sa c.po n.taker c.hd i p λ l d m=>h _ ?_;have t :∃o,l.get? dx=some o:=let ⟨o,_,_,e',_⟩:=d.ns;⟨o,e'⟩;refine I.write (x:=a) (e:=dx) (by rw [e];exact True.intro) (.inr j) (λ b q B z=>(m.2 b B).trans z) t ?_;refine ⟨by rw [upd_ne O.ne];exact j,?_,O.ne,d.obj,_,d.ns,λ g=>?_,λ g v=>?_⟩
 ·have:=z77 f y fs;omega
 ·show RelO ((putF f y fs).lookup g) (if g=f then some u else k g);rw [z2y];by_cases q:g=f
  ·rw [if_pos q,if_pos q];exact ry
  ·rw [if_neg q,if_neg q];exact r g
 ·by_cases q:g=f
  ·rw [q];exact (z7f f y fs).1
  ·refine (z7f f y fs).2 g (i g λ z=>v ?_);show (if g=f then some u else k g)=none;rw [if_neg q];exact z
theorem Inv.made (I:Inv X pins σ H s):Inv X pins σ (upd (upd H s.heap.objs.size (.own (s.heap.objs.size + 1))) (s.heap.objs.size + 1) (.ins C s.heap.objs.size []))
  { s with heap:=(s.heap.push PySem.W.emptyDict).push (F5 C s.heap.objs.size) }:=by
 have c:(s.heap.push PySem.W.emptyDict).get? s.heap.objs.size=some PySem.W.emptyDict:=C1 s.heap rfl;have i:((s.heap.push PySem.W.emptyDict).push (F5 C s.heap.objs.size)).get? (s.heap.objs.size + 1)=some (F5 C s.heap.objs.size):=by
  have:=C1 (s.heap.push PySem.W.emptyDict) (o:=F5 C s.heap.objs.size) rfl
  rwa [W6] at this
 have h:(s.heap.push PySem.W.emptyDict).Ns s.heap.objs.size (λ _=>none):=⟨PySem.W.emptyDict,#[],_,c,rfl,(λ e j=>absurd j (by simp)),λ _=>rfl⟩
 have g:=I.laid (a:=s.heap.objs.size) (o:=.own (s.heap.objs.size + 1)) (h':=s.heap.push PySem.W.emptyDict) (t':=s.toks) (λ b u q=>G0 _ q) (J0 _) ⟨_,c⟩;refine g.laid (a:=s.heap.objs.size + 1) (o:=.ins C s.heap.objs.size []) (t':=s.toks) (λ b u q=>G0 _ q) (Nat.le_of_eq (W6 _ _)) ?_;have d:s.heap.objs.size≠s.heap.objs.size + 1:=Z0 (O3 _);refine ⟨by rw [upd_ne d,z04],E2 _,d,i,λ _=>none,(Heap.Ns1.of_empty h).at λ o q=>G0 _ q,λ _=>True.intro,λ y f=>absurd rfl f⟩
theorem zl0 {prog:Program} {w:W0} {env:Env} {e:Expr} {f:Str} {pos:Pos} {s:C0} {Q:Value->C0->Prop} (hb:E5 e f env (Z3 e env)=Z3 e env)
  (h:T0 (N1 prog w) A (Z3 e env) (λ o s₁=>T0 (N1 prog w) A (getAttr o f true) Q E s₁) E s):T0 (N1 prog w) A (Z3 (.Attribute e f pos) env) Q E s:=
 Attribute_any_ h (by rw [arm_eval_Attribute,hb])
end
noncomputable def tFld (K:j0) (ta:TE) (f:Str):TE:=λ σ H Q=>ta σ H λ x H1=>∃a C dx fs v,x=.ref a/\H1 a=some (.ins C dx fs)/\Cls K C/\NoAttr K C f/\fs.lookup f=some v/\Q v H1
noncomputable def sFld (K:j0) (ta tv:TE) (f:Str):TS:=λ D σ H=>tv σ H λ y H1=>ta σ H1 λ x H2=>∃a C dx fs,x=.ref a/\H2 a=some (.ins C dx fs)/\Cls K C/\NoAttr K C f/\fs.length < 1000/\
 D.nx σ (upd H2 a (.ins C dx (putF f y fs)))
section
variable {X:Cx} {o e value:Expr} {f:Str} {pos pos' tpos:Pos} {ta tv:TE}
theorem pe_fld (he:PE X e ta) (hb:E5 e f X.env (Z3 e X.env)=Z3 e X.env):PE X (.Attribute e f pos) (tFld X.K ta f):=by intro d s σ H Q I h;refine zl0 hb (thn (he d s σ H _ I h) λ u i ⟨x,H1,I1,rx,a,C,dx,fs,v,ex,ea,c,n,l,q⟩=>?_);subst ex;obtain rfl:u=J1 a:=rx;exact zdl I1 ea c n l λ k j g b=>⟨v,H1,g,b,q⟩
theorem ps_fld (ha:PE X o ta) (hv:PE X value tv) (hs:u9 value (some (.Attribute o f pos')) pos.line X.env=O4 false):PS X (.Assign [.Attribute o f pos'] value pos) (sFld X.K ta tv f):=by intro b s σ H D I h;refine plainObj_wpAny_Assign_Attribute (thn (hv b s σ H _ I h) λ u e ⟨y,H1,I1,ry,q⟩=>thn (ha b e σ H1 _ I1 q) λ d j ⟨x,H2,I2,rx,a,C,dx,fs,ex,ea,c,n,l,q2⟩=>?_) hs;subst ex;obtain rfl:d=J1 a:=rx;exact zf7 I2 ea c n l ry λ i g=>⟨σ,_,g,q2⟩
end
section
variable {X:Cx} {pins:List (Addr×Obj)} {σ:St} {H:Hp} {s:C0} {A:P2} {E:Value->C0->Prop} {Q:Value->C0->Prop} {c:Value} {b:Bool}
inductive TyOf (K:j0) (H:Hp):V->Value->Prop where
 | non:TyOf K H .non (.type "NoneType")
 | bl (x:Bool):TyOf K H (.bl x) (.type "bool")
 | int (i:Int):TyOf K H (.int i) (.type "int")
 | str (x:Str):TyOf K H (.str x) (.type "str")
 | flt (x:UInt64):TyOf K H (.flt x) (.type "float")
 | lst {a:Addr} {xs:List V} (e:H a=some (.lst xs)):TyOf K H (.ref a) (.type "list")
 | frz {a:Addr} {o:Obj} {xs:List V} (e:H a=some (.frz o (.lst xs))):TyOf K H (.ref a) (.type "list")
 | tup {a:Addr} {xs:List V} (e:H a=some (.tup xs)):TyOf K H (.ref a) (.type "tuple")
 | dK {a:Addr} {kvs:List (Key×V)} (e:H a=some (.dK kvs)):TyOf K H (.ref a) (.type "dict")
 | dT {a:Addr} {kvs:List (List Key×V)} (e:H a=some (.dT kvs)):TyOf K H (.ref a) (.type "dict")
 | ins {a C dx:Addr} {fs:List (Str×V)} (e:H a=some (.ins C dx fs)) (cl:Cls K C) (ha:F4 K (.ref C) "__class__" = some (some (.builtin "object.__class__")))
   (hn:j4h K (.builtin "object.__class__") "__get__" = some (some (.builtin "getset_descriptor.__get__"))) (htk:PySem.W.takesIn K (.builtin "object.__class__")=some true)
   (hm:PySem.W.mroIn K C (.type "object")=some true):TyOf K H (.ref a) (.ref C)
theorem zgf {x:V} {u t:Value} (I:Inv X pins σ H s) (rx:RelV x u) (ty:TyOf X.K H x t) (e:PySem.W.kitOne X.K t c=some b) (h :∀tk,Q (.bool b) { s with toks:=tk }) :
  T0 (N1 X.prog X.w) A (call (.builtin "isinstance") [u,c]) Q E s:=by
 cases ty with
 | non=>cases (show u=U3 from rx);exact y4 PySem.W.kitx_none I.kIn True.intro e (λ z=>nomatch z) h
 | bl y=>cases (show u=W9 y from rx);exact y4 PySem.W.kitx_bool I.kIn True.intro e (λ z=>nomatch z) h
 | int i=>obtain ⟨t,q⟩:=(show∃t,u=S7 i t from rx);cases q;exact y4 PySem.W.kitx_int I.kIn True.intro e (λ z=>nomatch z) h
 | str y=>obtain ⟨t,q⟩:=(show∃t,u=A9 y t from rx);cases q;exact y4 PySem.W.kitx_str I.kIn True.intro e (λ z=>nomatch z) h
 | flt y=>obtain ⟨t,q⟩:=(show∃t,u=j49 y t from rx);cases q;exact y4 PySem.W.kitx_float I.kIn True.intro e (λ z=>nomatch z) h
 | @lst a f ea=>
  cases (show u=J1 a from rx);obtain ⟨_,_,n,_,d⟩:=(show ObjOk X.prog X.w H s.heap a (.lst f) from I.hok a _ ea)
  exact y4 j4j I.kIn ⟨_,d,rfl⟩ e (λ z=>nomatch z) h
 | @frz a ob f ea=>
  cases (show u=J1 a from rx);obtain ⟨_,_,_,n,_,d⟩:=(show ObjOk X.prog X.w H s.heap a (.frz ob (.lst f)) from I.hok a _ ea)
  exact y4 j4j I.kIn ⟨_,d,rfl⟩ e (λ z=>nomatch z) h
 | @tup a f ea=>
  cases (show u=J1 a from rx);obtain ⟨_,_,_,p,_⟩:=(show ObjOk X.prog X.w H s.heap a (.tup f) from I.hok a _ ea)
  obtain ⟨o,d,g,_⟩:=p;exact y4 PySem.W.kitx_tuple I.kIn ⟨o,d,g⟩ e (λ z=>nomatch z) h
 | @dK a kvs ea=>
  cases (show u=J1 a from rx);obtain ⟨_,_,m,_,p⟩:=(show ObjOk X.prog X.w H s.heap a (.dK kvs) from I.hok a _ ea)
  obtain ⟨o,j,k,d,g,_⟩:=p;exact y4 j50 I.kIn ⟨o,d,g.1⟩ e (λ z=>nomatch z) h
 | @dT a kvs ea=>
  cases (show u=J1 a from rx);obtain ⟨_,_,f,_,o,j,k,d,g,_⟩:=(show ObjOk X.prog X.w H s.heap a (.dT kvs) from I.hok a _ ea)
  exact y4 j50 I.kIn ⟨o,d,g.1⟩ e (λ z=>nomatch z) h
 | @ins a C dx fs ea cl ha hn htk hm=>cases (show u=J1 a from rx);obtain ⟨r,O,_⟩:=zbl I.hok ea;obtain ⟨l,J,_⟩:=O.look;exact y4 (PySem.W.kitx_own (cl.get _) cl.hd ha hn htk hm) I.kIn J e (λ z=>nomatch z) h
end
structure Room (k:Nat) (A:P2):Prop where
 hd:A.handled=none
 dp:A.depth + 3 * k + 5 < recursionLimit
 un:A.units + 16 * k + 200 < cLine
 gd:A.guards=some []
theorem Room.mono {j k:Nat} {A:P2} (r:Room k A) (h:j<=k):Room j A:=⟨r.hd,by have:=r.dp;omega,by have:=r.un;omega,r.gd⟩
theorem Room.deeper {k:Nat} {A:P2} (r:Room (k + 1) A) (env:Env):Room k (A.deeper env):=
 ⟨r.hd,by have:=r.dp;show A.depth + 1 + 3 * k + 5 < _;omega,by have:=r.un;show A.units + 3 + 16 * k + 200 < _;omega,r.gd⟩
theorem ze6 {A:P2} {C:Addr} {us:List Value} {kw:List (Str×Value)}:(A.under (.builtin "type.__call__" ⟨.ref C :: us,kw⟩)).depth=A.depth + 1:=by first|rfl|simp [j07,Code.weight,Code.isCreation,Code.isGuard,Code.isCaller,j56,j0i,guardIds]
theorem zep {A:P2} {C:Addr} {us:List Value} {kw:List (Str×Value)}:(A.under (.builtin "type.__call__" ⟨.ref C :: us,kw⟩)).units=A.units + 1:=by first|rfl|simp [j07,Code.cUnits,j56,j0i]
theorem Room.make {k:Nat} {A:P2} (r:Room (k + 1) A) (C:Addr) (us:List Value) (kw:List (Str×Value)):Room k (A.under (.builtin "type.__call__" ⟨.ref C :: us,kw⟩)):=
 ⟨r.hd,by have:=r.dp;rw [ze6];omega,by have:=r.un;rw [zep];omega,by have h:=r.gd;first|exact h|simp [j07,h,Code.weight,Code.isCreation,Code.isGuard,Code.isCaller,j56,j0i,guardIds]⟩
theorem Room.depth {k:Nat} {A:P2} (r:Room k A):A.depth < recursionLimit:=by have:=r.dp;omega
theorem Room.units {k:Nat} {A:P2} (r:Room k A):A.units + 64 < cLine:=by have:=r.un;omega
noncomputable def tNil:TA:=λ _ H Q=>Q [] H
noncomputable def tCons (ta:TE) (tr:TA):TA:=λ σ H Q=>ta σ H λ x H1=>tr σ H1 λ xs H2=>Q (x :: xs) H2
section
variable {X:Cx} {e:Expr} {es:List Expr} {te:TE} {t:TA} {pos:Pos}
theorem pa_nil:PA X [] tNil:=λ _ _ _ _ H Q I h=>b6 ⟨[],H,I,.nil,h⟩
theorem z01 (ha:PE X e te) (hr:PA X es t) (hs:E1 (e :: es) X.env=(false,Z3 e X.env) :: E1 es X.env:=by rfl):PA X (e :: es) (tCons te t):=by intro a b s σ H Q I h;rw [hs];show T0 _ _ (j3f ((false,Z3 e X.env) :: V4 a (E1 es X.env))) _ _ s;refine C5 (thn (ha b s σ H _ I h) λ u c ⟨x,H1,I1,r1,q1⟩=>?_);exact thn (hr a b c σ H1 _ I1 q1) λ d f ⟨xs,H2,I2,r2,q2⟩=>⟨x :: xs,H2,I2,.cons r1 r2,q2⟩
noncomputable def tTup (t:TA):TE:=λ σ H Q=>t σ H λ xs H1=>xs.length<=sizeLine/\∀p,H1 p=none->Q (.ref p) (upd H1 p (.tup xs))
noncomputable def tLst (t:TA):TE:=λ σ H Q=>t σ H λ xs H1=>xs.length<=sizeLine/\∀p,H1 p=none->Q (.ref p) (upd H1 p (.lst xs))
theorem pe_tup {x1} (h:PA X es t):PE X (.Tuple es x1 pos) (tTup t):=by intro f s σ H Q I d;refine wpAny_Tuple_spliced (thn (h pos f s σ H _ I d) λ g a ⟨xs,H1,I1,r,z,q⟩=>⟨by rw [<-r.length];exact z,?_⟩);have c:H1 a.heap.objs.size=none:=I1.hok.fresh (J0 _);refine ⟨.ref a.heap.objs.size,upd H1 a.heap.objs.size (.tup xs),I1.laid (t':=a.toks) (λ b u e=>G0 _ e) (J0 _) ?_,rfl,q _ c⟩;exact ⟨z,g,r,IsTupN.new _ _⟩
theorem pe_lst (h:PA X es t):PE X (.List es pos) (tLst t):=by intro f s σ H Q I d;refine wpAny_List_spliced (thn (h pos f s σ H _ I d) λ g a ⟨xs,H1,I1,r,z,q⟩=>⟨by rw [<-r.length];exact z,?_⟩);have c:H1 a.heap.objs.size=none:=I1.hok.fresh (J0 _);refine ⟨.ref a.heap.objs.size,upd H1 a.heap.objs.size (.lst xs),I1.laid (t':=a.toks) (λ b u e=>G0 _ e) (J0 _) ?_,rfl,q _ c⟩;exact ⟨z,g,0,r,C1 _ rfl⟩
end
noncomputable abbrev Sp:=List V->Hp->VK->XK->Prop
noncomputable abbrev CXT:=List Env->Hp->C0->XK->Value->C0->Prop
structure Env0 (P:Program) (w:W0) (K:j0) (mg:Str->Option Value) (base:Heap) (A:P2) (outer:List Env) (s:C0) (H:Hp):Prop where
 frames:A.frames=some outer
 mod:Mod K mg base
 bs :∀b o,base.get? b=some o->s.heap.get? b=some o/\H b=none
 bsz:base.objs.size<=s.heap.objs.size
 funs:s.heap.FunFrames base outer
 frf :∀b∈frs outer,H b=none
 hok:HOk P w H s.heap
 bare:a9 s.gens
def CE (outer:List Env) (P:Program) (w:W0) (H:Hp) (s:C0) (Q:VK) (u:Value) (s':C0):Prop:=
 ∃v H',s'.os=s.os/\a9 s'.gens/\Un (frs outer) [] H H' s.heap s'.heap/\HOk P w H' s'.heap/\RelV v u/\Q v H'
def CR (CX:CXT) (outer:List Env) (P:Program) (w:W0) (H:Hp) (s:C0) (Q:VK) (E:XK) (r:j2c) (s':C0):Prop:=
 match r with
 | .ok (.ret u)=>CE outer P w H s Q u s'
 | .ok _=>False
 | .error e=>CX outer H s E e s'
structure FnOk (P:Program) (w:W0) (K:j0) (mg:Str->Option Value) (base:Heap) (CX:CXT) (k:Nat) (f:Addr) (fd:FuncData) (ps:List Str) (sp:Sp):Prop where
 len :∀vs H Q E,sp vs H Q E->vs.length=ps.length
 run :∀(A:P2) (outer:List Env) (s:C0) (H:Hp) (args:Args) (us:List Value) (vs:List V) (Q:VK) (E:XK),Room k A->Env0 P w K mg base A outer s H->BindsTo s fd args (ps.zip us)->Vals vs us->sp vs H Q E->
  T5 (N1 P w) A (.call (.ref f) args) (CR CX outer P w H s Q E) s
theorem Env0.make {P:Program} {w:W0} {K:j0} {mg:Str->Option Value} {base:Heap} {A:P2} {outer:List Env} {s:C0} {H:Hp} (e:Env0 P w K mg base A outer s H) (C:Addr) (us:List Value) (kw:List (Str×Value)) :
  Env0 P w K mg base (A.under (.builtin "type.__call__" ⟨.ref C :: us,kw⟩)) outer s H:=⟨by first|exact e.frames|(simpa [j07,Code.envs,j0i,pushEnvs] using e.frames),e.mod,e.bs,e.bsz,e.funs,e.frf,e.hok,e.bare⟩
section
variable {X:Cx} {pins:List (Addr×Obj)} {σ:St} {H:Hp} {s s':C0}
theorem Inv.env0 (I:Inv X pins σ H s):Env0 X.prog X.w X.K X.mg X.base X.A X.stack s H:=
 ⟨I.ok.frames,I.ok.mod,I.bs,L0 I.ok.bsz I.sz,I.stack,I.stkFree,I.hok,I.bare⟩
theorem Inv.after {Q:VK} {u:Value} (I:Inv X pins σ H s) (h:CE X.stack X.prog X.w H s Q u s'):EP X pins σ Q u s':=by obtain ⟨v,f,c,e,un,i,r,q⟩:=h;obtain ⟨a,g,d,t,j⟩:=s';obtain rfl:j=s.os:=c;exact ⟨v,f,I.call (h':=a) (g':=g) (d':=d) (t':=t) (ch:=[]) un i e (λ b z=>absurd z (by simp)),r,q⟩
end
noncomputable def tCall (sp:Sp) (dvs:List V) (E:XK) (t:TA):TE:=λ σ H Q=>t σ H λ vs H1=>sp (vs++dvs) H1 Q E
noncomputable def tMeth (C:Addr) (m:Str) (sp:Sp) (dvs:List V) (E:XK) (ta:TE) (t:TA):TE:=λ σ H Q=>ta σ H λ x H1=>∃a dx fs,x=.ref a/\H1 a=some (.ins C dx fs)/\fs.lookup m=none/\
 t σ H1 λ vs H2=>sp (x :: (vs++dvs)) H2 Q E
noncomputable def tMake (C:Addr) (sp:Sp) (dvs:List V) (E:XK) (t:TA):TE:=λ σ H Q=>t σ H λ vs H1=>∀x dx,H1 x=none->H1 dx=none->dx≠x->
 sp (.ref x :: (vs++dvs)) (upd (upd H1 dx (.own x)) x (.ins C dx [])) (λ v H2=>v=.non/\Q (.ref x) H2) E
def Binds (K:j0) (fd:FuncData) (ps:List Str) (ds:List Value):Prop:=
 ∀(s:C0) (us:List Value),K.In s.heap->(us++ds).length=ps.length->BindsTo s fd ⟨us,[]⟩ (ps.zip (us++ds))
theorem Binds.all {K:j0} {fd:FuncData} {ps:List Str} (h :∀us:List Value,us.length=ps.length->bindArgs fd ⟨us,[]⟩=O4 (ps.zip us)):Binds K fd ps []:=λ s us _ a=>by rw [C3] at a⊢;exact .of_eq (h us a)
def Passes (CX:CXT) (X:Cx) (E:XK):Prop:=∀(pins:List (Addr×Obj)) (σ:St) (H:Hp) (s:C0) (e:Value) (s':C0),Inv X pins σ H s->CX X.stack H s E e s'->X.xe e s'
section
variable {X:Cx} {CX:CXT} {k:Nat} {f C:Addr} {fd:FuncData} {ps:List Str} {sp:Sp} {dvs:List V} {ds:List Value} {E:XK} {x m:Str} {p pos apos:Pos} {e o:Expr} {es:List Expr} {ta:TE} {t:TA}
theorem run_fn {pins:List (Addr×Obj)} {σ:St} {H:Hp} {s:C0} {Q:VK} {us:List Value} {vs:List V} (F:FnOk X.prog X.w X.K X.mg X.base CX k f fd ps sp) (hr:Room k X.A) (hb:Binds X.K fd ps ds) (hd:Vals dvs ds) (hx:Passes CX X E)
  (I:Inv X pins σ H s) (r:Vals vs us) (h:sp (vs++dvs) H Q E):T0 (N1 X.prog X.w) X.A (call (.ref f) us) (EP X pins σ Q) X.xe s:=by
 have b:Vals (vs++dvs) (us++ds):=r.append hd;have d:(us++ds).length=ps.length:=by rw [<-b.length];exact F.len _ _ _ _ h
 refine j42 (Q6 (F.run X.A X.stack s H ⟨us,[]⟩ (us++ds) (vs++dvs) Q E hr I.env0 (hb s us I.kIn d) b h) λ r c a=>?_);cases r with
 | error e=>exact hx pins σ H s e c I a
 | ok fl=>
  cases fl with
  | ret u=>exact I.after a
  | next=>exact X4 a
  | brk=>exact X4 a
  | cont=>exact X4 a
theorem zda (F:FnOk X.prog X.w X.K X.mg X.base CX k f fd ps sp) (hr:Room k X.A) (hg:Gl X x) (hm:X.mg x=some (.ref f)) (hk:L5 X.K (.ref f)=true) (hb:Binds X.K fd ps ds) (hd:Vals dvs ds) (hx:Passes CX X E)
  (ha:PA X (e :: es) t) (hdb:(x == ("__debug__" : Str))=false:=by decide) (he:E1 (e :: es) X.env=(false,Z3 e X.env) :: E1 es X.env:=by rfl) (hpl:(V4 pos (E1 es X.env)).any (·.1)=false:=by rfl) :
  PE X (.Call (.Name x p) (e :: es) [] pos) (tCall sp dvs E t):=by
 intro a s σ H Q I h;refine U4 (zc1 I hg hm ?_ hdb);refine O9 (h₀:=X.base) I.ok.mod.kin hk (thn (ha pos a s σ H _ I h) λ c b ⟨vs,H1,I1,r,q⟩=>⟨I1.kIn,?_⟩) he hpl;exact run_fn F hr hb hd hx I1 r q
theorem z2m {pl:Sem Bool} (he:PE X o ta) (c:Cls X.K C) (hm:Meth X.K C m f) (F:FnOk X.prog X.w X.K X.mg X.base CX k f fd ps sp) (hr:Room k X.A) (hb:Binds X.K fd ps ds) (hd:Vals dvs ds) (hx:Passes CX X E) (ha:PA X (e :: es) t)
  (hst:E1 (e :: es) X.env=(false,Z3 e X.env) :: E1 es X.env:=by rfl) (hpl:(V4 pos (E1 es X.env)).any (·.1)=false:=by rfl)
  (ht:Z3 (.Call (.Attribute o m apos) (e :: es) [] pos) X.env=(do
   let ov <-Z3 o X.env
   j3e apos.atName
   let (f,first) <-K9 [ov] (getMethod ov m pl)
   callWith pos f first (V4 pos (E1 (e :: es) X.env)) (v9 pos (f7 [] X.env))):=by rfl) :
  PE X (.Call (.Attribute o m apos) (e :: es) [] pos) (tMeth C m sp dvs E ta t):=by
 intro b s σ H Q I h;refine PySem.W.methodCall_KW (pl:=pl) (thn (he b s σ H _ I h) λ u d ⟨x,H1,I1,rx,a,dx,fs,ex,ea,l,q⟩=>?_) ht;subst ex;obtain rfl:u=J1 a:=rx;refine zet I1 ea c hm l ?_;refine O9 (first:=[.ref a]) (h₀:=X.base) I.ok.mod.kin hm.kp (thn (ha pos b d σ H1 _ I1 q) λ us g ⟨vs,H2,I2,r,q2⟩=>⟨I2.kIn,?_⟩) hst hpl;exact run_fn (us:=.ref a :: us) (vs:=.ref a :: vs) F hr hb hd hx I2 (.cons rfl r) q2
structure Mk (K:j0) (C f:Addr):Prop where
 makes:PySem.W.makesIn K C=true
 init:F4 K (.ref C) "__init__" = some (some (.ref f))
 fn:j2d K (.ref f)=true
 kp:L5 K (.ref C)=true
theorem zjd {pins:List (Addr×Obj)} {σ:St} {H:Hp} {s:C0} {Q:VK} {us:List Value} {vs:List V} (M:Mk X.K C f) (F:FnOk X.prog X.w X.K X.mg X.base CX k f fd ps sp) (hr:Room (k + 1) X.A) (hb:Binds X.K fd ps ds) (hd:Vals dvs ds)
  (hx:Passes CX X E) (I:Inv X pins σ H s) (r:Vals vs us)
  (h :∀x dx,H x=none->H dx=none->dx≠x->sp (.ref x :: (vs++dvs)) (upd (upd H dx (.own x)) x (.ins C dx [])) (λ v H2=>v=.non/\Q (.ref x) H2) E) :
  T0 (N1 X.prog X.w) X.A (call (.ref C) us) (EP X pins σ Q) X.xe s:=by
 have c:=h (s.heap.objs.size + 1) s.heap.objs.size (I.hok.fresh (K3 _)) (I.hok.fresh (J0 _)) (Z0 (O3 _));have b:=Inv.made (C:=C) I;have d:Vals (V.ref (s.heap.objs.size + 1) :: (vs++dvs)) (J1 (s.heap.objs.size + 1) :: (us++ds)):=.cons rfl (r.append hd);have m:(J1 (s.heap.objs.size + 1) :: us++ds).length=ps.length:=by have e:=d.length;rw [F.len _ _ _ _ c] at e;exact e.symm
 refine j42 (zib (f:=f) I.kIn M.makes M.init (beq_iff_eq.mp M.fn) (Q6 (F.run _ X.stack _ _ ⟨J1 (s.heap.objs.size + 1) :: us,[]⟩ (J1 (s.heap.objs.size + 1) :: (us++ds)) _ _ E (hr.make C us [])
  (b.env0.make C us []) (hb _ (J1 (s.heap.objs.size + 1) :: us) b.kIn m) d c) λ r i a=>?_))
 cases r with
 | error e=>exact hx pins σ _ _ e i b a
 | ok fl=>
  cases fl with
  | ret u=>obtain ⟨v,l,o,n,g,j⟩:=b.after a;subst g;exact ⟨n,⟨V.ref (s.heap.objs.size + 1),l,o,rfl,j⟩⟩
  | next=>exact X4 a
  | brk=>exact X4 a
  | cont=>exact X4 a
theorem z72 (M:Mk X.K C f) (F:FnOk X.prog X.w X.K X.mg X.base CX k f fd ps sp) (hr:Room (k + 1) X.A) (hg:Gl X x) (hm:X.mg x=some (.ref C)) (hb:Binds X.K fd ps ds) (hd:Vals dvs ds) (hx:Passes CX X E)
  (ha:PA X (e :: es) t) (hdb:(x == ("__debug__" : Str))=false:=by decide) (he:E1 (e :: es) X.env=(false,Z3 e X.env) :: E1 es X.env:=by rfl) (hpl:(V4 pos (E1 es X.env)).any (·.1)=false:=by rfl) :
  PE X (.Call (.Name x p) (e :: es) [] pos) (tMake C sp dvs E t):=by
 intro a s σ H Q I h;refine U4 (zc1 I hg hm ?_ hdb);refine O9 (h₀:=X.base) I.ok.mod.kin M.kp (thn (ha pos a s σ H _ I h) λ c b ⟨vs,H1,I1,r,q⟩=>⟨I1.kIn,?_⟩) he hpl;exact zjd M F hr hb hd hx I1 r q
end
section
variable {X:Cx} {CX:CXT} {k:Nat} {f C:Addr} {fd:FuncData} {ps ks:List Str} {sp:Sp} {E:XK} {x m:Str} {p pos apos kpos:Pos} {e o:Expr} {es:List Expr} {kws:List R6} {te ta:TE} {t tk:TA} {nm:Option Str}
structure KBinds (K:j0) (fd:FuncData) (ps ks:List Str) (g:List Value->List Value->List Value) (gV:List V->List V->List V):Prop where
 to :∀(s:C0) (us ws:List Value),K.In s.heap->(g us ws).length=ps.length->BindsTo s fd ⟨us,ks.zip ws⟩ (ps.zip (g us ws))
 rel :∀{vs:List V} {us:List Value} {zs:List V} {ws:List Value},Vals vs us->Vals zs ws->Vals (gV vs zs) (g us ws)
variable {g:List Value->List Value->List Value} {gV:List V->List V->List V}
end
structure FnScope (N P:List Str) (sc:Scope):Prop where
 kind:sc.kind=.function
 co:sc.isCoroutine=false
 gen:sc.isGenerator=false
 nd:N.Nodup
 pre:N.take P.length=P
 par :∀x∈P,sc.names.lookup x=some .local\/sc.names.lookup x=some .cell
 nofree :∀y∈sc.names,y.2≠.free
theorem zbj {kindOf:Str->Option L6} {x:Str} :∀{binds:List (Str×Value)} {m:Str->Option Value},(∀v,(x,v)∉binds)->bindL kindOf binds m x=m x
 | [],_,_=>rfl
 | (n,v) :: r,m,h=>by
  unfold bindL;rw [zbj λ w a=>h w (V1 _ a)];split
  ·have:x≠n:=by rintro rfl;exact h v X1
   simp [this]
  ·rfl
theorem zbd {kindOf:Str->Option L6} {x:Str} :∀{binds:List (Str×Value)} {m:Str->Option Value},(∀v,(x,v)∉binds)->bindC kindOf binds m x=m x
 | [],_,_=>rfl
 | (n,v) :: r,m,h=>by
  unfold bindC;rw [zbd λ w a=>h w (V1 _ a)];split
  ·rfl
  ·have:x≠n:=by rintro rfl;exact h v X1
   simp [this]
theorem zbw {kindOf:Str->Option L6} {x:Str} {v:Value} :∀{P:List Str} {vs:List Value} {i:Nat} {m:Str->Option Value},P.Nodup->P[i]? = some x->vs[i]? = some v->kindOf x=some .local->
  bindL kindOf (P.zip vs) m x=some v
 | [],_,_,_,_,h,_,_=>by simp at h
 | _ :: _,[],_,_,_,_,h,_=>by simp at h
 | p :: P,w :: vs,0,m,nd,h1,h2,hk=>by simp at h1 h2;subst h1;subst h2;show bindL kindOf ((p,w) :: P.zip vs) m p=_;unfold bindL;rw [zbj λ v a=>(List.nodup_cons.mp nd).1 (j1h a).1,if_pos hk];simp
 | p :: P,w :: vs,i + 1,m,nd,h1,h2,hk=>by show bindL kindOf ((p,w) :: P.zip vs) m x=_;unfold bindL;exact zbw (i:=i) (List.nodup_cons.mp nd).2 (by simpa using h1) (by simpa using h2) hk
theorem zc2 {kindOf:Str->Option L6} {x:Str} {v:Value} :∀{P:List Str} {vs:List Value} {i:Nat} {m:Str->Option Value},P.Nodup->P[i]? = some x->vs[i]? = some v->kindOf x≠some .local->
  bindC kindOf (P.zip vs) m x=some v
 | [],_,_,_,_,h,_,_=>by simp at h
 | _ :: _,[],_,_,_,_,h,_=>by simp at h
 | p :: P,w :: vs,0,m,nd,h1,h2,hk=>by simp at h1 h2;subst h1;subst h2;show bindC kindOf ((p,w) :: P.zip vs) m p=_;unfold bindC;rw [zbd λ v a=>(List.nodup_cons.mp nd).1 (j1h a).1,if_neg hk];simp
 | p :: P,w :: vs,i + 1,m,nd,h1,h2,hk=>by show bindC kindOf ((p,w) :: P.zip vs) m x=_;unfold bindC;exact zc2 (i:=i) (List.nodup_cons.mp nd).2 (by simpa using h1) (by simpa using h2) hk
noncomputable def start (N:List Str) (vs:List V):St:=vs.map some++F1 (N.length - vs.length) none
noncomputable def cxOf (CX:CXT) (P:Program) (w:W0) (K:j0) (mg:Str->Option Value) (base:Heap) (N:List Str) (qual:Str) (scope:Scope) (f:Addr) (cd:Value) (A:P2) (outer:List Env) (s:C0) (H:Hp) (E:XK):Cx where
 prog:=P
 w:=w
 K:=K
 mg:=mg
 base:=base
 A:=A.deeper (Z4 qual scope s.heap.objs.size f cd)
 N:=N
 s₀:=s
 H₀:=H
 env:=Z4 qual scope s.heap.objs.size f cd
 outer:=outer
 stack:=Z4 qual scope s.heap.objs.size f cd :: outer
 ex:=[]
 calm:=true
 fn:=λ _=>true
 pn:=[]
 xe:=λ e s'=>T0 (N1 P w) (A.deeper (Z4 qual scope s.heap.objs.size f cd)) («leaving» (Z4 qual scope s.heap.objs.size f cd) e) (λ _ s''=>CX outer H s E e s'') (λ e' s''=>CX outer H s E e' s'') s'
theorem zdi {sc:Scope} {n:Nat} {x:Str} (h:sc.names.lookup x=some .cell) :∃c,(cellsFrom n sc.names []).lookup x=some c:=by have q:=j2e sc.names n [] (.inl h);exact Option.isSome_iff_exists.mp q
theorem zhk {CX:CXT} {P:Program} {w:W0} {K:j0} {mg:Str->Option Value} {base:Heap} {N ps:List Str} {qual:Str} {scope:Scope} {f:Addr} {cd:Value} {A:P2} {outer:List Env} {s s1:C0} {H:Hp} {E:XK} {us:List Value} {vs:List V}
  (S:FnScope N ps scope) (hd:A.handled=none) (e0:Env0 P w K mg base A outer s H) (hl:vs.length=ps.length) (r:Vals vs us)
  (x:InCallC s s.heap.objs.size (bindL (Z4 qual scope s.heap.objs.size f cd).kindOf (ps.zip us) λ _=>none) (cellsFrom (s.heap.objs.size + 1) scope.names []) (bindC (Z4 qual scope s.heap.objs.size f cd).kindOf (ps.zip us) λ _=>none) s1) :
  Inv (cxOf CX P w K mg base N qual scope f cd A outer s H E) [] (start N vs) H s1:=by
 have I:ps.length<=N.length:=by have:=congrArg j55 S.pre;rw [K8] at this;omega
 obtain ⟨m,G,rfl,C⟩:=x.done;have o :∀b:Addr,b∉(cxOf CX P w K mg base N qual scope f cd A outer s H E).ex:=λ b z=>absurd (show b∈([]:List Addr) from z) (by simp);refine ⟨⟨e0.mod,S.kind,rfl,rfl,J0 _,λ y z c m d=>?_,λ y g=>?_,λ y c _ h=>?_,λ _=>hd,Around.frames_deeper e0.frames,.inr ⟨rfl,rfl⟩,λ b z=>absurd z (o b),e0.bs,e0.bsz,λ b _ _=>o b,λ b z=>absurd z (o b),e0.funs,e0.frf⟩,
  rfl,e0.bare,Un.kept C,⟨_,x.toInCall.ns,λ i y v m d J=>?_⟩,λ y c h=>⟨_,x.cell y c h⟩,e0.hok.fresh (J0 _),λ y c h=>?_,λ p j=>absurd (show p∈([]:List (Addr×Obj)) from j) (by simp),e0.hok.kept C,?_⟩
 ·exact name_of_addr x.apart (J6 m) (J6 d)
 ·have g:scope.names.lookup y=some .cell\/scope.names.lookup y=some .free:=g;rcases g with g|g
  ·exact zdi g
  ·exact absurd rfl (S.nofree _ (J6 g))
 ·exact j16 (x.above y c (J6 h))
 ·have l:i < vs.length:=by
   unfold start at d;by_cases l:i < vs.length
   ·exact l
   ·rw [A1 (by simpa using l)] at d;rw [P8] at d;split at d<;>cases d
  have D:vs[i]? = some v:=by
   unfold start at d;rw [K1 (by simpa using l),K0] at d;cases e:vs[i]? with
   | none=>rw [e] at d;cases d
   | some a=>rw [e] at d;cases d;rfl
  obtain ⟨u,t,F⟩:=r.get D;have j:ps[i]? = some y:=by rw [<-S.pre,List.getElem?_take_of_lt (by omega)];exact m
  have B:ps.Nodup:=by rw [<-S.pre];exact S.nd.sublist (List.take_sublist _ _)
  refine ⟨u,F,?_⟩;rcases S.par y (O1 j) with k|k
  ·exact .inl ⟨k,zbw B j t k⟩
  ·obtain ⟨c,e⟩:=zdi (n:=s.heap.objs.size + 1) k;refine .inr ⟨.inl k,c,e,?_⟩;have q:=x.cell y c e;rw [zc2 B j t (by show scope.names.lookup y≠_;rw [k];decide)] at q;exact q
 ·exact e0.hok.fresh (j16 (x.above y c (J6 h)))
 ·unfold start;show _=N.length;rw [I0,B0,Y2];omega
theorem fn_of {CX:CXT} {P:Program} {w:W0} {K:j0} {mg:Str->Option Value} {base:Heap} {k:Nat} {f:Addr} {name qual:Str} {params:Arguments} {body:List Stmt} {scope:Scope} {dV kV doc pm cdv ct oc:Value} {an od:Option Addr}
  {osl:Array (Option Value)} {N ps:List Str} {sp:Sp} (lk:K.lookup f=some ⟨oc,od,.func (T6 name qual params body scope dV kV doc pm an cdv ct),osl⟩) (hcd:f9 K cdv qual=true) (S:FnScope N ps scope)
  (len :∀vs H Q E,sp vs H Q E->vs.length=ps.length)
  (hbody :∀(A:P2) (outer:List Env) (s:C0) (H:Hp) (vs:List V) (Q:VK) (E:XK),Room k (A.deeper (Z4 qual scope s.heap.objs.size f cdv))->sp vs H Q E->
   ∃t,PSs (cxOf CX P w K mg base N qual scope f cdv A outer s H E) body t/\t { nx:=λ _ H'=>Q .non H',rt:=Q } (start N vs) H) :
  FnOk P w K mg base CX (k + 1) f (T6 name qual params body scope dV kV doc pm an cdv ct) ps sp:=by
 refine ⟨len,λ A outer s H R M vs Q E h c D r l=>?_⟩;have L:=len _ _ _ _ l;have KX:K.In s.heap:=c.mod.kin.keeps λ b o e=>(c.bs b o e).1;have p:s.heap.NoLimit:=c.mod.nolimit.keeps λ b o e=>(c.bs b o e).1;have G :∀y∈ps.zip M,scope.names.lookup y.1=some .local\/(scope.names.lookup y.1=some .cell/\((cellsFrom (s.heap.objs.size + 1) scope.names []).lookup y.1).isSome=true):=λ ⟨n,v⟩ hy=>by
  rcases S.par n (j1h hy).1 with q|q
  ·exact .inl q
  ·exact .inr ⟨q,j2e _ _ _ (.inl q)⟩
 refine codeAny_call_function h.depth (KX _ _ lk) rfl S.co S.gen rfl (PySem.W.codeRec_of KX hcd) (D _ _ _ _ ?_);refine wpAny_newFunctionEnv_cells S.kind G λ O F m x=>?_;subst F;refine ⟨p.keeps x.toInCall.keep,codeAny_func ?_⟩;obtain ⟨t,z,C⟩:=hbody A outer s H vs Q E (h.deeper _) l;have I:Inv (cxOf CX P w K mg base N qual scope f cdv A outer s H E) [] (start N vs) H m:=zhk S h.hd c L r x;refine N4 (z [] m (start N vs) H _ I C) (λ B g a=>?_) λ e g a=>a;have j :∀{d:St} {H':Hp} {v:V} {u:Value},Inv (cxOf CX P w K mg base N qual scope f cdv A outer s H E) [] d H' g->RelV v u->Q v H'->CE outer P w H s Q u g:=
  λ {d H' v u} J i q=>⟨v,H',J.os,J.bare,J.base,J.hok,i,q⟩
 cases B with
 | ret u=>obtain ⟨v,d,H',J,i,q⟩:=a;exact j J i q
 | next=>obtain ⟨d,H',J,q⟩:=a;exact j (v:=V.non) (u:=U3) J rfl q
 | brk=>obtain ⟨_,_,_,q⟩:=a;exact X4 q
 | cont=>obtain ⟨_,_,_,q⟩:=a;exact X4 q
section
variable {X:Cx} {x:Str} {p pos:Pos} {e:Expr} {es:List Expr} {t:TA} {id T:String} {r:List V->Hp->VK->Prop}
noncomputable def tCB (r:List V->Hp->VK->Prop) (t:TA):TE:=λ σ H Q=>t σ H λ vs H1=>r vs H1 Q
theorem z08 (hc:CallR X (.builtin id) r) (hg:Gl X x) (hm:X.mg x=none) (hv:N5 x=some (.builtin id)) (ha:PA X (e :: es) t) (hn:x≠"__name__":=by decide) (hdb:(x == ("__debug__" : Str))=false:=by decide)
  (he:E1 (e :: es) X.env=(false,Z3 e X.env) :: E1 es X.env:=by rfl) (hpl:(V4 pos (E1 es X.env)).any (·.1)=false:=by rfl):PE X (.Call (.Name x p) (e :: es) [] pos) (tCB r t):=by
 intro a s σ H Q I h;refine U4 (ld_blt I hg hm hv ?_ hn hdb);exact S6 (thn (ha pos a s σ H _ I h) λ c b ⟨vs,H1,I1,r1,q1⟩=>hc a b σ H1 vs c Q I1 r1 q1) he hpl
theorem z5e (hc:CallR X (.type T) r) (hg:Gl X x) (hm:X.mg x=none) (hv:N5 x=some (.type T)) (ha:PA X (e :: es) t) (hn:x≠"__name__":=by decide) (hdb:(x == ("__debug__" : Str))=false:=by decide)
  (he:E1 (e :: es) X.env=(false,Z3 e X.env) :: E1 es X.env:=by rfl) (hpl:(V4 pos (E1 es X.env)).any (·.1)=false:=by rfl):PE X (.Call (.Name x p) (e :: es) [] pos) (tCB r t):=by
 intro a s σ H Q I h;refine U4 (ld_blt I hg hm hv ?_ hn hdb);exact T4 (thn (ha pos a s σ H _ I h) λ c b ⟨vs,H1,I1,r1,q1⟩=>hc a b σ H1 vs c Q I1 r1 q1) he hpl
end
end L2
namespace HT
open PySem PyProof.Rows
section
variable {prog:Program} {w:W0} {A:P2} {E:Value->C0->Prop} {s:C0}
theorem cat_tup {t b:Addr} {vs ws:List Value} {Q:Value->C0->Prop} (ht:IsTup s.heap t vs.toArray) (hb:IsTup s.heap b ws.toArray) (hv:vs≠[])
  (h1:ws=[]->Q (.ref t) s) (h2:ws≠[]->Q (.ref s.heap.objs.size) { s with heap:=s.heap.push { cls:=.type "tuple",data:=.seq (vs++ws).toArray } })
  (hsz:vs.length + ws.length<=sizeLine):T0 (N1 prog w) A (y6 .Add (.ref t) (.ref b)) Q E s:=by
 obtain ⟨⟨cls,m,data,h⟩,c,k,n,i⟩:=id ht;obtain ⟨⟨p,j,o,g⟩,a,f,l,d⟩:=id hb;simp only at k i f d;subst k i f d;have e:vs.toArray++ws.toArray=(vs++ws).toArray:=by simp
 by_cases hw:ws=[]
 ·exact concat_meets ⟨_,c,rfl⟩ ⟨_,a,rfl⟩ noFill_tuple_add seq_tuple_add j2g j27 (j24 _ _)
   (tuple_addW1 t b vs.toArray ws.toArray n l m j h g (by simpa using hv) (by simp [hw])) ⟨c,a,h1 hw⟩
 ·refine concat_meets ⟨_,c,rfl⟩ ⟨_,a,rfl⟩ noFill_tuple_add seq_tuple_add j2g j27 (j24 _ _)
   (tuple_addW2 t b vs.toArray ws.toArray n l m j h g (by simpa using hv) (by simpa using hw) (by rw [V0,V0];exact hsz)) ⟨c,a,?_⟩
  rw [e];exact h2 hw
noncomputable def sIx (n d:Nat):Option Int->Nat
 | none=>d
 | some v=>if v < 0 then (v + (n:Int)).toNat else min v.toNat n
theorem sIx_nat (n d k:Nat):sIx n d (some (k:Int))=min k n:=by show (if (k:Int) < 0 then ((k:Int) + (n:Int)).toNat else min (k:Int).toNat n)=min k n;rw [if_neg (by omega),a7]
theorem sIx_le (n d:Nat) (hd:d<=n) (o:Option Int):sIx n d o<=n:=by
 cases o with
 | none=>exact hd
 | some v=>
  show (if v < 0 then (v + (n:Int)).toNat else min v.toNat n)<=n;by_cases hv:v < 0
  ·rw [if_pos hv];omega
  ·rw [if_neg hv];exact Nat.min_le_right _ _
theorem zhz (v:Int) (n d:Nat):(if v < 0 then max (v + (n:Int)) 0 else min v (n:Int))=((sIx n d (some v):Nat):Int):=by
 show (if v < 0 then max (v + (n:Int)) 0 else min v (n:Int))=(((if v < 0 then (v + (n:Int)).toNat else min v.toNat n):Nat):Int);by_cases hv:v < 0
 ·simp only [if_pos hv];omega
 ·simp only [if_neg hv];omega
theorem zec (lo hi:Option Int) (n:Nat):D7 lo hi 1 (n:Int)=(((sIx n 0 lo:Nat):Int),((sIx n n hi:Nat):Int)):=by
 have a:¬ ((1:Int) < 0):=by omega
 unfold D7;simp only [a,if_false];refine j51 ?_ ?_
 ·cases lo with
  | none=>rfl
  | some v=>exact zhz v n 0
 ·cases hi with
  | none=>rfl
  | some v=>exact zhz v n n
theorem zf8 (i j:Nat):X5 (i:Int) (j:Int) 1=j - i:=by
 unfold X5;have a:(1:Int) > 0:=by omega
 simp only [a,if_true,Int.ediv_one];split<;>omega
theorem z8n {v:Value} {o:Option Int} {Q:Option Int->C0->Prop} (p:j1g v o) (h:Q o s):T0 (N1 prog w) A (Builtin.Slice.slicePartIndex v) Q E s:=by
 cases p with
 | none=>exact slicePart_none h
 | int i t=>exact slicePart_int h
theorem z67 {sl:Addr} {vl vu:Value} {lo hi:Option Int} {n:Nat} {Q:Int×Int×Nat->C0->Prop} (hs:s.heap.IsSliceOf sl vl vu .none) (pl:j1g vl lo) (pu:j1g vu hi)
  (h:Q (((sIx n 0 lo:Nat):Int),1,sIx n n hi - sIx n 0 lo) s):T0 (N1 prog w) A (j01 (.ref sl) (O4 (n:Int))) Q E s:=by
 obtain ⟨c,a,d,b⟩:=id hs;unfold j01 Builtin.Slice.sliceFields;refine o0 (o0 (wpAny_field a b (x:=vl) rfl (o0 (wpAny_field a b (x:=vu) rfl (o0 (wpAny_field a b (x:=.none) rfl (F0 ?_)))))));refine o0 (slicePart_none ?_);show T0 _ _ (if ((1:Int) == 0)=true then _ else _) _ _ s;rw [if_neg (by decide)];refine o0 (z8n pl (o0 (z8n pu (o0 (F0 ?_)))));show T0 _ _ (match D7 lo hi 1 (n:Int) with|(lo,hi)=>O4 (lo,(1:Int),X5 lo hi 1)) _ _ s;rw [zec lo hi n];show T0 _ _ (O4 (((sIx n 0 lo:Nat):Int),(1:Int),X5 ((sIx n 0 lo:Nat):Int) ((sIx n n hi:Nat):Int) 1)) _ _ s;rw [zf8];exact F0 h
theorem zjm (xs:Array Value) (i k:Nat):((O0 k).filterMap λ (m:Nat)=>xs[((i:Int) + (m:Int) * 1).toNat]?).toArray=((xs.toList.drop i).take k).toArray:=by
 have e:(λ (m:Nat)=>xs[((i:Int) + (m:Int) * 1).toNat]?)=λ m=>xs[i + m]?:=by
  funext m;have:((i:Int) + (m:Int) * 1).toNat=i + m:=by omega
  rw [this]
 rw [e];have:=pick_run xs i k;rw [j06] at this;have a:((λ x=>xs[x]?) ∘ λ x=>i + x)=λ m=>xs[i + m]?:=rfl;rw [a] at this;rw [this]
theorem getItem_tuple_cut {t sl:Addr} {items:Array Value} {vl vu:Value} {lo hi:Option Int} {Q:Value->C0->Prop} (ht:IsTup s.heap t items) (hs:s.heap.IsSliceOf sl vl vu .none) (pl:j1g vl lo) (pu:j1g vu hi)
  (hw:¬ (sIx items.size 0 lo=0/\sIx items.size items.size hi=items.size))
  (h:Q (.ref s.heap.objs.size) { s with heap:=s.heap.push { cls:=.type "tuple",data:=.seq ((items.toList.drop (sIx items.size 0 lo)).take (sIx items.size items.size hi - sIx items.size 0 lo)).toArray } })
  (hsz:items.size<=sizeLine):T0 (N1 prog w) A (j0d (.ref t) (.ref sl)) Q E s:=by
 have a:sizeOk (.seq ((items.toList.drop (sIx items.size 0 lo)).take (sIx items.size items.size hi - sIx items.size 0 lo)).toArray):=by show ((items.toList.drop (sIx items.size 0 lo)).take (sIx items.size items.size hi - sIx items.size 0 lo)).toArray.size<=sizeLine;rw [V0,K8,N8,J2];omega
 have j:sIx items.size items.size hi<=items.size:=sIx_le _ _ (J0 _) hi;obtain ⟨d,f,b,k⟩:=id hs;have c:s.TypeIs (.ref sl) "slice":=⟨d,f,b⟩
 unfold j0d
 try with_reducible refine N2 ?_
 first|refine o0 (F0 ?_)|skip
 refine o0 (wpAny_sequenceKey ht.typeIs (by decide) ?_);refine o0 (wpAny_callSpecial?_slot (name:=X3 "__getitem__") ht.typeIs x9
  (r9 x9 ht.typeIs entry_tuple_getitem ?_ (args_tuple_getitem _ _)))
 show T0 _ _ (Builtin.Tuple.tupleItemsOf (.ref t) >>= _) _ _ s;refine o0 (tupleItemsOf_ ht ?_);refine o0 (z8 c ?_);rw [if_pos (by decide)];refine o0 (z67 hs pl pu ?_);have e:¬ ((((sIx items.size 0 lo:Nat):Int) == 0 && (1:Int) == 1 && (sIx items.size items.size hi - sIx items.size 0 lo) == items.size)=true):=by intro q;rw [A5,A5] at q;have g:((sIx items.size 0 lo:Nat):Int)=0:=eq_of_beq q.1.1;have i:sIx items.size items.size hi - sIx items.size 0 lo=items.size:=eq_of_beq q.2;exact hw ⟨by omega,by omega⟩
 show T0 _ _ (if (((sIx items.size 0 lo:Nat):Int) == 0 && (1:Int) == 1 && (sIx items.size items.size hi - sIx items.size 0 lo) == items.size)=true then _ else _) _ _ s;rw [if_neg e,zjm];first
  | exact o0 (m:=g6 _) (G6 (F0 ⟨_,rfl,F0 h⟩) a)
  | exact o0 (m:=g6 _) (G6 (o0 (F0 (F0 ⟨_,rfl,F0 h⟩))) a)
  | exact o0 (o0 (m:=g6 _) (G6 (F0 (F0 ⟨_,rfl,F0 h⟩)) a))
  | exact o0 (o0 (m:=g6 _) (G6 (F0 ⟨_,rfl,F0 h⟩) a))
end
end HT
namespace L2
open PySem PySem.Spec PyProof.Rows
noncomputable abbrev TO:=St->Hp->(Option Int->Hp->Prop)->Prop
def PO (X:Cx) (e:Option Expr) (t:TO):Prop:=
 ∀(pins:List (Addr×Obj)) (s:C0) (σ:St) (H:Hp) (Q:Option Int->Hp->Prop),Inv X pins σ H s->t σ H Q->
  T0 (N1 X.prog X.w) X.A (evalPart e X.env) (λ u s'=>∃o H',Inv X pins σ H' s'/\j1g u o/\Q o H') X.xe s
noncomputable def zk3:TO:=λ _ H Q=>Q none H
noncomputable def tPart (t:TE):TO:=λ σ H Q=>t σ H λ x H1=>∃i,x=.int i/\Q (some i) H1
theorem zex {ns:List Int} :∀{us:List Value},Vals (ns.map V.int) us->J5 us ns:=by
 induction ns with
 | nil=>intro us r;rw [w5] at r;cases r;exact .nil
 | cons n ns ih=>
  intro us r;rw [L1] at r;cases r with
  | cons r1 r2=>obtain ⟨t,e⟩:=r1;subst e;exact .cons n t (ih r2)
section
variable {X:Cx} {e:Expr} {te:TE} {lo hi:Option Expr} {tl th:TO} {pos p2:Pos}
theorem zl1:PO X none zk3:=by intro a s σ H Q I h;rw [evalPart_none];exact F0 ⟨none,H,I,.none,h⟩
theorem zei (h:PE X e te):PO X (some e) (tPart te):=by intro b s σ H Q I a;rw [evalPart_some];refine thn (h b s σ H _ I a) λ u c ⟨x,H1,I1,r1,q1⟩=>?_;obtain ⟨i,rfl,q⟩:=q1;obtain ⟨t,rfl⟩:=r1;exact ⟨some i,H1,I1,.int i t,q⟩
def SlR (X:Cx) (r:V->Option Int->Option Int->Hp->VK->Prop):Prop:=
 ∀(pins:List (Addr×Obj)) (s:C0) (σ:St) (H:Hp) (x:V) (v vl vu:Value) (lo hi:Option Int) (sl:Addr) (Q:VK),Inv X pins σ H s->RelV x v->s.heap.IsSliceOf sl vl vu .none->j1g vl lo->j1g vu hi->r x lo hi H Q->
  ∃T id,j43 (.type T) "__getitem__" = O4 (some (.builtin id))/\s.TypeIs v T/\T0 (N1 X.prog X.w) X.A (j0d v (.ref sl)) (EP X pins σ Q) X.xe s
theorem SlR.or {r r':V->Option Int->Option Int->Hp->VK->Prop} (h:SlR X r) (h':SlR X r'):SlR X (λ x lo hi H Q=>r x lo hi H Q\/r' x lo hi H Q):=by
 intro g s σ H x v e d lo hi c Q I i a f b q;rcases q with q|q
 ·exact h g s σ H x v e d lo hi c Q I i a f b q
 ·exact h' g s σ H x v e d lo hi c Q I i a f b q
noncomputable def tSl (r:V->Option Int->Option Int->Hp->VK->Prop) (te:TE) (tl th:TO):TE:=λ σ H Q=>te σ H λ x H1=>tl σ H1 λ l H2=>th σ H2 λ u H3=>r x l u H3 Q
theorem zdr {r:V->Option Int->Option Int->Hp->VK->Prop} (hr:SlR X r) (he:PE X e te) (hl:PO X lo tl) (hu:PO X hi th):PE X (.Subscript e (.Slice lo hi none p2) pos) (tSl r te tl th):=by intro c s σ H Q I h;refine Subscript_ (thn (he c s σ H _ I h) λ v j ⟨x,H1,I1,r1,q1⟩=>?_);refine wpAny_Slice (thn (hl c j σ H1 _ I1 q1) λ d i ⟨l,H2,I2,pl,q2⟩=>thn (hu c i σ H2 _ I2 q2) λ f a ⟨u,H3,I3,pu,q3⟩=>?_);rw [evalPart_none];refine F0 ?_;have k:Inv X c σ H3 { a with heap:=a.heap.push { cls:=.type "slice",data:=.fields #[d,f,.none] } }:=I3.kept (t':=a.toks) λ b o q=>G0 _ q;obtain ⟨T,id,n,g,m⟩:=hr c { a with heap:=a.heap.push { cls:=.type "slice",data:=.fields #[d,f,.none] } } σ H3 x v d f l u a.heap.objs.size Q k r1 (Heap.IsSliceOf.new ..) pl pu q3;show T0 (N1 X.prog X.w) X.A (subscriptTail e (.Slice lo hi none p2) v (.ref a.heap.objs.size)) (EP X c σ Q) X.xe { a with heap:=a.heap.push { cls:=.type "slice",data:=.fields #[d,f,.none] } };exact tail_any (ops:=[.ref a.heap.objs.size,v]) g n m (by with_unfolding_all rfl)
noncomputable def cutV (xs:List V) (lo hi:Option Int):List V:=(xs.drop (HT.sIx xs.length 0 lo)).take (HT.sIx xs.length xs.length hi - HT.sIx xs.length 0 lo)
theorem z6z (xs:List V) (lo hi:Option Int):(cutV xs lo hi).length<=xs.length:=by unfold cutV;rw [K8,N8];omega
def rSlT (K:j0):V->Option Int->Option Int->Hp->VK->Prop:=λ x lo hi H Q=>∃a xs,x=.ref a/\SqT K H a xs/\
 ¬ (HT.sIx xs.length 0 lo=0/\HT.sIx xs.length xs.length hi=xs.length)/\∀p,H p=none->Q (.ref p) (upd H p (.tup (cutV xs lo hi)))
theorem sl_tup:SlR X (rSlT X.K):=by
 intro A s σ H x v u w d e z Q I n k m l h;obtain ⟨a,c,rfl,j,p,q⟩:=h;cases n;obtain ⟨t,r,g,i⟩:=I.tuple j;have f:t.toArray.size=c.length:=by rw [V0];exact r.length.symm
 refine ⟨"tuple",_,PyProof.Rows.slot_tuple_getitem.lookup,g.typeIs,?_⟩;refine HT.getItem_tuple_cut g k m l (by rw [f];exact p) ?_ (by rw [f];exact i);rw [f];refine ⟨.ref s.heap.objs.size,_,I.laid (t':=s.toks) (o:=.tup (cutV c d e)) (λ b y q=>G0 _ q) (J0 _) ?_,rfl,q _ (I.hok.fresh (J0 _))⟩;exact ⟨L0 (z6z c d e) i,_,(r.drop (HT.sIx c.length 0 d)).take (HT.sIx c.length c.length e - HT.sIx c.length 0 d),IsTupN.new _ _⟩
noncomputable def rCatT (K:j0):R2:=λ x y H Q=>∃a b xs ys,x=.ref a/\y=.ref b/\SqT K H a xs/\SqT K H b ys/\xs≠[]/\xs.length + ys.length<=sizeLine/\
 (ys=[]->Q (.ref a) H)/\(ys≠[]->∀p,H p=none->Q (.ref p) (upd H p (.tup (xs++ys))))
theorem Vals.nil_iff {xs:List V} {us:List Value} (r:Vals xs us):us=[]↔xs=[]:=by
 cases r with
 | nil=>simp
 | cons _ _=>simp
theorem zlm:OpR X (y6 .Add) (rCatT X.K):=by intro D s σ H x y v u Q I p k h;obtain ⟨a,b,t,f,rfl,rfl,g,n,m,e,r,j⟩:=h;cases p;cases k;obtain ⟨C,d,l,_⟩:=I.tuple g;obtain ⟨A,c,i,_⟩:=I.tuple n;refine HT.cat_tup l i (λ z=>m (d.nil_iff.mp z)) (λ z=>⟨.ref a,H,I,rfl,r (c.nil_iff.mp z)⟩) (λ z=>?_) (by rw [<-d.length,<-c.length];exact e);refine ⟨.ref s.heap.objs.size,_,I.laid (t':=s.toks) (o:=.tup (t++f)) (λ b B q=>G0 _ q) (J0 _) ?_,rfl,j (λ w=>z (c.nil_iff.mpr w)) _ (I.hok.fresh (J0 _))⟩;exact ⟨by rw [I0];exact e,_,d.append c,IsTupN.new _ _⟩
end
noncomputable def ixN (n:Nat) (i:Int):Option Nat:=if 0<=i then (if i < n then some i.toNat else none) else if -(n:Int)<=i then some (i + n).toNat else none
noncomputable def atI {α:Type} (xs:List α) (i:Int):Option α:=(ixN xs.length i).bind λ j=>xs[j]?
theorem zhm {n:Nat} {i:Int} {j:Nat} (h:ixN n i=some j):seqIndex? i n=some j/\j < n/\-(n:Int)<=i/\i < n:=by
 unfold ixN at h;by_cases h0:0<=i
 ·rw [if_pos h0] at h;by_cases h1:i < n
  ·rw [if_pos h1] at h;have e:i.toNat=j:=O2 h;exact ⟨by rw [seqIndex_of h0 h1,e],by omega,by omega,h1⟩
  ·rw [if_neg h1] at h;cases h
 ·rw [if_neg h0] at h;by_cases h1:-(n:Int)<=i
  ·rw [if_pos h1] at h;have e:(i + n).toNat=j:=O2 h;exact ⟨by rw [seqIndex_neg (by omega) h1,e],by omega,h1,by omega⟩
  ·rw [if_neg h1] at h;cases h
theorem zfp {α:Type} {xs:List α} {i:Int} {v:α} (h:atI xs i=some v) :∃j,seqIndex? i xs.length=some j/\xs[j]? = some v/\j < xs.length/\-(xs.length:Int)<=i/\i < xs.length:=by
 unfold atI at h;cases e:ixN xs.length i with
 | none=>rw [e] at h;cases h
 | some j=>rw [e] at h;obtain ⟨c,a,d,b⟩:=zhm e;exact ⟨j,c,h,a,d,b⟩
theorem z06 {α:Type} {xs:List α} {j:Nat} {v:α} (h:xs[j]? = some v):atI xs (j:Int)=some v:=by
 have a:j < xs.length:=(List.getElem?_eq_some_iff.mp h).1;have e:ixN xs.length (j:Int)=some j:=by unfold ixN;rw [if_pos (by omega),if_pos (by omega)];simp
 unfold atI;rw [e];exact h
theorem ziw {α:Type} (xs:List α) (v:α):atI (xs++[v]) (-1)=some v:=by
 have a:(xs++[v]).length=xs.length + 1:=by simp
 have e:ixN (xs++[v]).length (-1)=some xs.length:=by unfold ixN;rw [a,if_neg (by decide),if_pos (by omega)];congr 1;omega
 unfold atI;rw [e];show (xs++[v])[xs.length]? = some v;simp
def zi7 (b:Expr):Prop:=∀o i,j31 b false o i=operate [o,i] (j0d o i)
def IxR (X:Cx) (r:R2):Prop:=
 ∀(value slice:Expr) (pins:List (Addr×Obj)) (s:C0) (σ:St) (H:Hp) (x y:V) (v u:Value) (Q:VK),Inv X pins σ H s->RelV x v->RelV y u->r x y H Q->
  j31 slice false v u=operate [v,u] (j0d v u)->T0 (N1 X.prog X.w) X.A (subscriptTail value slice v u) (EP X pins σ Q) X.xe s
def MtR (X:Cx) (id:String) (r:V->List V->Hp->VK->Prop):Prop:=
 ∀(pins:List (Addr×Obj)) (s:C0) (σ:St) (H:Hp) (x:V) (xs:List V) (v:Value) (us:List Value) (Q:VK),Inv X pins σ H s->RelV x v->Vals xs us->r x xs H Q->
  T0 (N1 X.prog X.w) X.A (call (.builtin id) (v :: us)) (EP X pins σ Q) X.xe s
section
variable {X:Cx} {a b:Expr} {ta tb:TE} {pos:Pos}
theorem IxR.or {r r':R2} (h:IxR X r) (h':IxR X r'):IxR X (λ x y H Q=>r x y H Q\/r' x y H Q):=by
 intro d f c s σ H x y v u Q I e b q a;rcases q with q|q
 ·exact h d f c s σ H x y v u Q I e b q a
 ·exact h' d f c s σ H x y v u Q I e b q a
theorem pe_ix {r:R2} (hr:IxR X r) (ha:PE X a ta) (hb:PE X b tb) (hs:zi7 b):PE X (.Subscript a b pos) (tOp r ta tb):=by intro f s σ H Q I h;exact Subscript_ (binT ha hb I h λ v u c x y g e i d q=>hr a b f c σ g x y v u Q e i d q (hs _ _))
noncomputable def rIxL (K:j0):R2:=λ x y H Q=>∃p xs i v,x=.ref p/\y=.int i/\SqL K H p xs/\atI xs i=some v/\Q v H
noncomputable def rIxT (K:j0):R2:=λ x y H Q=>∃p xs i v,x=.ref p/\y=.int i/\SqT K H p xs/\atI xs i=some v/\Q v H
noncomputable def rIxS:R2:=λ x y H Q=>∃z i c,x=.str z/\y=.int i/\z.length<=sizeLine/\atI z.cps.toList i=some c/\Q (.str ⟨#[c]⟩) H
theorem ix_list:IxR X (rIxL X.K):=by
 intro G O g s σ H x y v u Q I n k h f;obtain ⟨p,N,i,z,rfl,rfl,l,m,q⟩:=h;cases n;obtain ⟨t,rfl⟩:=k;obtain ⟨A,r,c,L⟩:=I.list l;obtain ⟨j,a,B,M,F,D⟩:=zfp m;obtain ⟨w,e,o⟩:=r.get B;have C:=r.length;have J:=line63;have d:EP X g σ Q w s:=⟨z,H,I,o,q⟩
 by_cases h0:0<=i
 ·have b:i.toNat=j:=by rw [seqIndex_of h0 D] at a;exact O2 a
  exact item_listR c.isList h0 (by omega) (by rw [b];simpa using e) d f
 ·have b:(i + (A.toArray.size:Int)).toNat=j:=by rw [seqIndex_neg (by omega) F] at a;rw [V0,<-C];exact O2 a
  exact subscriptTail_builtinR (x:=w) c.isList.typeIs slot_list_getitem.lookup
   (wpAny_getItem_list_neg (Q:=λ r E=>r=w/\EP X g σ Q r E) c.isList (by omega) (by rw [V0]<;>omega) (by omega) (by rw [b];simpa using e) ⟨rfl,d⟩) f
theorem ix_tup:IxR X (rIxT X.K):=by
 intro C N b s σ H x y v u Q I l d h f;obtain ⟨p,G,i,z,rfl,rfl,g,k,q⟩:=h;cases l;obtain ⟨t,rfl⟩:=d;obtain ⟨J,r,a,E⟩:=I.tuple g;obtain ⟨j,m,o,F,M,L⟩:=zfp k;obtain ⟨w,e,n⟩:=r.get o;have A:=r.length;have D:=line63;have c:EP X b σ Q w s:=⟨z,H,I,n,q⟩
 exact subscriptTail_builtinR (x:=w) a.typeIs slot_tuple_getitem.lookup
  (getItem_tuple (j:=j) (Q:=λ r B=>r=w/\EP X b σ Q r B) a (by omega) (by omega) (by rw [V0,<-A];exact m) (by simpa using e) ⟨rfl,c⟩) f
theorem ix_str:IxR X rIxS:=by
 intro p C B s σ H x y v u Q I g d h e;obtain ⟨z,i,c,rfl,rfl,w,f,q⟩:=h;obtain ⟨t,rfl⟩:=g;obtain ⟨D,rfl⟩:=d;obtain ⟨j,a,l,A,o,m⟩:=zfp f;have n:z.cps.toList.length=z.length:=by simp [Str.length]
 rw [n] at a o m;have r:=line63;exact tail_any (typeIs_str s z t) slot_str_getitem.lookup (getItem_str (c:=c) (by have k:decide (i < -(2 ^ 63:Int))=false:=decide_eq_false (by omega);have b:decide (i ≥ 2 ^ 63)=false:=decide_eq_false (by omega);rw [k,b,j02]) (by rw [a];simpa using l) ⟨.str ⟨#[c]⟩,H,I.tok _,⟨_,rfl⟩,q⟩) e
noncomputable def rIx (K:j0):R2:=λ x y H Q=>rIxL K x y H Q\/rIxT K x y H Q\/rIxS x y H Q
theorem ix_seq:IxR X (rIx X.K):=ix_list.or (ix_tup.or ix_str)
theorem ze9 (its:List Value) (n j:Nat) (u:Value):P4 (·.setIfInBounds j u) { cls:=.type "list",data:=.seq its.toArray n }={ cls:=.type "list",data:=.seq (its.set j u).toArray n }:=by simp [P4]
theorem Inv.lst {pins:List (Addr×Obj)} {σ:St} {H:Hp} {s:C0} {p:Addr} {xs:List V} (I:Inv X pins σ H s) (h:H p=some (.lst xs)) :
  ∃(its:List Value) (n:Nat),Vals xs its/\s.heap.get? p=some { cls:=.type "list",data:=.seq its.toArray n }/\xs.length<=sizeLine:=by
 obtain ⟨z,its,n,r,e⟩:=I.hok p _ h;exact ⟨its,n,r,e,z⟩
theorem Inv.lstUpd {pins:List (Addr×Obj)} {σ:St} {H:Hp} {s:C0} {p:Addr} {xs ys:List V} {its its':List Value} {n n':Nat} {f:Obj->Obj} (I:Inv X pins σ H s) (h:H p=some (.lst xs))
  (ho:s.heap.get? p=some { cls:=.type "list",data:=.seq its.toArray n }) (hf:f { cls:=.type "list",data:=.seq its.toArray n }={ cls:=.type "list",data:=.seq its'.toArray n' }) (r:Vals ys its') (hz:ys.length<=sizeLine) (t:Nat) :
  Inv X pins σ (upd H p (.lst ys)) { s with heap:=s.heap.update p f,toks:=t }:=by
 have e:(s.heap.update p f).get? p=some { cls:=.type "list",data:=.seq its'.toArray n' }:=by rw [v7 f ho (by rw [hf]<;>rfl),hf]
 refine I.write (x:=p) (e:=p) (by rw [h];trivial) (.inl rfl) (λ b u a q=>(z5 _ _ (A2 a)).trans q) ⟨_,e⟩ ?_;exact ⟨hz,its',n',r,e⟩
def rSetL:V->V->V->Hp->(Hp->Prop)->Prop:=λ o i v H Q=>∃p xs k j,o=.ref p/\i=.int k/\H p=some (.lst xs)/\ixN xs.length k=some j/\Q (upd H p (.lst (xs.set j v)))
theorem z3i:PSet X rSetL:=by
 intro C s σ H o i v D E u Q I w z B h;obtain ⟨p,A,k,j,rfl,rfl,f,x,q⟩:=h;cases w;obtain ⟨t,rfl⟩:=z;obtain ⟨l,n,r,b,y⟩:=I.lst f;obtain ⟨a,G,g,m⟩:=zhm x;have c:=r.length;have F:=line63;have e:Inv X C σ (upd H p (.lst (A.set j v))) { s with heap:=s.heap.update p (P4 (·.setIfInBounds j u)) }:=
  I.lstUpd f b (ze9 l n j u) (r.set B j) (by rw [U0];exact y) s.toks
 by_cases h0:0<=k
 ·have d:k.toNat=j:=by rw [seqIndex_of h0 m] at a;exact O2 a
  exact PySem.W.ki_setAt b h0 (by omega) (by rw [V0,<-c];exact m) (by rw [d];exact ⟨_,e,q⟩)
 ·have d:(k + (l.toArray.size:Int)).toNat=j:=by rw [seqIndex_neg (by omega) g] at a;rw [V0,<-c];exact O2 a
  exact PySem.W.ki_setBack b (by omega) (by rw [V0,<-c];exact g) (by omega) (by rw [d];exact ⟨_,e,q⟩)
theorem z9l (lo hi:Option Int) (n:Nat):(V7 lo hi none n).1=((HT.sIx n 0 lo:Nat):Int)/\(V7 lo hi none n).2.1=((HT.sIx n n hi:Nat):Int)/\(V7 lo hi none n).2.2=1:=by
 refine ⟨?_,?_,rfl⟩
 ·cases lo with
  | none=>simp [V7,HT.sIx]
  | some i=>
   simp only [V7,HT.sIx,Option.getD_none,show (1:Int) > 0 by decide,if_true];by_cases h:i < 0
   ·simp only [h,if_true]<;>omega
   ·simp only [h,if_false]<;>omega
 ·cases hi with
  | none=>simp [V7,HT.sIx]
  | some i=>
   simp only [V7,HT.sIx,Option.getD_none,show (1:Int) > 0 by decide,if_true];by_cases h:i < 0
   ·simp only [h,if_true]<;>omega
   ·simp only [h,if_false]<;>omega
theorem z95 (its:List Value) (lo hi:Option Int):slicePick its.toArray lo hi none=((its.drop (HT.sIx its.length 0 lo)).take (HT.sIx its.length its.length hi - HT.sIx its.length 0 lo)).toArray:=by obtain ⟨b,a,c⟩:=z9l lo hi its.toArray.size;unfold slicePick;rw [b,a,c];simp only [sliceRange_one,pick_run,V0]<;>rfl
def rSlL (K:j0):V->Option Int->Option Int->Hp->VK->Prop:=λ x lo hi H Q=>∃a xs,x=.ref a/\SqL K H a xs/\∀p,H p=none->Q (.ref p) (upd H p (.lst (cutV xs lo hi)))
theorem sl_list:SlR X (rSlL X.K):=by intro z s σ H x v p t d e w Q I m i l j h;obtain ⟨a,c,rfl,g,q⟩:=h;cases m;obtain ⟨y,r,f,k⟩:=I.list g;have n:=r.length;refine ⟨"list",_,slot_list_getitem.lookup,f.isList.typeIs,?_⟩;refine wpAny_getItem_list_slice f.isList i l j .none (by simp) ?_ (by rw [V0]<;>omega);rw [z95,<-n];refine ⟨.ref s.heap.objs.size,_,I.laid (t':=s.toks) (o:=.lst (cutV c d e)) (λ b u q=>G0 _ q) (J0 _) ?_,rfl,q _ (I.hok.fresh (J0 _))⟩;exact ⟨L0 (z6z c d e) k,_,0,(r.drop (HT.sIx c.length 0 d)).take (HT.sIx c.length c.length e - HT.sIx c.length 0 d),C1 _ rfl⟩
noncomputable def flatV:V->Bool
 | .non=>true
 | .bl _=>true
 | .int _=>true
 | .str _=>true
 | _=>false
noncomputable def eqV:V->V->Bool
 | .non,.non=>true
 | .bl a,.bl b=>a == b
 | .bl a,.int b=>(if a then 1 else 0) == b
 | .int a,.bl b=>a == (if b then 1 else 0)
 | .int a,.int b=>a == b
 | .str a,.str b=>a == b
 | _,_=>false
theorem eqAt_V {A:P2} {s:C0} {y x:V} {u v:Value} (ry:RelV y u) (rx:RelV x v) (fy:flatV y=true) (fx:flatV x=true):j23 A s u v (eqV y x):=by
 cases y with
 | non=>
  cases ry;cases x with
  | non=>cases rx;exact D6 _
  | bl b=>cases rx;exact SeqAt.EqAt.none_bool b
  | int b=>obtain ⟨t,rfl⟩:=rx;exact SeqAt.EqAt.none_int b t
  | str b=>obtain ⟨t,rfl⟩:=rx;exact SeqAt.EqAt.none_str b t
  | _=>exact absurd (show false=true from fx) D1
 | bl a=>
  cases ry;cases x with
  | non=>cases rx;exact SeqAt.EqAt.bool_none a
  | bl b=>cases rx;exact SeqAt.EqAt.bool_bool a b
  | int b=>obtain ⟨t,rfl⟩:=rx;exact SeqAt.EqAt.bool_int a b t
  | str b=>obtain ⟨t,rfl⟩:=rx;exact SeqAt.EqAt.bool_str a b t
  | _=>exact absurd (show false=true from fx) D1
 | int a=>
  obtain ⟨c,rfl⟩:=ry;cases x with
  | non=>cases rx;exact SeqAt.EqAt.int_none a c
  | bl b=>cases rx;exact SeqAt.EqAt.int_bool a c b
  | int b=>obtain ⟨t,rfl⟩:=rx;exact m9 a c b t
  | str b=>obtain ⟨t,rfl⟩:=rx;exact j34 a c b t
  | _=>exact absurd (show false=true from fx) D1
 | str a=>
  obtain ⟨c,rfl⟩:=ry;cases x with
  | non=>cases rx;exact SeqAt.EqAt.str_none a c
  | bl b=>cases rx;exact SeqAt.EqAt.str_bool a c b
  | int b=>obtain ⟨t,rfl⟩:=rx;exact j33 a c b t
  | str b=>obtain ⟨t,rfl⟩:=rx;exact j32 a c b t
  | _=>exact absurd (show false=true from fx) D1
 | _=>exact absurd (show false=true from fy) D1
noncomputable def eqU (x:V) (u:Value):Bool:=match u with
 | .none=>eqV .non x
 | .bool b=>eqV (.bl b) x
 | .int i _=>eqV (.int i) x
 | .str z _=>eqV (.str z) x
 | _=>false
theorem eqU_of {x y:V} {u:Value} (r:RelV y u) (f:flatV y=true):eqU x u=eqV y x:=by
 cases y with
 | non=>cases r;rfl
 | bl b=>cases r;rfl
 | int i=>obtain ⟨t,rfl⟩:=r;rfl
 | str z=>obtain ⟨t,rfl⟩:=r;rfl
 | _=>exact absurd (show false=true from f) D1
theorem z8k {x:V} :∀{xs:List V} {us:List Value},Vals xs us->xs.all flatV=true->us.any (eqU x)=xs.any λ y=>eqV y x
 | _,_,.nil,_=>rfl
 | y :: xs,u :: us,.cons r t,f=>by rw [Y5,A5] at f;rw [E8,E8,eqU_of r f.1,z8k t f.2]
theorem z5o {A:P2} {s:C0} {x:V} {v:Value} (rx:RelV x v) (fx:flatV x=true) :∀{xs:List V} {us:List Value},Vals xs us->xs.all flatV=true->∀u∈us,j23 A s u v (eqU x u)
 | _,_,.nil,_=>λ u a=>by cases a
 | y :: xs,u :: us,.cons r t,f=>λ b a=>by
  rw [Y5,A5] at f;rcases List.mem_cons.mp a with rfl|a
  ·rw [eqU_of r f.1];exact eqAt_V r rx f.1 fx
  ·exact z5o rx fx t f.2 b a
noncomputable def inV (x:V) (xs:List V):Bool:=xs.any λ y=>eqV y x
noncomputable def rIn (K:j0) (neg:Bool):R2:=λ x y H Q=>∃p xs,y=.ref p/\(SqL K H p xs\/SqT K H p xs)/\flatV x=true/\xs.all flatV=true/\Q (.bl (if neg then !inV x xs else inV x xs)) H
theorem zb6:OpR X (E3 .In) (rIn X.K false):=by
 intro k s σ H x y v u Q I f g h;obtain ⟨p,j,rfl,a,e,fs,q⟩:=h;cases g;rcases a with a|a
 ·obtain ⟨b,r,c,i⟩:=I.list a;refine SeqAt.in_listAt (eqU x) c.isList (λ w d=>z5o f e r fs w (by simpa using d)) ⟨.bl _,H,I,rfl,?_⟩;rw [show b.toArray.any (eqU x)=b.any (eqU x) by simp,z8k r fs];exact q
 ·obtain ⟨b,r,c,i⟩:=I.tuple a;refine SeqAt.in_tupleAt (eqU x) c (λ w d=>z5o f e r fs w (by simpa using d)) ⟨.bl _,H,I,rfl,?_⟩;rw [show b.toArray.any (eqU x)=b.any (eqU x) by simp,z8k r fs];exact q
theorem zal:OpR X (E3 .NotIn) (rIn X.K true):=by
 intro k s σ H x y v u Q I f g h;obtain ⟨p,j,rfl,a,e,fs,q⟩:=h;cases g;rcases a with a|a
 ·obtain ⟨b,r,c,i⟩:=I.list a;refine SeqAt.notIn_listAt (eqU x) c.isList (λ w d=>z5o f e r fs w (by simpa using d)) ⟨.bl _,H,I,rfl,?_⟩;rw [show b.toArray.any (eqU x)=b.any (eqU x) by simp,z8k r fs];exact q
 ·obtain ⟨b,r,c,i⟩:=I.tuple a;refine SeqAt.notIn_tupleAt (eqU x) c (λ w d=>z5o f e r fs w (by simpa using d)) ⟨.bl _,H,I,rfl,?_⟩;rw [show b.toArray.any (eqU x)=b.any (eqU x) by simp,z8k r fs];exact q
theorem call_len_seq:CallR X (.builtin "len") (λ xs H Q=>∃p ys,xs=[.ref p]/\(SqL X.K H p ys\/SqT X.K H p ys)/\Q (.int ys.length) H):=by
 intro j s σ H xs k Q I r h;obtain ⟨p,ys,rfl,a,q⟩:=h;obtain ⟨u,rfl,g⟩:=vals1 r;cases g;have i:=line63;rcases a with a|a
 ·obtain ⟨f,b,d,e⟩:=I.list a;have c:=b.length;exact Calls.call_len_list d.isList (by simp only [V0]<;>omega) ⟨.int ys.length,H,I.tok _,⟨s.toks + 1,by rw [V0,c]⟩,q⟩
 ·obtain ⟨f,b,d,e⟩:=I.tuple a;have c:=b.length;exact len_tuple d (by simp only [V0]<;>omega) ⟨.int ys.length,H,I.tok _,⟨s.toks + 1,by rw [V0,c]⟩,q⟩
theorem z9v:CallR X (.builtin "len") (λ xs H Q=>∃z,xs=[.str z]/\z.length<=sizeLine/\Q (.int z.length) H):=by intro c s σ H xs d Q I r h;obtain ⟨z,rfl,b,q⟩:=h;obtain ⟨u,rfl,t,rfl⟩:=vals1 r;have a:=line63;exact len_str (by omega) ⟨.int z.length,H,I.tok _,⟨_,rfl⟩,q⟩
theorem CallR.or {f:Value} {r r':List V->Hp->VK->Prop} (h:CallR X f r) (h':CallR X f r'):CallR X f (λ xs H Q=>r xs H Q\/r' xs H Q):=by
 intro b s σ H xs c Q I a q;rcases q with q|q
 ·exact h b s σ H xs c Q I a q
 ·exact h' b s σ H xs c Q I a q
theorem zb2:CallR X (.type "list") (λ xs H Q=>∃p ys,xs=[.ref p]/\(SqL X.K H p ys\/SqT X.K H p ys)/\∀l,H l=none->Q (.ref l) (upd H l (.lst ys))):=by
 intro A s σ H xs B Q I r h;obtain ⟨p,ys,rfl,i,q⟩:=h;obtain ⟨u,rfl,y⟩:=vals1 r;cases y;have x :∀(c:List Value),Vals ys c->ys.length<=sizeLine->∀(a:Heap) (f:Nat),(∀b o',s.heap.get? b=some o'->a.get? b=some o')->
   a.get? s.heap.objs.size=some { cls:=.type "list",dict:=none,data:=.seq c.toArray f,slots:=#[] }->EP X A σ Q (.ref s.heap.objs.size) { s with heap:=a }:=λ c d g a f j e=>
  ⟨.ref s.heap.objs.size,_,I.laid (t':=s.toks) j (J0 _) (show ObjOk X.prog X.w _ a _ (.lst ys) from ⟨g,c,f,d,e⟩),rfl,q _ (I.hok.fresh (J0 _))⟩
 rcases i with i|i
 ·obtain ⟨c,d,t,g⟩:=I.list i;have z:=d.length;obtain ⟨o,m,v,n,k⟩:=t.isList;exact call_list_seq p (.inl rfl) m v k (λ a f j e=>x c d g a f j e) (by simp only [V0]<;>omega)
 ·obtain ⟨c,d,t,g⟩:=I.tuple i;have z:=d.length;obtain ⟨o,m,v,n,k⟩:=t;exact call_list_seq p (.inr rfl) m v k (λ a f j e=>x c d g a f j e) (by simp only [V0]<;>omega)
theorem z54:CallR X (.type "tuple") (λ xs H Q=>∃p ys,xs=[.ref p]/\((SqL X.K H p ys/\∀l,H l=none->Q (.ref l) (upd H l (.tup ys)))\/(SqT X.K H p ys/\Q (.ref p) H))):=by
 intro k s σ H xs x Q I r h;obtain ⟨p,ys,rfl,h⟩:=h;obtain ⟨u,rfl,n⟩:=vals1 r;cases n;rcases h with ⟨f,q⟩|⟨f,q⟩
 ·obtain ⟨g,c,d,j⟩:=I.list f;have v:=c.length;refine call_tuple_list d.isList (λ a t=>?_) (by simp only [V0]<;>omega);have i:Inv X k σ H { s with heap:=a }:=I.kept (t':=s.toks) t;have m:Inv X k σ (upd H a.objs.size (.tup ys)) { s with heap:=a.push { cls:=.type "tuple",data:=.seq g.toArray } }:=
   i.laid (t':=s.toks) (λ b o e=>G0 _ e) (J0 _) (show ObjOk X.prog X.w _ _ _ (.tup ys) from ⟨j,g,c,IsTupN.new _ _⟩)
  exact ⟨.ref a.objs.size,_,m,rfl,q _ (i.hok.fresh (J0 _))⟩
 ·obtain ⟨g,c,d,j⟩:=I.tuple f;exact call_tuple_same d ⟨.ref p,H,I,rfl,q⟩
def tyV (K:j0) (T:String) (x:V) (H:Hp):Prop:=match x with
 | .str _=>T = "str"
 | .int _=>T = "int"
 | .ref p=>(T = "list"/\∃xs,SqL K H p xs)\/(T = "tuple"/\∃o,K.lookup p=some o/\o.cls=.type "tuple"/\o.dict=none)\/
   (T = "dict"/\((∃kvs,H p=some (.dK kvs))\/∃kvs,H p=some (.dT kvs)))\/(T = "set"/\∃S n,H p=some (.set S n))
 | _=>False
theorem tyV_is {pins:List (Addr×Obj)} {σ:St} {H:Hp} {s:C0} {T:String} {x:V} {v:Value} (I:Inv X pins σ H s) (r:RelV x v) (ty:tyV X.K T x H) :
  s.TypeIs v T/\∀a,v=.ref a->∃ob,s.heap.get? a=some ob/\ob.dict=none:=by
 cases x with
 | str z=>obtain ⟨t,rfl⟩:=r;cases (show T = "str" from ty);exact ⟨typeIs_str s z t,λ _ e=>nomatch e⟩
 | int i=>obtain ⟨t,rfl⟩:=r;cases (show T = "int" from ty);exact ⟨typeIs_int s i t,λ _ e=>nomatch e⟩
 | ref p=>
  cases r;rcases ty with ⟨rfl,l,k⟩|⟨rfl,o,b,hc,f⟩|⟨rfl,b⟩|⟨rfl,S,n,b⟩
  ·obtain ⟨m,_,h,_⟩:=I.list k;refine ⟨h.isList.typeIs,λ a e=>?_⟩;cases e;obtain ⟨o,n,e,c,f,_⟩:=h;exact ⟨o,e,f⟩
  ·refine ⟨⟨o,I.kIn p o b,hc⟩,λ a e=>?_⟩;cases e;exact ⟨o,I.kIn _ o b,f⟩
  ·have z :∃o,s.heap.get? p=some o/\o.ExactDict:=by
    rcases b with ⟨j,b⟩|⟨j,b⟩
    ·obtain ⟨_,_,_,_,o,_,_,e,d,_⟩:=I.hok p _ b;exact ⟨o,e,d⟩
    ·obtain ⟨_,_,_,_,o,_,_,e,d,_⟩:=I.hok p _ b;exact ⟨o,e,d⟩
   obtain ⟨o,e,d⟩:=z;refine ⟨⟨o,e,d.1⟩,λ a g=>?_⟩;cases g;exact ⟨o,e,d.2.1⟩
  ·obtain ⟨o,_,_,_,e,d,_⟩:=I.hok p _ b;refine ⟨⟨o,e,d.1⟩,λ a g=>?_⟩;cases g;exact ⟨o,e,d.2.1⟩
 | _=>exact X4 ty
noncomputable def tBM (K:j0) (T:String) (r:V->List V->Hp->VK->Prop) (to:TE) (t:TA):TE:=λ σ H Q=>to σ H λ x H1=>tyV K T x H1/\t σ H1 λ xs H2=>r x xs H2 Q
variable {o e:Expr} {es:List Expr} {to:TE} {t:TA} {name:Str} {apos cpos:Pos} {T id:String} {r:V->List V->Hp->VK->Prop}
theorem pe_bm (pa:PlainAttrs T) (slot:Slot T name id) (hty:typeOf (.builtin id)=O4 (.type "method_descriptor")) (hm:MtR X id r) (ho:PE X o to) (ha:PA X (e :: es) t)
  (hbase:E5 o name X.env (Z3 o X.env)=Z3 o X.env:=by rfl)
  (hfew:((V4 cpos (E1 (e :: es) X.env)).all (λ x=>!x.1) && (v9 cpos (f7 [] X.env)).all (λ x=>x.1.isSome)
   && decide ((e :: es).length + ([]:List R6).length + (if ([]:List R6).isEmpty then 0 else 1) < 30))=true:=by rfl)
  (hline:(apos.endLine == cpos.line)=true:=by rfl) (hs:E1 (e :: es) X.env=(false,Z3 e X.env) :: E1 es X.env:=by rfl) (hplain:(V4 cpos (E1 es X.env)).any (·.1)=false:=by rfl) :
  PE X (.Call (.Attribute o name apos) (e :: es) [] cpos) (tBM X.K T r to t):=by
 intro a s σ H Q I h;refine wpAny_Call_method_late hbase hfew hline rfl (thn (ho a s σ H _ I h) λ v d ⟨x,H1,I1,r1,ty,q1⟩=>?_);obtain ⟨c,f⟩:=tyV_is I1 r1 ty;refine ⟨T,id,pa,slot,hty,c,f,?_⟩;have b:=ha cpos a d σ H1 _ I1 q1;rw [hs] at b⊢;refine j3c (by show (false || (V4 cpos (E1 es X.env)).any (·.1))=false;rw [hplain]<;>rfl) (y9 ?_);exact thn b λ g i ⟨vs,H2,I2,r2,q2⟩=>hm a i σ H2 x vs v g Q I2 r1 r2 q2
end
def MtM (X:Cx) (id:String) (r:V->List V->Hp->VK->Prop):Prop:=
 ∀(pins:List (Addr×Obj)) (s:C0) (σ:St) (H:Hp) (x:V) (xs:List V) (v:Value) (us:List Value) (Q:VK),Inv X pins σ H s->RelV x v->Vals xs us->r x xs H Q->
  T0 (N1 X.prog X.w) X.A (call (.builtin id) (v :: us)) (EP X pins σ Q) X.xe s
theorem Vals.one :∀{x:V} {us:List Value},Vals [x] us->∃u,us=[u]/\RelV x u
 | _,_,.cons r .nil=>⟨_,rfl,r⟩
theorem Vals.eraseIdx :∀{xs:List V} {us:List Value} (i:Nat),Vals xs us->Vals (xs.eraseIdx i) (us.eraseIdx i)
 | _,_,_,.nil=>.nil
 | _,_,0,.cons _ t=>t
 | _,_,i + 1,.cons r t=>.cons r (Vals.eraseIdx i t)
theorem zbz {α:Type} :∀(l:List α) (i:Nat),(l.eraseIdx i).length<=l.length
 | [],_=>J0 _
 | _ :: _,0=>K3 _
 | _ :: r,i + 1=>Nat.succ_le_succ (zbz r i)
section
variable {X:Cx} {pins:List (Addr×Obj)} {σ:St} {H:Hp} {s:C0} {l b:Addr} {xs ys zs:List V}
theorem Inv.lset {its its':List Value} {n:Nat} {f:Array Value->Array Value} {t':Nat} (I:Inv X pins σ H s) (hH:H l=some (.lst xs))
  (e:s.heap.get? l=some { cls:=.type "list",data:=.seq its.toArray n }) (hf:f its.toArray=its'.toArray) (hv:Vals ys its') (hz:ys.length<=sizeLine) :
  Inv X pins σ (upd H l (.lst ys)) { s with heap:=s.heap.update l (P4 f),toks:=t' }:=by
 have q:=PySem.IsL.update e f;rw [hf] at q;refine I.write (x:=l) (e:=l) (by rw [hH];exact trivial) (.inl rfl) (λ c u b a=>(z5 s.heap (P4 f) (A2 b)).trans a) ⟨_,q⟩ ?_;exact ⟨hz,its',_,hv,q⟩
theorem Inv.lnew {its:List Value} {t':Nat} (I:Inv X pins σ H s) (hv:Vals ys its) (hz:ys.length<=sizeLine) :
  Inv X pins σ (upd H s.heap.objs.size (.lst ys)) { s with heap:=s.heap.push { cls:=.type "list",data:=.seq its.toArray },toks:=t' }:=
 I.laid (λ _ _ q=>G0 _ q) (J0 _) ⟨hz,its,0,hv,C1 _ rfl⟩
theorem Inv.fresh (I:Inv X pins σ H s):H s.heap.objs.size=none:=I.hok.fresh (J0 _)
theorem Inv.lstM (I:Inv X pins σ H s) (hH:H l=some (.lst xs)):xs.length<=sizeLine/\∃(its:List Value) (n:Nat),Vals xs its/\xs.length=its.length/\s.heap.get? l=some { cls:=.type "list",data:=.seq its.toArray n }:=by obtain ⟨z,its,n,r,e⟩:=I.hok l _ hH;exact ⟨z,its,n,r,r.length,e⟩
theorem zjs {n:Nat} (h:n<=sizeLine):N7 n=false:=by unfold N7;exact decide_eq_false (by omega)
end
section
variable {X:Cx}
def zhn:V->List V->Hp->VK->Prop:=λ x vs H Q=>∃l xs y,x=.ref l/\vs=[y]/\H l=some (.lst xs)/\xs.length < sizeLine/\Q .non (upd H l (.lst (xs++[y])))
theorem zg7:MtM X "list.append" zhn:=by intro m s σ H x i v o Q I d f h;obtain ⟨l,j,y,rfl,rfl,a,g,q⟩:=h;cases d;obtain ⟨u,rfl,c⟩:=f.one;obtain ⟨z,b,n,r,k,e⟩:=I.lstM a;refine L9 F.slot_list_append ⟨_,e,rfl⟩ F.entry_list_append (F.args_list_append_2 _ _) (PySem.list_append l b.toArray n u (by rw [V0];omega)) ⟨e,?_⟩;refine ⟨.non,_,I.lset (its':=b++[u]) a e (by simp) (r.append (.cons c .nil)) ?_,rfl,q⟩;rw [I0,A4];omega
def zi8:V->List V->Hp->VK->Prop:=λ x vs H Q=>∃l b xs zs,x=.ref l/\vs=[.ref b]/\H l=some (.lst xs)/\H b=some (.lst zs)/\xs.length + zs.length<=sizeLine/\Q .non (upd H l (.lst (xs++zs)))
theorem zg0:MtM X "list.extend" zi8:=by
 intro G s σ H x B v J Q I o t h;obtain ⟨l,b,D,w,rfl,rfl,d,k,A,q⟩:=h;cases o;obtain ⟨u,rfl,f⟩:=t.one;cases f;obtain ⟨z,a,n,r,E,e⟩:=I.lstM d;obtain ⟨y,c,m,j,C,g⟩:=I.lstM k;have i:a.toArray.size + c.toArray.size<=sizeLine:=by rw [V0,V0];omega
 have p:¬ (not a.toArray.isEmpty && N7 (a.toArray.size + c.toArray.size))=true:=by rw [zjs i,j29];exact D1
 refine L9 F.slot_list_extend ⟨_,e,rfl⟩ F.entry_list_extend (F.args_list_extend_2 _ _)
  (AutoSeq1.list_extend_list_list_0 l a.toArray n b c.toArray m p (by rw [V0];omega) (by omega)) ⟨e,g,?_⟩
 refine ⟨.non,_,I.lset (its':=a++c) d e (by simp) (r.append j) ?_,rfl,q⟩;rw [I0];omega
def rPopAt:V->List V->Hp->VK->Prop:=λ x vs H Q=>∃l xs i k y,x=.ref l/\vs=[.int i]/\H l=some (.lst xs)/\-(2 ^ 63)<=i/\i < 2 ^ 63/\seqIndex? i xs.length=some k/\xs[k]? = some y/\Q y (upd H l (.lst (xs.eraseIdx k)))
theorem zil:MtM X "list.pop" rPopAt:=by
 intro E s σ H x D v G Q I f B h;obtain ⟨l,p,i,k,y,rfl,rfl,b,g,o,A,d,q⟩:=h;cases f;obtain ⟨u,rfl,c⟩:=B.one;obtain ⟨t,rfl⟩:=c;obtain ⟨z,a,n,r,C,e⟩:=I.lstM b;obtain ⟨w,j,m⟩:=r.get d;refine L9 F.slot_list_pop ⟨_,e,rfl⟩ F.entry_list_pop (F.args_list_pop_2 _ _)
  (MeetsSeq.list_pop_at l a.toArray n i t k w (fitsIndex_both g o) (by rw [V0,<-C];exact A) (by rw [<-Array.getElem?_toList];exact j) (by rw [V0];omega)) ⟨e,?_⟩
 refine ⟨y,_,I.lset (its':=a.eraseIdx k) b e ?_ (r.eraseIdx k) ?_,m,q⟩
 ·show a.toArray.eraseIdxIfInBounds k=(a.eraseIdx k).toArray;rw [List.eraseIdxIfInBounds_toArray]
 ·have:=zbz p k;omega
noncomputable def rCat:R2:=λ x y H Q=>∃l b xs zs,x=.ref l/\y=.ref b/\H l=some (.lst xs)/\H b=some (.lst zs)/\xs.length + zs.length<=sizeLine/\∀p,H p=none->Q (.ref p) (upd H p (.lst (xs++zs)))
theorem op_cat:OpR X (y6 .Add) rCat:=by
 intro D s σ H x y v u Q I k g h;obtain ⟨l,b,B,o,rfl,rfl,j,i,t,q⟩:=h;cases k;cases g;obtain ⟨z,c,n,r,C,e⟩:=I.lstM j;obtain ⟨p,a,w,f,A,d⟩:=I.lstM i;refine PySem.P.add_list e d ?_ (by rw [V0,V0];omega);have m:c.toArray++a.toArray=(c++a).toArray:=by simp
 rw [m];exact ⟨.ref _,_,I.lnew (t':=s.toks) (r.append f) (by rw [I0];omega),rfl,q _ I.fresh⟩
end
section
variable {prog:Program} {w:W0} {A:P2} {E:Value->C0->Prop} {s:C0}
set_option maxRecDepth 100000 in
end
section
variable {κ:Type} [DecidableEq κ]
noncomputable def valV (kvs:List (κ×V)) (k:κ):Option V:=(kvs.find? λ kv=>decide (kv.1=k)).map (·.2)
noncomputable def putK (kvs:List (κ×V)) (k:κ) (v:V):List (κ×V):=
 if (kvs.any λ kv=>decide (kv.1=k))=true then kvs.map (λ kv=>if kv.1=k then (kv.1,v) else kv) else kvs++[(k,v)]
theorem z15 {p:κ×V} {r:List (κ×V)} {k:κ} (e:p.1=k):valV (p :: r) k=some p.2:=by simp [valV,G5,e]
theorem z16 {p:κ×V} {r:List (κ×V)} {k:κ} (e:¬ p.1=k):valV (p :: r) k=valV r k:=by simp [valV,G5,e]
theorem z6h (k:κ) :∀kvs:List (κ×V),(kvs.any λ kv=>decide (kv.1=k))=(valV kvs k).isSome
 | []=>rfl
 | p :: r=>by
  rw [E8];by_cases e:p.1=k
  ·simp only [z15 e,decide_eq_true e,Bool.true_or,Option.isSome_some]
  ·rw [z16 e,decide_eq_false e,Bool.false_or];exact z6h k r
theorem ze3 (k j:κ) (y:V) :∀kvs:List (κ×V),valV (kvs.map λ kv=>if kv.1=k then (kv.1,y) else kv) j=(valV kvs j).map λ x=>if j=k then y else x
 | []=>rfl
 | p :: r=>by
  have a:=ze3 k j y r;rw [L1];by_cases h:p.1=k
  ·rw [if_pos h];by_cases e:p.1=j
   ·rw [z15 (p:=(p.1,y)) e,z15 e,V8,if_pos (e.symm.trans h)]
   ·rw [z16 (p:=(p.1,y)) e,z16 e,a]
  ·rw [if_neg h];by_cases e:p.1=j
   ·rw [z15 (p:=p) e,z15 e,V8,if_neg (λ z=>h (e.trans z))]
   ·rw [z16 (p:=p) e,z16 e,a]
theorem zbx (k j:κ) (y:V) :∀kvs:List (κ×V),valV kvs k=none->valV (kvs++[(k,y)]) j=if j=k then some y else valV kvs j
 | [],_=>by
  by_cases e:k=j
  ·rw [if_pos e.symm];exact z15 (p:=(k,y)) e
  ·rw [if_neg (λ z=>e z.symm)];exact z16 (p:=(k,y)) e
 | p :: r,hn=>by
  rw [j1b];have a:¬ p.1=k:=λ z=>by rw [z15 z] at hn;cases hn
  rw [z16 a] at hn;have b:=zbx k j y r hn;by_cases e:p.1=j
  ·rw [z15 e,z15 e,if_neg (λ z=>a (e.trans z))]
  ·rw [z16 e,z16 e,b]
theorem zat (kvs:List (κ×V)) (k j:κ) (y:V):valV (putK kvs k y) j=if j=k then some y else valV kvs j:=by
 unfold putK;by_cases a:(kvs.any λ b=>decide (b.1=k))=true
 ·rw [if_pos a,ze3];rw [z6h] at a;by_cases e:j=k
  ·obtain ⟨x,c⟩:=Option.isSome_iff_exists.mp a;rw [if_pos e,e,c,V8,if_pos rfl]
  ·rw [if_neg e];cases valV kvs j with
   | none=>rfl
   | some x=>rw [V8,if_neg e]
 ·rw [if_neg a];refine zbx k j y kvs ?_;rw [z6h] at a;cases q:valV kvs k with
  | none=>rfl
  | some x=>rw [q] at a;exact (a rfl).elim
theorem z1z (kvs:List (κ×V)) (k:κ) (v:V):(putK kvs k v).length<=kvs.length + 1:=by
 unfold putK;split
 ·rw [B0];omega
 ·rw [I0,X0,K4];omega
theorem RelO.isSome_eq {o:Option V} {u:Option Value} (r:RelO o u):o.isSome=u.isSome:=by
 cases o with
 | none=>cases u with
  | none=>rfl
  | some _=>exact (show False from r).elim
 | some _=>cases u with
  | none=>exact (show False from r).elim
  | some _=>rfl
theorem RelO.getD {o:Option V} {u:Option Value} {d:V} {d':Value} (r:RelO o u) (rd:RelV d d'):RelV (o.getD d) (u.getD d'):=by
 cases o with
 | none=>cases u with
  | none=>exact rd
  | some _=>exact (show False from r).elim
 | some _=>cases u with
  | none=>exact (show False from r).elim
  | some _=>exact r
theorem KV.val {kvs:List (κ×V)} {vs:List (κ×Value)} (r:KV kvs vs) (k:κ):RelO (valV kvs k) (j1i vs k):=by
 unfold KV at r;induction r with
 | nil=>exact True.intro
 | @cons p q ps qs h t ih=>
  obtain ⟨c,d⟩:=h;by_cases e:p.1=k
  ·have a:q.1=k:=c.symm.trans e;have b:j1i (q :: qs) k=some q.2:=by simp [j1i,G5,a]
   rw [z15 e,b];exact d
  ·have a:¬ q.1=k:=λ z=>e (c.trans z);have b:j1i (q :: qs) k=j1i qs k:=by simp [j1i,G5,a]
   rw [z16 e,b];exact ih
theorem KV.any {kvs:List (κ×V)} {vs:List (κ×Value)} (r:KV kvs vs) (k:κ):(kvs.any λ kv=>decide (kv.1=k))=vs.any λ kv=>decide (kv.1=k):=by
 unfold KV at r;induction r with
 | nil=>rfl
 | cons h t ih=>rw [E8,E8,ih,h.1]
theorem KV.repl {kvs:List (κ×V)} {vs:List (κ×Value)} (r:KV kvs vs) (k:κ) {y:V} {u:Value} (ry:RelV y u) :
  KV (kvs.map λ kv=>if kv.1=k then (kv.1,y) else kv) (vs.map λ kv=>if kv.1=k then (kv.1,u) else kv):=by
 unfold KV at r⊢;induction r with
 | nil=>exact .nil
 | @cons p q ps qs h t ih=>
  rw [L1,L1];refine .cons ?_ ih;obtain ⟨a,b⟩:=h;by_cases e:p.1=k
  ·rw [if_pos e,if_pos (a.symm.trans e)];exact ⟨a,ry⟩
  ·rw [if_neg e,if_neg (λ z=>e (a.trans z))];exact ⟨a,b⟩
theorem KV.put {kvs:List (κ×V)} {vs:List (κ×Value)} (r:KV kvs vs) (k:κ) {y:V} {u:Value} (ry:RelV y u):KV (putK kvs k y) (stored vs k u):=by
 unfold putK stored;rw [r.any k];by_cases e:(vs.any λ a=>decide (a.1=k))=true
 ·rw [if_pos e,if_pos e];exact r.repl k ry
 ·rw [if_neg e,if_neg e];exact Paired.snoc r ⟨rfl,ry⟩
theorem KV.length {kvs:List (κ×V)} {vs:List (κ×Value)} (r:KV kvs vs):kvs.length=vs.length:=v8 r
end
theorem kV_is {P:Program} {w:W0} {k:Key} {u:Value} (r:RelV (kV k) u):(z0i P w).is k u=true:=by
 cases k with
 | inl i=>obtain ⟨t,e⟩:=(show∃t,u=S7 i t from r);subst e;exact zd1 P w i t
 | inr x=>obtain ⟨t,e⟩:=(show∃t,u=A9 x t from r);subst e;exact zck P w x t
theorem zbi {P:Program} {w:W0} :∀{ks:List Key} {us:List Value},Vals (ks.map kV) us->ItemsAre (z0i P w) ks us
 | [],_,r=>by rw [w5] at r;cases r;exact .nil
 | k :: ks,_,r=>by
  rw [L1] at r;cases r with
  | cons h t=>exact .cons (kV_is h) (zbi t)
abbrev KT (H:Hp):List (List Key×V)->List (List Key×Addr×Value)->Prop:=P9 λ p q=>p.1=q.1/\H q.2.1=some (.tup (p.1.map kV))/\RelV p.2 q.2.2
theorem KT.val {H:Hp} {kvs:List (List Key×V)} {xs:List (List Key×Addr×Value)} (r:KT H kvs xs) (k:List Key):RelO (valV kvs k) ((j19 xs k).map (·.2)):=by
 induction r with
 | nil=>exact True.intro
 | @cons p q ps qs h t ih=>
  obtain ⟨c,_,d⟩:=h;by_cases e:p.1=k
  ·have a:q.1=k:=c.symm.trans e;have b:j19 (q :: qs) k=some q.2:=by simp [j19,G5,a]
   rw [z15 e,b];exact d
  ·have a:¬ q.1=k:=λ z=>e (c.trans z);have b:j19 (q :: qs) k=j19 qs k:=by simp [j19,G5,a]
   rw [z16 e,b];exact ih
theorem KT.repl {H:Hp} {kvs:List (List Key×V)} {xs:List (List Key×Addr×Value)} (r:KT H kvs xs) (k:List Key) {y:V} {u:Value} (ry:RelV y u) :
  KT H (kvs.map λ kv=>if kv.1=k then (kv.1,y) else kv) (xs.map (putAt k u)):=by
 induction r with
 | nil=>exact .nil
 | @cons p q ps qs h t ih=>
  rw [L1,L1];refine .cons ?_ ih;obtain ⟨a,b,c⟩:=h;unfold putAt;by_cases e:p.1=k
  ·rw [if_pos e,if_pos (a.symm.trans e)];exact ⟨a,b,ry⟩
  ·rw [if_neg e,if_neg (λ z=>e (a.trans z))];exact ⟨a,b,c⟩
theorem KT.put {H:Hp} {kvs:List (List Key×V)} {xs:List (List Key×Addr×Value)} (r:KT H kvs xs) (k:List Key) {b:Addr} {y:V} {u:Value} (hb:H b=some (.tup (k.map kV))) (ry:RelV y u) :
  KT H (putK kvs k y) (storedH xs k b u):=by
 have e:(kvs.any λ a=>decide (a.1=k))=(j19 xs k).isSome:=by rw [z6h,(r.val k).isSome_eq,p8]
 unfold putK storedH;rw [e];by_cases q:(j19 xs k).isSome=true
 ·rw [if_pos q,if_pos q];exact r.repl k ry
 ·rw [if_neg q,if_neg q];exact Paired.snoc r ⟨rfl,hb,ry⟩
theorem KT.keeps {H H':Hp} {kvs:List (List Key×V)} {xs:List (List Key×Addr×Value)} (r:KT H kvs xs) (ht :∀b ys,H b=some (.tup ys)->H' b=some (.tup ys)):KT H' kvs xs:=
 Paired.mapP r λ _ _ z=>⟨z.1,ht _ _ z.2.1,z.2.2⟩
section
variable {P:Program} {w:W0} {H:Hp} {h:Heap} {a:Addr}
theorem rd_of {u:HO} (ok:HOk P w H h) (e:Rd H a u):ObjOk P w H h a u:=e.ok ok
theorem dk_rd {kvs:List (Key×V)} (ok:HOk P w H h) (e:Rd H a (.dK kvs)):kvs.length<=sizeLine/\(a == R5)=false/\∃vs,KV kvs vs/\h.DictOf (z0i P w) a vs:=
 show ObjOk P w H h a (.dK kvs) from rd_of ok e
theorem dk_of {kvs:List (Key×V)} (ok:HOk P w H h) (e:H a=some (.dK kvs)):kvs.length<=sizeLine/\(a == R5)=false/\∃vs,KV kvs vs/\h.DictOf (z0i P w) a vs:=dk_rd ok (.inl e)
theorem key_of {ks:List Key} (ok:HOk P w H h) (e:H a=some (.tup (ks.map kV))):(b7 (z0i P w)).is h ks a:=by
 obtain ⟨_,d,r,⟨o,b,c,n,f⟩,_⟩:=(show ObjOk P w H h a (.tup (ks.map kV)) from ok a _ e)
 exact ⟨o,d.toArray,n,b,c,f,by simpa using zbi r⟩
theorem dt_rd {kvs:List (List Key×V)} (ok:HOk P w H h) (e:Rd H a (.dT kvs)):kvs.length<=sizeLine/\(a == R5)=false/\
  ∃xs,KT H kvs xs/\h.DictOfH (b7 (z0i P w)) a xs:=by
 obtain ⟨z,y,xs,r,o,d,g,c,f,k,j,i⟩:=(show ObjOk P w H h a (.dT kvs) from rd_of ok e)
 refine ⟨z,y,xs,r,o,d,g,c,f,k,j,λ x b=>?_,i⟩;have all :∀{l:List (List Key×V)} {m:List (List Key×Addr×Value)},KT H l m->∀x∈m,(b7 (z0i P w)).is h x.1 x.2.1:=by
  intro l m q;induction q with
  | nil=>intro x b;exact nomatch b
  | @cons p q ps qs hq t ih=>
   intro x b;rcases List.mem_cons.mp b with e|b
   ·subst e;exact key_of ok (by rw [<-hq.1];exact hq.2.1)
   ·exact ih x b
 exact all r x b
theorem dt_of {kvs:List (List Key×V)} (ok:HOk P w H h) (e:H a=some (.dT kvs)):kvs.length<=sizeLine/\(a == R5)=false/\
  ∃xs,KT H kvs xs/\h.DictOfH (b7 (z0i P w)) a xs:=dt_rd ok (.inl e)
end
def DGet (H:Hp) (a:Addr) (y:V) (r:Option V):Prop:=
 (∃kvs k,Rd H a (.dK kvs)/\y=kV k/\r=valV kvs k)\/∃kvs k b,Rd H a (.dT kvs)/\y=.ref b/\H b=some (.tup (k.map kV))/\r=valV kvs k
def DPut (H:Hp) (a:Addr) (y v:V) (H':Hp):Prop:=
 (∃kvs k,H a=some (.dK kvs)/\y=kV k/\kvs.length < sizeLine/\H'=upd H a (.dK (putK kvs k v)))\/
 ∃kvs k b,H a=some (.dT kvs)/\y=.ref b/\H b=some (.tup (k.map kV))/\kvs.length < sizeLine/\H'=upd H a (.dT (putK kvs k v))
theorem DGet.k {H:Hp} {a:Addr} {kvs:List (Key×V)} {k:Key} (e:H a=some (.dK kvs)):DGet H a (kV k) (valV kvs k):=.inl ⟨kvs,k,.inl e,rfl,rfl⟩
theorem DPut.k {H:Hp} {a:Addr} {kvs:List (Key×V)} {k:Key} {v:V} (e:H a=some (.dK kvs)) (hl:kvs.length < sizeLine):DPut H a (kV k) v (upd H a (.dK (putK kvs k v))):=.inl ⟨kvs,k,e,rfl,hl,rfl⟩
section
variable {X:Cx} {pins:List (Addr×Obj)} {σ:St} {H:Hp} {s:C0} {a:Addr} {y v:V} {u r:Value} {o:Option V} {A:P2} {E:Value->C0->Prop}
theorem Inv.big (I:Inv X pins σ H s):R5 < s.heap.objs.size:=by have h:Q2 < s.heap.objs.size:=(I.mod.glob.keeps I.bk).lt;exact Z6 (by decide) h
theorem zfy {Q:Value->C0->Prop} (hu:A.units + 1 < cLine) (I:Inv X pins σ H s) (g:DGet H a y (some v)) (ry:RelV y u) (h :∀w' s',Inv X pins σ H s'->RelV v w'->Q w' s') :
  T0 (N1 X.prog X.w) A (j0d (.ref a) u) Q E s:=by
 rcases g with ⟨n,k,e,i,l⟩|⟨n,k,b,e,i,eb,l⟩
 ·subst i;obtain ⟨z,q,r,d,j⟩:=dk_rd I.hok e;obtain ⟨w',c,f⟩:=RelO.some_of (v:=v) (o:=j1i r k) (by rw [l];exact d.val k);exact wpAny_getItem_of (kV_is ry) j.mapOf c (h w' _ (I.tok _) f)
 ·subst i;cases (show u=J1 b from ry);obtain ⟨z,q,t,d,j⟩:=dt_rd I.hok e;obtain ⟨w',c,f⟩:=RelO.some_of (v:=v) (o:=(j19 t k).map (·.2)) (by rw [l];exact d.val k);obtain ⟨p,m,x⟩:=Option.map_eq_some_iff.mp c;refine wpAny_getItem_heap (G8 hu) (key_of I.hok eb) j m ?_;rw [x];exact h w' _ (I.tok _) f
theorem zlf {Q:Value->C0->Prop} (hu:A.units + 1 < cLine) (I:Inv X pins σ H s) (g:DGet H a y o) (ry:RelV y u) (h :∀s',Inv X pins σ H s'->Q (.bool (!o.isSome)) s') :
  T0 (N1 X.prog X.w) A (E3 .NotIn u (.ref a)) Q E s:=by
 rcases g with ⟨j,k,e,f,l⟩|⟨j,k,b,e,f,eb,l⟩
 ·subst f;obtain ⟨z,c,m,d,i⟩:=dk_rd I.hok e;refine wpAny_notIn_of (kV_is ry) c i.mapOf ?_;rw [<-(d.val k).isSome_eq,<-l];exact h _ (I.tok _)
 ·subst f;cases (show u=J1 b from ry);obtain ⟨z,c,n,d,i⟩:=dt_rd I.hok e;refine wpAny_notIn_heap (G8 hu) (key_of I.hok eb) c i ?_;have q:=(d.val k).isSome_eq;rw [p8] at q;rw [<-q,<-l];exact h _ (I.tok _)
theorem zf9 {h':Heap} {t':Nat} {ob:HO} (I:Inv X pins σ H s) (mu:Mut (H a)) (hs:T7 a s.heap h') (he :∃q,h'.get? a=some q) (new:ObjOk X.prog X.w (upd H a ob) h' a ob) :
  Inv X pins σ (upd H a ob) { s with heap:=h',toks:=t' }:=
 I.write (x:=a) (e:=a) mu (.inl rfl) (λ b q c z=>(hs.2 b c).trans z) he new
theorem dk_new {P:Program} {w:W0} {H':Hp} {h':Heap} {kvs:List (Key×V)} {vs:List (Key×Value)} (z:kvs.length<=sizeLine) (hd:(a == R5)=false) (rel:KV kvs vs) (dd:h'.DictOf (z0i P w) a vs) :
  ObjOk P w H' h' a (.dK kvs):=⟨z,hd,vs,rel,dd⟩
theorem zgh {H':Hp} {Q:Unit->C0->Prop} (hu:A.units + 1 < cLine) (I:Inv X pins σ H s) (g:DPut H a y v H') (ry:RelV y u) (rv:RelV v r) (h :∀s',Inv X pins σ H' s'->Q () s') :
  T0 (N1 X.prog X.w) A (setItem (.ref a) u r) Q E s:=by
 rcases g with ⟨d,k,e,x,l,m⟩|⟨d,k,b,e,x,eb,l,m⟩
 ·subst x m;obtain ⟨z,n,J,f,o⟩:=dk_of I.hok e;have t:J.length<=sizeLine:=by rw [<-f.length];exact z
  have B:(putK d k v).length<=sizeLine:=by have:=z1z d k v;omega
  refine wpAny_setItem_pairs (hsz:=t) (kV_is ry) o λ C j p=>h _ ?_;have K :∃q,C.get? a=some q:=let ⟨q,_,_,i,_⟩:=j;⟨q,i⟩;exact zf9 I (by rw [e];exact True.intro) p K (dk_new B n (f.put k rv) j)
 ·subst x m;cases (show u=J1 b from ry);obtain ⟨z,n,N,f,o⟩:=dt_of I.hok e;have t:N.length<=sizeLine:=by rw [<-v8 f];exact z
  have B:(putK d k v).length<=sizeLine:=by have:=z1z d k v;omega
  refine wpAny_setItem_heap (hsz:=t) (G8 hu) (key_of I.hok eb) o λ C j p=>h _ ?_;obtain ⟨q,F,G,i,M,L,P,_,O⟩:=j;refine zf9 I (by rw [e];exact True.intro) p ⟨q,i⟩ ⟨B,n,_,(f.put k eb rv).keeps λ c R D=>?_,q,F,G,i,M,L,P,O⟩;rw [upd_ne (ne_of D e (λ z=>nomatch z))];exact D
end
def NoSl (i:Expr):Prop:=∀ov iv,j31 i false ov iv=operate [ov,iv] (j0d ov iv)
theorem zk7 {prog:Program} {w:W0} {A:P2} {E:Value->C0->Prop} {s:C0} {env:Env} {value slice:Expr} {pos:Pos} {T id:String} {Q:Value->C0->Prop}
  (hl:j43 (.type T) "__getitem__" = O4 (some (.builtin id))) (hs:NoSl slice)
  (h:T0 (N1 prog w) A (Z3 value env) (λ o s₁=>T0 (N1 prog w) A (Z3 slice env) (λ i s₂=>s₂.TypeIs o T/\T0 (N1 prog w) A (j0d o i) Q E s₂) E s₁) E s) :
  T0 (N1 prog w) A (Z3 (.Subscript value slice pos) env) Q E s:=by
 refine Subscript_ (N4 h (λ o s₁ f=>N4 f (λ i s₂ b=>?_) λ _ _ x=>x) λ _ _ x=>x);obtain ⟨c,b⟩:=b;unfold subscriptTail;refine o0 ?_;rw [getitemInPython_of_ne c.not_modules];refine o0 (wpAny_specialOf c hl ?_);have a:T0 (N1 prog w) A (j31 slice false o i) (λ r d=>T0 (N1 prog w) A (letTemporaryGo value o r >>= λ _=>O4 r) Q E d) E s₂:=by rw [hs o i];exact wpAny_operating (N4 b (λ r d e=>o0 (wpAny_letTemporaryGo (F0 e))) λ _ _ x=>x)
 first
  | exact F0 (o0 a)
  | exact o0 (F0 (o0 a))
  | exact o0 a
theorem zcw {X:Cx} {pins:List (Addr×Obj)} {σ:St} {H:Hp} {s:C0} {a:Addr} {y:V} {o:Option V} (I:Inv X pins σ H s) (g:DGet H a y o):s.TypeIs (.ref a) "dict":=by
 rcases g with ⟨d,k,e,_,_⟩|⟨d,k,b,e,_,_,_⟩
 ·obtain ⟨_,_,f,_,c⟩:=dk_rd I.hok e;exact c.typeIs
 ·obtain ⟨_,_,h,_,c⟩:=dt_rd I.hok e;exact c.typeIs
noncomputable def tDGet (td ty:TE):TE:=λ σ H Q=>td σ H λ x H1=>ty σ H1 λ y H2=>∃a v,x=.ref a/\DGet H2 a y (some v)/\Q v H2
noncomputable def zjv (ty td:TE):TE:=λ σ H Q=>ty σ H λ y H1=>td σ H1 λ x H2=>∃a o,x=.ref a/\DGet H2 a y o/\Q (.bl (!o.isSome)) H2
noncomputable def sDPut (td ty tv:TE):TS:=λ D σ H=>tv σ H λ v H1=>td σ H1 λ x H2=>ty σ H2 λ y H3=>∃a H4,x=.ref a/\DPut H3 a y v H4/\D.nx σ H4
section
variable {X:Cx} {o i e value:Expr} {pos pos' tpos:Pos} {td ty tv:TE}
theorem z0c (hu:X.A.units + 1 < cLine) (ho:PE X o td) (hi:PE X i ty) (hs:NoSl i):PE X (.Subscript o i pos) (tDGet td ty):=by intro b s σ H Q I h;refine zk7 PySem.F.slot_dict_getitem.lookup hs (thn (ho b s σ H _ I h) λ u c ⟨x,H1,I1,rx,q1⟩=>thn (hi b c σ H1 _ I1 q1) λ f l ⟨y,H2,I2,ry,a,v,ex,g,q2⟩=>?_);subst ex;obtain rfl:u=J1 a:=rx;exact ⟨zcw I2 g,zfy hu I2 g ry λ j k e d=>⟨v,H2,e,d,q2⟩⟩
theorem zgz (hu:X.A.units + 1 < cLine) (hi:PE X i ty) (ho:PE X o td):PC X .NotIn i o (zjv ty td):=by intro b s σ H Q I h;refine thn (hi b s σ H _ I h) λ e c ⟨y,H1,I1,ry,q1⟩=>thn (ho b c σ H1 _ I1 q1) λ u j ⟨x,H2,I2,rx,a,ov,ex,g,q2⟩=>?_;subst ex;obtain rfl:u=J1 a:=rx;exact zlf hu I2 g ry λ f d=>⟨.bl (!ov.isSome),H2,d,rfl,q2⟩
theorem z3t (hu:X.A.units + 1 < cLine) (ho:PE X o td) (hi:PE X i ty) (hv:PE X value tv) (hs:u9 value (some (.Subscript o i pos')) pos.line X.env=O4 false) :
  PS X (.Assign [.Subscript o i pos'] value pos) (sDPut td ty tv):=by
 intro b s σ H D I h;refine wpAny_Assign_Subscript (thn (hv b s σ H _ I h) λ r c ⟨v,H1,I1,rv,q1⟩=>thn (ho b c σ H1 _ I1 q1) λ u e ⟨x,H2,I2,rx,q2⟩=>thn (hi b e σ H2 _ I2 q2) λ f j ⟨y,H3,I3,ry,a,H4,ex,g,q3⟩=>?_) hs;subst ex;obtain rfl:u=J1 a:=rx;exact zgh hu I3 g ry rv λ k d=>⟨σ,H4,d,q3⟩
end
theorem zdd {P:Program} {w:W0} {H:Hp} (h:Heap) (hb:R5 < h.objs.size):ObjOk P w H (h.push { cls:=.type "dict",data:=.dict #[] }) h.objs.size (.dK []):=
 ⟨E2 _,beq_eq_false_iff_ne.mpr (A2 (Z0 hb)),[],.nil,j40 h⟩
noncomputable def tDNewK:TE:=λ _ H Q=>∀p,H p=none->Q (.ref p) (upd H p (.dK []))
section
variable {X:Cx} {pos:Pos}
theorem zij:PE X (.Dict [] [] pos) tDNewK:=λ b s σ H Q I h=>wpAny_Dict_empty ⟨.ref s.heap.objs.size,_,I.laid (a:=s.heap.objs.size) (o:=.dK []) (t':=s.toks) (λ _ _ q=>G0 _ q) (J0 _) (zdd s.heap I.big),rfl,h _ (I.hok.fresh (J0 _))⟩
end
noncomputable def tPairs:List (TE×TE)->St->Hp->(List (V×V)->Hp->Prop)->Prop
 | [],_,H,Q=>Q [] H
 | (tk,tv) :: r,σ,H,Q=>tk σ H λ x H1=>tv σ H1 λ y H2=>tPairs r σ H2 λ ps H3=>Q ((x,y) :: ps) H3
abbrev VV:List (V×V)->List (Value×Value)->Prop:=P9 λ p q=>RelV p.1 q.1/\RelV p.2 q.2
def PPs (X:Cx) (pos:Pos) (keys:List (Option Expr)) (values:List Expr) (trs:List (TE×TE)):Prop:=
 ∀(pins:List (Addr×Obj)) (s:C0) (σ:St) (H:Hp) (Q:List (V×V)->Hp->Prop),Inv X pins σ H s->tPairs trs σ H Q->
  T0 (N1 X.prog X.w) X.A (evalPairs (pairTrees keys values X.env pos)) (λ vs s'=>∃ps H',Inv X pins σ H' s'/\VV ps vs/\Q ps H') X.xe s
theorem zhw {X:Cx} {pos:Pos}:PPs X pos [] [] []:=λ a s σ H Q I h=>pairTrees_nil_walk ⟨[],H,I,.nil,h⟩
theorem z4i {X:Cx} {pos:Pos} {k v:Expr} {ks:List (Option Expr)} {vs:List Expr} {tk tv:TE} {trs:List (TE×TE)} (hk:PE X k tk) (hv:PE X v tv) (hr:PPs X pos ks vs trs) :
  PPs X pos (some k :: ks) (v :: vs) ((tk,tv) :: trs):=λ a s σ H Q I h=>
 pairTrees_cons_walk (thn (hk a s σ H _ I h) λ u b ⟨x,H1,I1,rx,q1⟩=>thn (hv a b σ H1 _ I1 q1) λ f c ⟨y,H2,I2,ry,q2⟩=>thn (hr a c σ H2 _ I2 q2) λ e d ⟨ps,H3,I3,rel,q3⟩=>⟨(x,y) :: ps,H3,I3,.cons ⟨rx,ry⟩ rel,q3⟩)
noncomputable def mergeK (kvs more:List (Key×V)):List (Key×V):=more.foldl (λ acc kv=>putK acc kv.1 kv.2) kvs
theorem KV.merge :∀{more:List (Key×V)} {rs:List (Key×Value)} {kvs:List (Key×V)} {vs:List (Key×Value)},KV more rs->KV kvs vs->KV (mergeK kvs more) (merged vs rs):=by
 intro more rs kvs vs r;unfold KV at r;induction r generalizing kvs vs with
 | nil=>intro q;exact q
 | @cons p q ps qs h t ih=>
  intro a;have e:KV (putK kvs p.1 p.2) (stored vs q.1 q.2):=by have:=a.put p.1 h.2;rw [<-h.1];exact this
  exact ih e
theorem z50 :∀(more kvs:List (Key×V)),(mergeK kvs more).length<=kvs.length + more.length
 | [],kvs=>by show kvs.length<=kvs.length + 0;omega
 | p :: r,kvs=>by have b:=z50 r (putK kvs p.1 p.2);have a:=z1z kvs p.1 p.2;show (mergeK (putK kvs p.1 p.2) r).length<=_;rw [X0];omega
theorem z94 {P:Program} {w:W0} :∀{kvs:List (Key×V)} {ws:List (Value×Value)},VV (kvs.map λ kv=>(kV kv.1,kv.2)) ws->∃rs,Carries (z0i P w) ws rs/\KV kvs rs
 | [],_,r=>by rw [w5] at r;cases r;exact ⟨[],True.intro,.nil⟩
 | p :: kvs,_,r=>by
  rw [L1] at r;cases r with
  | @cons a b as bs h t=>obtain ⟨rs,c,q⟩:=z94 (P:=P) (w:=w) t;obtain ⟨e,d⟩:=b;exact ⟨(p.1,d) :: rs,⟨kV_is h.1,rfl,c⟩,.cons ⟨rfl,h.2⟩ q⟩
noncomputable def tDisp (trs:List (TE×TE)):TE:=λ σ H Q=>∀p,H p=none->tPairs trs σ (upd H p (.dK [])) λ ps H2=>H2 p=some (.dK [])/\∃kvs:List (Key×V),ps=kvs.map (λ kv=>(kV kv.1,kv.2))/\kvs.length<=15/\Q (.ref p) (upd H2 p (.dK (mergeK [] kvs)))
theorem zi0 {X:Cx} {pos:Pos} {keys:List (Option Expr)} {values:List Expr} {trs:List (TE×TE)} (h:PPs X pos keys values trs) (hall:keys.all (·.isSome)=true) (hl:keys.length=values.length) (h0:keys≠[])
  (h15:keys.length<=15):PE X (.Dict keys values pos) (tDisp trs):=by
 intro r s σ H Q I q;have j:=I.hok.fresh (J0 s.heap.objs.size);have f:=I.laid (a:=s.heap.objs.size) (o:=.dK []) (h':=s.heap.push { cls:=.type "dict",data:=.dict #[] }) (t':=s.toks) (λ _ _ q=>G0 _ q) (J0 _) (zdd s.heap I.big);refine wpAny_Dict_walk (knd:=z0i X.prog X.w) hall hl h0 h15 (thn (h r _ σ _ _ f (q _ j)) λ x v ⟨ps,H2,I2,rel,e,kvs,ep,lk,q2⟩=>?_);subst ep;obtain ⟨d,c,t⟩:=z94 (P:=X.prog) (w:=X.w) rel;obtain ⟨z,g,u,k,i⟩:=dk_of I2.hok e;cases k;refine ⟨d,c,i,λ h' b l=>⟨.ref s.heap.objs.size,_,?_,rfl,q2⟩⟩;have m:(mergeK [] kvs).length<=sizeLine:=by have p:=z50 kvs [];rw [K4] at p;rw [sizeLine_eq];omega
 have n :∃q,h'.get? s.heap.objs.size=some q:=let ⟨q,_,_,hq,_⟩:=b;⟨q,hq⟩;exact zf9 I2 (by rw [e];exact True.intro) l n (dk_new m g (t.merge .nil) b)
structure M1 (X:Cx) (o:Expr) (m:Str) (apos:Pos) (e:Expr) (cpos:Pos):Prop where
 base:E5 o m X.env (Z3 o X.env)=Z3 o X.env
 few:((V4 cpos (E1 [e] X.env)).all (λ x=>!x.1) && (v9 cpos (f7 [] X.env)).all (λ x=>x.1.isSome)
  && decide (([e]:List Expr).length + ([]:List R6).length + (if ([]:List R6).isEmpty then 0 else 1) < 30))=true
 line:(apos.endLine == cpos.line)=true
 trees:V4 cpos (E1 [e] X.env)=[(false,Z3 e X.env)]
structure M2 (X:Cx) (o:Expr) (m:Str) (apos:Pos) (e f:Expr) (cpos:Pos):Prop where
 base:E5 o m X.env (Z3 o X.env)=Z3 o X.env
 few:((V4 cpos (E1 [e,f] X.env)).all (λ x=>!x.1) && (v9 cpos (f7 [] X.env)).all (λ x=>x.1.isSome)
  && decide (([e,f]:List Expr).length + ([]:List R6).length + (if ([]:List R6).isEmpty then 0 else 1) < 30))=true
 line:(apos.endLine == cpos.line)=true
 trees:V4 cpos (E1 [e,f] X.env)=[(false,Z3 e X.env),(false,Z3 f X.env)]
def IsD (H:Hp) (a:Addr):Prop:=(∃kvs,Rd H a (.dK kvs))\/∃kvs,Rd H a (.dT kvs)
theorem isD_at {X:Cx} {pins:List (Addr×Obj)} {σ:St} {H:Hp} {s:C0} {a:Addr} (I:Inv X pins σ H s) (d:IsD H a) :
  s.TypeIs (.ref a) "dict"/\(∀b,J1 a=.ref b->∃ob,s.heap.get? b=some ob/\ob.dict=none)/\(a == R5)=false:=by
 rcases d with ⟨i,e⟩|⟨i,e⟩
 ·obtain ⟨_,g,j,_,c⟩:=dk_rd I.hok e;refine ⟨c.typeIs,λ b q=>?_,g⟩;cases q;obtain ⟨ob,_,_,f,h,_⟩:=c;exact ⟨ob,f,h.2.1⟩
 ·obtain ⟨_,g,k,_,c⟩:=dt_rd I.hok e;refine ⟨c.typeIs,λ b q=>?_,g⟩;cases q;obtain ⟨ob,_,_,f,h,_⟩:=c;exact ⟨ob,f,h.2.1⟩
section
variable {X:Cx} {pins:List (Addr×Obj)} {σ:St} {H:Hp} {s:C0} {a:Addr} {y d:V} {u r:Value} {o:Option V} {A:P2} {E:Value->C0->Prop}
theorem d_get2 {Q:Value->C0->Prop} (hu:A.units + 1 < cLine) (I:Inv X pins σ H s) (g:DGet H a y o) (ry:RelV y u) (rd:RelV d r) (h :∀w' s',Inv X pins σ H s'->RelV (o.getD d) w'->Q w' s') :
  T0 (N1 X.prog X.w) A (call (.builtin "dict.get") [.ref a,u,r]) Q E s:=by
 rcases g with ⟨m,k,e,j,l⟩|⟨m,k,b,e,j,eb,l⟩
 ·subst j;obtain ⟨z,f,p,i,c⟩:=dk_rd I.hok e;refine call_meetsIn U8 c.typeIs j2h (j28 _ _ _) (meets_dict_get_default (z0i X.prog X.w) a (kV_is ry) f r) ⟨_,c.mapOf,h _ _ (I.tok _) ?_⟩;rw [l];exact (i.val k).getD rd
 ·subst j;cases (show u=J1 b from ry);obtain ⟨z,f,n,i,c⟩:=dt_rd I.hok e;refine call_meetsIn U8 c.typeIs j2h (j28 _ _ _) (meetsH_dict_get_default (b7 (z0i X.prog X.w)) a b f r) ⟨G8 hu,k,n,key_of I.hok eb,c,h _ _ (I.tok _) ?_⟩;rw [l];exact (i.val k).getD rd
end
noncomputable def tDGet2 (td ty tx:TE):TE:=λ σ H Q=>td σ H λ x H1=>∃a,x=.ref a/\IsD H1 a/\ty σ H1 λ y H2=>tx σ H2 λ z H3=>∃o,DGet H3 a y o/\Q (o.getD z) H3
section
variable {X:Cx} {o e f:Expr} {apos cpos:Pos} {td ty tx:TE}
theorem zjl (hu:X.A.units + 1 < cLine) (ho:PE X o td) (he:PE X e ty) (hf:PE X f tx) (m:M2 X o "get" apos e f cpos):PE X (.Call (.Attribute o "get" apos) [e,f] [] cpos) (tDGet2 td ty tx):=by
 intro b s σ H Q I h;refine wpAny_Call_method m.base m.few m.line PySem.F.plainAttrs_dict U8 PySem.F.type_dict_get (thn (ho b s σ H _ I h) λ u j ⟨x,H1,I1,rx,a,ex,d,q1⟩=>?_);subst ex;obtain rfl:u=J1 a:=rx;obtain ⟨l,c,_⟩:=isD_at I1 d;refine ⟨l,c,?_⟩;rw [m.trees];refine j3c rfl (y9 (C5 (thn (he b j σ H1 _ I1 q1) λ q i ⟨y,H2,I2,ry,q2⟩=>C5 (thn (hf b i σ H2 _ I2 q2) λ p r ⟨z,H3,I3,rz,ov,g,q3⟩=>b6 ?_))));exact d_get2 hu I3 g ry rz λ v t k n=>⟨_,H3,k,n,q3⟩
end
end L2
namespace Att
open PySem PySem.W PySem.Calls PyProof.Rows
theorem z6v {P:P0} {h:Heap} :∀(ns:List Int) (vs:List Value),WellAll P h vs (ns.map WData.int)->J5 vs ns:=by
 intro ns;induction ns with
 | nil=>intro vs w;rw [w5] at w;cases w;exact .nil
 | cons n ns ih=>
  intro vs w;rw [L1] at w;cases w with
  | cons a b=>cases a;exact .cons _ _ (ih _ b)
theorem zgl {l:OpenLaw} {n:Nat} (hn:l.most=some n) {P:P0} {h:Heap} {args:List WData} {vals:List Value}
  (hpre:l.row.toRowW.claim.pre args=true) (hwl:WellAll P h vals args) :
  ∃a vs ns,vals=[J1 a]/\args=[WData.list (ns.map WData.int)]/\h.get? a=some { cls:=.type "list",data:=.seq vs.toArray }/\J5 vs ns/\ns.length<=n:=by
 have i:WShape.hasAll [] args [.list .int]=true:=(pre_splitW hpre).1;have e:l.pre.holds [] { args:=args }=true:=(pre_splitW hpre).2;obtain ⟨d,r,rfl,g,k⟩:=hasAllW_cons i;obtain rfl:=hasAllW_nil k;obtain ⟨o,rfl,m⟩:=hasW_list g;obtain ⟨ns,rfl⟩:=items_int m;have j:ns.length<=n:=by
  unfold OpenLaw.pre at e;have c:(WTm.not (.lt (.lit (.int (n:Int))) (.len (.arg 0)))).holds [] { args:=[.list (ns.map .int)] }=true:=by have c:=(holds_andW e).1;rw [hn] at c;exact c
  have b:=condW_of c (w_not (w_lt w_lit (w_len_list (w_arg rfl))));rw [B0] at b;refine j1e λ q=>?_;have f:(n:Int) < ((ns.length:Nat):Int):=by omega
  first
   | (rw [decide_eq_true f] at b;exact absurd b (by decide))
   | (simp at b;omega)
 cases hwl with
 | cons w1 w2=>
  cases w2;cases w1 with
  | list ho hall=>exact ⟨_,_,ns,rfl,rfl,ho,z6v ns _ hall,j⟩
theorem zgj (l:OpenLaw) (args:List WData):l.row.toRowW.claim.post args (.bool true) args=true:=
 postW_of (r:=l.row.toRowW) (X:=(true == true))
  (show WShape.has [] (.bool true) .bool=true by first|rfl|decide|simp [WShape.has,WShape.arms,WShape.armsAll])
  (show (WTm.eq .res (.lit (.bool true))).value [] { args:=args,res:=some (.bool true),after:=args }=some (.bool (true == true)) from w_eq_bool (w_res rfl) w_lit) rfl
theorem attach_call {l:OpenLaw} {n:Nat} {q:Program} {loose:List Str} {XP:(Str->Option Value)->Heap->Prop} {YP:W0->Heap->Prop} {d:DefRec}
  (hn:l.most=some n) (hdf:d.params.defaults=[])
  (call :∀(w:W0) (s₀ s₁:C0) (mg mb:Str->Option Value) (fa:Addr) (o:Obj) (pm cd doc:Value) (a:Addr) (vs:List Value) (ns:List Int),
   Ground q loose [] XP w s₀ mg mb s₁.heap->YP w s₁.heap->
   s₁.heap.get? fa=some o->o.data=.func (docDef d.name d.params d.body d.scope pm cd doc)->s₁.heap.CodeRec cd d.name->mg d.name=some (.ref fa)->
   s₁.heap.get? a=some { cls:=.type "list",data:=.seq vs.toArray }->J5 vs ns->ns.length<=n->s₁.gens = #[]->
   T5 (N1 l.prog w) j20 (.call (.ref fa) ⟨[.ref a],[]⟩) (λ r s'=>r=.ok (.ret (.bool true))/\OldK s₁.heap s'.heap/\s'.os=s₁.os/\a9 s'.gens) s₁) :
  WalkO q loose XP YP l.row.toRowW d [] (λ f vs=>PySem.call f vs):=by
 intro w s₀ s₁ mg mb G Y fa o pm cd doc g kV j h m b u k D A B c E C i F;obtain rfl:g=.none:=Dflts.none b hdf;obtain rfl:kV=.none:=Dflts.noKw b;obtain ⟨a,vs,ns,rfl,rfl,y,e,v⟩:=zgl hn c i;refine enter_call (Q6 (call w s₀ s₁ mg mb fa o pm cd doc a vs ns G Y j (fd_plain h) m u y e v k) λ r s' p=>?_);obtain ⟨rfl,x,s,z⟩:=p;exact ⟨.inl ⟨.bool true,.bool true,[],rfl,λ _=>rfl,.bool true,zgj l _,λ _=>⟨J7,λ _ t=>(nomatch t)⟩⟩,x,s,z⟩
end Att
namespace L2
open PySem PySem.Spec PyProof.Rows
theorem zba :∀{vs:List Value} {ns:List Int},J5 vs ns->Vals (ns.map V.int) vs
 | _,_,.nil=>.nil
 | _,_,.cons n t h=>.cons ⟨t,rfl⟩ (zba h)
def Only (H:Hp):Prop:=∀b,H b=none\/∃o xs,H b=some (.frz o (.lst xs))
theorem zix {P:Program} {w:W0} {K:j0} {mg mb:Str->Option Value} {CX:CXT} {k:Nat} {fa a:Addr} {fd:FuncData} {x:Str} {sp:Sp} {s₁:C0} {vs:List Value} {ns:List Int}
  (KX:K.In s₁.heap) (hns:s₁.heap.Ns Q2 mg) (hb:s₁.heap.Ns builtinsNs mb) (hbb :∀x:Str,x≠"__name__"->mb x=N5 x) (hlim:s₁.heap.NoLimit) (hg:s₁.gens = #[])
  (ha:s₁.heap.get? a=some { cls:=.type "list",data:=.seq vs.toArray }) (hi:J5 vs ns) (hl:ns.length<=sizeLine) (hr:Room k j20)
  (F :∀base:Heap,K.In base->base.Ns Q2 mg->FnOk P w K mg base CX k fa fd [x] sp) (hbind :∀(s:C0) (u:Value),BindsTo s fd ⟨[u],[]⟩ [(x,u)])
  (hsp :∀H:Hp,Only H->SqL K H a (ns.map V.int)->sp [.ref a] H (λ v _=>v=.bl true) λ _ _ _=>False)
  (hCX :∀H e s',CX [] H s₁ (λ _ _ _=>False) e s'->False) :
  T5 (N1 P w) j20 (.call (.ref fa) ⟨[.ref a],[]⟩) (λ r s'=>r=.ok (.ret (.bool true))/\OldK s₁.heap s'.heap/\s'.os=s₁.os/\a9 s'.gens) s₁:=by
 have A:=zba hi;have N:=hi.length
 -- from an abstract heap in which nothing but the script may be tracked
 have B :∀H:Hp,Only H->SqL K H a (ns.map V.int)->HOk P w H s₁.heap->(∀b,H b≠none->b=a)->(H a≠none->K.lookup a=none)->
   T5 (N1 P w) j20 (.call (.ref fa) ⟨[.ref a],[]⟩) (λ r s'=>r=.ok (.ret (.bool true))/\OldK s₁.heap s'.heap/\s'.os=s₁.os/\a9 s'.gens) s₁:=by
  intro H j I l t J;have i :∀{b:Addr} {o:Obj},s₁.heap.get? b=some o->H b=none->(hidT s₁.heap H).get? b=some o:=λ e n=>zjp e n;have G :∀{b:Addr} {o:Obj} {es:Array DictEntry} {ep:Nat},s₁.heap.get? b=some o->o.data=.dict es ep->H b=none:=λ {b o es ep} e d=>by
   cases q:H b with
   | none=>rfl
   | some u=>have g:b=a:=t b (by rw [q];simp);subst g;rw [ha] at e;cases e;have M:Data.seq vs.toArray _=Data.dict es ep:=d;cases M
  have f :∀{b:Addr} {m:Str->Option Value},s₁.heap.Ns b m->(hidT s₁.heap H).Ns b m:=λ {b m} ⟨o,es,ep,e,d,r⟩=>⟨o,es,ep,i e (G e d),d,r⟩
  have p:K.In (hidT s₁.heap H):=λ b o e=>i (KX b o e) (by
   cases q:H b with
   | none=>rfl
   | some u=>have g:b=a:=t b (by rw [q];simp);subst g;rw [J (by rw [q];simp)] at e;cases e)
  have E:Mod K mg (hidT s₁.heap H):=⟨p,f hns,⟨mb,f hb,hbb⟩,let ⟨mc,h1,h2⟩:=hlim;⟨mc,f h1,h2⟩⟩
  have Q:Env0 P w K mg (hidT s₁.heap H) j20 [] s₁ H:=⟨rfl,E,λ b o e=>zla e,Nat.le_of_eq (zh4 _ _),trivial,λ b hb=>absurd (show b∈([]:List Addr) from hb) (by simp),l,.of_eq hg⟩
  refine Q6 ((F _ p (f hns)).run j20 [] s₁ H ⟨[.ref a],[]⟩ [.ref a] [.ref a] _ _ hr Q (hbind s₁ (.ref a)) (.cons rfl .nil) (hsp H j I)) λ r s' h=>?_;cases r with
  | error e=>exact (hCX H e s' h).elim
  | ok fl=>
   cases fl with
   | next=>exact X4 h
   | brk=>exact X4 h
   | cont=>exact X4 h
   | ret u=>
    obtain ⟨v,T,os,R,un,S,C,q⟩:=h;have O:v=.bl true:=q;subst O;obtain rfl:u=W9 true:=C;refine ⟨rfl,OldK.of_keep λ b o e=>?_,os,R⟩;cases q:H b with
    | none=>exact un.keep b o e q (by intro z;exact absurd (show b∈([]:List Addr) from z) (by simp)) (by simp)
    | some u=>
     rcases j b with z|⟨ob,xs,z⟩
     ·rw [q] at z;cases z
     ·have L:=un.frzs b ob _ z;obtain ⟨y,_⟩:=l b _ z;obtain ⟨D,_⟩:=S b _ L;rw [e] at y;cases y;exact D
 cases hk:K.lookup a with
 | some o=>
  -- the script is one of the module's own objects
  have e:=KX a o hk;rw [ha] at e;cases e;refine B (λ _=>none) (λ _=>.inl rfl) (.inr ⟨_,vs.toArray,_,hk,rfl,rfl,rfl,by rw [V0,N];exact hl,by simpa using A⟩) (λ b u z=>by have c:(none:Option HO)=some u:=z;cases c) (λ b z=>absurd rfl z) λ z=>absurd rfl z
 | none=>
  refine B (λ b=>if b=a then some (.frz { cls:=.type "list",data:=.seq vs.toArray } (.lst (ns.map V.int))) else none) (λ b=>?_) (.inl (.inr ⟨{ cls:=.type "list",data:=.seq vs.toArray },if_pos rfl⟩)) (λ b u z=>?_) (λ b z=>?_) λ _=>hk
  ·by_cases hb:b=a
   ·exact .inr ⟨_,_,if_pos hb⟩
   ·exact .inl (if_neg hb)
  ·by_cases hb:b=a
   ·have c:=(if_pos hb).symm.trans z;cases c;subst hb;exact ⟨ha,by rw [B0];exact hl,vs,_,A,ha⟩
   ·have c:=(if_neg hb).symm.trans z;cases c
  ·by_cases hb:b=a
   ·exact hb
   ·exact absurd (if_neg hb) z
theorem walk_of {l:PySem.W.OpenLaw} {n k:Nat} {q:Program} {loose:List Str} {XP:(Str->Option Value)->Heap->Prop} {YP:W0->Heap->Prop} {d:DefRec} {K:P0->j0} {CX:W0->CXT} {sp:W0->Sp} {x:Str}
  (hn:l.most=some n) (hn2:n<=sizeLine) (hdf:d.params.defaults=[]) (hr:Room k j20)
  (hY :∀(w:W0) (h:Heap),YP w h->(K w.params).In h)
  (F :∀(w:W0) (mg:Str->Option Value) (fa:Addr) (h:Heap),(K w.params).In h->h.Ns Q2 mg->mg d.name=some (.ref fa)->
   ∃fd:FuncData,(∀(s:C0) (u:Value),BindsTo s fd ⟨[u],[]⟩ [(x,u)])/\
    ∀base:Heap,(K w.params).In base->base.Ns Q2 mg->FnOk l.prog w (K w.params) mg base (CX w) k fa fd [x] (sp w))
  (hsp :∀(w:W0) (H:Hp) (a:Addr) (ns:List Int),ns.length<=n->Only H->SqL (K w.params) H a (ns.map V.int)->sp w [.ref a] H (λ v _=>v=.bl true) λ _ _ _=>False)
  (hCX :∀(w:W0) (H:Hp) (s:C0) (e:Value) (s':C0),CX w [] H s (λ _ _ _=>False) e s'->False) :
  PySem.W.WalkO q loose XP YP l.row.toRowW d [] (λ f vs=>PySem.call f vs):=by
 refine Att.attach_call hn hdf λ w E i mg M fa o L J D a vs ns G Y C B I y z j c r=>?_;have KX:=hY w _ Y;obtain ⟨fd,t,m⟩:=F w mg fa _ KX G.T.g y;exact zix KX G.T.g G.T.b G.T.builtins G.T.nolimit r z j (L0 c hn2) hr m t (λ H A p=>hsp w H a ns c A p) λ H e s'=>hCX w H i e s'
noncomputable def z9c (s:Stmt):Arguments:=match s with
 | .FunctionDef _ a _ _ _ _ _ _ _ _=>a
 | _=>{ posonlyargs:=[],args:=[],vararg:=none,kwonlyargs:=[],kw_defaults:=[],kwarg:=none,defaults:=[] }
noncomputable def z5r (s:Stmt):List Stmt:=match s with
 | .FunctionDef _ _ b _ _ _ _ _ _ _=>b
 | _=>[]
noncomputable def z07 (s:Stmt):Scope:=match s with
 | .FunctionDef _ _ _ _ _ _ sc _ _ _=>sc
 | _=>{ kind:=.function,names:=[],isGenerator:=false,isCoroutine:=false }
noncomputable abbrev CX0:CXT:=λ _ _ _ _ _ _=>False
noncomputable abbrev E0:XK:=λ _ _ _=>False
theorem pass0 {X:Cx}:Passes CX0 X E0:=λ _ _ _ _ _ _ _ h=>h.elim
structure Fun (K:j0) (x qual:Str) (st:Stmt) (f:Addr) (fd:FuncData):Prop where
 ex :∃(oc:Value) (od:Option Addr) (kV doc pm:Value) (an:Option Addr) (cdv ct:Value) (osl:Array (Option Value)),
  fd=T6 x qual (z9c st) (z5r st) (z07 st) .none kV doc pm an cdv ct/\K.lookup f=some ⟨oc,od,.func fd,osl⟩/\f9 K cdv qual=true
 kp:L5 K (.ref f)=true
section
variable {P:Program} {w:W0} {K:j0} {mg:Str->Option Value} {base:Heap}
theorem Fun.ok {x qual:Str} {st:Stmt} {f:Addr} {fd:FuncData} {N ps:List Str} {k:Nat} {sp:Sp} (F:Fun K x qual st f fd) (S:FnScope N ps (z07 st)) (len :∀vs H Q E,sp vs H Q E->vs.length=ps.length)
  (hbody :∀(cdv:Value) (A:P2) (outer:List Env) (s:C0) (H:Hp) (vs:List V) (Q:VK) (E:XK),Room k (A.deeper (Z4 qual (z07 st) s.heap.objs.size f cdv))->sp vs H Q E->
   ∃t,PSs (cxOf CX0 P w K mg base N qual (z07 st) f cdv A outer s H E).nox (z5r st) t/\t { nx:=λ _ H'=>Q .non H',rt:=Q } (start N vs) H):FnOk P w K mg base CX0 (k + 1) f fd ps sp:=by
 obtain ⟨g,e,kV,n,j,m,cdv,l,i,rfl,b,c⟩:=F.ex;refine fn_of b c S len λ A outer s H vs Q E a d=>?_;obtain ⟨t,h,q⟩:=hbody cdv A outer s H vs Q E a d;exact ⟨t,h.nox,q⟩
theorem Fun.binds {x qual:Str} {st:Stmt} {f:Addr} {fd:FuncData} {ps:List Str} (F:Fun K x qual st f fd)
  (h :∀(kV doc pm:Value) (an:Option Addr) (cdv ct:Value) (us:List Value),us.length=ps.length->bindArgs (T6 x qual (z9c st) (z5r st) (z07 st) .none kV doc pm an cdv ct) ⟨us,[]⟩=O4 (ps.zip us)):Binds K fd ps []:=by
 obtain ⟨b,a,kV,doc,pm,an,cdv,ct,c,rfl,d,e⟩:=F.ex;exact .all (h kV doc pm an cdv ct)
theorem fun_mk {x qual:Str} {st:Stmt} {f:Addr} {oc:Value} {od an:Option Addr} {osl:Array (Option Value)} {kV doc pm cdv ct:Value} (l:K.lookup f=some ⟨oc,od,.func (T6 x qual (z9c st) (z5r st) (z07 st) .none kV doc pm an cdv ct),osl⟩)
  (c:f9 K cdv qual=true) (k:L5 K (.ref f)=true):Fun K x qual st f (T6 x qual (z9c st) (z5r st) (z07 st) .none kV doc pm an cdv ct):=⟨⟨oc,od,kV,doc,pm,an,cdv,ct,osl,rfl,l,c⟩,k⟩
end
theorem hu_of {A:P2} {k:Nat} (hr:Room k A):A.units + 1 < cLine:=Y0 (Nat.add_le_add_left (by decide:1<=64) _) hr.units
section
variable {X:Cx}
theorem pv (i:Nat) {x:Str} {pos:Pos} (hN:X.N[i]? = some x:=by rfl) (hv:Vis X.env.scope x:=by first|exact Z1 rfl|exact Y1 (Z1 rfl)|exact Y1 (Y1 rfl)) (hd:(x == ("__debug__" : Str))=false:=by decide)
  (hcd:(x == ("__classdict__" : Str))=false:=by decide):PE X (.Name x pos) (tVar i):=pe_var hN hv hd hcd
end
theorem iteF {A B:Prop} (h:B):if false=true then A else B:=by rw [if_neg D1];exact h
theorem iteT {A B:Prop} (h:A):if true=true then A else B:=by rw [if_pos rfl];exact h
theorem ite2 {c A B:Prop} [Decidable c] (h1:c->A) (h2:¬ c->B):if c then A else B:=by
 by_cases h:c
 ·rw [if_pos h];exact h1 h
 ·rw [if_neg h];exact h2 h
def Same (H H':Hp):Prop:=∀b o,H b=some o->H' b=some o
theorem Same.refl (H:Hp):Same H H:=λ _ _ h=>h
theorem Same.trans {H H1 H2:Hp} (a:Same H H1) (b:Same H1 H2):Same H H2:=λ c o h=>b c o (a c o h)
theorem Same.free {H H':Hp} (e:Same H H') {l:Addr} (h:H' l=Option.none):H l=Option.none:=by
 cases q:H l with
 | none=>rfl
 | some o=>rw [e l o q] at h;cases h
theorem Same.seq {K:j0} {H H':Hp} {a:Addr} {xs:List V} (e:Same H H') (h:SqL K H a xs):SqL K H' a xs:=by
 rcases h with (h|⟨o,h⟩)|h
 ·exact .inl (.inl (e _ _ h))
 ·exact .inl (.inr ⟨o,e _ _ h⟩)
 ·exact .inr h
end L2
set_option maxHeartbeats 4000000
namespace L2
open PySem PySem.Spec PyProof.Rows
section
variable {prog:Program} {w:W0} {A:P2} {R:j2c->C0->Prop} {s:C0}
theorem zgq {elt target iter:Expr} {ifs:List Expr} {scope:Scope} {pos:Pos} {it acc:Value} {env:Env} (J:Nat->C0->Prop)
  (turn :∀n s,J n s->T0 (N1 prog w) A (n8 it) (λ r s₁=>match r with
   | none=>R (.ok .next) s₁
   | some v=>T0 (N1 prog w) A (S9 target it v) (λ _ s₂=>T0 (N1 prog w) A (assign target env v) (λ _ s₃=>
     T0 (N1 prog w) A (forIn ifs true λ c r=>if r=true then do let ok <-isTrue c env (Z3 c env);O4 (R4 ok) else O4 (R4 r)) (λ ok s₄=>
      if ok=true then T0 (N1 prog w) A (Z3 elt env) (λ x s₅=>T0 (N1 prog w) A (call (.builtin "list.append") [acc,x]) (λ _ s₆=>∃m,m < n/\J m s₆) (λ _ _=>False) s₅) (λ _ _=>False) s₄
      else∃m,m < n/\J m s₄) (λ _ _=>False) s₃) (λ _ _=>False) s₂) (λ _ _=>False) s₁) (λ _ _=>False) s)
  (n:Nat) (h:J n s):T5 (N1 prog w) A (.compLoop (.ListComp elt [⟨target,iter,ifs,0⟩] scope pos) 0 it acc env) R s:=by
 refine codeAny_loop rfl J (λ n s j=>?_) n h;show T0 _ A ((compTurn (.ListComp elt [⟨target,iter,ifs,0⟩] scope pos) 0 it acc env).onRaise (λ x=>do noteFrame x env;theTreesLotGoes x)) _ _ s;refine wpAny_noted ?_;rw [compTurn_list];refine o0 (wpAny_standAt (o0 (N4 (turn n s j) (λ r s₁ a=>?_) λ _ _ f=>f.elim)));cases r with
 | none=>exact F0 a
 | some v=>
  refine o0 (N4 a (λ _ s₂ i=>o0 (N4 i (λ _ s₃ d=>o0 (N4 d (λ ok s₄ b=>?_) λ _ _ f=>f.elim)) λ _ _ f=>f.elim)) λ _ _ f=>f.elim);cases ok with
  | false=>exact F0 ⟨rfl,b⟩
  | true=>exact o0 (o0 (N4 b (λ x s₅ e=>o0 (N4 e (λ _ s₆ g=>F0 (F0 ⟨rfl,g⟩)) λ _ _ f=>f.elim)) λ _ _ f=>f.elim))
end
theorem z3h {env:Env} :∀(names:List (Str×L6)) (acc:List (Str×Addr)),(∀y∈names,y.2=C2->∃c,env.cells.lookup y.1=some c)->(∀y c,acc.lookup y=some c->env.cells.lookup y=some c)->
  ∃cl,(forIn names acc λ (x:Str×L6) (r:List (Str×Addr))=>(match x with
    | (name,kind)=>if (kind == C2)=true then do let c <-cellOf env name;O4 (R4 ((name,c) :: r)) else O4 (R4 r):Sem (ForInStep (List (Str×Addr)))))=O4 cl/\
   (∀y c,cl.lookup y=some c->env.cells.lookup y=some c)/\(∀y,((y,C2)∈names\/∃c,acc.lookup y=some c)->∃c,cl.lookup y=some c)
 | [],acc,_,ha=>⟨acc,by rw [a8],ha,λ y h=>h.elim (λ z=>nomatch z) id⟩
 | (n,k) :: r,acc,hf,ha=>by
  rw [L7];dsimp only;by_cases hk:k=C2
  ·subst hk;obtain ⟨c,j⟩:=hf (n,.free) X1 rfl;have e:cellOf env n=O4 c:=by unfold cellOf;rw [j]
   rw [if_pos (by rfl),e];obtain ⟨cl,f,g,i⟩:=z3h r ((n,c) :: acc) (λ y a=>hf y (V1 _ a)) (λ y d b=>by
    rw [P5] at b;by_cases a:(y == n)=true
    ·rw [a] at b;have:=eq_of_beq a;subst this;cases b;exact j
    ·rw [j1d] at a;rw [a] at b;exact ha y d b)
   refine ⟨cl,f,g,λ y a=>i y ?_⟩;rcases a with a|⟨d,b⟩
   ·rcases List.mem_cons.mp a with z|z
    ·cases z;exact .inr ⟨c,by rw [P5];simp⟩
    ·exact .inl z
   ·refine .inr ?_;rw [P5];by_cases a:(y == n)=true
    ·rw [a];exact ⟨c,rfl⟩
    ·rw [j1d] at a;rw [a];exact ⟨d,b⟩
  ·rw [if_neg (by simpa using hk)];obtain ⟨cl,f,g,i⟩:=z3h r acc (λ y a=>hf y (V1 _ a)) ha;refine ⟨cl,f,g,λ y a=>i y ?_⟩;rcases a with a|a
   ·rcases List.mem_cons.mp a with z|z
    ·cases z;exact absurd rfl hk
    ·exact .inl z
   ·exact .inr a
theorem zdb {scope:Scope} {env:Env} (hf :∀y∈scope.names,y.2=C2->∃c,env.cells.lookup y.1=some c) :
  ∃cl,closureFor scope env=O4 cl/\(∀y c,cl.lookup y=some c->env.cells.lookup y=some c)/\(∀y,(y,C2)∈scope.names->∃c,cl.lookup y=some c):=by
 obtain ⟨cl,b,d,e⟩:=z3h (env:=env) scope.names [] hf (λ _ _ z=>nomatch z);refine ⟨cl,?_,d,λ y a=>e y (.inl a)⟩;simp only [closureFor];rw [b];rfl
theorem mem_of_lookup {κ:Type} {y:Str} {k:κ} :∀{l:List (Str×κ)},l.lookup y=some k->(y,k)∈l
 | (n,c) :: r,h=>by
  rw [P5] at h;by_cases hy:(y == n)=true
  ·rw [hy] at h;cases h;rw [eq_of_beq hy];exact X1
  ·rw [j1d] at hy;rw [hy] at h;exact V1 _ (mem_of_lookup h)
theorem z5j {scope:Scope} {env:Env} (hcell :∀y∈scope.names,y.2≠NameKind.cell) {y:Str} {k:L6} (h:(X8 scope env).names.lookup y=some k) (hk:k=.cell\/k=.free):(y,C2)∈scope.names:=by
 have m:=mem_of_lookup h;unfold X8 at m;obtain ⟨⟨n,c⟩,a,e⟩:=List.mem_map.mp m;dsimp only at e;by_cases hc:(c == C2)=true
 ·have:=eq_of_beq hc;subst this;split at e<;>(injection e with e1 e2;subst e1;exact a)
 ·rw [if_neg (by simp [hc])] at e;injection e with e1 e2;subst e1 e2;rcases hk with rfl|rfl
  ·exact absurd rfl (hcell _ a)
  ·exact absurd rfl hc
noncomputable abbrev cxComp (X:Cx) (scope:Scope) (cl:List (Str×Addr)) (N:List Str) (C:Addr) (s₂:C0) (H₂:Hp) (fp:List Addr):Cx:=
 { X with N:=N,s₀:=s₂,H₀:=H₂,env:=compEnvC scope cl C X.env,outer:=X.stack,stack:=X.stack,ex:=fp,fn:=λ _=>false,pn:=[],xe:=λ _ _=>False }
def PF (X:Cx) (ifs:List Expr) (t:TT):Prop:=
 ∀(pins:List (Addr×Obj)) (s:C0) (σ:St) (H:Hp) (Q:Bool->Hp->Prop),Inv X pins σ H s->t σ H Q->
  T0 (N1 X.prog X.w) X.A (forIn ifs true λ c r=>if r=true then do let ok <-isTrue c X.env (Z3 c X.env);O4 (R4 ok) else O4 (R4 r)) (TP X pins σ Q) X.xe s
theorem pf_nil {X:Cx}:PF X [] (λ _ H Q=>Q true H):=λ _ _ _ H _ I h=>wpAny_tests_nil ⟨H,I,h⟩
theorem pf_one {X:Cx} {c:Expr} {t:TT} (h:PT X c t):PF X [c] t:=λ a s σ H Q I q=>wpAny_tests_one (h a s σ H Q I q)
theorem Vals.snoc {xs:List V} {us:List Value} {x:V} {u:Value} (r:Vals xs us) (q:RelV x u):Vals (xs++[x]) (us++[u]):=Vals.append r (.cons q .nil)
def TagOf (H:Hp) (x:V) (T:String):Prop:=match x with
 | .non=>T = "NoneType"
 | .bl _=>T = "bool"
 | .int _=>T = "int"
 | .str _=>T = "str"
 | .ref a=>((∃xs,H a=some (.lst xs))/\T = "list")\/((∃xs,H a=some (.tup xs))/\T = "tuple")\/((∃kvs,H a=some (.dK kvs))/\T = "dict")
 | _=>False
noncomputable def instB (T C:String):Bool:=T == C || (T == "bool" && C == "int")
theorem TagOf.ty {K:j0} {H:Hp} {x:V} {T:String} (h:TagOf H x T):TyOf K H x (.type T):=by
 cases x with
 | non=>cases (show T = "NoneType" from h);exact .non
 | bl b=>cases (show T = "bool" from h);exact .bl b
 | int i=>cases (show T = "int" from h);exact .int i
 | str z=>cases (show T = "str" from h);exact .str z
 | ref a=>
  rcases h with ⟨⟨c,e⟩,rfl⟩|⟨⟨c,e⟩,rfl⟩|⟨⟨c,e⟩,rfl⟩
  ·exact .lst e
  ·exact .tup e
  ·exact .dK e
 | _=>exact h.elim
theorem TagOf.one {H:Hp} {x:V} {T:String} (h:TagOf H x T):T = "NoneType"\/T = "bool"\/T = "int"\/T = "str"\/T = "list"\/T = "tuple"\/T = "dict":=by
 cases x with
 | non=>exact .inl h
 | bl b=>exact .inr (.inl h)
 | int i=>exact .inr (.inr (.inl h))
 | str z=>exact .inr (.inr (.inr (.inl h)))
 | ref a=>rcases h with ⟨_,rfl⟩|⟨_,rfl⟩|⟨_,rfl⟩<;>simp
 | _=>exact h.elim
noncomputable def isiC:List String:=["int","str","bool","tuple","list"]
theorem kit_of (K:j0) {T C:String} (h:T = "NoneType"\/T = "bool"\/T = "int"\/T = "str"\/T = "list"\/T = "tuple"\/T = "dict") (hC:C∈isiC):PySem.W.kitOne K (.type T) (.type C)=some (instB T C):=by
 have hC:C = "int"\/C = "str"\/C = "bool"\/C = "tuple"\/C = "list":=by simpa [isiC] using hC
 rcases h with rfl|rfl|rfl|rfl|rfl|rfl|rfl<;>rcases hC with rfl|rfl|rfl|rfl|rfl<;>kernel_rfl
section
variable {X:Cx}
theorem z0l:CallR X (.builtin "isinstance") (λ xs H Q=>∃x C T,xs=[x,.ty C]/\TagOf H x T/\C∈isiC/\Q (.bl (instB T C)) H):=by intro g s σ H xs i Q I r h;obtain ⟨x,C,T,rfl,a,c,q⟩:=h;obtain ⟨u,b,rfl,f,d⟩:=vals2 r;cases (show b=N3 C from d);exact zgf I f a.ty (kit_of X.K a.one c) λ e=>⟨.bl _,H,I.tok e,rfl,q⟩
theorem zgg {ys:List V} {its:List Value} (rv:Vals ys its) (hb :∀y∈ys,∃b,y=V.bl b):((O0 its.length).all λ i=>decide (ys[i]? = some (V.bl true)))=ys.all λ y=>decide (y=V.bl true):=by
 have e:=rv.length;rw [Bool.eq_iff_iff,Q8,Q8];constructor
 ·intro h y d;obtain ⟨i,a,rfl⟩:=Q7 d;have:=h i (List.mem_range.mpr (by omega));simpa [a] using this
 ·intro h i a;have c:i < ys.length:=by have:=List.mem_range.mp a;omega
  have:=h ys[i] (J3 c);simpa [c] using this
theorem z30 (hc:X.calm=true):CallR X (.builtin "all") (λ xs H Q=>∃p ys,xs=[.ref p]/\SqL X.K H p ys/\(∀y∈ys,∃b,y=V.bl b)/\Q (.bl (ys.all λ y=>decide (y=V.bl true))) H):=by
 intro O s σ H xs P Q I r h;obtain ⟨p,ys,rfl,D,k,q⟩:=h;obtain ⟨u,rfl,E⟩:=vals1 r;cases E;obtain ⟨m,d,c,M⟩:=I.list D;have t:p≠s.heap.objs.size:=by obtain ⟨o,e,_⟩:=c.isList;exact Z0 (R0 e)
 refine call_all_walk (F6 c.isList ?_);refine ⟨s.heap.objs.size,_,_,_,_,_,λ i=>decide (ys[i]? = some (V.bl true)),rfl,Walks.list (show X.A.in1.handled=none from I.ok.hd hc) s.heap.objs.size p t m.toArray,⟨⟨_,C1 _ rfl,rfl,rfl⟩,c.isList.at λ o e=>G0 _ e⟩,?_,?_⟩
 ·intro i v L G N a n;have a:m[i]? = some v:=by simpa using a
  obtain ⟨C,e⟩:=List.getElem?_eq_some_iff.mp a;have f:i < ys.length:=by rw [d.length];exact C
  obtain ⟨b,j⟩:=k ys[i] (J3 f);obtain ⟨u,l,g⟩:=d.get (i:=i) (x:=ys[i]) (by simp [f]);rw [a] at l;cases l;rw [j] at g;cases (show v=W9 b from g);have:decide (ys[i]? = some (V.bl true))=b:=by rw [v0 f,j];cases b<;>simp
  exact T3 (this ▸ n)
 ·intro J w F;have e:=zgg d k;rw [<-V0] at e;refine ⟨.bl _,H,I.kept (t':=w) λ b o z=>F b o ?_ (G0 _ z),rfl,e.symm ▸ q⟩;intro B;rw [List.mem_singleton.mp B] at z;exact absurd (R0 z) (Q4 _)
def CDivB (i j:Int):Prop:=0 < j/\j < 2 ^ 64
theorem z63:OpR X (y6 .FloorDiv) (rI CDivB λ i j=>.int (i / j)):=opI λ i j _ _ _ _ _ a q=>by
 obtain ⟨b,c⟩:=a;refine floordiv_int (by omega) ?_ (.inl (PyProof.noPylong_of_log2 ?_))
 ·rw [Int.fdiv_eq_ediv_of_nonneg _ (by omega)];exact q
 ·have:j.natAbs.log2 < 64:=(Nat.log2_lt (by omega)).mpr (by omega);omega
structure KDict (K:j0) (P:P0) (a:Addr) (kvs:List (Str×V)):Prop where
 ex :∃es n,K.lookup a=some ⟨.type "dict",none,.dict es n,#[]⟩/\P9 (λ (p:Str×V) (e:DictEntry)=>(∃t,e.key=.str p.1 t)/\e.hash=g0 P p.1/\RelV p.2 e.val) kvs es.toList
 lo:(a == R5)=false
theorem zh2 {kvs:List (Str×V)} {P:P0} :∀{es:List DictEntry},P9 (λ (p:Str×V) (e:DictEntry)=>(∃t,e.key=.str p.1 t)/\e.hash=g0 P p.1/\RelV p.2 e.val) kvs es->∀z,
  RelO (kvs.lookup z) (findBy A8 es.toArray z):=by
 intro es r;induction r with
 | nil=>intro z;exact True.intro
 | @cons p e kvs es h t a=>
  intro z;obtain ⟨⟨g,d⟩,f,c⟩:=h;have a:=a z;unfold findBy at a⊢;rw [List.find?_toArray] at a⊢;rw [G5,P5];have b:A8 z e.key=(z == p.1):=by rw [d];show (p.1 == z)=_;rw [Bool.eq_iff_iff,beq_iff_eq,beq_iff_eq];exact ⟨λ q=>q.symm,λ q=>q.symm⟩
  cases hz:(z == p.1) with
  | true=>rw [b,hz];exact c
  | false=>rw [b,hz];exact a
theorem KDict.mapOf {a:Addr} {kvs:List (Str×V)} (D:KDict X.K X.w.params a kvs) {h:Heap} (k:X.K.In h) :∃f,h.MapOf (strKind X.prog X.w) a f/\∀z,RelO (kvs.lookup z) (f z):=by
 obtain ⟨b,n,d,r⟩:=D.ex;have c:PySem.W.KeysLit X.w.params b.toList:=by
  clear d D;generalize b.toList=l at r;induction r with
  | nil=>exact True.intro
  | cons h t ih=>obtain ⟨⟨i,c⟩,e,j⟩:=h;exact ⟨⟨_,i,c,e⟩,ih⟩
 have g :∀z,RelO (kvs.lookup z) (findBy A8 b.toList.toArray z):=zh2 r;exact ⟨_,PySem.W.mapOf_K (prog:=X.prog) k d c,λ z=>by simpa using g z⟩
theorem zjc {a:Addr} {kvs:List (Str×V)} (D:KDict X.K X.w.params a kvs):OpR X (E3 .In) (λ x y H Q=>∃z,x=.str z/\y=.ref a/\Q (.bl (kvs.lookup z).isSome) H):=by intro g s σ H x y v u Q I d c h;obtain ⟨z,rfl,rfl,q⟩:=h;obtain ⟨t,rfl⟩:=d;cases c;obtain ⟨f,e,b⟩:=D.mapOf I.kIn;refine wpAny_in_of (G9 X.prog X.w z t) D.lo e ⟨.bl _,H,I.tok _,rfl,?_⟩;have:=b z;rw [RelO.isSome_eq this] at q;exact q
theorem ix_kd {a:Addr} {kvs:List (Str×V)} (D:KDict X.K X.w.params a kvs):IxR X (λ x y H Q=>∃z v,x=.ref a/\y=.str z/\kvs.lookup z=some v/\Q v H):=by
 intro k m l s σ H x y v u Q I j d h g;obtain ⟨z,r,rfl,rfl,e,q⟩:=h;cases j;obtain ⟨t,rfl⟩:=d;obtain ⟨f,c,i⟩:=D.mapOf I.kIn;have b:=i z;rw [e] at b;cases ef:f z with
 | none=>rw [ef] at b;exact b.elim
 | some u=>rw [ef] at b;exact tail_any c.typeIs slot_dict_getitem.lookup (wpAny_getItem_of (G9 X.prog X.w z t) c ef ⟨r,H,I.tok _,b,q⟩) g
structure KDictT (K:j0) (P:P0) (a:Addr) (kvs:List ((Str×Str)×V)):Prop where
 ex :∃es n,K.lookup a=some ⟨.type "dict",none,.dict es n,#[]⟩/\P9 (λ (p:(Str×Str)×V) (e:DictEntry)=>(∃(b:Addr) (t t':Tok) (m:Nat),e.key=.ref b/\K.lookup b=some ⟨.type "tuple",none,.seq #[.str p.1.1 t,.str p.1.2 t'] m,#[]⟩)/\
  e.hash=U1 (A0 [g0 P p.1.1,g0 P p.1.2])/\RelV p.2 e.val) kvs es.toList
 nd:(kvs.map (·.1)).Nodup
 lo:(a == R5)=false
theorem zhe {prog:Program} {w:W0} {K:j0} {h:Heap} (k:K.In h) :∀{kvs:List ((Str×Str)×V)} {es:List DictEntry},
  P9 (λ (p:(Str×Str)×V) (e:DictEntry)=>(∃(b:Addr) (t t':Tok) (m:Nat),e.key=.ref b/\K.lookup b=some ⟨.type "tuple",none,.seq #[.str p.1.1 t,.str p.1.2 t'] m,#[]⟩)/\
   e.hash=U1 (A0 [g0 w.params p.1.1,g0 w.params p.1.2])/\RelV p.2 e.val) kvs es->
  ∃xs:List (List Str×Addr×Value),es=xs.map (entryOfKey (b7 (strKind prog w)))/\(∀x∈xs,(b7 (strKind prog w)).is h x.1 x.2.1)/\xs.map (·.1)=kvs.map (λ p=>[p.1.1,p.1.2])/\
   ∀a b,RelO (kvs.lookup (a,b)) ((j19 xs [a,b]).map (·.2)):=by
 intro kvs es r;induction r with
 | nil=>exact ⟨[],rfl,λ x f=>absurd f N0,rfl,λ a b=>True.intro⟩
 | @cons p e kvs es hpe t ih=>
  obtain ⟨xs,s,v,q,A⟩:=ih;obtain ⟨⟨b,D,C,m,l,y⟩,i,n⟩:=hpe;refine ⟨([p.1.1,p.1.2],b,e.val) :: xs,?_,?_,?_,?_⟩
  ·rw [L1,<-s];congr 1;obtain ⟨u,o,B⟩:=e;have l:o=.ref b:=l;have i:u=_:=i;subst l i;rfl
  ·intro x f;rcases List.mem_cons.mp f with rfl|f
   ·exact ⟨_,_,m,k _ _ y,rfl,rfl,.cons (G9 prog w _ _) (.cons (G9 prog w _ _) .nil)⟩
   ·exact v x f
  ·rw [L1,L1,q]
  ·intro c d;have:=A c d;rw [P5];unfold j19 at this⊢;rw [G5];by_cases hcd:(c,d)=p.1
   ·have j:((c,d) == p.1)=true:=by rw [beq_iff_eq];exact hcd
    rw [j];have g:decide ([p.1.1,p.1.2]=[c,d])=true:=by rw [<-hcd];simp
    rw [g];exact n
   ·have j:((c,d) == p.1)=false:=by rw [beq_eq_false_iff_ne];exact hcd
    rw [j];have g:decide ([p.1.1,p.1.2]=[c,d])=false:=by rw [decide_eq_false_iff_not];intro z;injection z with z1 z;injection z with z2 _;exact hcd (j51 z1.symm z2.symm)
    rw [g];exact this
theorem z6y :∀{l:List (Str×Str)},l.Nodup->(l.map λ p=>[p.1,p.2]).Nodup
 | [],_=>List.nodup_nil
 | p :: r,h=>by obtain ⟨a,b⟩:=List.nodup_cons.mp h;rw [L1];refine List.nodup_cons.mpr ⟨λ m=>a ?_,z6y b⟩;obtain ⟨q,c,e⟩:=List.mem_map.mp m;injection e with e1 e;injection e with e2 _;have:q=p:=j51 e1 e2;exact this ▸ c
theorem KDictT.dict {a:Addr} {kvs:List ((Str×Str)×V)} (D:KDictT X.K X.w.params a kvs) {h:Heap} (k:X.K.In h) :∃xs,h.DictOfH (b7 (strKind X.prog X.w)) a xs/\∀c d,RelO (kvs.lookup (c,d)) ((j19 xs [c,d]).map (·.2)):=by obtain ⟨e,n,g,r⟩:=D.ex;obtain ⟨xs,b,f,j,i⟩:=zhe (prog:=X.prog) (w:=X.w) k r;refine ⟨xs,⟨_,e,n,k _ _ g,⟨rfl,rfl,rfl⟩,rfl,b,f,?_⟩,i⟩;rw [j];have:=z6y D.nd;rw [V2] at this;exact this
theorem zlg {pins:List (Addr×Obj)} {σ:St} {H:Hp} {s:C0} {p:Addr} {c d:Str} (I:Inv X pins σ H s) (hp:H p=some (.tup [.str c,.str d])):(b7 (strKind X.prog X.w)).is s.heap [c,d] p:=by
 obtain ⟨_,h,a,⟨o,e,f,n,b⟩,_⟩:=(show ObjOk X.prog X.w H s.heap p (.tup [.str c,.str d]) from I.hok p _ hp)
 cases a with
 | cons r1 a=>
  cases a with
  | cons r2 a=>cases a;obtain ⟨g,rfl⟩:=r1;obtain ⟨i,rfl⟩:=r2;exact ⟨o,_,n,e,f,b,.cons (G9 X.prog X.w _ _) (.cons (G9 X.prog X.w _ _) .nil)⟩
theorem zan {a:Addr} {kvs:List ((Str×Str)×V)} (hu:X.A.units + 1 < cLine) (D:KDictT X.K X.w.params a kvs) :
  OpR X (E3 .NotIn) (λ x y H Q=>∃p c d,x=.ref p/\H p=some (.tup [.str c,.str d])/\y=.ref a/\Q (.bl (!(kvs.lookup (c,d)).isSome)) H):=by
 intro l s σ H x y v u Q I g f h;obtain ⟨p,c,d,rfl,b,rfl,q⟩:=h;cases g;cases f;obtain ⟨j,i,e⟩:=D.dict I.kIn;refine wpAny_notIn_heap (k:=[c,d]) hu (zlg I b) D.lo i ⟨.bl _,H,I.tok _,rfl,?_⟩;have:=RelO.isSome_eq (e c d);rw [p8] at this;rw [this] at q;exact q
end
structure Cal (P:Program) (w:W0) (K:j0) (mg:Str->Option Value) (base:Heap) (x:Str) (ps:List Str) (k:Nat) (sp:Sp):Prop where
 ex :∃f fd,FnOk P w K mg base CX0 k f fd ps sp/\mg x=some (.ref f)/\L5 K (.ref f)=true/\Binds K fd ps []
section
variable {X:Cx} {x:Str} {ps:List Str} {k:Nat} {sp:Sp} {e:Expr} {es:List Expr} {t:TA} {p pos:Pos}
theorem pe_cal (c:Cal X.prog X.w X.K X.mg X.base x ps k sp) (hr:Room k X.A) (hg:Gl X x) (ha:PA X (e :: es) t) (hn:x≠"__name__":=by decide) (hdb:(x == ("__debug__" : Str))=false:=by decide)
  (he:E1 (e :: es) X.env=(false,Z3 e X.env) :: E1 es X.env:=by rfl) (hpl:(V4 pos (E1 es X.env)).any (·.1)=false:=by rfl):PE X (.Call (.Name x p) (e :: es) [] pos) (tCall sp [] E0 t):=by
 obtain ⟨f,g,F,d,a,b⟩:=c.ex;exact zda F hr hg d a b .nil pass0 ha hdb he hpl
end
structure TX (K:j0) (mg:Str->Option Value):Prop where
 of :∀{n:Str} {v:Value},W3 K Q2 n=some (some v)->mg n=some v
 no :∀{n:Str},W3 K Q2 n=some none->mg n=none
theorem TX.mk' {K:j0} {mg:Str->Option Value} {h:Heap} (X:K.In h) (G:h.Ns Q2 mg):TX K mg:=⟨λ e=>PySem.W.mg_of X G e,λ e=>PySem.W.mg_none_of X G e⟩
section
variable {X:Cx}
noncomputable def rAdd4 (K:j0):R2:=λ x y H Q=>(∃i j,x=.int i/\y=.int j/\Q (.int (i + j)) H)\/(∃i j,x=.str i/\y=.str j/\i.length + j.length<=sizeLine/\Q (.str (i++j)) H)\/rCat x y H Q\/rCatT K x y H Q
theorem opAdd:OpR X (y6 .Add) (rAdd4 X.K):=op_add.or (op_add_str.or (op_cat.or zlm))
theorem opEq:OpR X (E3 .Eq) rEq:=op_eq
theorem opNe:OpR X (E3 .NotEq) rNe:=op_ne
theorem z0r:CallR X (.builtin "len") (λ xs H Q=>(∃p ys,xs=[.ref p]/\(SqL X.K H p ys\/SqT X.K H p ys)/\Q (.int ys.length) H)\/∃z,xs=[.str z]/\z.length<=sizeLine/\Q (.int z.length) H):=call_len_seq.or z9v
end
noncomputable def z0h (x:V) (g:Int):Bool:=match x with
 | .int i=>decide (-g<=i) && decide (i<=g)
 | _=>false
noncomputable def tupOf (H:Hp) (x:V):Option (List V):=match x with
 | .ref a=>(match H a with|some (.tup xs)=>some xs|_=>none)
 | _=>none
theorem ze7 {H H':Hp} {x:V} {T:String} (t:TagOf H x T) (e:Same H H'):tupOf H' x=tupOf H x:=by
 cases x with
 | ref a=>rcases t with ⟨⟨b,h⟩,_⟩|⟨⟨b,h⟩,_⟩|⟨⟨b,h⟩,_⟩<;>(unfold tupOf;dsimp only;rw [h,e a _ h])
 | _=>rfl
theorem TagOf.same {H H':Hp} {x:V} {T:String} (t:TagOf H x T) (e:Same H H'):TagOf H' x T:=by
 cases x with
 | ref a=>
  rcases t with ⟨⟨b,h⟩,z⟩|⟨⟨b,h⟩,z⟩|⟨⟨b,h⟩,z⟩
  ·exact .inl ⟨⟨b,e a _ h⟩,z⟩
  ·exact .inr (.inl ⟨⟨b,e a _ h⟩,z⟩)
  ·exact .inr (.inr ⟨⟨b,e a _ h⟩,z⟩)
 | _=>exact t
theorem TagOf.tuple {H:Hp} {x:V} (t:TagOf H x "tuple") :∃a xs,x=.ref a/\H a=some (.tup xs):=by
 cases x with
 | ref a=>
  rcases t with ⟨_,z⟩|⟨⟨xs,h⟩,_⟩|⟨_,z⟩
  ·exact absurd z (by decide)
  ·exact ⟨a,xs,rfl,h⟩
  ·exact absurd z (by decide)
 | non=>exact absurd (show "tuple" = "NoneType" from t) (by decide)
 | bl b=>exact absurd (show "tuple" = "bool" from t) (by decide)
 | int i=>exact absurd (show "tuple" = "int" from t) (by decide)
 | str z=>exact absurd (show "tuple" = "str" from t) (by decide)
 | _=>exact t.elim
theorem TagOf.int {H:Hp} {x:V} (t:TagOf H x "int") :∃i,x=.int i:=by
 cases x with
 | ref a=>rcases t with ⟨_,z⟩|⟨_,z⟩|⟨_,z⟩<;>exact absurd z (by decide)
 | non=>exact absurd (show "int" = "NoneType" from t) (by decide)
 | bl b=>exact absurd (show "int" = "bool" from t) (by decide)
 | int i=>exact ⟨i,rfl⟩
 | str z=>exact absurd (show "int" = "str" from t) (by decide)
 | _=>exact t.elim
theorem TagOf.str {H:Hp} {x:V} (t:TagOf H x "str") :∃z,x=.str z:=by
 cases x with
 | ref a=>rcases t with ⟨_,z⟩|⟨_,z⟩|⟨_,z⟩<;>exact absurd z (by decide)
 | non=>exact absurd (show "str" = "NoneType" from t) (by decide)
 | bl b=>exact absurd (show "str" = "bool" from t) (by decide)
 | int i=>exact absurd (show "str" = "int" from t) (by decide)
 | str z=>exact ⟨z,rfl⟩
 | _=>exact t.elim
theorem noInt {H:Hp} {x:V} {T:String} (t:TagOf H x T) (h:T≠"int") (g:Int):z0h x g=false:=by
 cases x with
 | int i=>exact absurd t h
 | _=>rfl
theorem noTup {H:Hp} {x:V} {T:String} (t:TagOf H x T) (h:T≠"tuple"):tupOf H x=none:=by
 cases x with
 | ref a=>
  rcases t with ⟨⟨b,e⟩,_⟩|⟨_,z⟩|⟨⟨b,e⟩,_⟩
  ·unfold tupOf;dsimp only;rw [e]
  ·exact absurd z h
  ·unfold tupOf;dsimp only;rw [e]
 | _=>rfl
theorem z5x {H:Hp} {x:V} {T:String} (t:TagOf H x T) {C:String} (h:C≠"int"):instB T C=decide (T=C):=by
 unfold instB;have:(C == "int")=false:=by simpa using h
 rw [this,j29,j02,Bool.beq_eq_decide_eq]
def Flat (H:Hp) (x:V):Prop:=∀xs,tupOf H x=some xs->xs.length<=1000/\∀y∈xs,∃T,TagOf H y T
theorem z68 {α β:Type} [BEq α] [LawfulBEq α] {l:List (α×β)} {a:α} {b:β} (h:l.lookup a=some b):(a,b)∈l:=by
 induction l with
 | nil=>cases h
 | cons p r ih=>
  obtain ⟨c,d⟩:=p;rw [P5] at h;cases hc:(a == c) with
  | true=>rw [hc] at h;cases h;rw [eq_of_beq hc];exact X1
  | false=>rw [hc] at h;exact V1 _ (ih h)
theorem zh0 {names:List (Str×L6)} {Q:Str×L6->Prop} (h:(names.all λ y=>y.2 != C2)=true) :∀y∈names,y.2=C2->Q y:=λ y a e=>by have:=List.all_eq_true.mp h y a;rw [e] at this;exact absurd this (by decide)
theorem Same.upd {H:Hp} {p:Addr} {o:HO} (h:H p=none):Same H (upd H p o):=λ b u e=>by rw [upd_ne (z0m e h)];exact e
theorem Same.seqT {K:j0} {H H':Hp} {a:Addr} {xs:List V} (e:Same H H') (h:SqT K H a xs):SqT K H' a xs:=by
 rcases h with (h|⟨o,h⟩)|h
 ·exact .inl (.inl (e _ _ h))
 ·exact .inl (.inr ⟨o,e _ _ h⟩)
 ·exact .inr h
theorem zef {H:Hp} {x:V} {xs:List V} (h:tupOf H x=some xs) :∃a,x=.ref a/\H a=some (.tup xs):=by
 unfold tupOf at h;cases x with
 | ref a=>
  dsimp only at h;split at h
  ·rename_i ys e;exact ⟨a,rfl,by rw [e,O2 h]⟩
  ·cases h
 | _=>cases h
end L2
namespace L2
open PySem PySem.Spec PyProof.Rows
open Builtin.Str (occurrences partsBetween strKind)
section
variable {X:Cx}
theorem zb7 {vl:Value} {lo:Option Int} (p:j1g vl lo) :∃l:Option (Int×Tok),vl=partValue l/\l.map (·.1)=lo:=by
 cases p with
 | none=>exact ⟨none,rfl,rfl⟩
 | int i t=>exact ⟨some (i,t),rfl,rfl⟩
end
end L2
namespace L2
open PySem PySem.Spec PyProof.Rows
section
variable {X:Cx}
def rSlS:V->Option Int->Option Int->Hp->VK->Prop:=λ x lo hi H Q=>∃z,x=.str z/\z.length<=sizeLine/\Q (.str (Txt.slice z lo hi)) H
theorem sl_str:SlR X rSlS:=by
 intro r s σ H x v j m n o p Q I f b e c h;obtain ⟨z,rfl,d,q⟩:=h;obtain ⟨t,rfl⟩:=f;obtain ⟨l,rfl,a⟩:=zb7 e;obtain ⟨u,rfl,g⟩:=zb7 c;subst a g;refine ⟨"str",_,F.slot_str_getitem.lookup,typeIs_str _ _ _,wpAny_getItem_str_slice (l:=l) (u:=u) (st:=none) b rfl
  (post_val_or_str ⟨L0 (Txt.slice_le z _ _) d,λ i k=>⟨.str (Txt.slice z _ _),H,I.tok k,⟨i,rfl⟩,q⟩⟩)⟩
theorem slSeq:SlR X (λ x lo hi H Q=>rSlL X.K x lo hi H Q\/rSlT X.K x lo hi H Q\/rSlS x lo hi H Q):=sl_list.or (sl_tup.or sl_str)
end
def RowAt (H:Hp) (r:Addr):Prop:=∃a b c:Int,H r=some (.lst [.int a,.int b,.int c])/\0<=c/\c < 536870909
def Kept (r:Addr) (H H':Hp):Prop:=∀b o,b≠r->H b=some o->H' b=some o
theorem Kept.refl {r:Addr} {H:Hp}:Kept r H H:=λ _ _ _ h=>h
theorem Kept.trans {r:Addr} {H H1 H2:Hp} (a:Kept r H H1) (b:Kept r H1 H2):Kept r H H2:=λ c o n h=>b c o n (a c o n h)
theorem Same.kept {r:Addr} {H H':Hp} (s:Same H H'):Kept r H H':=λ b o _ h=>s b o h
theorem Kept.set {r:Addr} {H:Hp} {o:HO}:Kept r H (upd H r o):=λ b u n h=>by rw [upd_ne n];exact h
structure Rw (r:Addr) (H H':Hp):Prop where
 k:Kept r H H'
 r:RowAt H' r
section
variable {r:Addr} {σ:St} {H0:Hp} {K:j0}
theorem zhu {ta:TA} {g:TG} {rest:TS} {D:Ends} {σ:St} {H:Hp} (h:tLst ta σ H λ x H1=>g x σ H1 (rest D)):tSeq (tAsg (tLst ta) g) rest D σ H:=h
theorem g_name {i:Nat} {v:V} {σ:St} {H:Hp} {Q:St->Hp->Prop} (h:Q (σ.set i (some v)) H):gName i v σ H Q:=h
theorem t_nx {nx ct bk:St->Hp->Prop} {rt:VK} {σ:St} {H:Hp} (h:nx σ H):Ends.nx { nx:=nx,rt:=rt,bk:=bk,ct:=ct } σ H:=h
end
end L2
namespace L2
open PySem
section
variable {prog:Program} {w:W0} {A:P2} {E:Value->C0->Prop} {s:C0}
structure ZApart (z T U i j a b:Addr):Prop where
 dis:[z,T,U,i,j].Nodup
 fa:a∉[z,T,U,i,j]
 fb:b∉[z,T,U,i,j]
structure ZAt (h:Heap) (z T U i j a b:Addr) (n:Nat) (f:Value):Prop where
 z:IsZip h z T U f
 t:IsPair h T (.ref i) (.ref j)
 u :∃p q,IsPair h U p q
 i:h.IsTupleIter i a n
 j:h.IsTupleIter j b n
end
end L2
namespace L2
open PySem PySem.Spec PyProof.Rows
inductive Dt where
 | non|bl (b:Bool)|int (i:Int)|str (z:Str)|tup (ds:List Dt)
mutual
noncomputable def IsDt (K:j0) (H:Hp):Dt->V->Prop
 | .non,v=>v=.non
 | .bl b,v=>v=.bl b
 | .int i,v=>v=.int i
 | .str z,v=>v=.str z
 | .tup ds,v=>∃a xs,v=.ref a/\SqT K H a xs/\IsDts K H ds xs
noncomputable def IsDts (K:j0) (H:Hp):List Dt->List V->Prop
 | [],xs=>xs=[]
 | d :: ds,xs=>∃x r,xs=x :: r/\IsDt K H d x/\IsDts K H ds r
end
mutual
noncomputable def Dt.deep:Dt->Nat
 | .tup ds=>Dt.deeps ds + 1
 | _=>0
noncomputable def Dt.deeps:List Dt->Nat
 | []=>0
 | d :: ds=>max d.deep (Dt.deeps ds)
noncomputable def Dt.plain:Dt->Bool
 | .int _=>true
 | .str _=>true
 | .tup ds=>Dt.plains ds
 | _=>false
noncomputable def Dt.plains:List Dt->Bool
 | []=>true
 | d :: ds=>d.plain && Dt.plains ds
end
section
variable {X:Cx}
theorem Inv.turnedL {pins:List (Addr×Obj)} {σ:St} {H:Hp} {s:C0} {h':Heap} {t':Nat} {fp:List Addr} (I:Inv X pins σ H s) (k :∀b o,b∉fp->s.heap.get? b=some o->h'.get? b=some o) (hf :∀b∈fp,FpOk X pins H b) :
  Inv X pins σ H { s with heap:=h',toks:=t' }:=by
 have f :∀b u,H b=some u->b∉fp:=λ b u e z=>by have:=(hf b z).1;rw [this] at e;cases e
 refine I.step (g':=s.gens) (d':=s.drawn) (ch:=fp) (λ b d=>⟨(hf b d).2.2.2.1,(hf b d).2.1,(hf b d).2.2.2.2.1,(hf b d).2.2.2.2.2⟩) (λ b o _ _ a e _=>k b o a e) (λ b o _ _ a e _=>⟨o.slots,k b o a e⟩) (λ _ _ _ _ n=>n)
  (λ b o a e=>⟨o,k b o a e⟩) (λ _ _ e=>e) (λ _ _ _ e=>e) (λ b l e=>⟨#[],by rw [e];simp⟩) (λ m j=>?_) (λ b u e=>?_) I.bare
 ·obtain ⟨o,g,h,i,r⟩:=j;exact ⟨o,g,h,k _ o (λ z=>(hf _ z).2.1 rfl) i,r⟩
 ·refine (I.hok b u e).stay (λ c v a q=>k c v ?_ q) (λ _ q=>q) λ _ _ q=>q;rcases a with z|z
  ·rw [z];exact f b u e
  ·exact f c _ z
theorem Inv.turnedLaid {pins:List (Addr×Obj)} {σ:St} {H:Hp} {s:C0} {h':Heap} {t':Nat} {fp:List Addr} {a:Addr} {o:HO} (I:Inv X pins σ H s) (k :∀b o,b∉fp->s.heap.get? b=some o->h'.get? b=some o) (hf :∀b∈fp,FpOk X pins H b)
  (hp:s.heap.objs.size<=a) (new:ObjOk X.prog X.w (upd H a o) h' a o):Inv X pins σ (upd H a o) { s with heap:=h',toks:=t' }:=by
 have p:H a=none:=I.hok.fresh hp;have h :∀b u,H b=some u->b∉fp:=λ b u e z=>by have:=(hf b z).1;rw [this] at e;cases e
 have g :∀b u,H b=some u->upd H a o b=some u:=λ b u e=>by rw [upd_ne (z0m e p)];exact e
 refine I.step (g':=s.gens) (d':=s.drawn) (ch:=fp) (λ b f=>⟨(hf b f).2.2.2.1,(hf b f).2.1,(hf b f).2.2.2.2.1,(hf b f).2.2.2.2.2⟩) (λ b o _ _ d e _=>k b o d e) (λ b o _ _ d e _=>⟨o.slots,k b o d e⟩)
  (λ b u _ e n=>by rw [upd_ne (λ z=>by subst z;exact absurd (R0 e) (Nat.not_lt.mpr hp))];exact n)
  (λ b o d e=>⟨o,k b o d e⟩) (λ _ _ e=>g _ _ e) (λ _ _ _ e=>g _ _ e) (λ b y e=>⟨#[],by rw [g _ _ e];simp⟩) (λ m t=>?_) (λ b u e=>?_) I.bare
 ·obtain ⟨o,i,j,l,r⟩:=t;exact ⟨o,i,j,k _ o (λ z=>(hf _ z).2.1 rfl) l,r⟩
 ·by_cases f:b=a
  ·subst f;rw [z04] at e;cases e;exact new
  ·rw [upd_ne f] at e;refine (I.hok b u e).stay (λ c v d q=>k c v ?_ q) (λ c q=>g _ _ q) λ c x q=>g _ _ q;rcases d with z|z
   ·rw [z];exact h b u e
   ·exact h c _ z
theorem z0v {o e:Expr} {es:List Expr} {to:TE} {t:TA} {apos cpos:Pos} (ho:PE X o to) (ha:PA X (e :: es) t)
  (hbase:E5 o "append" X.env (Z3 o X.env)=Z3 o X.env:=by rfl)
  (hfew:((V4 cpos (E1 (e :: es) X.env)).all (λ x=>!x.1) && (v9 cpos (f7 [] X.env)).all (λ x=>x.1.isSome)
   && decide ((e :: es).length + ([]:List R6).length + (if ([]:List R6).isEmpty then 0 else 1) < 30))=true:=by rfl)
  (hline:(apos.endLine == cpos.line)=true:=by rfl) (hs:E1 (e :: es) X.env=(false,Z3 e X.env) :: E1 es X.env:=by rfl) (hplain:(V4 cpos (E1 es X.env)).any (·.1)=false:=by rfl) :
  PE X (.Call (.Attribute o "append" apos) (e :: es) [] cpos) (tBM X.K "list" zhn to t):=pe_bm N6 PySem.F.slot_list_append PySem.F.type_list_append zg7 ho ha hbase hfew hline hs hplain
end
theorem iteP {c A B:Prop} [Decidable c] (hc:c) (h:A):if c then A else B:=by rw [if_pos hc];exact h
theorem iteN {c A B:Prop} [Decidable c] (hc:¬ c) (h:B):if c then A else B:=by rw [if_neg hc];exact h
theorem ze1 {names:List (Str×L6)} {n:Str} {Q:Str×L6->Prop} (h:(names.all λ y=>y.2 != C2 || y.1 == n)=true) (q :∀k,Q (n,k)) :∀y∈names,y.2=C2->Q y:=λ y c e=>by
 have:=List.all_eq_true.mp h y c;rw [e] at this;have:(y.1 == n)=true:=by simpa using this
 obtain ⟨a,b⟩:=y;rw [beq_iff_eq] at this;have:a=n:=this;subst this;exact q b
theorem ObjOk.there {P:Program} {w:W0} {H:Hp} {h:Heap} {a:Addr} {o:HO} (x:ObjOk P w H h a o) :∃ob,h.get? a=some ob:=by
 cases o with
 | lst xs=>obtain ⟨_,_,_,_,e⟩:=x;exact ⟨_,e⟩
 | tup xs=>obtain ⟨_,_,_,⟨o,e,_⟩,_⟩:=x;exact ⟨_,e⟩
 | dK kvs=>obtain ⟨_,_,_,_,o,_,_,e,_⟩:=x;exact ⟨_,e⟩
 | dT kvs=>obtain ⟨_,_,_,_,o,_,_,e,_⟩:=x;exact ⟨_,e⟩
 | set S n=>obtain ⟨o,_,_,_,e,_⟩:=x;exact ⟨_,e⟩
 | ins C dx fs=>obtain ⟨_,_,_,e,_⟩:=x;exact ⟨_,e⟩
 | own y=>exact x
 | xd fs=>obtain ⟨_,⟨o,_,_,e,_⟩,_⟩:=x;exact ⟨_,e⟩
 | rng lo hi=>obtain ⟨_,_,_,e⟩:=x;exact ⟨_,e⟩
 | frz ob u=>obtain ⟨e,_⟩:=x;exact ⟨_,e⟩
 | tbl ps=>exact ⟨_,show h.get? a=some _ from x⟩
 | met f y=>exact ⟨_,show h.get? a=some _ from x⟩
 | ext φ=>exact x.2.1
noncomputable def CXE (P:Program) (w:W0) (base:Heap):CXT:=λ outer H s E e s'=>∃(ea:Addr) (cls a0:Value) (B:Heap) (H':Hp),e=.ref ea/\s'.os=s.os/\a9 s'.gens/\Un (frs outer) [] H H' s.heap s'.heap/\HOk P w H' s'.heap/\H' ea=none/\
 base.StaysIn B/\Heap.FlyingW B outer ea cls a0 s'.heap/\(∀b o,s'.heap.get? b=some o->b∉frs outer->((∃u,H' b=some u)\/∃u,s.heap.get? b=some u)->B.get? b=some o)/\E cls none H'
theorem passN {X:Cx}:Passes (CXE X.prog X.w X.base) X E0:=λ _ _ _ _ _ _ _ ⟨_,_,_,_,_,_,_,_,_,_,_,_,_,_,z⟩=>z.elim
theorem zde {env:Env} {l:List Env} {L:Addr} (h:env.frame=some L):frs (env :: l)=L :: frs l:=by unfold frs;rw [O5,h]
section
variable {P:Program} {w:W0} {K:j0} {mg:Str->Option Value} {base:Heap} {N:List Str} {qual:Str} {scope:Scope} {f:Addr} {cd:Value} {A:P2} {outer:List Env} {s:C0} {H:Hp} {E:XK}
theorem passE:Passes (CXE P w base) (cxOf (CXE P w base) P w K mg base N qual scope f cd A outer s H E) E:=by
 intro a7 σ Z x e r I c;obtain ⟨ea,a3,a0,B,C,rfl,os,a4,un,Y,S,hB,X,keep,hE⟩:=c;have R:frs (Z4 qual scope s.heap.objs.size f cd :: outer)=s.heap.objs.size :: frs outer:=zde rfl;have kp :∀b o,r.heap.get? b=some o->b∉s.heap.objs.size :: frs outer->((∃u,C b=some u)\/∃u,x.heap.get? b=some u)->B.get? b=some o:=λ b o e a D=>keep b o e (by rw [show frs (cxOf (CXE P w base) P w K mg base N qual scope f cd A outer s H E).stack=_ from R];exact a) D;have l:Un (s.heap.objs.size :: frs outer) [] Z C x.heap r.heap:=R ▸ un;have i:Un (frs outer) [] H Z s.heap x.heap:=I.base;have Q :∀b o,s.heap.get? b=some o->b≠s.heap.objs.size:=λ b o e=>Z0 (R0 e);have a1 :∀b∈s.heap.objs.size :: frs outer,C b=none:=λ b a=>by
  rcases List.mem_cons.mp a with rfl|a
  ·obtain ⟨m,S,_⟩:=I.loc;obtain ⟨o,_,_,L,_⟩:=S;exact l.free _ o L I.free (by simp)
  ·obtain ⟨_,o,L,_⟩:=I.ok.funs.mem a;obtain ⟨p,G⟩:=i.there b o L (by simp);exact l.free b p G (i.free b o L (I.ok.frf b a) (by simp)) (by simp)
 show T0 (N1 P w) _ («leaving» _ _) _ _ r;refine wpAny_leaves_onW I.ok.frames rfl X λ F T up=>?_;have stay :∀b o,r.heap.get? b=some o->b∉s.heap.objs.size :: frs outer->((∃u,C b=some u)\/∃u,x.heap.get? b=some u)->F.get? b=some o:=λ b o e a D=>T.1 b o (kp b o e a D);have V :∀b o,b∈frs outer->r.heap.get? b=some o->∃U,F.get? b=some { o with slots:=U }:=λ b o a e=>by
  obtain ⟨_,p,G,hd⟩:=X.2.2.1.mem (show b∈(Z4 qual scope s.heap.objs.size f cd :: outer).filterMap (·.frame) from by show b∈frs (Z4 qual scope s.heap.objs.size f cd :: outer);rw [R];exact V1 _ a);rw [e] at G;cases G;exact up b o e hd
 have there :∀b o,s.heap.get? b=some o->∃j k,x.heap.get? b=some j/\r.heap.get? b=some k:=λ b o e=>by obtain ⟨j,d⟩:=i.there b o e (by simp);obtain ⟨k,h⟩:=l.there b j d (by simp);exact ⟨j,k,d,h⟩
 refine ⟨ea,a3,a0,B,C,rfl,os.trans I.os,a4,⟨λ b o e n a _=>?_,λ b o e n a _=>?_,λ b o e n _=>?_,λ b o e _=>?_,λ b xs e=>l.tups b xs (i.tups b xs e),λ b o u e=>l.frzs b o u (i.frzs b o u e),λ b ps e=>?_⟩,λ b u e=>?_,S,hB,T,λ b o e a D=>?_,hE⟩
 ·have d:=i.keep b o e n a (by simp);have J:b∉s.heap.objs.size :: frs outer:=λ z=>(List.mem_cons.mp z).elim (Q b o e) a;exact stay b o (l.keep b o d (i.free b o e n (by simp)) J (by simp)) J (.inr ⟨o,d⟩)
 ·obtain ⟨U,d⟩:=i.slot b o e n a (by simp);obtain ⟨a6,h⟩:=l.slot b _ d (i.free b o e n (by simp)) (V1 _ a) (by simp);obtain ⟨a2,O⟩:=V b _ a h;exact ⟨a2,O⟩
 ·obtain ⟨j,k,d,h⟩:=there b o e;exact l.free b j d (i.free b o e n (by simp)) (by simp)
 ·obtain ⟨j,k,d,h⟩:=there b o e;by_cases a:b∈frs outer
  ·obtain ⟨U,O⟩:=V b k a h;exact ⟨_,O⟩
  ·exact ⟨k,stay b k h (λ z=>(List.mem_cons.mp z).elim (Q b o e) a) (.inr ⟨j,d⟩)⟩
 ·obtain ⟨m1,d⟩:=i.tbls b ps e;obtain ⟨m2,h⟩:=l.tbls b _ d;exact ⟨m1++m2,by rw [h,Array.append_assoc]⟩
 ·refine (Y b u e).stay (λ c v y q=>stay c v q ?_ (.inl ?_)) (λ _ q=>q) λ _ _ q=>q
  ·intro z;have:=a1 c z;rcases y with rfl|y
   ·rw [e] at this;cases this
   ·rw [y] at this;cases this
  ·rcases y with rfl|y
   ·exact ⟨u,e⟩
   ·exact ⟨_,y⟩
 ·have W :∀p,r.heap.get? b=some p->b∉s.heap.objs.size :: frs outer->((∃u,C b=some u)\/∃u,x.heap.get? b=some u)->B.get? b=some o:=λ p M J a5=>by have g:=kp b p M J a5;have:=T.1 b p g;rw [show ({ r with heap:=F }:C0).heap.get? b=F.get? b from rfl,this] at e;cases e;exact g
  rcases D with ⟨u,t⟩|⟨u,t⟩
  ·obtain ⟨p,M⟩:=(Y b u t).there;refine W p M (λ z=>?_) (.inl ⟨u,t⟩);rw [a1 b z] at t;cases t
  ·obtain ⟨j,k,d,h⟩:=there b u t;exact W k h (λ z=>(List.mem_cons.mp z).elim (Q b u t) a) (.inr ⟨j,d⟩)
theorem raiseE {pins:List (Addr×Obj)} {σ:St} {H1:Hp} {s1:C0} {h':Heap} {ea C:Addr} {args:List Value} (I:Inv (cxOf (CXE P w base) P w K mg base N qual scope f cd A outer s H E) pins σ H1 s1) (hx:Heap.MadeExcOf s1.heap h' ea (.ref C) args) (hE:E (.ref C) none H1) :
  (cxOf (CXE P w base) P w K mg base N qual scope f cd A outer s H E).xe (.ref ea) { s1 with heap:=h' }:=by
 have p:frs (Z4 qual scope s.heap.objs.size f cd :: outer)=s.heap.objs.size :: frs outer:=zde rfl;have h:Un (frs outer) [] H H1 s.heap s1.heap:=I.base;have D :∀b o,s.heap.get? b=some o->b≠s.heap.objs.size:=λ b o e=>Z0 (R0 e);have r:s1.heap.FunFrames base (Z4 qual scope s.heap.objs.size f cd :: outer):=I.stack;have Y :∀x∈(Z4 qual scope s.heap.objs.size f cd :: outer),∀a,x.frame=some a->a∈s.heap.objs.size :: frs outer:=λ x Z a R=>by rw [<-p];exact List.mem_filterMap.mpr ⟨x,Z,R⟩
 have Q :∀b∈s.heap.objs.size :: frs outer,H1 b=none:=λ b d=>by have:=I.stkFree b (by rw [show frs (cxOf (CXE P w base) P w K mg base N qual scope f cd A outer s H E).stack=_ from p];exact d);exact this
 have a0:base.StaysIn (j13 s1.heap (s.heap.objs.size :: frs outer)):=λ b o e=>E7 _ (I.bk b o e) λ hm=>by have:=(r.mem (show b∈(Z4 qual scope s.heap.objs.size f cd :: outer).filterMap (·.frame) from (show b∈frs (Z4 qual scope s.heap.objs.size f cd :: outer) from by rw [p];exact hm))).1;rw [e] at this;cases this
 show T0 (N1 P w) _ («leaving» _ _) _ _ _;refine wpAny_leaves_madeW (s:={ s1 with heap:=h' }) I.ok.frames rfl (λ b o q=>j4b _ q) (PySem.W.funFrames_hide r Y) hx λ m t F _ _ V=>?_;have stay :∀b o,s1.heap.get? b=some o->b∉s.heap.objs.size :: frs outer->m.get? b=some o:=λ b o e d=>F.1 b o (E7 _ e d);have L :∀b o,b∈frs outer->s1.heap.get? b=some o->∃J,m.get? b=some { o with slots:=J }:=λ b o d e=>by
  obtain ⟨_,k,O,T⟩:=r.mem (show b∈(Z4 qual scope s.heap.objs.size f cd :: outer).filterMap (·.frame) from by show b∈frs (Z4 qual scope s.heap.objs.size f cd :: outer);rw [p];exact V1 _ d);rw [e] at O;cases O;exact V b o (hx.keeps b o e) T
 have U:H1 ea=none:=by
  cases q:H1 ea with
  | none=>rfl
  | some u=>obtain ⟨o,e⟩:=(I.hok ea u q).there;rw [hx.new] at e;cases e
 refine ⟨ea,.ref C,.ref t,_,H1,rfl,I.os,I.bare,⟨λ b o e n d _=>?_,λ b o e n d _=>?_,λ b o e n _=>h.free b o e n (by simp),λ b o e _=>?_,h.tups,h.frzs,h.tbls⟩,λ b u e=>?_,U,a0,F,λ b o e d X=>?_,hE⟩
 ·exact stay b o (h.keep b o e n d (by simp)) λ z=>(List.mem_cons.mp z).elim (D b o e) d
 ·obtain ⟨J,j⟩:=h.slot b o e n d (by simp);obtain ⟨a1,y⟩:=L b _ d j;exact ⟨a1,y⟩
 ·obtain ⟨l,j⟩:=h.there b o e (by simp);by_cases d:b∈frs outer
  ·obtain ⟨J,y⟩:=L b l d j;exact ⟨_,y⟩
  ·exact ⟨l,stay b l j λ z=>(List.mem_cons.mp z).elim (D b o e) d⟩
 ·refine (I.hok b u e).stay (λ c v G q=>stay c v q λ z=>?_) (λ _ q=>q) λ _ _ q=>q;have:=Q c z;rcases G with rfl|G
  ·rw [e] at this;cases this
  ·rw [G] at this;cases this
 ·have M :∀k,s1.heap.get? b=some k->b∉s.heap.objs.size :: frs outer->(j13 s1.heap (s.heap.objs.size :: frs outer)).get? b=some o:=λ k B S=>by have g:=E7 _ B S;have:=F.1 b k g;rw [show ({ s1 with heap:=m }:C0).heap.get? b=m.get? b from rfl,this] at e;cases e;exact g
  rcases X with ⟨u,i⟩|⟨u,i⟩
  ·obtain ⟨k,B⟩:=(I.hok b u i).there;refine M k B λ z=>?_;rw [Q b z] at i;cases i
  ·obtain ⟨l,j⟩:=h.there b u i (by simp);exact M l j λ z=>(List.mem_cons.mp z).elim (D b u i) d
end
theorem PS.nox {X:Cx} {st:Stmt} {t:TS} (h:PS X.nox st t):PS X st t:=λ b s σ H D I a=>N4 (h b s σ H D (I.wish _) a) (λ _ _ q=>q.unwish) λ _ _ z=>X4 z
theorem own_in {K:j0} {h₀:Heap} {mg:Str->Option Value} {x:Str} {C:Addr} {bmB:List Value} {newId:String} (X:K.In h₀) (hm:mg x=some (.ref C)) (q:C9 K C bmB newId=true):OwnCls x C bmB newId mg h₀:=by
 refine ⟨hm,?_⟩;unfold C9 at q;split at q
 ·rename_i dd cd sl ho;split at q
  ·rename_i C' bm k0 k1 k2 k3 n k5 hm' hs;simp only [A5,beq_iff_eq,Bool.not_eq_true'] at q;obtain ⟨⟨⟨⟨⟨rfl,rfl⟩,c⟩,f⟩,a⟩,b⟩:=q;obtain ⟨h,bs,m,j,i,g,d,sub,k,e,o⟩:=cd;obtain ⟨l⟩:=sl;dsimp only at hm' c a b hs;subst hm' c hs;exact ⟨bm,j,h,i,bs,g,d,sub,k,e,dd,k0,k1,k2,k3,k5,_,X _ _ ho,.of_isNs (PySem.W.isNs_of_in X a),PySem.W.nsMap_none_of_in X a b,PySem.W.tail_of_in X f⟩
  ·cases q
 ·cases q
noncomputable def tRaise (C:Addr) (E:XK) (t:TA):TS:=λ _ σ H=>t σ H λ vs H1=>vs.length<=sizeLine/\E (.ref C) none H1
section
variable {P:Program} {w:W0} {K:j0} {mg:Str->Option Value} {base:Heap} {N:List Str} {qual:Str} {scope:Scope} {f:Addr} {cd:Value} {A:P2} {outer:List Env} {s:C0} {H:Hp} {E:XK}
theorem z7u {x:Str} {C:Addr} {B newId initId:String} {bm:List Value} {e0:Expr} {es:List Expr} {np cpos pos:Pos} {t:TA} (FB:ExcBaseFacts B newId initId bm) (hm:mg x=some (.ref C)) (hK:C9 K C bm newId=true)
  (hg:Gl (cxOf (CXE P w base) P w K mg base N qual scope f cd A outer s H E) x) (ha:PA (cxOf (CXE P w base) P w K mg base N qual scope f cd A outer s H E) (e0 :: es) t)
  (hdb:(x == ("__debug__" : Str))=false:=by decide)
  (he:E1 (e0 :: es) (Z4 qual scope s.heap.objs.size f cd)=(false,Z3 e0 (Z4 qual scope s.heap.objs.size f cd)) :: E1 es (Z4 qual scope s.heap.objs.size f cd):=by rfl)
  (hpl:(V4 cpos (E1 es (Z4 qual scope s.heap.objs.size f cd))).any (·.1)=false:=by rfl) :
  PS (cxOf (CXE P w base) P w K mg base N qual scope f cd A outer s H E) (.Raise (some (.Call (.Name x np) (e0 :: es) [] cpos)) none pos) (tRaise C E t):=by
 intro l g σ i D I h;have O:OwnCls x C bm newId mg base:=own_in I.ok.mod.kin hm hK;obtain ⟨d,j,nm,q,bs,hdct,sn,sub,ab,col,dd,k0,k1,k2,k3,k5,mN,e,c,b,T⟩:=O.obj;have a:=ha cpos l g σ i _ I h;refine wpAny_Raise_call_subT (C:=C) (nm:=nm) (q:=q) (N:=j) (bs:=bs) (bm:=d) (hdct:=hdct) (sn:=sn) (sub:=sub) (ab:=ab) (col:=col) (dd:=dd) (k0:=k0) (k1:=k1) (k2:=k2) (k3:=k3) (k5:=k5)
  FB (mN:=mN) (T.hasType FB.hasBase) (I.ok.hd rfl) (by show (V4 cpos (E1 (e0 :: es) (Z4 qual scope s.heap.objs.size f cd))).any (·.1)=false;rw [he];show (false || (V4 cpos (E1 es (Z4 qual scope s.heap.objs.size f cd))).any (·.1))=false;rw [hpl];rfl) b (zc1 I hg O.bound ⟨rfl,?_⟩ hdb)
 have k:E1 (e0 :: es) (cxOf (CXE P w base) P w K mg base N qual scope f cd A outer s H E).env=(false,Z3 e0 (Z4 qual scope s.heap.objs.size f cd)) :: E1 es (Z4 qual scope s.heap.objs.size f cd):=he;rw [k] at a⊢;exact y9 (N4 a (λ p m ⟨vs,H2,I2,r,hl,hE⟩=>⟨rfl,by rw [<-r.length];exact hl,I2.bk _ _ e,c.keeps I2.bk,T.keeps I2.bk,λ n o hm=>raiseE I2 hm hE⟩) λ _ _ y=>y)
theorem Fun.okE {x qual:Str} {st:Stmt} {f:Addr} {fd:FuncData} {N ps:List Str} {k:Nat} {sp:Sp} (F:Fun K x qual st f fd) (S:FnScope N ps (z07 st)) (len :∀vs H Q E,sp vs H Q E->vs.length=ps.length)
  (hbody :∀(cdv:Value) (A:P2) (outer:List Env) (s:C0) (H:Hp) (vs:List V) (Q:VK) (E:XK),Room k (A.deeper (Z4 qual (z07 st) s.heap.objs.size f cdv))->sp vs H Q E->
   ∃t,PSs (cxOf (CXE P w base) P w K mg base N qual (z07 st) f cdv A outer s H E) (z5r st) t/\t { nx:=λ _ H'=>Q .non H',rt:=Q } (start N vs) H):FnOk P w K mg base (CXE P w base) (k + 1) f fd ps sp:=by
 obtain ⟨g,e,kV,m,i,l,cdv,j,h,rfl,b,c⟩:=F.ex;exact fn_of b c S len λ A outer s H vs Q E a d=>hbody cdv A outer s H vs Q E a d
end
structure CalE (P:Program) (w:W0) (K:j0) (mg:Str->Option Value) (base:Heap) (x:Str) (ps:List Str) (k:Nat) (sp:Sp):Prop where
 ex :∃f fd,FnOk P w K mg base (CXE P w base) k f fd ps sp/\mg x=some (.ref f)/\L5 K (.ref f)=true/\Binds K fd ps []
section
variable {X:Cx} {x:Str} {ps:List Str} {k:Nat} {sp:Sp} {e:Expr} {es:List Expr} {t:TA} {p pos:Pos}
theorem zl4 (c:CalE X.prog X.w X.K X.mg X.base x ps k sp) (hr:Room k X.A) (hg:Gl X x) (ha:PA X (e :: es) t) (hn:x≠"__name__":=by decide) (hdb:(x == ("__debug__" : Str))=false:=by decide)
  (he:E1 (e :: es) X.env=(false,Z3 e X.env) :: E1 es X.env:=by rfl) (hpl:(V4 pos (E1 es X.env)).any (·.1)=false:=by rfl):PE X (.Call (.Name x p) (e :: es) [] pos) (tCall sp [] E0 t):=by
 obtain ⟨f,g,F,d,a,b⟩:=c.ex;exact zda F hr hg d a b .nil passN ha hdb he hpl
theorem zk1 {E:XK} (hx:Passes (CXE X.prog X.w X.base) X E) (c:CalE X.prog X.w X.K X.mg X.base x ps k sp) (hr:Room k X.A) (hg:Gl X x) (ha:PA X (e :: es) t) (hn:x≠"__name__":=by decide) (hdb:(x == ("__debug__" : Str))=false:=by decide)
  (he:E1 (e :: es) X.env=(false,Z3 e X.env) :: E1 es X.env:=by rfl) (hpl:(V4 pos (E1 es X.env)).any (·.1)=false:=by rfl):PE X (.Call (.Name x p) (e :: es) [] pos) (tCall sp [] E t):=by
 obtain ⟨f,g,F,d,a,b⟩:=c.ex;exact zda F hr hg d a b .nil hx ha hdb he hpl
end
end L2
set_option maxHeartbeats 400000
namespace L2
open PySem PySem.Spec PyProof.Rows PySem.W PySem.Calls PySem.Builtin PySem.Builtin.ObjectAttr PySem.Builtin.Getset_descriptor
end L2
namespace L2
open PySem PySem.Spec PyProof.Rows PySem.W
end L2
namespace L2
open PySem PySem.Spec PyProof.Rows
end L2
set_option maxHeartbeats 4000000
namespace L2
open PySem PySem.Spec PyProof.Rows
noncomputable def cStG (σ:St) (fr:List (Nat×Str)) (us:List (Option V)):St:=us++fr.map λ p=>(σ[p.1]?).join
noncomputable def tCompG (wi:TI) (n:Nat) (fr:List (Nat×Str)) (g:TG) (tc:TT) (te:TE):TE:=λ σ H Q=>wi σ H λ J H1=>∃W:Nat->Nat->List V->Hp->Prop,(∃m,W 0 m [] H1)/\∀i m ys H,W i m ys H->
 (J.stop i H/\ys.length<=sizeLine/\∀p,H p=none->Q (.ref p) (upd H p (.lst ys)))\/
 (J.go i H/\ys.length<=sizeLine/\∀v H',J.yld i H v H'->g v (cStG σ fr (F1 n none)) H' λ σ6 H6=>∃us,us.length=n/\σ6=cStG σ fr us/\tc (cStG σ fr us) H6 λ b H2=>if b=true then te (cStG σ fr us) H2 λ y H3=>∃m',m' < m/\W (i + 1) m' (ys++[y]) H3 else∃m',m' < m/\W (i + 1) m' ys H2)
section
variable {X:Cx}
theorem zj4 {scope:Scope} {cl:List (Str×Addr)} {N:List Str} {C:Addr} {s₂:C0} {H₂:Hp} {fp:List Addr} {x:Str} {px:Pos} (i:Nat) (hN:N.Nodup) (hi:N[i]? = some x) (hx:scope.names.lookup x=some .local):PG (cxComp X scope cl N C s₂ H₂ fp) (.Name x px) (gName i):=
 z0s hN hi (.inl (lookup_relabel_local hx)) (.inr (lookup_relabel_local hx))
theorem zek {xs:List Str} {tg:Expr} {g:TG} {pos:Pos} {elt iter:Expr} {ifs:List Expr} {scope:Scope} {fr:List (Nat×Str)} {wi:TI} {tc:TT} {te:TE} {use:Option (Value->Sem Unit)} {QQ:Value->C0->Prop} {pins:List (Addr×Obj)} {s:C0} {σ:St} {H:Hp} {Q:VK} {pp:Pos} (hcalm:X.calm=true) (hi:PI X tg iter wi)
  (hfr :∀p∈fr,X.N[p.1]? = some p.2/\(X.env.kindOf p.2=some .cell\/X.env.kindOf p.2=some .free))
  (hfree :∀y∈scope.names,y.2=C2->X.env.kindOf y.1=some .cell\/X.env.kindOf y.1=some .free)
  (hfs :∀p∈fr,(p.2,C2)∈scope.names/\((X8 scope X.env).names.lookup p.2=some .cell\/(X8 scope X.env).names.lookup p.2=some .free))
  (hcell :∀y∈scope.names,y.2≠NameKind.cell) (hkind:scope.kind=.function) (hnames :∀y∈scope.names,y.2=NameKind.local->scope.names.lookup y.1=some .local)
  (hg :∀cl C s₂ H₂ fp,PG (cxComp X scope cl (xs++fr.map (·.2)) C s₂ H₂ fp) tg g)
  (ht :∀cl C s₂ H₂ fp,PF (cxComp X scope cl (xs++fr.map (·.2)) C s₂ H₂ fp) ifs tc) (he :∀cl C s₂ H₂ fp,PE (cxComp X scope cl (xs++fr.map (·.2)) C s₂ H₂ fp) elt te)
  (hs :∀x,A7 iter X.env x=O4 x) (I:Inv X pins σ H s) (h:tCompG wi xs.length fr g tc te σ H Q)
  (hend :∀(D:Addr) (s4:C0) (H4:Hp),Inv X pins σ H4 s4->(∃m,s4.heap.Ns (D + 1) m)->H4 (D + 1)=none->D + 1≠X.env.locals->X.s₀.heap.objs.size<=D + 1->(D + 1∉X.fs/\(∀x c,X.env.cells.lookup x=some c->c≠D + 1)/\∀p∈X.pn++pins,p.1≠D + 1)->Q (.ref D) H4->compPost (N1 X.prog X.w) X.A X.xe use QQ (.ref D) (D + 1) (.ok .next) s4) :
  T0 (N1 X.prog X.w) X.A (comprehension (.ListComp elt [⟨tg,iter,ifs,0⟩] scope pos) scope X.env pp (newList []) false (firstIter [⟨tg,iter,ifs,0⟩] X.env) use) QQ X.xe s:=by
 obtain ⟨cl,g0,U,b6⟩:=zdb (scope:=scope) (env:=X.env) λ y P hk=>I.ok.has y.1 (hfree y P hk);refine wpAny_comprehension_free (use:=use) rfl hs g0 hkind hnames (thn (hi pins s σ H _ I h) λ xv s₁ h₁=>thn h₁ λ g1 s₂ h₂=>?_);obtain ⟨it,fp,tn,J,O,e,f,T,b7,L,W,⟨m0,w0⟩,e8⟩:=h₂;subst e
 -- the list that is filled,the block's names
 refine G6 (wpAny_newFunctionEnv hcell (by intro y P;simp at P) (λ h₁ a4 a2=>?_) hkind);dsimp only at a4 a2⊢;generalize hD:s₂.heap.objs.size=D at a4 a2⊢;generalize hG:s₂.heap.push { cls:=.type "list",dict:=none,data:=.seq ([]:List Value).toArray }=G at a4 a2⊢;have hC:G.objs.size=D + 1:=by rw [<-hG,W6,hD]
 generalize hCC:G.objs.size=C at a4 a2 hC⊢;subst hC;have a8 :∀b∈fp,b < D:=λ b a=>by obtain ⟨o,e,_⟩:=T.obj _ _ b7 b a;rw [<-hD];exact R0 e
 have a3 :∀b o,s₂.heap.get? b=some o->h₁.get? b=some o:=λ b o e=>a2.extBut b o (Z0 (U2 (by rw [<-hD];exact R0 e))) (G0 _ (hG ▸ G0 _ e));have f8:G.get? D=some { cls:=.type "list",dict:=none,data:=.seq ([]:List Value).toArray }:=by rw [<-hG,<-hD];exact C1 _ rfl
 have d4:h₁.PlainList D #[]:=⟨0,a2.extBut _ _ (Z0 (O3 D)) (G0 _ f8)⟩
 have e4 :∀y c,cl.lookup y=some c->c < D:=λ y c e=>by obtain ⟨v,q⟩:=f.cell y c (U y c e);rw [<-hD];exact q.lt
 have d8 :∀b∈frs X.stack,b < D:=λ b a=>by
  rcases List.mem_cons.mp (f.stkSub b a) with e|a
  ·rw [e,<-hD];exact f.lt
  ·rw [<-hD];exact Nat.lt_of_not_le λ z=>f.nofs z a
 have c9 :∀b∈fp,b∉frs X.stack:=λ b a e0=>by
  rcases List.mem_cons.mp (f.stkSub b e0) with e|z
  ·exact (L b a).2.1 e
  ·exact (L b a).2.2.1 z
 generalize hX':cxComp X scope cl (xs++fr.map (·.2)) (D + 1) s₂ O fp=X';have f7:X'.Ok:=by
  subst hX';refine ⟨f.ok.mod,hkind,f.ok.glob,f.ok.blt,(by show s₂.heap.objs.size<=D + 1;omega),λ y z c R M=>f.ok.inj y z c (U _ _ R) (U _ _ M),λ y P=>?_,(λ _ _ z=>Bool.noConfusion z),f.ok.hd,f.ok.frames,.inl rfl,λ b a=>⟨?_,λ y c e=>?_⟩,λ b o e=>f.bs b o e,?_,λ b o e a=>?_,c9,f.env0.funs,f.stkFree⟩
  ·rcases P with P|P
   ·exact b6 y (z5j hcell P (.inl rfl))
   ·exact b6 y (z5j hcell P (.inr rfl))
  ·exact Z0 (U2 (a8 b a))
  ·exact (L b a).2.2.2.2.1 y c (U y c e)
  ·exact L0 f.ok.bsz f.sz
  ·rcases (L b a).2.2.2.1 with z|z
   ·exact f.ok.noex b o e z
   ·exact absurd (F2 (R0 (f.ok.bs b o e).1) z) (Q4 _)
 have a0:X'.env.locals=D + 1:=by subst hX';rfl
 have a6:X'.env.cells=cl:=by subst hX';rfl
 have a9:X'.fs=frs X.stack:=by subst hX';rfl
 have b5:X'.pn=[]:=by subst hX';rfl
 have a5:X'.s₀=s₂:=by subst hX';rfl
 have c2:X'.H₀=O:=by subst hX';rfl
 have b2:X'.ex=fp:=by subst hX';rfl
 have d0:X'.N=xs++fr.map (·.2):=by subst hX';rfl
 have c1:X'.A=X.A:=by subst hX';rfl
 have F:X'.prog=X.prog/\X'.w=X.w/\X'.K=X.K/\X'.calm=true:=by subst hX';exact ⟨rfl,rfl,rfl,hcalm⟩
 have b4:X'.xe=λ _ _=>False:=by subst hX';rfl
 have c5:X'.env=compEnvC scope cl (D + 1) X.env:=by subst hX';rfl
 have d5:PF X' ifs tc:=hX' ▸ ht cl (D + 1) s₂ O fp;have f1:PE X' elt te:=hX' ▸ he cl (D + 1) s₂ O fp;have e7:PG X' tg g:=hX' ▸ hg cl (D + 1) s₂ O fp;have fresh :∀b,D<=b->O b=none:=λ b a=>f.hok.fresh (by rw [hD];exact a);have start :∀t,Inv X' [] (cStG σ fr (F1 xs.length none)) O { s₂ with heap:=h₁,toks:=t }:=λ t=>by
  refine ⟨f7,by rw [a5],f.bare,?_,⟨_,by rw [a0];exact a4,λ i y v R M e3=>?_⟩,λ y c e=>?_,by rw [a0];exact fresh _ (K3 _),λ y c e=>?_,λ p B=>?_,?_,?_⟩
  ·rw [a9,b2,c2,a5];exact Un.kept a3
  ·rw [d0] at R;by_cases a1:i < xs.length
   ·exfalso;unfold cStG at M;rw [K1 (by rw [Y2];exact a1),P8,if_pos a1] at M;cases M
   ·have a1:xs.length<=i:=j1e a1;rw [A1 a1,K0] at R;unfold cStG at M;rw [A1 (by rw [Y2];exact a1),Y2,K0] at M;generalize i - xs.length=i at R M;cases ej:fr[i]? with
    | none=>rw [ej] at R;cases R
    | some p=>
     rw [ej] at R;obtain rfl:p.2=y:=O2 R;have a7:(σ[p.1]?).join=some v:=by rw [ej] at M;exact O2 M
     have f9:σ[p.1]? = some (some v):=by
      cases q:σ[p.1]? with
      | none=>rw [q] at a7;cases a7
      | some z=>rw [q] at a7;exact congrArg some a7
     have B:=O1 ej;obtain ⟨m,hn,hl⟩:=f.loc;obtain ⟨u,r,l⟩:=hl p.1 p.2 v (hfr p B).1 f9 (by rcases (hfr p B).2 with z|z;exact .inr (.inl z);exact .inr (.inr z));refine ⟨u,r,.inr ⟨?_,?_⟩⟩
     ·rw [c5];exact (hfs p B).2
     ·rcases l with ⟨z,_⟩|⟨_,c,ec,q⟩
      ·exfalso;rcases (hfr p B).2 with z'|z'<;>(rw [z] at z';cases z')
      ·obtain ⟨c',c4⟩:=b6 p.2 (hfs p B).1;have:=U _ _ c4;rw [ec] at this;cases this;obtain ⟨o,ho,hd⟩:=q;exact ⟨c,by rw [a6];exact c4,o,a3 _ _ ho,hd⟩
  ·rw [a6] at e;obtain ⟨v,o,ho,hd⟩:=f.cell y c (U y c e);exact ⟨v,o,a3 _ _ ho,hd⟩
  ·rw [a6] at e;exact f.freeC y c (U y c e)
  ·rw [b5] at B;exact nomatch B
  ·rw [F.1,F.2.1];exact f.hok.kept a3
  ·rw [d0];unfold cStG;simp
 have FP :∀{pins':List (Addr×Obj)} {H':Hp},(∀b∈fp,H' b=none)->(∀p∈pins',p.1=D)->∀b∈fp,FpOk X' pins' H' b:=λ hn B b a=>by
  refine ⟨hn b a,?_,?_,.inl (by rw [b2];exact a),λ y c e=>?_,λ p c6=>?_⟩
  ·rw [a0];exact Z0 (U2 (a8 b a))
  ·rw [a9];exact c9 b a
  ·rw [a6] at e;exact (L b a).2.2.2.2.1 y c (U y c e)
  ·rw [b5] at c6;rw [B p c6];exact J4 (a8 b a)
 -- the turns
 have loop :∀s₃:C0,s₃={ s₂ with heap:=h₁,toks:=s₂.toks + ([]:List (Str×Value)).length }->
   T5 (N1 X.prog X.w) X.A (.compLoop (.ListComp elt [⟨tg,iter,ifs,0⟩] scope pos) 0 (.ref it) (.ref D) (compEnvC scope cl (D + 1) X.env))
    (compPost (N1 X.prog X.w) X.A X.xe use QQ (.ref D) (D + 1)) s₃:=by
  rintro s₃ rfl;rw [<-c5,<-F.1,<-F.2.1,<-c1];refine zgq (λ k s'=>∃i ys its H',Inv X' [] (cStG σ fr (F1 xs.length none)) H' s'/\tn i s'.heap/\(∀b∈fp,H' b=none)/\s'.heap.PlainList D its.toArray/\Vals ys its/\H' D=none/\W i k ys H') ?_ m0
   ⟨0,[],[],O,start _,T.keep _ _ _ b7 λ b a o e=>a3 b o e,λ b a=>(L b a).1,d4,.nil,fresh _ (J0 _),w0⟩
  rintro n s3 ⟨i,ys,its,H3,I3,st3,fr3,ac3,rv3,hD3,w3⟩;obtain ⟨na,d9⟩:=id ac3;have c3:Inv X' [(D,{ cls:=.type "list",data:=.seq its.toArray na })] (cStG σ fr (F1 xs.length none)) H3 s3:=I3.pins_of λ p B=>by rw [List.mem_singleton] at B;subst B;refine ⟨d9,hD3,by rw [a0];exact Z0 (O3 D),by rw [a9];exact λ z=>Q4 _ (d8 D z),λ v z=>nomatch z⟩
  have hT:=T;rw [<-F.1,<-F.2.1,<-F.2.2.1] at hT;rcases e8 i n ys H3 w3 with ⟨stop,b9,qn⟩|⟨go,b9,step⟩
  ·refine thn (hT.done X' rfl rfl rfl F.2.2.2 i _ s3 _ H3 _ c3 (FP fr3 (by intro p B;rw [List.mem_singleton.mp B])) st3 stop) λ r s4 ⟨hr,I4⟩=>?_;subst hr;obtain ⟨m4,f0,_⟩:=id I4.loc;obtain ⟨Z,c8⟩ :∃Z,Z=s4.heap:=⟨_,rfl⟩
   have c7:T7 (D + 1) s4.heap Z:=by rw [c8];exact ⟨rfl,λ _ _=>rfl⟩
   have e5:D≠D + 1:=Z0 (O3 D);have f3:=(I4.pin (D,_) (R1 _ X1))
   have f5:Z.get? D=some { cls:=.type "list",data:=.seq its.toArray na }:=(c7.2 D e5).trans f3.1;have un:Un (frs X.stack) fp O H3 s₂.heap s4.heap:=by have:=I4.base;rw [a9,b2,c2,a5] at this;exact this
   have kp :∀b o,b≠D + 1->s4.heap.get? b=some o->Z.get? b=some o:=λ b o a e=>(c7.2 b a).trans e;have b0 :∀b o,s₂.heap.get? b=some o->b≠D + 1/\b≠D:=λ b o e=>by have:=R0 e;rw [hD] at this;exact ⟨Z0 (U2 this),Z0 this⟩
   have d7:Un (frs X.stack) fp O (upd H3 D (.lst ys)) s₂.heap Z:=by
    refine ⟨λ b o e n a Y=>kp b o (b0 b o e).1 (un.keep b o e n a Y),λ b o e n a Y=>?_,λ b o e n Y=>by rw [upd_ne (b0 b o e).2];exact un.free b o e n Y,λ b o e Y=>?_,λ b xs e=>?_,λ b o u e=>?_,λ b ps e=>?_⟩
    ·obtain ⟨sl,z⟩:=un.slot b o e n a Y;exact ⟨sl,kp _ _ (b0 b o e).1 z⟩
    ·obtain ⟨o',z⟩:=un.there b o e Y;exact ⟨o',kp _ _ (b0 b o e).1 z⟩
    ·rw [upd_ne (z0m e (fresh D (J0 _)))];exact un.tups b xs e
    ·rw [upd_ne (z0m e (fresh D (J0 _)))];exact un.frzs b o u e
    ·rw [upd_ne (z0m e (fresh D (J0 _)))];exact un.tbls b ps e
   have b8:H3 (D + 1)=none:=by have:=I4.free;rw [a0] at this;exact this
   have f6:HOk X.prog X.w (upd H3 D (.lst ys)) Z:=λ b u e=>by
    by_cases a:b=D
    ·subst a;rw [z04] at e;cases e;exact ⟨b9,its,na,rv3,f5⟩
    ·rw [upd_ne a] at e;have z:=I4.hok b u e;rw [F.1,F.2.1] at z;refine z.stay (λ c v hc q=>kp c v ?_ q) (λ c q=>by rw [upd_ne (z0m q hD3)];exact q) λ c xs q=>by rw [upd_ne (z0m q hD3)];exact q
     rintro rfl;rcases hc with rfl|hc
     ·rw [b8] at e;cases e
     ·rw [b8] at hc;cases hc
   subst c8;have I5:Inv X pins σ (upd H3 D (.lst ys)) s4:=f.call' (s':=s4) (ch:=fp) (by have:=I4.os;rw [a5] at this;exact this) d7 f6 I4.bare (λ b a=>⟨(L b a).2.2.2.1,(L b a).2.1,(L b a).2.2.2.2.1,(L b a).2.2.2.2.2⟩);show compPost (N1 X'.prog X'.w) X'.A X.xe use QQ (.ref D) (D + 1) (.ok .next) s4;rw [F.1,F.2.1,c1];refine hend D s4 _ I5 ⟨m4,a0 ▸ f0⟩ ?_ ?_ ?_ ?_ (qn D hD3)
   ·rw [upd_ne (J4 (O3 D))];exact b8
   ·exact J4 (U2 (by rw [<-hD];exact f.lt))
   ·exact L0 f.sz (by rw [hD];exact K3 D)
   ·refine ⟨λ z=>f.nofs (by rw [hD];exact K3 D) z,λ y c e=>?_,λ p B=>?_⟩
    ·obtain ⟨v,q⟩:=f.cell y c e;exact Z0 (U2 (by rw [<-hD];exact q.lt))
    ·exact Z0 (U2 (by rw [<-hD];exact R0 (f.pin p B).1))
  ·refine thn (hT.item X' rfl rfl rfl F.2.2.2 i _ s3 _ H3 _ c3 (FP fr3 (by intro p B;rw [List.mem_singleton.mp B])) st3 go) λ r s4 ⟨u,hr,h4⟩=>?_;subst hr;refine thn h4 λ _ s5 ⟨v,H5,I5,r5,y5,st5,fr5⟩=>?_;have d6:=I5.pinned (FP fr5 (by intro p B;rw [List.mem_singleton.mp B])) (T.obj _ _ st5);have g5:=e7 _ s5 (cStG σ fr (F1 xs.length none)) H5 v u _ d6 r5 (step v H5 y5);rw [b4] at g5;refine thn g5 λ _ s6 ⟨σ6,H6,I6,us,hus,e6,q6⟩=>?_;subst e6;have t6:=d5 _ s6 _ H6 _ I6 q6;rw [b4] at t6;refine thn t6 λ ok s7 ⟨H7,I7,q7⟩=>?_;have d2 :∀{H8:Hp} {E:C0} {ys':List V} {its':List Value} {pl:List (Addr×Obj)},Inv X' (pl++pinsAt fp s5.heap) (cStG σ fr us) H8 E->E.heap.PlainList D its'.toArray->Vals ys' its'->H8 D=none->(∃m',m' < n/\W (i + 1) m' ys' H8)->
     ∃m,m < n/\∃i ys its H',Inv X' [] (cStG σ fr (F1 xs.length none)) H' E/\tn i E.heap/\(∀b∈fp,H' b=none)/\E.heap.PlainList D its.toArray/\Vals ys its/\H' D=none/\W i m ys H':=λ {H8 E ys' its' pl} S c0 rv8 b1 ⟨m',hm,w8⟩=>by
    refine ⟨m',hm,i + 1,ys',its',H8,(S.pins_of (pins':=[]) (λ p B=>absurd B N0)).weak (by unfold cStG;simp [hus]) ?_,T.keep _ _ _ st5 λ b a o e=>(S.pin (b,o) (R1 _ (R1 _ (z3v a e)))).1,λ b a=>?_,c0,rv8,b1,w8⟩
    ·intro j z e;unfold cStG at e⊢;by_cases hj:j < xs.length
     ·rw [K1 (by rw [Y2];exact hj),P8,if_pos hj] at e;cases e
     ·have hj:xs.length<=j:=j1e hj;rw [A1 (by rw [Y2];exact hj),Y2] at e;rw [A1 (by rw [hus];exact hj),hus];exact e
    ·obtain ⟨o,e,d⟩:=T.obj _ _ st5 b a;exact (S.pin (b,o) (R1 _ (R1 _ (z3v a e)))).2.1
   have b3 :∀{H8:Hp} {E:C0} {σ8:St},Inv X' ([(D,{ cls:=.type "list",data:=.seq its.toArray na })]++pinsAt fp s5.heap) σ8 H8 E->E.heap.PlainList D its.toArray/\H8 D=none:=λ S=>
    have z:=S.pin (D,_) (R1 _ (F7 _ X1))
    ⟨⟨na,z.1⟩,z.2.1⟩
   cases ok with
   | false=>rw [if_neg D1] at q7⊢;exact d2 I7 (b3 I7).1 rv3 (b3 I7).2 q7
   | true=>
    rw [if_pos rfl] at q7⊢;have t7:=f1 _ s7 _ H7 _ I7 q7;rw [b4] at t7;refine thn t7 λ y E ⟨vy,H8,S,r8,q8⟩=>?_;obtain ⟨c0,b1⟩:=b3 S;refine wpAny_list_append_plain (hsz:=by have:=rv3.length;rw [V0,<-this];exact b9) c0 λ h9 d1 d3=>?_;have I9:Inv X' ([]++pinsAt fp s5.heap) (cStG σ fr us) H8 E:=S.pins_of λ p B=>(S.pin p (R1 _ (R1 _ B)))
    have f4:Inv X' ([]++pinsAt fp s5.heap) (cStG σ fr us) H8 { E with heap:=h9 }:=by
     refine I9.turned (t':=E.toks) (it:=D) (λ b o a e=>(d3.2 b a).trans e) b1 (by rw [a0];exact Z0 (O3 D)) (.inr (by rw [a5,hD];exact J0 _)) (λ y' c e=>?_) λ p B=>?_
     ·rw [a6] at e;exact Z0 (e4 y' c e)
     ·rw [b5] at B;exact Z0 (a8 _ (zb8 B).1)
    have e9:its.toArray.push y=(its++[y]).toArray:=by simp
    rw [e9] at d1;exact d2 f4 d1 (rv3.snoc r8) b1 q8
 exact codeAny_compStart_list (loop _ rfl) (T.self _ 0 _ _ _ (T.keep _ _ _ b7 λ b a o e=>a3 b o e) (loop _ rfl))
theorem zf4 {xs:List Str} {tg:Expr} {g:TG} {pos:Pos} {elt iter:Expr} {ifs:List Expr} {scope:Scope} {fr:List (Nat×Str)} {wi:TI} {tc:TT} {te:TE} (hcalm:X.calm=true) (hi:PI X tg iter wi)
  (hfr :∀p∈fr,X.N[p.1]? = some p.2/\(X.env.kindOf p.2=some .cell\/X.env.kindOf p.2=some .free))
  (hfree :∀y∈scope.names,y.2=C2->X.env.kindOf y.1=some .cell\/X.env.kindOf y.1=some .free)
  (hfs :∀p∈fr,(p.2,C2)∈scope.names/\((X8 scope X.env).names.lookup p.2=some .cell\/(X8 scope X.env).names.lookup p.2=some .free))
  (hcell :∀y∈scope.names,y.2≠NameKind.cell) (hkind:scope.kind=.function) (hnames :∀y∈scope.names,y.2=NameKind.local->scope.names.lookup y.1=some .local)
  (hg :∀cl C s₂ H₂ fp,PG (cxComp X scope cl (xs++fr.map (·.2)) C s₂ H₂ fp) tg g)
  (ht :∀cl C s₂ H₂ fp,PF (cxComp X scope cl (xs++fr.map (·.2)) C s₂ H₂ fp) ifs tc) (he :∀cl C s₂ H₂ fp,PE (cxComp X scope cl (xs++fr.map (·.2)) C s₂ H₂ fp) elt te)
  (hs :∀x,A7 iter X.env x=O4 x:=by intro _;rfl):PE X (.ListComp elt [⟨tg,iter,ifs,0⟩] scope pos) (tCompG wi xs.length fr g tc te):=by
 intro t s σ H Q I h;rw [eval_ListComp];refine zek hcalm hi hfr hfree hfs hcell hkind hnames hg ht he hs I h λ D f i d a k n j ⟨c,hc,hp⟩ q=>?_;obtain ⟨m,a⟩:=a;exact ⟨m,a,λ r l=>⟨.ref D,i,d.turned (t':=f.toks) (it:=D + 1) (λ b o c e=>(l.2 b c).trans e) k n (.inr j) hc hp,rfl,q⟩⟩
theorem zbg {xs:List Str} {tg:Expr} {g:TG} {pos:Pos} {elt iter:Expr} {ifs:List Expr} {scope:Scope} {fr:List (Nat×Str)} {wi:TI} {tc:TT} {te:TE} {i:Nat} {y:Str} {py spos:Pos} (hNy:X.N.Nodup) (hiy:X.N[i]? = some y) (hy:Loc X.env.scope y) (hcalm:X.calm=true) (hi:PI X tg iter wi)
  (hfr :∀p∈fr,X.N[p.1]? = some p.2/\(X.env.kindOf p.2=some .cell\/X.env.kindOf p.2=some .free))
  (hfree :∀y∈scope.names,y.2=C2->X.env.kindOf y.1=some .cell\/X.env.kindOf y.1=some .free)
  (hfs :∀p∈fr,(p.2,C2)∈scope.names/\((X8 scope X.env).names.lookup p.2=some .cell\/(X8 scope X.env).names.lookup p.2=some .free))
  (hcell :∀y∈scope.names,y.2≠NameKind.cell) (hkind:scope.kind=.function) (hnames :∀y∈scope.names,y.2=NameKind.local->scope.names.lookup y.1=some .local)
  (hg :∀cl C s₂ H₂ fp,PG (cxComp X scope cl (xs++fr.map (·.2)) C s₂ H₂ fp) tg g)
  (ht :∀cl C s₂ H₂ fp,PF (cxComp X scope cl (xs++fr.map (·.2)) C s₂ H₂ fp) ifs tc) (he :∀cl C s₂ H₂ fp,PE (cxComp X scope cl (xs++fr.map (·.2)) C s₂ H₂ fp) elt te)
  (hs :∀x,A7 iter X.env x=O4 x:=by intro _;rfl) (hw:u9 (.ListComp elt [⟨tg,iter,ifs,0⟩] scope pos) (some (.Name y py)) spos.line X.env=O4 true:=by rfl) (hf:X.fn y=true\/X.env.scope.names.lookup y=some .local:=by first|exact .inl rfl|exact .inr rfl|assumption) :
  PS X (.Assign [.Name y py] (.ListComp elt [⟨tg,iter,ifs,0⟩] scope pos) spos) (tAsg (tCompG wi xs.length fr g tc te) (gName i)):=by
 intro t s σ H D I h;rw [exec_Assign_Name_used y py _ spos hw];refine o0 (wpAny_standAt (o0 ?_));show T0 _ _ (do let _ <-comprehension (.ListComp elt [⟨tg,iter,ifs,0⟩] scope pos) scope X.env (firstIterPos [⟨tg,iter,ifs,0⟩] pos) (newList []) (firstAsync [⟨tg,iter,ifs,0⟩]) (firstIter [⟨tg,iter,ifs,0⟩] X.env) (some (assign (.Name y py) X.env));O4 ()) _ _ _;refine o0 (zek hcalm hi hfr hfree hfs hcell hkind hnames hg ht he hs I h λ A l n k c J r E ⟨d,hc,hp⟩ q=>?_);obtain ⟨m,c⟩:=c;obtain ⟨o,w,B,G,j,O,M⟩:=c;have F:Inv X ((A + 1,o) :: t) σ n l:=k.pins_of λ p a=>by
  rcases List.mem_cons.mp a with rfl|a
  ·exact ⟨G,J,r,d,λ v z=>by rw [j] at z;cases z⟩
  ·exact k.pin p (R1 _ a)
 refine thn (z0s (pos:=py) hNy hiy hy hf _ l σ n (.ref A) (.ref A) D.nx F rfl q) λ _ u ⟨σ5,H5,I6,q6⟩=>?_;have f:=I6.pin (A + 1,o) (R1 _ X1);have L:Inv X t σ5 H5 u:=I6.pins_of λ p a=>I6.pin p (R1 _ (V1 _ a));refine ⟨m,⟨o,w,B,f.1,j,O,M⟩,λ P K=>?_⟩;exact F0 (F0 ⟨σ5,H5,L.turned (t':=u.toks) (it:=A + 1) (λ b o d e=>(K.2 b d).trans e) f.2.1 r (.inr E) hc hp,q6⟩)
end
end L2
set_option maxHeartbeats 400000
namespace L2
open PySem PySem.Spec PyProof.Rows
theorem zdw {t rest:TS} {D:Ends} {σ:St} {H:Hp} (R:St->Hp->Prop) (hr :∀σ1 H1,R σ1 H1->rest D σ1 H1) (h:(∀σ1 H1,R σ1 H1->rest D σ1 H1)->t { D with nx:=rest D } σ H):tSeq t rest D σ H:=h hr
theorem z0e {te:TE} {g:TG} {rest:TS} {D:Ends} {σ:St} {H:Hp} (h:te σ H λ x H1=>g x σ H1 (rest D)):tSeq (tAsg te g) rest D σ H:=h
structure Runs (J:It) (H1:Hp) (n:Nat) (Item:Nat->V->Hp->Prop):Prop where
 go :∀i,i < n->∀H,Same H1 H->J.go i H
 stop :∀H,Same H1 H->J.stop n H
 item :∀i,i < n->∀H v H',Same H1 H->J.yld i H v H'->Same H H'/\Item i v H'
theorem z2h (p:Nat->Bool) (n:Nat):(O0 (n + 1)).filter p=(O0 n).filter p++(if p n=true then [n] else []):=by rw [K7,j05,List.filter_cons];cases p n<;>rfl
inductive All2 {α β:Type} (R:α->β->Prop):List α->List β->Prop
 | nil:All2 R [] []
 | cons {a:α} {b:β} {xs:List α} {ys:List β}:R a b->All2 R xs ys->All2 R (a :: xs) (b :: ys)
theorem z5w {α β:Type} {R:α->β->Prop} :∀{xs:List α} {ys:List β} {x:α} {y:β},All2 R xs ys->R x y->All2 R (xs++[x]) (ys++[y])
 | [],_,x,y,.nil,h=>.cons h .nil
 | _ :: _,_,x,y,.cons a r,h=>.cons a (z5w r h)
theorem z00 {α β:Type} {R S:α->β->Prop} (h :∀a b,R a b->S a b) :∀{xs:List α} {ys:List β},All2 R xs ys->All2 S xs ys
 | [],_,.nil=>.nil
 | _ :: _,_,.cons a r=>.cons (h _ _ a) (z00 h r)
theorem z03 {α β:Type} {R:α->β->Prop} :∀{xs:List α} {ys:List β},All2 R xs ys->ys.length=xs.length
 | [],_,.nil=>rfl
 | _ :: _,_,.cons _ r=>congrArg (· + 1) (z03 r)
theorem z1i {α β:Type} {f:α->β} :∀{xs:List α} {ys:List β},All2 (λ x y=>y=f x) xs ys->ys=xs.map f
 | [],_,.nil=>rfl
 | _ :: _,_,.cons a r=>by rw [L1,z1i r,a]
theorem z6g {α β:Type} (p:α->Bool) (f:α->β) (d:α) :∀xs:List α,((O0 xs.length).filter λ i=>p (xs[i]?.getD d)).map (λ i=>f (xs[i]?.getD d))=(xs.filter p).map f:=by
 intro xs;have h:(O0 xs.length).map (λ i=>xs[i]?.getD d)=xs:=by
  apply Q5
  ·simp
  ·intro i b a;simp only [O8,j04,v0 a,Option.getD_some]
 have e:(xs.filter p).map f=((((O0 xs.length).map (λ i=>xs[i]?.getD d))).filter p).map f:=by rw [h]
 rw [e,List.filter_map,V2];rfl
structure QE (X:Cx) (e:Expr) (t:TE):Prop where
 run:PE X e t
structure QA (X:Cx) (es:List Expr) (t:TA):Prop where
 run:PA X es t
structure QPs (X:Cx) (pos:Pos) (ks:List (Option Expr)) (vs:List Expr) (t:List (TE×TE)):Prop where
 run:PPs X pos ks vs t
structure QS (X:Cx) (st:Stmt) (t:TS):Prop where
 run:PS X st t
structure QSs (X:Cx) (sts:List Stmt) (t:TS):Prop where
 run:PSs X sts t
section
variable {X:Cx} {pos:Pos}
theorem q_of {sts:List Stmt} {t:TS} {G:TS->Prop} (q:QSs X sts t) (g:G t) :∃t,PSs X sts t/\G t:=⟨t,q.run,g⟩
theorem zk6 {st:Stmt} {t:TS} (h:QS X st t):QSs X [st] t:=⟨z05 h.run⟩
theorem z2r {st:Stmt} {rest:List Stmt} {t u:TS} (h:QS X st t) (r:QSs X rest u):QSs X (st :: rest) (tSeq t u):=⟨z02 h.run r.run⟩
theorem qs_set {i:Nat} {x:Str} {e:Expr} {te:TE} {pos':Pos} (hN:X.N.Nodup) (hi:X.N[i]? = some x) (hx:Loc X.env.scope x) (he:QE X e te) (hs:u9 e (some (.Name x pos')) pos.line X.env=O4 false:=by rfl) (hf:X.fn x=true\/X.env.scope.names.lookup x=some .local:=by first|exact .inl rfl|exact .inr rfl|assumption) :
  QS X (.Assign [.Name x pos'] e pos) (tAsg te (gName i)):=⟨ps_set hN hi hx he.run hs hf⟩
theorem qe_lst {es:List Expr} {t:TA} (h:QA X es t):QE X (.List es pos) (tLst t):=⟨pe_lst h.run⟩
theorem qa_nil:QA X [] tNil:=⟨pa_nil⟩
theorem zkj {e:Expr} {es:List Expr} {te:TE} {t:TA} (ha:QE X e te) (hr:QA X es t) (hs:E1 (e :: es) X.env=(false,Z3 e X.env) :: E1 es X.env:=by rfl):QA X (e :: es) (tCons te t):=⟨z01 ha.run hr.run hs⟩
theorem qe_op {a b:Expr} {ta tb:TE} {op:Operator} {r:R2} (ho:OpR X (y6 op) r) (ha:QE X a ta) (hb:QE X b tb):QE X (.BinOp a op b pos) (tOp r ta tb):=⟨pe_op ho ha.run hb.run⟩
theorem qe_ix {a b:Expr} {ta tb:TE} {r:R2} (hr:IxR X r) (ha:QE X a ta) (hb:QE X b tb) (hs:zi7 b):QE X (.Subscript a b pos) (tOp r ta tb):=⟨pe_ix hr ha.run hb.run hs⟩
end
theorem z2n {X:Cx} {K:j0} (h:X.K=K):IxR X (rIx K):=h ▸ ix_seq
theorem opAddK {X:Cx} {K:j0} (h:X.K=K):OpR X (y6 .Add) (rAdd4 K):=h ▸ opAdd
theorem z0f {α β:Type} {R:α->β->Prop} :∀{xs:List α} {ys:List β} {i:Nat} {y:β},All2 R xs ys->ys[i]? = some y->∃x,xs[i]? = some x/\R x y
 | _,_,i,y,.nil,e=>by simp at e
 | _,_,0,y,.cons a _,e=>by rw [E4] at e;cases e;exact ⟨_,E4,a⟩
 | _,_,i + 1,y,.cons _ r,e=>by rw [Z2] at e;obtain ⟨x,c,b⟩:=z0f r e;exact ⟨x,by rw [Z2];exact c,b⟩
end L2
set_option maxHeartbeats 4000000
namespace L2
open PySem PySem.Spec PyProof.Rows
noncomputable def IteL (K:j0) (a:Addr):It:=
  ⟨λ i H=>∃xs x,SqL K H a xs/\xs[i]? = some x,
   λ i H v H'=>∃p,H p=none/\v=.ref p/\∀xs,SqL K H a xs->∃x,xs[i]? = some x/\H'=upd H p (.tup [.int i,x]),
   λ i H=>∃xs,SqL K H a xs/\xs.length=i⟩
theorem w_0:(0:Nat)<=sizeLine:=by decide
theorem w_1:(1:Nat)<=sizeLine:=by decide
theorem w_2:(2:Nat)<=sizeLine:=by decide
theorem w_3:(3:Nat)<=sizeLine:=by decide
theorem w_4:(4:Nat)<=sizeLine:=by decide
theorem w_5:(5:Nat)<=sizeLine:=by decide
theorem w_6:(6:Nat)<=sizeLine:=by decide
theorem zeo {P:Program} {w:W0} {K:j0} {elts:List Expr} {x1:Nat} {pos:Pos} {e it a:Addr} (ne:e≠it) (nae:a≠e) (nai:a≠it):Turn P w K (.Tuple elts x1 pos) (IteL K a) [e,it] e (λ n h=>(∃old,IsEnum h e it (n:Nat) old)/\h.IsListIter it a n) where
 mem:=by simp
 obj:=λ n h g c f=>by
  simp only [M3,N0,or_false] at f;rcases f with rfl|rfl
  ·obtain ⟨⟨old,z⟩,_⟩:=g;exact ⟨_,z,λ v z=>by cases (show Data.fields _=Data.cell v from z)⟩
  ·obtain ⟨_,o,e,_,d⟩:=g;exact ⟨o,e,λ v z=>by rw [d] at z;cases z⟩
 keep:=λ n h O g k=>by obtain ⟨⟨old,z⟩,o,e1,e2⟩:=g;exact ⟨⟨old,k e (by simp) _ z⟩,o,k it (by simp) _ e1,e2⟩
 item:=by
  intro X r L F f n a7 s σ H E I m g G;subst r L F;obtain ⟨U,x,q,Q⟩:=G;obtain ⟨i,B,j,_⟩:=I.list q;have j:s.heap.IsList a i.toArray:=j.isList;obtain ⟨u,N,Z⟩:=B.get Q;have D:=Draws.list (prog:=X.prog) (w:=X.w) (A:=X.A.in1) (I.ok.hd f) it a nai i.toArray;have a4:n < i.toArray.size:=by have:=(List.getElem?_eq_some_iff.mp N).1;simpa using this
  obtain ⟨⟨old,V⟩,M⟩:=g;refine wpAny_pyNext_enum_itemD D V ⟨M,j⟩ a4 ne (by simp [ne,nae.symm]) λ y O t l a6 a1 tT hz J=>?_;have l:i[n]? = some y:=by simpa using l
  rw [N] at l;cases l;have a2:e < s.heap.objs.size:=R0 V;have a0:it < s.heap.objs.size:=by obtain ⟨o,z,_⟩:=M;exact R0 z
  have S:s.heap.objs.size≠e:=J4 a2;have nT:s.heap.objs.size∉[e,it]:=by simp only [M3,N0,or_false,not_or];exact ⟨S,J4 a0⟩
  refine ⟨_,rfl,wpAny_letOwnedTupleGo_enum a6 λ T a3 C=>?_⟩;have k2 :∀b o,b∉[e,it]->s.heap.get? b=some o->T.get? b=some o:=λ b o p z=>by simp only [M3,N0,or_false,not_or] at p;exact (C.2 b p.1).trans (J b o p.1 p.2 z)
  have R:=(C.2 _ S).trans tT;have a5:=a1.1.elim λ o z=>(⟨o,(C.2 it ne.symm).trans z.1,z.2⟩:T.IsListIter it a (n + 1))
  have fr:H s.heap.objs.size=none:=I.hok.fresh (J0 _);refine ⟨.ref s.heap.objs.size,upd H s.heap.objs.size (.tup [.int n,x]),I.turnedLaid (t':=t + 1) k2 m (J0 _) ⟨w_2,[.int n t,u],.cons ⟨t,rfl⟩ (.cons Z .nil),⟨_,R,rfl,_,rfl⟩,_,R,rfl⟩,rfl,⟨_,fr,rfl,λ a8 Y=>⟨x,?_,rfl⟩⟩,⟨⟨_,a3⟩,a5⟩,λ c f=>?_⟩
  ·rw [I.list_inj Y q];exact Q
  ·rw [upd_ne (λ (z:c=s.heap.objs.size)=>nT (z ▸ f))];exact (m c f).1
 done:=by
  intro X r L F f n a7 s σ H E I m g G;subst r L F;obtain ⟨U,q,rfl⟩:=G;obtain ⟨i,B,j,_⟩:=I.list q;have j:s.heap.IsList a i.toArray:=j.isList;have D:=Draws.list (prog:=X.prog) (w:=X.w) (A:=X.A.in1) (I.ok.hd f) it a nai i.toArray;have W:=WalksT.enumerateD D e ne (by simp [ne,nae.symm]) (by simp);have la:i.toArray.size=U.length:=by simpa using B.length.symm
  exact W.done s _ E (by rw [la];exact ⟨g.1,g.2,j⟩) λ O tk J=>⟨rfl,I.turnedL (t':=tk) (λ c o f e=>J c o f e) m⟩
 self:=λ _ _ _ _ _ g h=>g.1.elim λ old z=>wpAny_pyIter_enum z h
noncomputable def ieL (K:j0) (ta:TA):TI:=λ σ H R=>ta σ H λ vs H1=>∃a xs,vs=[.ref a]/\SqL K H1 a xs/\R (IteL K a) H1
theorem zic {X:Cx} {elts:List Expr} {x1:Nat} {tpos:Pos} {e:Expr} {ta:TA} {p pos:Pos} (hg:Gl X "enumerate") (hm:X.mg "enumerate" = none) (ha:PA X [e] ta) (hs:E1 [e] X.env=[(false,Z3 e X.env)]:=by rfl) :
  PI X (.Tuple elts x1 tpos) (.Call (.Name "enumerate" p) [e] [] pos) (ieL X.K ta):=by
 intro n s σ H R I h;refine Call_ (ld_blt I hg hm boot_enumerate (T4 (thn (ha pos n s σ H _ I h) λ z d ⟨vs,H1,I1,r1,q1⟩=>?_) (by rw [hs];rfl) rfl));obtain ⟨a,y,k,v,q⟩:=q1;subst k;obtain ⟨u,rfl,m⟩:=vals1 r1;cases (show u=J1 a from m);obtain ⟨l,w,b,_⟩:=I1.list v;have b:d.heap.IsList a l.toArray:=b.isList;have j:a < d.heap.objs.size:=by obtain ⟨o,e,_⟩:=id b;exact R0 e
 refine call_enumerate_list b λ x g t _ r=>?_;refine wpAny_pyIter_enum g ?_;refine ⟨_,_,_,_,H1,rfl,I1.kept (t':=d.toks) r,zeo (J4 (O3 _)) (Z0 (U2 j)) (Z0 j),⟨⟨_,g⟩,t⟩,λ c i=>?_,q⟩;have f:d.heap.objs.size<=c:=by
  simp only [M3,N0,or_false] at i;rcases i with rfl|rfl
  ·exact j1f _ _
  ·exact J0 _
 exact I1.fpOk f (I1.hok.fresh f)
end L2
set_option maxHeartbeats 400000
namespace L2
open PySem PySem.Spec PyProof.Rows
section
variable {X:Cx}
theorem zf6 {o e:Expr} {es:List Expr} {to:TE} {t:TA} {apos cpos:Pos} (ho:PE X o to) (ha:PA X (e :: es) t)
  (hbase:E5 o "pop" X.env (Z3 o X.env)=Z3 o X.env:=by rfl)
  (hfew:((V4 cpos (E1 (e :: es) X.env)).all (λ x=>!x.1) && (v9 cpos (f7 [] X.env)).all (λ x=>x.1.isSome)
   && decide ((e :: es).length + ([]:List R6).length + (if ([]:List R6).isEmpty then 0 else 1) < 30))=true:=by rfl)
  (hline:(apos.endLine == cpos.line)=true:=by rfl) (hs:E1 (e :: es) X.env=(false,Z3 e X.env) :: E1 es X.env:=by rfl) (hplain:(V4 cpos (E1 es X.env)).any (·.1)=false:=by rfl) :
  PE X (.Call (.Attribute o "pop" apos) (e :: es) [] cpos) (tBM X.K "list" rPopAt to t):=pe_bm N6 PySem.F.slot_list_pop PySem.F.type_list_pop zil ho ha hbase hfew hline hs hplain
end
mutual
noncomputable def IsPd (K:j0) (H:Hp):PyData->V->Prop
 | .none,v=>v=.non
 | .bool b,v=>v=.bl b
 | .int i,v=>v=.int i
 | .str z,v=>v=.str z
 | .list ds,v=>∃a xs,v=.ref a/\SqL K H a xs/\IsPds K H ds xs
 | .tuple ds,v=>∃a xs,v=.ref a/\SqT K H a xs/\IsPds K H ds xs
 | .dict _,_=>False
noncomputable def IsPds (K:j0) (H:Hp):List PyData->List V->Prop
 | [],xs=>xs=[]
 | d :: ds,xs=>∃x r,xs=x :: r/\IsPd K H d x/\IsPds K H ds r
end
mutual
noncomputable def plainP:PyData->Bool
 | .none=>true
 | .bool _=>false
 | .int _=>true
 | .str z=>(PyData.str z).canLay0
 | .list ds=>zev ds
 | .tuple ds=>zev ds
 | .dict _=>false
noncomputable def zev:List PyData->Bool
 | []=>true
 | d :: ds=>plainP d && zev ds
end
end L2
set_option maxHeartbeats 1000000
namespace L2
open PySem PySem.Spec PyProof.Rows
section
variable {prog:Program} {w:W0} {A:P2} {E:Value->C0->Prop} {s:C0}
theorem z5d:entryFor table "dict.update.loop" = some R9.«dict.update.loop»:=by kernel_rfl
theorem zh8 {l:Addr} {items:Array Value} {n:Nat} {sl:Array (Option Value)} {Q:Option Value->C0->Prop} (h:s.heap.get? l=some { cls:=.type "list",data:=.seq items n,slots:=sl }) (hh:A.handled=none)
  (q :∀h' tk,(∀b o,s.heap.get? b=some o->h'.get? b=some o)->Q none { s with heap:=h',toks:=tk }):T0 (N1 prog w) A (j1j (.ref l) (X3 "keys")) Q E s:=by
 unfold j1j;refine o0 (wpAny_mkText ?_);unfold getAttrBy? getAttrBy;have a:o7 { s with toks:=s.toks + 1 } (.ref l) "list":=⟨_,h,rfl⟩
 refine o0 (j18 (N2 (o0 (z8 a ?_))));rw [show j43 (N3 "list") (X3 "__getattribute__")=O4 (some (.builtin "list.__getattribute__")) from rfl];refine o0 (F0 ?_);show T0 _ _ (T9 (.ref l) (.str (X3 "keys") s.toks) (.type "list") (.builtin "list.__getattribute__") false false) _ _ _;unfold T9;refine o0 (show T0 _ _ (O4 none) _ _ _ from F0 ?_);refine o0 (j18 (N2 ?_));show T0 _ _ (j0a (.builtin "list.__getattribute__") (.ref l) (.str (X3 "keys") s.toks)) _ _ _;unfold j0a;rw [show bindSpecial (.builtin "list.__getattribute__") (.ref l)=O4 (Value.builtin "list.__getattribute__",[J1 l]) from rfl];refine o0 (F0 ?_);show T0 _ _ (call (.builtin "list.__getattribute__") [.ref l,.str (X3 "keys") s.toks]) _ _ _;refine L9 F.slot_list_getattribute a am_entry_list_getattribute (F.args_list_getattribute_2 _ _) (meets_getattribute_miss_list l items n sl (X3 "keys") s.toks rfl (by decide +kernel) (by decide +kernel)) ⟨h,hh,λ h' tk e d=>?_⟩;obtain ⟨t,u,f⟩:=d.there;have c:o7 { s with heap:=h',toks:=tk } (.ref e) "AttributeError":=⟨_,f,rfl⟩
 show T0 _ _ (J8 (.ref l) _ (.type "list") (.ref e) none false false) _ _ _;unfold J8;refine o0 (P6 c rfl ?_);show T0 _ _ (j46 (.type "list") none >>= _) _ _ _;rw [show j46 (.type "list") none=O4 none from rfl];refine o0 (F0 ?_);show T0 _ _ (throw (J1 e) >>= _) _ _ _;refine o0 (wpAny_throw ?_);show T0 _ _ (j45 (.ref e) (.type "AttributeError") >>= _) _ _ _;refine o0 (P6 c rfl ?_);exact F0 (q h' tk d.keeps)
theorem zfc {l:Addr} {items:Array Value} {n:Nat} {sl:Array (Option Value)} {Q:Option Value->C0->Prop} (h:s.heap.get? l=some { cls:=.type "tuple",data:=.seq items n,slots:=sl }) (hh:A.handled=none)
  (q :∀h' tk,(∀b o,s.heap.get? b=some o->h'.get? b=some o)->Q none { s with heap:=h',toks:=tk }):T0 (N1 prog w) A (j1j (.ref l) (X3 "keys")) Q E s:=by
 unfold j1j;refine o0 (wpAny_mkText ?_);unfold getAttrBy? getAttrBy;have a:o7 { s with toks:=s.toks + 1 } (.ref l) "tuple":=⟨_,h,rfl⟩
 refine o0 (j18 (N2 (o0 (z8 a ?_))));rw [show j43 (N3 "tuple") (X3 "__getattribute__")=O4 (some (.builtin "tuple.__getattribute__")) from rfl];refine o0 (F0 ?_);show T0 _ _ (T9 (.ref l) (.str (X3 "keys") s.toks) (.type "tuple") (.builtin "tuple.__getattribute__") false false) _ _ _;unfold T9;refine o0 (show T0 _ _ (O4 none) _ _ _ from F0 ?_);refine o0 (j18 (N2 ?_));show T0 _ _ (j0a (.builtin "tuple.__getattribute__") (.ref l) (.str (X3 "keys") s.toks)) _ _ _;unfold j0a;rw [show bindSpecial (.builtin "tuple.__getattribute__") (.ref l)=O4 (Value.builtin "tuple.__getattribute__",[J1 l]) from rfl];refine o0 (F0 ?_);show T0 _ _ (call (.builtin "tuple.__getattribute__") [.ref l,.str (X3 "keys") s.toks]) _ _ _;refine L9 F.slot_tuple_getattribute a am_entry_tuple_getattribute (F.args_tuple_getattribute_2 _ _) (meets_getattribute_miss_tuple l items n sl (X3 "keys") s.toks rfl (by decide +kernel) (by decide +kernel)) ⟨h,hh,λ h' tk e d=>?_⟩;obtain ⟨t,u,f⟩:=d.there;have c:o7 { s with heap:=h',toks:=tk } (.ref e) "AttributeError":=⟨_,f,rfl⟩
 show T0 _ _ (J8 (.ref l) _ (.type "tuple") (.ref e) none false false) _ _ _;unfold J8;refine o0 (P6 c rfl ?_);show T0 _ _ (j46 (.type "tuple") none >>= _) _ _ _;rw [show j46 (.type "tuple") none=O4 none from rfl];refine o0 (F0 ?_);show T0 _ _ (throw (J1 e) >>= _) _ _ _;refine o0 (wpAny_throw ?_);show T0 _ _ (j45 (.ref e) (.type "AttributeError") >>= _) _ _ _;refine o0 (P6 c rfl ?_);exact F0 (q h' tk d.keeps)
theorem z5f (a:Args):(U7 "dict.update.loop" a).quiet=true:=R7 (by decide +kernel) _
def PairOf (prog:Program) (w:W0) (h:Heap) (p:Key×Value) (u:Value):Prop:=∃a kv,u=.ref a/\h.IsTuple a #[kv,p.2]/\(z0i prog w).is p.1 kv=true
theorem PairOf.kept {h h':Heap} {p:Key×Value} {u:Value} {L:List Addr} (k :∀b o,b∉L->h.get? b=some o->h'.get? b=some o) (nt :∀b∈L,∀o,h.get? b=some o->o.cls≠.type "tuple") (x:PairOf prog w h p u):PairOf prog w h' p u:=by obtain ⟨a,f,e,⟨o,c,d,n,g⟩,i⟩:=x;exact ⟨a,f,e,⟨o,k a o (λ z=>nt a z o c d) c,d,n,g⟩,i⟩
theorem z8z {a:Addr} {items:Array Value} {Q:List Value->C0->Prop} (h:s.heap.IsTuple a items) (q:Q items.toList s):T0 (N1 prog w) A (j1c (.ref a)) Q E s:=by obtain ⟨o,b,c,n,d⟩:=h;unfold j1c;refine o0 (z8 (T:="tuple") ⟨o,b,c⟩ ?_);show T0 _ _ (seqItems? (.ref a) >>= _) _ _ _;exact o0 (j08 b d (F0 q))
theorem zes {d it l:Addr} {items:Array Value} (ndi:d≠it) (ndl:d≠l) (nil':it≠l) :∀(ps:List (Key×Value)) (i:Nat) (kvs:List (Key×Value)) (A:P2) (R:j2c->C0->Prop) (s:C0),A.handled=none->s.heap.IsListIter it l i->s.heap.IsList l items->
  All2 (PairOf prog w s.heap) ps (items.toList.drop i)->L4 (z0i prog w) s.heap d kvs->kvs.length + ps.length<=sizeLine->
  (∀h' tk,L4 (z0i prog w) h' d (ps.foldl (λ acc p=>stored acc p.1 p.2) kvs)->(∀b o,b≠d->b≠it->s.heap.get? b=some o->h'.get? b=some o)->R (.ok (.ret .none)) { s with heap:=h',toks:=tk })->
  T5 (N1 prog w) A (U7 "dict.update.loop" { pos:=[.ref d,.ref it,.int (i:Nat) 0,.none],kw:=[] }) R s
 | [],i,kvs,A,R,s,hh,si,sl,al,r,hz,q=>by
  have Y:items[i]? = none:=by
   cases hd:items.toList.drop i with
   | nil=>have:=List.drop_eq_nil_iff.mp hd;rw [J2] at this;exact v5 this
   | cons u us=>rw [hd] at al;cases al
  refine P3 z5d ?_;show T0 _ _ (n8 (.ref it) >>= _) _ _ s;refine o0 (C6 (show (A.under _).handled=none from hh) si sl Y λ h' G=>?_);show T0 _ _ ((do j10 d [];ret .none):Sem j14) _ _ _;refine o0 (show T0 _ _ (O4 ()) _ _ _ from F0 ?_);have E:L4 (z0i prog w) h' d kvs:=by obtain ⟨o,t,v,g,m⟩:=r;exact ⟨o,t,v,G d o ndi g,m⟩
  exact F0 (q h' s.toks E λ b o _ k e=>G b o k e)
 | p :: ps,i,kvs,A,R,s,hh,si,sl,al,r,hz,q=>by
  cases hd:items.toList.drop i with
  | nil=>rw [hd] at al;cases al
  | cons u us=>
   rw [hd] at al;cases al with
   | cons pu al=>
    have hi:items.toList[i]? = some u:=by have:=congrArg (λ l=>l[0]?) hd;simpa using this
    have N:items[i]? = some u:=by simpa using hi
    have P:items.toList.drop (i + 1)=us:=by have:=congrArg j1a hd;simpa using this
    obtain ⟨a,F,rfl,U,V⟩:=pu;refine P3 z5d ?_;show T0 _ _ (n8 (.ref it) >>= _) _ _ s;refine o0 (D5 si sl N λ g a2 D=>?_);have L :∀o,s.heap.get? it=some o->o.cls≠.type "tuple":=λ o e z=>by obtain ⟨o',n,c,_⟩:=si;rw [e] at n;cases n;rw [z] at c;exact absurd c (by decide)
    have M :∀(h:Heap) (kvs:List (Key×Value)),L4 (z0i prog w) h d kvs->∀o,h.get? d=some o->o.cls≠.type "tuple":=λ h kvs r o e z=>by obtain ⟨o',t,v,n,c,_⟩:=r;rw [e] at n;cases n;have:=c.1;rw [z] at this;exact absurd this (by decide)
    have C :∀b o,b∉[it]->s.heap.get? b=some o->g.get? b=some o:=λ b o k e=>(D.2 b (λ z=>k (by rw [z];exact List.mem_singleton.mpr rfl))).trans e;have S:g.IsTuple a #[F,p.2]:=by obtain ⟨o,j,f,Q⟩:=U;exact ⟨o,C a o (λ z=>L o (List.mem_singleton.mp z ▸ j) f) j,f,Q⟩
    have X:All2 (PairOf prog w g) ps us:=z00 (λ x y z=>PairOf.kept C (λ b k o e=>L o (List.mem_singleton.mp k ▸ e)) z) al;have K:L4 (z0i prog w) g d kvs:=by obtain ⟨o,t,v,j,f⟩:=r;exact ⟨o,t,v,(D.2 d ndi).trans j,f⟩
    have W:g.IsList l items:=by obtain ⟨o,j,f⟩:=sl;exact ⟨o,(D.2 l (A2 nil')).trans j,f⟩
    refine o0 (N2 (o0 (y7 (z8z (s:={ s with heap:=g }) S ?_))));show T0 _ _ (K9 [F,p.2] (j3g d F p.2)) _ _ _;refine N2 (wpAny_dictSet_pairs V K (λ m T B=>?_) (L0 (j1f _ _) hz));refine F0 ⟨z5f _,?_⟩;have H :∀b o,b∉[d]->g.get? b=some o->m.get? b=some o:=λ b o k e=>(B.2 b (λ z=>k (by rw [z];exact List.mem_singleton.mpr rfl))).trans e;have Z:All2 (PairOf prog w m) ps us:=z00 (λ x y z=>PairOf.kept H (λ b k o e=>M g kvs K o (List.mem_singleton.mp k ▸ e)) z) X;have a0:m.IsListIter it l (i + 1):=by obtain ⟨o,j,f⟩:=a2;exact ⟨o,(B.2 it (A2 ndi)).trans j,f⟩
    have a1:m.IsList l items:=by obtain ⟨o,j,f⟩:=W;exact ⟨o,(B.2 l (A2 ndl)).trans j,f⟩
    have O:(stored kvs p.1 p.2).length + ps.length<=sizeLine:=by
     have:(stored kvs p.1 p.2).length<=kvs.length + 1:=by
      unfold stored;split
      ·rw [B0];exact K3 _
      ·rw [I0];exact J0 _
     rw [X0] at hz;omega
    exact zes ndi ndl nil' ps (i + 1) (stored kvs p.1 p.2) A R { s with heap:=m,toks:=s.toks + 1 } hh a0 a1 (by rw [P];exact Z) T O λ h' tk E kk=>q h' tk E λ b o J I e=>kk b o J I (H b o (λ z=>J (List.mem_singleton.mp z)) (C b o (λ z=>I (List.mem_singleton.mp z)) e))
theorem zbr {d it l:Addr} {items:Array Value} (ndi:d≠it) (ndl:d≠l) (nil':it≠l) :∀(ps:List (Key×Value)) (i:Nat) (kvs:List (Key×Value)) (A:P2) (R:j2c->C0->Prop) (s:C0),A.handled=none->s.heap.IsTupleIter it l i->s.heap.IsTuple l items->
  All2 (PairOf prog w s.heap) ps (items.toList.drop i)->L4 (z0i prog w) s.heap d kvs->kvs.length + ps.length<=sizeLine->
  (∀h' tk,L4 (z0i prog w) h' d (ps.foldl (λ acc p=>stored acc p.1 p.2) kvs)->(∀b o,b≠d->b≠it->s.heap.get? b=some o->h'.get? b=some o)->R (.ok (.ret .none)) { s with heap:=h',toks:=tk })->
  T5 (N1 prog w) A (U7 "dict.update.loop" { pos:=[.ref d,.ref it,.int (i:Nat) 0,.none],kw:=[] }) R s
 | [],i,kvs,A,R,s,hh,si,sl,al,r,hz,q=>by
  have Y:items[i]? = none:=by
   cases hd:items.toList.drop i with
   | nil=>have:=List.drop_eq_nil_iff.mp hd;rw [J2] at this;exact v5 this
   | cons u us=>rw [hd] at al;cases al
  refine P3 z5d ?_;show T0 _ _ (n8 (.ref it) >>= _) _ _ s;refine o0 (wpAny_pyNext_tuple_end (show (A.under _).handled=none from hh) si sl Y λ h' G=>?_);show T0 _ _ ((do j10 d [];ret .none):Sem j14) _ _ _;refine o0 (show T0 _ _ (O4 ()) _ _ _ from F0 ?_);have E:L4 (z0i prog w) h' d kvs:=by obtain ⟨o,t,v,g,m⟩:=r;exact ⟨o,t,v,G d o ndi g,m⟩
  exact F0 (q h' s.toks E λ b o _ k e=>G b o k e)
 | p :: ps,i,kvs,A,R,s,hh,si,sl,al,r,hz,q=>by
  cases hd:items.toList.drop i with
  | nil=>rw [hd] at al;cases al
  | cons u us=>
   rw [hd] at al;cases al with
   | cons pu al=>
    have hi:items.toList[i]? = some u:=by have:=congrArg (λ l=>l[0]?) hd;simpa using this
    have N:items[i]? = some u:=by simpa using hi
    have P:items.toList.drop (i + 1)=us:=by have:=congrArg j1a hd;simpa using this
    obtain ⟨a,F,rfl,U,V⟩:=pu;refine P3 z5d ?_;show T0 _ _ (n8 (.ref it) >>= _) _ _ s;refine o0 (wpAny_pyNext_tuple_item si sl N λ g a2 D=>?_);have L :∀o,s.heap.get? it=some o->o.cls≠.type "tuple":=λ o e z=>by obtain ⟨o',n,c,_⟩:=si;rw [e] at n;cases n;rw [z] at c;exact absurd c (by decide)
    have M :∀(h:Heap) (kvs:List (Key×Value)),L4 (z0i prog w) h d kvs->∀o,h.get? d=some o->o.cls≠.type "tuple":=λ h kvs r o e z=>by obtain ⟨o',t,v,n,c,_⟩:=r;rw [e] at n;cases n;have:=c.1;rw [z] at this;exact absurd this (by decide)
    have C :∀b o,b∉[it]->s.heap.get? b=some o->g.get? b=some o:=λ b o k e=>(D.2 b (λ z=>k (by rw [z];exact List.mem_singleton.mpr rfl))).trans e;have S:g.IsTuple a #[F,p.2]:=by obtain ⟨o,j,f,Q⟩:=U;exact ⟨o,C a o (λ z=>L o (List.mem_singleton.mp z ▸ j) f) j,f,Q⟩
    have X:All2 (PairOf prog w g) ps us:=z00 (λ x y z=>PairOf.kept C (λ b k o e=>L o (List.mem_singleton.mp k ▸ e)) z) al;have K:L4 (z0i prog w) g d kvs:=by obtain ⟨o,t,v,j,f⟩:=r;exact ⟨o,t,v,(D.2 d ndi).trans j,f⟩
    have W:g.IsTuple l items:=by obtain ⟨o,j,f⟩:=sl;exact ⟨o,(D.2 l (A2 nil')).trans j,f⟩
    refine o0 (N2 (o0 (y7 (z8z (s:={ s with heap:=g }) S ?_))));show T0 _ _ (K9 [F,p.2] (j3g d F p.2)) _ _ _;refine N2 (wpAny_dictSet_pairs V K (λ m T B=>?_) (L0 (j1f _ _) hz));refine F0 ⟨z5f _,?_⟩;have H :∀b o,b∉[d]->g.get? b=some o->m.get? b=some o:=λ b o k e=>(B.2 b (λ z=>k (by rw [z];exact List.mem_singleton.mpr rfl))).trans e;have Z:All2 (PairOf prog w m) ps us:=z00 (λ x y z=>PairOf.kept H (λ b k o e=>M g kvs K o (List.mem_singleton.mp k ▸ e)) z) X;have a0:m.IsTupleIter it l (i + 1):=by obtain ⟨o,j,f⟩:=a2;exact ⟨o,(B.2 it (A2 ndi)).trans j,f⟩
    have a1:m.IsTuple l items:=by obtain ⟨o,j,f⟩:=W;exact ⟨o,(B.2 l (A2 ndl)).trans j,f⟩
    have O:(stored kvs p.1 p.2).length + ps.length<=sizeLine:=by
     have:(stored kvs p.1 p.2).length<=kvs.length + 1:=by
      unfold stored;split
      ·rw [B0];exact K3 _
      ·rw [I0];exact J0 _
     rw [X0] at hz;omega
    exact zbr ndi ndl nil' ps (i + 1) (stored kvs p.1 p.2) A R { s with heap:=m,toks:=s.toks + 1 } hh a0 a1 (by rw [P];exact Z) T O λ h' tk E kk=>q h' tk E λ b o J I e=>kk b o J I (H b o (λ z=>J (List.mem_singleton.mp z)) (C b o (λ z=>I (List.mem_singleton.mp z)) e))
theorem z64 {h:Heap} {D:Addr} (e:h.get? D=some { cls:=.type "dict",data:=.dict #[] }):L4 (z0i prog w) h D []:=by obtain ⟨o,b,c,a,r⟩:=j40 (knd:=z0i prog w) h;rw [C1 _ rfl] at a;cases a;exact ⟨_,b,c,e,r⟩
theorem z87 {D l:Addr} {items:Array Value} {n:Nat} {sl:Array (Option Value)} {ps:List (Key×Value)} {Q:C0->Prop} {A':P2} (hd:s.heap.get? D=some { cls:=.type "dict",data:=.dict #[] }) (hl:s.heap.get? l=some { cls:=.type "list",data:=.seq items n,slots:=sl }) (hh:A.handled=none) (hh':A'.handled=none)
  (al:All2 (PairOf prog w s.heap) ps items.toList) (hz:ps.length<=sizeLine)
  (q :∀h' tk,L4 (z0i prog w) h' D (merged [] ps)->(∀b o,b≠D->s.heap.get? b=some o->h'.get? b=some o)->Q { s with heap:=h',toks:=tk }) :
  T0 (N1 prog w) A (R9.«dict.__init__» { pos:=[.ref D,.ref l] }) (λ fin s'=>match fin with
   | .done f=>wants (λ r s₂=>r=U3/\Q s₂) E (.ok f) s'
   | .again c'=>c'.quiet=true/\T5 (N1 prog w) A' c' (wants (λ r s₂=>r=U3/\Q s₂) E) s') (λ e s'=>wants (λ r s₂=>r=U3/\Q s₂) E (.error e) s') s:=by
 have m:D≠l:=λ z=>by rw [z,hl] at hd;exact absurd (show N3 "list" = N3 "dict" from congrArg Obj.cls (O2 hd)) (by decide)
 unfold R9.«dict.__init__» j0j;refine o0 (o0 (wpAny_notOrdered_dict ⟨_,hd,rfl⟩ ?_));refine o0 (show T0 _ _ (O4 D) _ _ _ from F0 (F0 ?_));show T0 _ _ (E6 "dict.__init__" D (.ref l) [] .none) _ _ _;unfold E6;refine o0 (z8 (T:="list") ⟨_,hl,rfl⟩ ?_);show T0 _ _ (j1j (.ref l) (X3 "keys") >>= _) _ _ _;refine o0 (zh8 hl hh λ h tk a=>?_);show T0 _ _ (rule _ >>= _) _ _ _;refine o0 (O7 (o0 (F6 (items:=items) ⟨_,a _ _ hl,rfl,_,rfl⟩ ?_)));refine F0 ⟨z5f _,?_⟩;have p:=R0 (a _ _ hd);have i:=R0 (a _ _ hl);have c :∀b o,s.heap.get? b=some o->(h.push { cls:=.type "list_iterator",data:=.fields #[.ref l,.int 0 0] }).get? b=some o:=λ b o e=>G0 _ (a b o e);refine zes (d:=D) (it:=h.objs.size) (l:=l) (items:=items) (Z0 p) m (J4 i) ps 0 [] A' _ _ hh' ⟨_,C1 _ rfl,rfl,rfl⟩ ⟨_,c _ _ hl,rfl,_,rfl⟩ ?_ ?_ (by simpa using hz) λ h' k t j=>⟨rfl,q h' k t λ b o g e=>j b o g (λ z=>?_) (c b o e)⟩
 ·rw [V6];exact z00 (λ x y z=>PairOf.kept (L:=[]) (λ b o _ e=>c b o e) (λ b g=>absurd g N0) z) al
 ·exact z64 (c _ _ hd)
 ·rw [z] at e;exact absurd (R0 (a _ _ e)) (Q4 _)
theorem z6n {D l:Addr} {items:Array Value} {n:Nat} {sl:Array (Option Value)} {ps:List (Key×Value)} {Q:C0->Prop} {A':P2} (hd:s.heap.get? D=some { cls:=.type "dict",data:=.dict #[] }) (hl:s.heap.get? l=some { cls:=.type "tuple",data:=.seq items n,slots:=sl }) (hh:A.handled=none) (hh':A'.handled=none)
  (al:All2 (PairOf prog w s.heap) ps items.toList) (hz:ps.length<=sizeLine)
  (q :∀h' tk,L4 (z0i prog w) h' D (merged [] ps)->(∀b o,b≠D->s.heap.get? b=some o->h'.get? b=some o)->Q { s with heap:=h',toks:=tk }) :
  T0 (N1 prog w) A (R9.«dict.__init__» { pos:=[.ref D,.ref l] }) (λ fin s'=>match fin with
   | .done f=>wants (λ r s₂=>r=U3/\Q s₂) E (.ok f) s'
   | .again c'=>c'.quiet=true/\T5 (N1 prog w) A' c' (wants (λ r s₂=>r=U3/\Q s₂) E) s') (λ e s'=>wants (λ r s₂=>r=U3/\Q s₂) E (.error e) s') s:=by
 have m:D≠l:=λ z=>by rw [z,hl] at hd;exact absurd (show N3 "tuple" = N3 "dict" from congrArg Obj.cls (O2 hd)) (by decide)
 unfold R9.«dict.__init__» j0j;refine o0 (o0 (wpAny_notOrdered_dict ⟨_,hd,rfl⟩ ?_));refine o0 (show T0 _ _ (O4 D) _ _ _ from F0 (F0 ?_));show T0 _ _ (E6 "dict.__init__" D (.ref l) [] .none) _ _ _;unfold E6;refine o0 (z8 (T:="tuple") ⟨_,hl,rfl⟩ ?_);show T0 _ _ (j1j (.ref l) (X3 "keys") >>= _) _ _ _;refine o0 (zfc hl hh λ h tk a=>?_);show T0 _ _ (rule _ >>= _) _ _ _;refine o0 (O7 (o0 (wpAny_pyIter_tuple (items:=items) ⟨_,a _ _ hl,rfl,_,rfl⟩ ?_)));refine F0 ⟨z5f _,?_⟩;have p:=R0 (a _ _ hd);have i:=R0 (a _ _ hl);have c :∀b o,s.heap.get? b=some o->(h.push { cls:=.type "tuple_iterator",data:=.fields #[.ref l,.int 0 0] }).get? b=some o:=λ b o e=>G0 _ (a b o e);refine zbr (d:=D) (it:=h.objs.size) (l:=l) (items:=items) (Z0 p) m (J4 i) ps 0 [] A' _ _ hh' ⟨_,C1 _ rfl,rfl,rfl⟩ ⟨_,c _ _ hl,rfl,_,rfl⟩ ?_ ?_ (by simpa using hz) λ h' k t j=>⟨rfl,q h' k t λ b o g e=>j b o g (λ z=>?_) (c b o e)⟩
 ·rw [V6];exact z00 (λ x y z=>PairOf.kept (L:=[]) (λ b o _ e=>c b o e) (λ b g=>absurd g N0) z) al
 ·exact z64 (c _ _ hd)
 ·rw [z] at e;exact absurd (R0 (a _ _ e)) (Q4 _)
end
section
variable {X:Cx}
def zl3 (K:j0):List V->Hp->VK->Prop:=λ xs H Q=>∃a ys kvs,xs=[.ref a]/\(H a=some (.lst ys)\/H a=some (.tup ys))/\All2 (λ (p:Key×V) y=>∃b,y=.ref b/\SqT K H b [kV p.1,p.2]) kvs ys/\∀p,H p=none->Q (.ref p) (upd H p (.dK (mergeK [] kvs)))
theorem z9t {pins:List (Addr×Obj)} {σ:St} {H:Hp} {s:C0} (I:Inv X pins σ H s) :∀{kvs:List (Key×V)} {ys:List V} {its:List Value},All2 (λ (p:Key×V) y=>∃b,y=.ref b/\SqT X.K H b [kV p.1,p.2]) kvs ys->Vals ys its->
  ∃ps,KV kvs ps/\All2 (PairOf X.prog X.w s.heap) ps its
 | [],_,_,.nil,r=>by cases r;exact ⟨[],.nil,.nil⟩
 | p :: kvs,_,_,.cons ⟨b,e,sb⟩ al,r=>by
  cases r with
  | cons r1 r2=>
   subst e;obtain ⟨ps,f,c⟩:=z9t I al r2;obtain ⟨its,a,d,_⟩:=I.tuple sb;cases a with
   | cons ra a=>
    cases a with
    | cons rb a=>cases a;rename_i u1 u2;exact ⟨(p.1,u2) :: ps,.cons ⟨rfl,rb⟩ f,.cons ⟨b,u1,r1,d,kV_is ra⟩ c⟩
theorem z3z (kvs:List (Key×V)) :∀more:List (Key×V),(mergeK kvs more).length<=kvs.length + more.length
 | []=>J0 _
 | p :: more=>by have b:=z3z (putK kvs p.1 p.2) more;have a:=z1z kvs p.1 p.2;show (mergeK (putK kvs p.1 p.2) more).length<=_;rw [X0];omega
theorem zd3 (hc:X.calm=true):CallR X (.type "dict") (zl3 X.K):=by
 intro U s σ H xs W Q I r h;obtain ⟨a,O,m,rfl,i,v,q⟩:=h;obtain ⟨u,rfl,P⟩:=vals1 r;cases (show u=J1 a from P);have p:X.A.handled=none:=I.ok.hd hc;have R:H s.heap.objs.size=none:=I.hok.fresh (J0 _);have big:=I.big;have D :∀(d:List (Key×Value)) (h':Heap) (c:Nat),KV m d->m.length<=sizeLine->L4 (z0i X.prog X.w) h' s.heap.objs.size (merged [] d)->(∀b o,b≠s.heap.objs.size->(s.heap.push { cls:=.type "dict",data:=.dict #[] }).get? b=some o->h'.get? b=some o)->
   EP X U σ Q (.ref s.heap.objs.size) { s with heap:=h',toks:=c }:=λ d h' c f S k l=>by
  refine ⟨.ref s.heap.objs.size,_,I.laid (a:=s.heap.objs.size) (o:=.dK (mergeK [] m)) (h':=h') (t':=c) (λ b o e=>l b o (Z0 (R0 e)) (G0 _ e)) (J0 _) ?_,rfl,q _ R⟩;exact dk_new (L0 (z3z [] m) (by simpa using S)) (beq_eq_false_iff_ne.mpr (A2 (Z0 big))) (KV.merge f .nil) k
 have len:O.length=m.length:=z03 v;rcases i with i|i
 ·obtain ⟨z,T,n,C,hl,e⟩:=I.lstM i;obtain ⟨d,f,t⟩:=z9t I v C;refine callType_codes F.kt_called_dict (F.kt_typeCall_dict_1 _) F.entry_dict_init (kt_code_dict_new _ (Q₁:=λ j g=>j=.ref s.heap.objs.size/\g={ s with heap:=s.heap.push { cls:=.type "dict",data:=.dict #[] } }) ⟨rfl,rfl⟩) ?_;rintro j g ⟨rfl,rfl⟩;refine ⟨⟨_,C1 _ rfl,rfl⟩,F.args_dict_init_2 _ _,?_⟩;refine z87 (s:={ s with heap:=s.heap.push { cls:=.type "dict",data:=.dict #[] } }) (C1 _ rfl) (G0 _ e) p p (by simpa using z00 (λ x y z=>PairOf.kept (L:=[]) (λ b o _ e=>G0 _ e) (λ b B=>absurd B N0) z) t) (by rw [<-v8 f,<-len];exact z) λ h' c k l=>D d h' c f (by rw [<-len];exact z) k l
 ·obtain ⟨z,T,C,⟨o,N,E,n,G⟩,Z,M,J⟩:=I.hok a _ i;rw [N] at M;cases M;obtain ⟨d,f,t⟩:=z9t I v C;obtain ⟨oc,Y,a0,V⟩:=o;dsimp only at E G J;subst E G J;refine callType_codes F.kt_called_dict (F.kt_typeCall_dict_1 _) F.entry_dict_init (kt_code_dict_new _ (Q₁:=λ j g=>j=.ref s.heap.objs.size/\g={ s with heap:=s.heap.push { cls:=.type "dict",data:=.dict #[] } }) ⟨rfl,rfl⟩) ?_;rintro j g ⟨rfl,rfl⟩;refine ⟨⟨_,C1 _ rfl,rfl⟩,F.args_dict_init_2 _ _,?_⟩;refine z6n (s:={ s with heap:=s.heap.push { cls:=.type "dict",data:=.dict #[] } }) (C1 _ rfl) (G0 _ N) p p (by simpa using z00 (λ x y z=>PairOf.kept (L:=[]) (λ b o _ e=>G0 _ e) (λ b B=>absurd B N0) z) t) (by rw [<-v8 f,<-len];exact z) λ h' c k l=>D d h' c f (by rw [<-len];exact z) k l
end
end L2
set_option maxHeartbeats 400000
namespace L2
open PySem PySem.Spec PyProof.Rows
structure RunsR (S:Hp->Hp->Prop) (J:It) (H1:Hp) (n:Nat) (Item:Nat->V->Hp->Prop):Prop where
 go :∀i,i < n->∀H,S H1 H->J.go i H
 stop :∀H,S H1 H->J.stop n H
 item :∀i,i < n->∀H v H',S H1 H->J.yld i H v H'->S H H'/\Item i v H'
theorem z2x {S:Hp->Hp->Prop} {J:It} {H1:Hp} {n m:Nat} {Item:Nat->V->Hp->Prop} {fr:List (Nat×Str)} {g:TG} {tc:TT} {te:TE} {σ:St} {Q:VK} (s0:S H1 H1) (st :∀a b c,S a b->S b c->S a c) (p:Nat->Bool) (R:Nat->V->Hp->Prop) (hR :∀i y H H',S H H'->R i y H->R i y H') (r:RunsR S J H1 n Item) (hn:n<=sizeLine)
  (body :∀i,i < n->∀v H,S H1 H->Item i v H->∀(KT:VK) (KF:Hp->Prop),(p i=true->∀y H',S H H'->R i y H'->KT y H')->(p i=false->∀H',S H H'->KF H')->
   g v (cStG σ fr (F1 m none)) H λ σ6 H6=>∃us,us.length=m/\σ6=cStG σ fr us/\tc (cStG σ fr us) H6 λ b H2=>if b=true then te (cStG σ fr us) H2 KT else KF H2)
  (hQ :∀l H' ys,S H1 H'->H' l=none->All2 (λ i y=>R i y H') ((O0 n).filter p) ys->Q (.ref l) (upd H' l (.lst ys))) :
  ∃W:Nat->Nat->List V->Hp->Prop,(∃m,W 0 m [] H1)/\∀i k ys H,W i k ys H->
   (J.stop i H/\ys.length<=sizeLine/\∀p,H p=none->Q (.ref p) (upd H p (.lst ys)))\/
   (J.go i H/\ys.length<=sizeLine/\∀v H',J.yld i H v H'->g v (cStG σ fr (F1 m none)) H' λ σ6 H6=>∃us,us.length=m/\σ6=cStG σ fr us/\tc (cStG σ fr us) H6 λ b H2=>if b=true then te (cStG σ fr us) H2 λ y H3=>∃m',m' < k/\W (i + 1) m' (ys++[y]) H3 else∃m',m' < k/\W (i + 1) m' ys H2):=by
 refine ⟨λ i k ys H'=>k=n - i/\i<=n/\S H1 H'/\All2 (λ i y=>R i y H') ((O0 i).filter p) ys,⟨n,by simp,E2 _,s0,.nil⟩,?_⟩;rintro i k ys H' ⟨rfl,hi,sm,fa⟩;have j:ys.length<=sizeLine:=by rw [z03 fa];have:=p7 p (O0 i);rw [W1] at this;omega
 by_cases hlt:i < n
 ·refine .inr ⟨r.go i hlt H' sm,j,λ v H2 y=>?_⟩;obtain ⟨f,o⟩:=r.item i hlt H' v H2 sm y;refine body i hlt v H2 (st _ _ _ sm f) o _ _ (λ h y H3 d q=>⟨n - (i + 1),by omega,rfl,hlt,st _ _ _ (st _ _ _ sm f) d,?_⟩) (λ h H3 d=>⟨n - (i + 1),by omega,rfl,hlt,st _ _ _ (st _ _ _ sm f) d,?_⟩)
  ·rw [z2h,if_pos h];exact z5w (z00 (λ a b z=>hR a b _ _ (st _ _ _ f d) z) fa) q
  ·rw [z2h,if_neg (by rw [h];decide),C3];exact z00 (λ a b z=>hR a b _ _ (st _ _ _ f d) z) fa
 ·have e:i=n:=by omega
  subst e;exact .inl ⟨r.stop H' sm,j,λ l s=>hQ l H' ys sm s fa⟩
theorem z8s {S:Hp->Hp->Prop} {K:j0} {a:Addr} {xs:List V} {H1:Hp} (hs :∀H,S H1 H->S H H) (hq :∀H,S H1 H->SqL K H a xs):RunsR S (Itl K a) H1 xs.length (λ i v _=>xs[i]? = some v):=
 ⟨λ i b H s=>⟨xs,xs[i],hq H s,by simp [b]⟩,λ H s=>⟨xs,hq H s,J0 _⟩,λ i b H v c s y=>by obtain ⟨e,y⟩:=y;subst e;exact ⟨hs _ s,y xs (hq _ s)⟩⟩
theorem zhb {S:Hp->Hp->Prop} {K:j0} {a:Addr} {xs:List V} {H1:Hp} (hs :∀H,S H1 H->S H H) (hq :∀H,S H1 H->SqT K H a xs):RunsR S (Itt K a) H1 xs.length (λ i v _=>xs[i]? = some v):=
 ⟨λ i b H s=>⟨xs,xs[i],hq H s,by simp [b]⟩,λ H s=>⟨xs,hq H s,J0 _⟩,λ i b H v c s y=>by obtain ⟨e,y⟩:=y;subst e;exact ⟨hs _ s,y xs (hq _ s)⟩⟩
theorem zft {S:Hp->Hp->Prop} {n:Nat} {H1:Hp} (hs :∀H,S H1 H->S H H):RunsR S (Itr 0 n) H1 n (λ i v _=>v=.int (i:Nat)):=
 ⟨λ i a H s=>a,λ H s=>J0 _,λ i a H v b s y=>by obtain ⟨e,y⟩:=y;subst e;exact ⟨hs _ s,by rw [y,g9]⟩⟩
def Ris (xs:Array Nat):Prop:=xs.toList.Pairwise (· < ·)
theorem Ris.lt {xs:Array Nat} (r:Ris xs) {i k:Nat} (h:i < k) (hk:k < xs.size):xs[i]'(Z6 h hk) < xs[k]:=by have:=(List.pairwise_iff_getElem.mp r) i k (by simpa using Z6 h hk) (by simpa using hk) h;simpa using this
theorem zkz {xs:Array Nat} {i d:Nat} (h:i < xs.size):xs.getD i d=xs[i]:=by simp [Array.getD,h]
theorem zak {xs:Array Nat} {j:Nat} (r:Ris xs) :∀(f lo hi:Nat),lo<=hi->hi<=xs.size->hi - lo<=f->(∀i (h:i < xs.size),i < lo->xs[i] < j)->(∀i (h:i < xs.size),hi<=i->j<=xs[i])->
  C7 xs j f lo hi<=xs.size/\(∀i (h:i < xs.size),i < C7 xs j f lo hi->xs[i] < j)/\(∀i (h:i < xs.size),C7 xs j f lo hi<=i->j<=xs[i])
 | 0,lo,hi,h1,h2,h3,ha,hb=>by
  have:lo=hi:=by omega
  subst this;exact ⟨h2,ha,hb⟩
 | f + 1,lo,hi,h1,h2,h3,ha,hb=>by
  unfold C7;by_cases z:lo < hi
  ·rw [if_pos z];have a:(lo + hi) / 2 < xs.size:=by omega
   dsimp only;rw [zkz a];by_cases y:xs[(lo + hi) / 2] < j
   ·rw [if_pos y];refine zak r f _ _ (by omega) h2 (by omega) (λ i h b=>?_) hb;by_cases e:i=(lo + hi) / 2
    ·subst e;exact y
    ·exact Z6 (r.lt (by omega) a) y
   ·rw [if_neg y];refine zak r f _ _ (by omega) (by omega) (by omega) ha λ i h b=>?_;by_cases e:i=(lo + hi) / 2
    ·subst e;omega
    ·exact L0 (Nat.not_lt.mp y) (j16 (r.lt (by omega) h))
  ·rw [if_neg z];have:lo=hi:=by omega
   subst this;exact ⟨h2,ha,hb⟩
theorem zdt {xs:Array Nat} (r:Ris xs) (j:Nat):A3 xs j<=xs.size/\(∀i (h:i < xs.size),i < A3 xs j->xs[i] < j)/\(∀i (h:i < xs.size),A3 xs j<=i->j<=xs[i]):=
 zak r _ _ _ (E2 _) (J0 _) (J0 _) (λ i h z=>absurd z (Nat.not_lt_zero _)) (λ i h z=>absurd h (Nat.not_lt.mpr z))
theorem z6q {α:Type} (xs:Array α) (p:Nat) (x:α) (hp:p<=xs.size):(U9 xs p x).toList=xs.toList.take p++x :: xs.toList.drop p:=by unfold U9;simp [U6]
theorem Ris.insert {xs:Array Nat} (r:Ris xs) {j:Nat} (h:¬ xs[A3 xs j]? = some j):Ris (U9 xs (A3 xs j) j):=by
 obtain ⟨s,t,g⟩:=zdt r j;unfold Ris;rw [z6q _ _ _ s];refine List.pairwise_append.mpr ⟨r.sublist (List.take_sublist _ _),List.pairwise_cons.mpr ⟨λ y o=>?_,r.sublist (List.drop_sublist _ _)⟩,λ a m b f=>?_⟩
 ·obtain ⟨i,d,e⟩:=List.mem_drop_iff_getElem.mp o;have l:A3 xs j + i < xs.size:=by simpa [Nat.add_comm] using d
  have c:xs[A3 xs j + i]=y:=by simpa using e
  have le:=g _ l (by omega);rw [c] at le;rcases Nat.lt_or_eq_of_le le with z|z
  ·exact z
  ·exfalso;have f:A3 xs j < xs.size:=by omega
   have x:=g _ f (J0 _);have:xs[A3 xs j]=j:=by
    by_cases i0:i=0
    ·subst i0;exact c.trans z.symm
    ·have:=r.lt (show A3 xs j < A3 xs j + i by omega) l;rw [c] at this;omega
   exact h (by rw [j2a f,this])
 ·obtain ⟨i,d,e⟩:=List.mem_take_iff_getElem.mp m;have u:i < xs.size:=by have:=d;simp at this;omega
  have q:i < A3 xs j:=by have:=d;simp at this;omega
  have lt:=t i u q;have c:xs[i]=a:=by simpa using e
  rw [c] at lt;rcases List.mem_cons.mp f with z|z
  ·rw [z];exact lt
  ·obtain ⟨k,v,n⟩:=List.mem_drop_iff_getElem.mp z;have w:A3 xs j + k < xs.size:=by simpa [Nat.add_comm] using v
   have p:xs[A3 xs j + k]=b:=by simpa using n
   have:=g _ w (by omega);rw [p] at this;omega
theorem zfz (n:Nat):Ris (Array.range n):=by unfold Ris;rw [Array.toList_range];exact Y8
def z98 (t:X7) (j:Nat):Prop:=¬ t.place[A3 t.place j]? = some j
theorem z92 {t:X7} {j:Nat} (h :∀i,t.slot j≠.live i):z98 t j:=λ e=>by refine h (A3 t.place j) ?_;unfold SetTable.slot;dsimp only;rw [if_pos (by rw [e];exact beq_self_eq_true _)]
theorem z6a {t:X7} {hs:Nat->Int} {h:Int} :∀(f:Nat) (p:SetTable.Probe) (j:Nat) (d:Option Nat),(∀k,p.dummy=some k->z98 t k)->j22 t hs h f p=some (.empty j d)->z98 t j/\∀k,d=some k->z98 t k
 | 0,p,j,d,hd,e=>by cases e
 | f + 1,p,j,d,hd,e=>by
  unfold j22 at e;cases q:t.slot p.j with
  | empty=>rw [q] at e;cases e;exact ⟨z92 (λ i z=>by rw [q] at z;cases z),hd⟩
  | dummy=>rw [q] at e;refine z6a f _ j d (λ k z=>?_) e;unfold j4g at z;dsimp only at z;split at z<;>(cases z;exact z92 λ i z=>by rw [q] at z;cases z)
  | live i=>
   rw [q] at e;dsimp only at e;split at e
   ·cases e
   ·refine z6a f _ j d (λ k z=>?_) e;unfold j4g at z;dsimp only at z;split at z<;>exact hd k z
theorem zcx {t:X7} {h:Int} {s:Nat} {b:Bool} (e:t.freeSlot h=some (s,b)):z98 t s:=by
 unfold SetTable.freeSlot at e;cases q:t.probe (λ _=>h + 1) h (t.probeStart h) with
 | none=>rw [q] at e;cases e
 | some m=>
  rw [q] at e;cases m with
  | candidate a b c=>cases e
  | empty j d=>
   have:=z6a _ _ j d (λ k z=>by cases z) q;cases e;cases d with
   | none=>exact this.1
   | some k=>exact this.2 k rfl
def Tidy (l:Bool) (t:X7):Prop:=t.led=l/\Ris t.place
theorem Tidy.standIn {l:Bool} {t:X7} (h:Tidy l t) (n:Nat):Tidy l (t.standIn n):=⟨h.1,zfz n⟩
theorem Tidy.layNew {l:Bool} {t:X7} (h:Tidy l t) (es:Array (Int×Value)) (k:Int) (x:Value):Tidy l (layNew t es k x).2.1:=by
 unfold PySem.layNew;cases q:t.freeSlot k with
 | none=>exact h.standIn _
 | some s=>
  obtain ⟨s,b⟩:=s;dsimp only;have a:Tidy l (t.put s).1:=⟨h.1,Ris.insert h.2 (zcx q)⟩
  unfold SetTable.orStandIn;split
  ·exact a
  ·exact a.standIn _
theorem Tidy.relayAll {l:Bool} {t:X7} (h:Tidy l t) (es:Array (Int×Value)) (n:Nat):Tidy l (j44 t es n).2.1:=by
 unfold PySem.relayAll;cases q:t.relaid (es.map (·.1)) n with
 | none=>exact h.standIn _
 | some p=>
  obtain ⟨r,o⟩:=p;dsimp only;split
  ·unfold SetTable.relaid SetTable.laid at q;cases q2:SetTable.layClean (SetTable.sizeAbove n - 1) (es.map (·.1)) with
   | none=>rw [q2] at q;cases q
   | some ow=>rw [q2] at q;cases q;refine ⟨h.1,?_⟩;show (List.map _ _).Pairwise _;rw [j0e];refine List.Pairwise.filterMap _ (λ a b e c f d i=>?_) (Y8);obtain ⟨k,_,g⟩:=Option.map_eq_some_iff.mp f;obtain ⟨m,_,j⟩:=Option.map_eq_some_iff.mp i;rw [<-g,<-j];exact e
  ·exact h.standIn _
end L2
set_option maxHeartbeats 1000000
namespace L2
open PySem PySem.Spec PyProof.Rows
noncomputable def intOf:Value->Int
 | .int i _=>i
 | _=>0
theorem z7n {vs:List Value} {ns:List Int} (h:J5 vs ns):ns=vs.map intOf/\∀v∈vs,∃i t,v=.int i t:=by
 induction h with
 | nil=>exact ⟨rfl,λ v a=>by cases a⟩
 | cons n t r ih=>
  refine ⟨by rw [ih.1];rfl,λ v a=>?_⟩;rcases List.mem_cons.mp a with e|a
  ·exact ⟨n,t,e⟩
  ·exact ih.2 v a
theorem ze2 :∀vs:List Value,(∀v∈vs,∃i t,v=.int i t)->J5 vs (vs.map intOf)
 | [],_=>.nil
 | v :: vs,h=>by obtain ⟨i,t,e⟩:=h v (.head _);subst e;exact .cons i t (ze2 vs λ v a=>h v (.tail _ a))
theorem zbf {vs vs':List Value} {ns:List Int} (h:J5 vs ns) (p:vs'.Perm vs) :∃ns',J5 vs' ns'/\ns'.Perm ns:=by obtain ⟨e,k⟩:=z7n h;refine ⟨vs'.map intOf,ze2 vs' λ v a=>k v (p.mem_iff.mp a),?_⟩;rw [e];exact p.map _
theorem zfg {vs:List Value} {ns:List Int} (h:J5 vs ns):ns.length=vs.length:=by rw [(z7n h).1,B0]
theorem zh3 {vs:List Value} {ns:List Int} (h:J5 vs ns) (n:Int) (t:Tok):J5 (vs++[.int n t]) (ns++[n]):=by
 induction h with
 | nil=>exact .cons n t .nil
 | cons m u r ih=>exact .cons m u ih
section
variable {prog:Program} {w:W0} {A:P2} {E:Value->C0->Prop} {s:C0}
def SetAt (prog:Program) (w:W0) (l:Bool) (h:Heap) (a:Addr) (ns:List Int):Prop:=
 ∃es ep t,h.get? a=some { cls:=.type "set",dict:=none,data:=.set es ep t,slots:=#[] }/\ElemsOf (M5 prog w) es.toList/\J5 (es.toList.map (·.2)) ns/\ns.Nodup/\es.size < scanBound/\t.fits es.size=true/\Tidy l t
theorem zbt {l:Bool} {h:Heap} {a:Addr} {es0 es:Array (Int×Value)} {ep:Nat} {t0 t:X7} {ns:List Int} (ho:h.get? a=some { cls:=.type "set",dict:=none,data:=.set es0 ep t0,slots:=#[] })
  (hel:ElemsOf (M5 prog w) es.toList) (hi:J5 (es.toList.map (·.2)) ns) (nd:ns.Nodup) (hb:es.size < scanBound) (hf:t.fits es.size=true) (ht:Tidy l t) :
  (h.update a (j0b es t)).get? a=some { cls:=.type "set",dict:=none,data:=.set es (ep + 1) t,slots:=#[] }/\SetAt prog w l (h.update a (j0b es t)) a ns:=by
 have g:(h.update a (j0b es t)).get? a=some { cls:=.type "set",dict:=none,data:=.set es (ep + 1) t,slots:=#[] }:=v7 (j0b es t) ho rfl;exact ⟨g,es,ep + 1,t,g,hel,hi,nd,hb,hf,ht⟩
theorem zjb {es:List (Int×Value)} {ns:List Int} {v:Int} (hi:J5 (es.map (·.2)) ns) (h:es.findIdx? (λ e=>(M5 prog w).is v e.2)=none):¬ v∈ns:=λ c=>by
 obtain ⟨e,k⟩:=z7n hi;rw [e] at c;obtain ⟨y,a,g⟩:=List.mem_map.mp c;obtain ⟨p,d,f⟩:=List.mem_map.mp a;obtain ⟨i,t,b⟩:=k y a;have:=List.findIdx?_eq_none_iff.mp h p d;have j:v=i:=by rw [<-g,b];rfl
 have:(M5 prog w).is v p.2=false:=by simpa using this
 rw [f,b,j,Y6] at this;cases this
theorem zky {es:List (Int×Value)} {ns:List Int} {v:Int} {j:Nat} (hi:J5 (es.map (·.2)) ns) (h:es.findIdx? (λ e=>(M5 prog w).is v e.2)=some j):v∈ns:=by obtain ⟨b,a,_⟩:=List.findIdx?_eq_some_iff_getElem.mp h;obtain ⟨t,e⟩:=Value.isInt_shape (show j48 v es[j].2=true from a);rw [(z7n hi).1];exact List.mem_map.mpr ⟨es[j].2,List.mem_map.mpr ⟨es[j],J3 b,rfl⟩,by rw [e];rfl⟩
theorem zfa {ns:List Int} {v:Int} (h:ns.Nodup) (n:¬ v∈ns):(ns++[v]).Nodup:=by refine List.nodup_append.mpr ⟨h,by simp,λ a c b d e=>?_⟩;rw [List.mem_singleton.mp d] at e;exact n (e ▸ c)
noncomputable def addI (ns:List Int) (v:Int):List Int:=if v∈ns then ns else ns++[v]
theorem zkr {l:Bool} {a:Addr} {v:Int} {tk:Tok} {ns:List Int} {Q:Bool->C0->Prop} (hS:SetAt prog w l s.heap a ns) (hroom:ns.length + 1 < scanBound)
  (h :∀b h' ns',T7 a s.heap h'->SetAt prog w l h' a ns'->ns'.Perm (addI ns v)->Q b { s with heap:=h' }):T0 (N1 prog w) A (setAddHashed a (.int v tk) ((M5 prog w).hash v)) Q E s:=by
 obtain ⟨f,ep,t,m,y,n,N,U,H,K⟩:=hS;have a0:f.size=ns.length:=by rw [zfg n,B0,J2]
 have Y:(M5 prog w).is v (.int v tk)=true:=Y6 prog w v tk;unfold setAddHashed setAddHashedIn;refine N2 (o0 (wpAny_setState_of m rfl H ?_));dsimp only;rw [byScan_of rfl U y];simp only [↓reduceIte];unfold setAddByScan;refine o0 (o0 (O7 (o0 (wpAny_setScan_of Y m rfl H y ?_))));cases hr:List.findIdx? (λ e=>(M5 prog w).is v e.2) f.toList with
 | some j=>refine F0 (F0 ?_);have:=h false s.heap ns (Heap.SameBut.refl a s.heap) ⟨f,ep,t,m,y,n,N,U,H,K⟩ (by unfold addI;rw [if_pos (zky n hr)]);exact this
 | none=>
  dsimp only;have g:=layNew_perm t f ((M5 prog w).hash v) (.int v tk);have I:=layNew_fits t f ((M5 prog w).hash v) (.int v tk);have u:=K.layNew f ((M5 prog w).hash v) (.int v tk);generalize layNew t f ((M5 prog w).hash v) (.int v tk)=L at g I u⊢;obtain ⟨c,d,wd,a2⟩:=L;dsimp only at g I u⊢;rw [Array.toList_push] at g;have S:ElemsOf (M5 prog w) c.toList:=(y.push Y rfl).perm g;have p :∃k,J5 (c.toList.map (·.2)) k/\k.Perm (ns++[v]):=zbf (zh3 n v tk) (by have:=g.map (λ e:Int×Value=>e.2);rwa [P1] at this);obtain ⟨k,p,D⟩:=p;have R:=zjb n hr;have X:k.Nodup:=D.nodup_iff.mpr (zfa N R);have W:addI ns v=ns++[v]:=if_neg R;have F:c.size < scanBound:=by rw [<-J2,g.length_eq,I0,J2,a0];exact hroom
  have P :∀(b:Bool) {C:C0} {Q':Unit->C0->Prop},Q' () C->T0 (N1 prog w) A (match b with|true=>rule "set.scan.the-table-gave-way" | false=>O4 ()) Q' E C:=λ b C Q' q=>by cases b with|false=>exact F0 q|true=>exact O7 q
  have a3:T0 (N1 prog w) A (do
    storeSet a c d
    if (!wd && d.tooFull)=true then do
      (match (j44 d c (a6 c.size)).2.2 with|true=>rule "set.scan.the-table-gave-way" | false=>O4 ())
      storeSet a (j44 d c (a6 c.size)).1 (j44 d c (a6 c.size)).2.1
      O4 (some true)
     else O4 (some true)) (λ r o=>∃b,r=some b/\Q b o) E s:=by
   obtain ⟨V,S1⟩:=zbt (prog:=prog) (w:=w) m S p X F I u;have M:=S8 s.heap a (j0b c d);refine o0 (wpAny_storeSet_of m rfl ?_ (fits_of_scanBound F));split
   ·have i:=relayAll_perm d c (a6 c.size);have B:=relayAll_fits d c (a6 c.size);have G:=u.relayAll c (a6 c.size);generalize j44 d c (a6 c.size)=L2 at i B G⊢;obtain ⟨a4,t2,g2⟩:=L2;dsimp only at i B G⊢;obtain ⟨a1,a5,T⟩:=zbf p (i.map (λ e:Int×Value=>e.2));have O:a4.size < scanBound:=by rw [<-J2,i.length_eq,J2];exact F
    refine o0 (P g2 (o0 (wpAny_storeSet_of V rfl ?_ (fits_of_scanBound O))));obtain ⟨_,Z⟩:=zbt (prog:=prog) (w:=w) V (S.perm i) a5 (T.nodup_iff.mpr X) O B G;exact F0 ⟨true,rfl,h true _ a1 (M.trans (S8 _ a _)) Z (by rw [W];exact T.trans D)⟩
   ·exact F0 ⟨true,rfl,h true _ k M S1 (by rw [W];exact D)⟩
  refine o0 (P a2 ?_);have J:=N4 a3 (Q':=λ r o=>T0 (N1 prog w) A (match r with|some added=>O4 added|none=>setAddHashedIn a (.int v tk) ((M5 prog w).hash v) 99999) Q E o) (E':=E) (λ r o x=>by obtain ⟨b,e,q⟩:=x;subst e;exact F0 q) (λ e o x=>x);by_cases z:d.plain=true
  ·rw [if_pos z];exact o0 (j2j (show hashByValue 8 (S7 v tk)=O4 true from rfl) J)
  ·rw [if_neg z];exact o0 (F0 J)
end
theorem zfv {ns ms:List Int} (p:ns.Perm ms) (v:Int):(addI ns v).Perm (addI ms v):=by
 unfold addI;by_cases z:v∈ns
 ·rw [if_pos z,if_pos (p.mem_iff.mp z)];exact p
 ·rw [if_neg z,if_neg (λ y=>z (p.mem_iff.mpr y))];exact p.append_right [v]
theorem z3y :∀(vs:List Int) {ns ms:List Int},ns.Perm ms->(vs.foldl addI ns).Perm (vs.foldl addI ms)
 | [],_,_,p=>p
 | v :: vs,_,_,p=>z3y vs (zfv p v)
theorem zdx (ns:List Int) (v:Int):(addI ns v).length<=ns.length + 1:=by
 unfold addI;split
 ·exact K3 _
 ·rw [I0];exact J0 _
section
variable {prog:Program} {w:W0} {A:P2} {E:Value->C0->Prop} {s:C0}
theorem SetAt.at' {l:Bool} {h h':Heap} {a:Addr} {ns:List Int} (k :∀o,h.get? a=some o->h'.get? a=some o) (x:SetAt prog w l h a ns):SetAt prog w l h' a ns:=by obtain ⟨b,c,t,e,r⟩:=x;exact ⟨b,c,t,k _ e,r⟩
theorem zbc (a:Args):(U7 "set.update.loop" a).quiet=true:=R7 (by decide +kernel) _
noncomputable def set0 (w:W0):Obj:={ cls:=.type "set",dict:=none,data:=.set #[] 0 (.fresh 0 0 (!w.params.followText "set-order")) }
theorem zhq (a:Value) {Q₁:Value->C0->Prop} (h:Q₁ (.ref s.heap.objs.size) { s with heap:=s.heap.push (set0 w) }):T5 (N1 prog w) A (.call (.builtin "set.__new__") ⟨[.type "set",a],[]⟩) (wants Q₁ E) s:=by refine j09 F.plain_set_new F.entry_set_new (j2j (F.newCall_set_1 a) ?_);show T0 _ _ (Builtin.Frozenset.newClass "set" ⟨[.type "set",a],[]⟩ >>= _) _ _ _;refine o0 (o0 (show T0 _ _ (O4 true) _ _ _ from F0 ?_));show T0 _ _ (isSubtype (.type "set") (.type "set") >>= _) _ _ _;refine o0 (j2j sub_set_self ?_);refine F0 ?_;show T0 _ _ (newSet (.type "set") >>= _) _ _ _;unfold newSet setsByText;refine o0 (o0 (o0 (wpAny_askSetting (F0 ?_))));exact o0 (wpAny_alloc (F0 (F0 h)))
theorem zkm {h:Heap} {a:Addr} (e:h.get? a=some (set0 w)):SetAt prog w (!w.params.followText "set-order") h a []:=
 ⟨#[],0,_,e,λ x b=>by simp at b,.nil,List.nodup_nil,by decide,by rfl,rfl,J7⟩
noncomputable abbrev setO (es:Array (Int×Value)) (ep:Nat) (t:X7):Obj:={ cls:=.type "set",dict:=none,data:=.set es ep t,slots:=#[] }
end
section
variable {X:Cx}
theorem z4y :∀(vs ns:List Int),(vs.foldl addI ns).length<=ns.length + vs.length
 | [],ns=>J0 _
 | v :: vs,ns=>by have b:=z4y vs (addI ns v);have a:=zdx ns v;show (vs.foldl addI (addI ns v)).length<=_;rw [X0];omega
end
end L2
set_option maxHeartbeats 400000
namespace HT
open PySem PySem.Spec PyProof.Rows L2
variable {prog:Program} {w:W0} {A:P2} {E:Value->C0->Prop} {s:C0}
end HT
namespace L2
open PySem PySem.Spec PyProof.Rows
theorem zhy {names:List (Str×L6)} {ns:List Str} {Q:Str×L6->Prop} (h:(names.all λ y=>y.2 != C2 || ns.contains y.1)=true) (q :∀n,n∈ns->∀k,Q (n,k)) :∀y∈names,y.2=C2->Q y:=λ y c e=>by
 have z:=List.all_eq_true.mp h y c;rw [e] at z;have z:ns.contains y.1=true:=by simpa using z
 obtain ⟨a,b⟩:=y;exact q a (by simpa using z) b
theorem z3w {S:Hp->Hp->Prop} {ta:TA} {te:TE} {tc:TT} {g:TG} {m n:Nat} {fr:List (Nat×Str)} {σ:St} {H H1:Hp} {Q:VK} (p:Nat->Bool) (R:Nat->V->Hp->Prop) (s0:S H1 H1) (st :∀a b c,S a b->S b c->S a c) (hs :∀H,S H1 H->S H H) (hR :∀i y H H',S H H'->R i y H->R i y H')
  (hta :∀T:List V->Hp->Prop,T [.int (n:Nat)] H1->ta σ H T) (hn:n<=sizeLine)
  (body :∀i,i < n->∀H,S H1 H->∀(KT:VK) (KF:Hp->Prop),(p i=true->∀y H',S H H'->R i y H'->KT y H')->(p i=false->∀H',S H H'->KF H')->
   g (.int (i:Nat)) (cStG σ fr (F1 m none)) H λ σ6 H6=>∃us,us.length=m/\σ6=cStG σ fr us/\tc (cStG σ fr us) H6 λ b H2=>if b=true then te (cStG σ fr us) H2 KT else KF H2)
  (hQ :∀l H' ys,S H1 H'->H' l=none->All2 (λ i y=>R i y H') ((O0 n).filter p) ys->Q (.ref l) (upd H' l (.lst ys))):tCompG (iRng1 ta) m fr g tc te σ H Q:=by
 have b:(n:Int) < 2 ^ 62:=Int.lt_of_le_of_lt (Int.ofNat_le.mpr hn) (by decide);refine hta _ ⟨n,rfl,by omega,b,?_⟩;exact z2x s0 st p R hR (zft hs) hn (λ i f v H s e KT KF d h=>by subst e;exact body i f H s KT KF d h) hQ
theorem zj7 {f:List V->Hp->VK->Prop} {te tb:TE} {r:R2} {σ:St} {H:Hp} {Q:Bool->Hp->Prop} (h:te σ H λ x H1=>f [x] H1 λ y H2=>tb σ H2 λ z H3=>r y z H3 λ b H4=>∃k,b=.bl k/\Q k H4):tTest (tOp r (tCB f (tCons te tNil)) tb) σ H Q:=h
theorem z1y {c:TT} {a b:TS} {D:Ends} {σ:St} {H:Hp} (h:c σ H λ k H1=>if k=true then a D σ H1 else b D σ H1):tIfS c a b D σ H:=h
theorem zcr {K:j0} {a:Addr} {xs:List V} {H1:Hp} (hq:SqL K H1 a xs):RunsR Same (IteL K a) H1 xs.length (λ i v H=>∃x p,xs[i]? = some x/\v=.ref p/\H p=some (.tup [.int (i:Nat),x])):=by refine ⟨λ i b H s=>⟨xs,xs[i],s.seq hq,by simp [b]⟩,λ H s=>⟨xs,s.seq hq,rfl⟩,λ i b H v e s y=>?_⟩;obtain ⟨p,c,rfl,f⟩:=y;obtain ⟨x,d,rfl⟩:=f xs (s.seq hq);exact ⟨Same.upd c,x,p,d,rfl,z04⟩
end L2
set_option maxHeartbeats 1000000
namespace L2
open PySem PySem.Spec PyProof.Rows
section
variable {prog:Program} {w:W0} {A:P2} {E:Value->C0->Prop} {s:C0}
theorem zdz {b:Bool} {S it l:Addr} {items:Array Value} (nsi:S≠it) (nsl:S≠l) (nil':it≠l) :∀(ms:List Int) (i:Nat) (ns:List Int) (A:P2) (R:j2c->C0->Prop) (s:C0),A.handled=none->s.heap.IsListIter it l i->s.heap.IsList l items->
  J5 (items.toList.drop i) ms->SetAt prog w b s.heap S ns->ns.length + ms.length < scanBound->
  (∀h' tk ns',SetAt prog w b h' S ns'->ns'.Perm (ms.foldl addI ns)->(∀c o,c≠S->c≠it->s.heap.get? c=some o->h'.get? c=some o)->R (.ok (.ret .none)) { s with heap:=h',toks:=tk })->
  T5 (N1 prog w) A (U7 "set.update.loop" { pos:=[.ref S,.ref it],kw:=[] }) R s
 | [],i,ns,A,R,s,hh,si,sl,al,dd,hz,q=>by
  have D:items[i]? = none:=by
   cases hd:items.toList.drop i with
   | nil=>have:=List.drop_eq_nil_iff.mp hd;rw [J2] at this;exact v5 this
   | cons u us=>rw [hd] at al;cases al
  refine P3 X6 ?_;show T0 _ _ (n8 (.ref it) >>= _) _ _ s;refine o0 (C6 (show (A.under _).handled=none from hh) si sl D λ h' r=>?_);exact F0 (q h' s.toks ns (dd.at' λ o e=>r S o nsi e) (j17 _) λ c o _ H e=>r c o H e)
 | m :: ms,i,ns,A,R,s,hh,si,sl,al,dd,hz,q=>by
  cases hd:items.toList.drop i with
  | nil=>rw [hd] at al;cases al
  | cons u us=>
   rw [hd] at al;cases al with
   | cons _ tk al=>
    have F:items.toList[i]? = some (.int m tk):=by have:=congrArg (λ l=>l[0]?) hd;simpa using this
    have x:items[i]? = some (.int m tk):=by simpa using F
    have y:items.toList.drop (i + 1)=us:=by have:=congrArg j1a hd;simpa using this
    refine P3 X6 ?_;show T0 _ _ (n8 (.ref it) >>= _) _ _ s;refine o0 (D5 si sl x λ h M g=>?_);have B:h.IsList l items:=by obtain ⟨o,d,a⟩:=sl;exact ⟨o,(g.2 l (A2 nil')).trans d,a⟩
    have C:SetAt prog w b h S ns:=dd.at' λ o e=>(g.2 S nsi).trans e;rw [X0] at hz;refine o0 (N2 (show T0 _ _ (setAdd S (.int m tk)) _ _ _ from ?_));unfold setAdd;refine N2 (o0 ((M5 prog w).pyHash (k:=m) (Y6 prog w m tk) ?_));refine zkr (s:={ s with heap:=h,toks:=s.toks + 1 }) C (Y0 (by omega) hz) λ c j t f z p=>?_;refine F0 ⟨zbc _,?_⟩;have G:j.IsListIter it l (i + 1):=by obtain ⟨o,d,a⟩:=M;exact ⟨o,(f.2 it (A2 nsi)).trans d,a⟩
    have K:j.IsList l items:=by obtain ⟨o,d,a⟩:=B;exact ⟨o,(f.2 l (A2 nsl)).trans d,a⟩
    have N:t.length<=ns.length + 1:=by rw [p.length_eq];exact zdx ns m
    refine zdz nsi nsl nil' ms (i + 1) t A R { s with heap:=j,toks:=s.toks + 1 } hh G K (by rw [y];exact al) z (by omega) λ h' L ns' I J E=>q h' L ns' I (J.trans (z3y ms p)) λ c o n v e=>E c o n v ((f.2 c n).trans ((g.2 c v).trans e))
theorem z9a:isSubtype (.type "list") (.type "set")=O4 false:=by rw [isSubtype_type];kernel_rfl
theorem z6x:isSubtype (.type "list") (.type "frozenset")=O4 false:=by rw [isSubtype_type];kernel_rfl
theorem zae {l:Addr} {items:Array Value} {ns:List Int} {Q:Value->C0->Prop} (hh:A.handled=none) (ht:s.heap.IsList l items) (hi:J5 items.toList ns) (hb:ns.length < scanBound)
  (h :∀h' tk ns',SetAt prog w (!w.params.followText "set-order") h' s.heap.objs.size ns'->ns'.Perm (ns.foldl addI [])->(∀b o,s.heap.get? b=some o->h'.get? b=some o)->Q (.ref s.heap.objs.size) { s with heap:=h',toks:=tk }) :
  T0 (N1 prog w) A (call (.type "set") [.ref l]) Q E s:=by
 obtain ⟨c,O,T⟩:=F.called_set.mro;have V:=F.called_set.made;have N:=F.called_set.sub;refine j42 (codeAny_of_tree (show T0 _ _ (callAny (.type "set") _) _ _ _ from F0 ⟨Code.quiet_builtin _ (by decide +kernel),P3 F.entry_type_call ?_⟩));rw [j57 (weight_type_call_type "set" [.ref l] []) rfl];have Y:=F.called_set.notType;have Z:=F.called_set.canCreate;have W:=F.typeCall_set_1 (.ref l)
 (repeat (any_goals (first|assumption|wp_step)));refine Q6 (zhq (.ref l) (E:=E) (Q₁:=λ k j=>k=.ref s.heap.objs.size/\j={ s with heap:=s.heap.push (set0 w) }) ⟨rfl,rfl⟩) λ r j a=>?_
 cases r with
 | error e=>exact a
 | ok fl=>
  cases fl with
  | next=>exact a.elim
  | brk=>exact a.elim
  | cont=>exact a.elim
  | ret k=>
   obtain ⟨rfl,rfl⟩:=a;have f:(s.heap.push (set0 w)).get? s.heap.objs.size=some (set0 w):=C1 _ rfl;have y:o7 { s with heap:=s.heap.push (set0 w) } (.ref s.heap.objs.size) "set":=⟨_,f,rfl⟩
   have M:=F.called_set.init.lookup;have L:=F.called_set.init.bind (.ref s.heap.objs.size)
   (repeat (any_goals (first|assumption|wp_step)))
   have C:T5 (N1 prog w) A.in1 (.call (.builtin "set.__init__") ⟨[.ref s.heap.objs.size,.ref l],[]⟩) (wants (λ r u=>r=.none/\Q (.ref s.heap.objs.size) u) E) { s with heap:=s.heap.push (set0 w) }:=by
    refine j09 F.called_set.init.plain F.entry_set_init (check_set_init_1 y ?_);obtain ⟨o,g,t,n,m⟩:=ht;obtain ⟨X,H,a0,z⟩:=o;dsimp only at t m;subst t m;have v:(s.heap.push (set0 w)).get? l=some { cls:=.type "list",dict:=H,data:=.seq items n,slots:=z }:=G0 _ g;have U:=z9a;have R:=z6x;have K:(N3 "list" == N3 "dict")=false:=by decide
    have P:(s.heap.push (set0 w)).get? s.heap.objs.size=some { cls:=.type "set",dict:=none,data:=.set #[] 0 (.fresh 0 0 (!w.params.followText "set-order")),slots:=#[] }:=f;have G:(s.heap.push (set0 w)).IsList l items:=⟨_,v,rfl,n,rfl⟩
    have p:l < s.heap.objs.size:=R0 g;unfold R9.«set.__init__» noKeywords i9;generalize hPI:pyIter=PI
    wp_walk
    subst hPI;refine F6 G (o0 (wpAny_runValue ?_));have q :∀b o,s.heap.get? b=some o->((s.heap.push (set0 w)).push { cls:=.type "list_iterator",data:=.fields #[.ref l,.int 0 0] }).get? b=some o:=λ b o e=>G0 _ (G0 _ e);have i:(s.heap.push (set0 w)).objs.size=s.heap.objs.size + 1:=W6 _ _;refine zdz (S:=s.heap.objs.size) (it:=(s.heap.push (set0 w)).objs.size) (l:=l) (items:=items) (by rw [i];exact Z0 (O3 _)) (J4 p) (by rw [i];exact J4 (U2 p)) ns 0 [] _ _ _ (by simp [hh]) ⟨_,C1 _ rfl,rfl,rfl⟩ ⟨_,q _ _ g,rfl,n,rfl⟩ (by rw [V6];exact hi) (zkm (G0 _ f)) (by simpa using hb) λ h' tk ns' x I B=>?_;refine F0 (F0 ⟨rfl,h h' tk ns' x I λ b o e=>B b o (Z0 (R0 e)) (by rw [i];exact Z0 (U2 (R0 e))) (q b o e)⟩)
   refine Q6 C λ J u d=>?_;cases J with
   | error e=>exact d
   | ok f2=>
    cases f2 with
    | next=>exact d.elim
    | brk=>exact d.elim
    | cont=>exact d.elim
    | ret r=>obtain ⟨rfl,D⟩:=d;exact F0 (F0 D)
end
section
variable {X:Cx}
noncomputable def tLSet (K:j0) (te:TE):TE:=λ σ H Q=>te σ H λ x H1=>∃(a:Addr) (ns:List Int),x=.ref a/\SqL K H1 a (ns.map V.int)/\ns.length < 100/\Q (.int ((ns.foldl addI []).length:Nat)) H1
theorem zg6 {e:Expr} {te:TE} {p1 p2 c1 c2:Pos} (hcalm:X.calm=true) (g1:Gl X "len") (m1:X.mg "len" = none) (g2:Gl X "set") (m2:X.mg "set" = none) (b1:N5 "len" = some (.builtin "len")) (b2:N5 "set" = some (.type "set")) (ha:PE X e te)
  (he:E1 [e] X.env=[(false,Z3 e X.env)]:=by rfl):PE X (.Call (.Name "len" p1) [.Call (.Name "set" p2) [e] [] c2] [] c1) (tLSet X.K te):=by
 intro v s σ H Q I h;have l:X.A.handled=none:=I.ok.hd hcalm;refine U4 (ld_blt I g1 m1 b1 ?_ (by decide) (by decide));refine S6 ?_ rfl rfl;refine (show T0 _ _ (j3f ((false,Z3 (.Call (.Name "set" p2) [e] [] c2) X.env) :: [])) _ _ s from C5 ?_);refine U4 (ld_blt I g2 m2 b2 ?_ (by decide) (by decide));refine T4 ?_ he rfl;rw [he];refine (show T0 _ _ (j3f ((false,Z3 e X.env) :: [])) _ _ s from C5 (thn (ha v s σ H _ I h) λ u i ⟨x,H1,I1,r1,a,ns,ex,sq,hl,q⟩=>?_));subst ex;cases r1;refine b6 ?_;obtain ⟨E,r,n,B⟩:=I1.list sq;refine zae l n.isList (by simpa using zex r) (Z6 hl (by decide)) λ o b z c p k=>b6 ?_;obtain ⟨f,w,t,j,_,g,y,D,m,_⟩:=c;have d:f.size=(ns.foldl addI []).length:=by rw [<-p.length_eq,zfg g,B0,J2]
 have C:(ns.foldl addI []).length < 100:=by have:=z4y ns [];rw [K4,V5] at this;omega
 refine call_len_set (s:={ i with heap:=o,toks:=b }) j ⟨rfl,rfl,rfl⟩ rfl m (by omega) ?_;rw [d];exact ⟨.int ((ns.foldl addI []).length:Nat),H1,(I1.kept (t':=b + 1 + 1) k),⟨_,rfl⟩,q⟩
end
theorem z1v {K:j0} {a:Addr} {xs:List V} {tl te:TE} {tc:TT} {g:TG} {m:Nat} {fr:List (Nat×Str)} {σ:L2.St} {H H1:Hp} {Q:VK} (p:Nat->Bool) (R:Nat->V->Hp->Prop) (hR :∀i y H H',Same H H'->R i y H->R i y H') (htl :∀R:VK,R (.ref a) H1->tl σ H R) (hq:SqL K H1 a xs) (hn:xs.length<=sizeLine)
  (body :∀i,i < xs.length->∀v H,Same H1 H->xs[i]? = some v->∀(KT:VK) (KF:Hp->Prop),(p i=true->∀y H',Same H H'->R i y H'->KT y H')->(p i=false->∀H',Same H H'->KF H')->
   g v (cStG σ fr (F1 m none)) H λ σ6 H6=>∃us,us.length=m/\σ6=cStG σ fr us/\tc (cStG σ fr us) H6 λ b H2=>if b=true then te (cStG σ fr us) H2 KT else KF H2)
  (hQ :∀l H' ys,Same H1 H'->H' l=none->All2 (λ i y=>R i y H') ((O0 xs.length).filter p) ys->Q (.ref l) (upd H' l (.lst ys))):tCompG (iList K tl) m fr g tc te σ H Q:=
 htl _ ⟨a,rfl,⟨xs,hq⟩,z2x (Same.refl _) (λ _ _ _ a b=>a.trans b) p R hR (z8s (S:=Same) (λ _ _=>Same.refl _) λ H s=>s.seq hq) hn body hQ⟩
theorem zga {K:j0} {a:Addr} {xs:List V} {ta:TA} {te:TE} {tc:TT} {g:TG} {m:Nat} {fr:List (Nat×Str)} {σ:L2.St} {H H1:Hp} {Q:VK} (p:Nat->Bool) (R:Nat->V->Hp->Prop) (hR :∀i y H H',Same H H'->R i y H->R i y H') (hta :∀T:List V->Hp->Prop,T [.ref a] H1->ta σ H T) (hq:SqL K H1 a xs) (hn:xs.length<=sizeLine)
  (body :∀i,i < xs.length->∀v H,Same H1 H->(∃x p,xs[i]? = some x/\v=.ref p/\H p=some (.tup [.int (i:Nat),x]))->∀(KT:VK) (KF:Hp->Prop),(p i=true->∀y H',Same H H'->R i y H'->KT y H')->(p i=false->∀H',Same H H'->KF H')->
   g v (cStG σ fr (F1 m none)) H λ σ6 H6=>∃us,us.length=m/\σ6=cStG σ fr us/\tc (cStG σ fr us) H6 λ b H2=>if b=true then te (cStG σ fr us) H2 KT else KF H2)
  (hQ :∀l H' ys,Same H1 H'->H' l=none->All2 (λ i y=>R i y H') ((O0 xs.length).filter p) ys->Q (.ref l) (upd H' l (.lst ys))):tCompG (ieL K ta) m fr g tc te σ H Q:=
 hta _ ⟨a,xs,rfl,hq,z2x (Same.refl _) (λ _ _ _ a b=>a.trans b) p R hR (zcr hq) hn body hQ⟩
theorem zig {K:j0} {tl te:TE} {tc:TT} {g:TG} {m:Nat} {fr:List (Nat×Str)} {σ:L2.St} {H:Hp} {Q:VK} (Pr:Addr->List V->Hp->Prop) (htl :∀R:VK,(∀a xs H1,Pr a xs H1->R (.ref a) H1)->tl σ H R) (hq :∀a xs H1,Pr a xs H1->SqL K H1 a xs/\xs.length<=sizeLine)
  (p:Nat->Bool) (R:Nat->V->Hp->Prop) (hR :∀i y H H',Same H H'->R i y H->R i y H')
  (body :∀a xs H1,Pr a xs H1->∀i,i < xs.length->∀v H,Same H1 H->xs[i]? = some v->∀(KT:VK) (KF:Hp->Prop),(p i=true->∀y H',Same H H'->R i y H'->KT y H')->(p i=false->∀H',Same H H'->KF H')->
   g v (cStG σ fr (F1 m none)) H λ σ6 H6=>∃us,us.length=m/\σ6=cStG σ fr us/\tc (cStG σ fr us) H6 λ b H2=>if b=true then te (cStG σ fr us) H2 KT else KF H2)
  (hQ :∀a xs H1,Pr a xs H1->∀l H' ys,Same H1 H'->H' l=none->All2 (λ i y=>R i y H') ((O0 xs.length).filter p) ys->Q (.ref l) (upd H' l (.lst ys))):tCompG (iList K tl) m fr g tc te σ H Q:=
 htl _ λ a xs H1 c=>⟨a,rfl,⟨xs,(hq a xs H1 c).1⟩,z2x (Same.refl _) (λ _ _ _ a b=>a.trans b) p R hR (z8s (S:=Same) (λ _ _=>Same.refl _) λ H s=>s.seq (hq a xs H1 c).1) (hq a xs H1 c).2 (body a xs H1 c) (hQ a xs H1 c)⟩
theorem zbs {K:j0} {a:Addr} {xs:List V} {tl te:TE} {tc:TT} {g:TG} {m:Nat} {fr:List (Nat×Str)} {σ:L2.St} {H H1:Hp} {Q:VK} (p:Nat->Bool) (R:Nat->V->Hp->Prop) (hR :∀i y H H',Same H H'->R i y H->R i y H') (htl :∀R:VK,R (.ref a) H1->tl σ H R) (hq:SqT K H1 a xs) (hn:xs.length<=sizeLine)
  (body :∀i,i < xs.length->∀v H,Same H1 H->xs[i]? = some v->∀(KT:VK) (KF:Hp->Prop),(p i=true->∀y H',Same H H'->R i y H'->KT y H')->(p i=false->∀H',Same H H'->KF H')->
   g v (cStG σ fr (F1 m none)) H λ σ6 H6=>∃us,us.length=m/\σ6=cStG σ fr us/\tc (cStG σ fr us) H6 λ b H2=>if b=true then te (cStG σ fr us) H2 KT else KF H2)
  (hQ :∀l H' ys,Same H1 H'->H' l=none->All2 (λ i y=>R i y H') ((O0 xs.length).filter p) ys->Q (.ref l) (upd H' l (.lst ys))):tCompG (iTup K tl) m fr g tc te σ H Q:=
 htl _ ⟨a,rfl,⟨xs,hq⟩,z2x (Same.refl _) (λ _ _ _ a b=>a.trans b) p R hR (zhb (S:=Same) (λ _ _=>Same.refl _) λ H s=>s.seqT hq) hn body hQ⟩
theorem e_cb1 {f:List V->Hp->VK->Prop} {te:TE} {σ:L2.St} {H:Hp} {Q:VK} (h:te σ H λ x H1=>f [x] H1 Q):tCB f (tCons te tNil) σ H Q:=h
theorem t_test {r:R2} {ta tb:TE} {σ:L2.St} {H:Hp} {Q:Bool->Hp->Prop} (h:ta σ H λ x H1=>tb σ H1 λ y H2=>r x y H2 λ x H3=>∃c,x=.bl c/\Q c H3):tTest (tOp r ta tb) σ H Q:=h
theorem t_or {t u:TT} {σ:L2.St} {H:Hp} {Q:Bool->Hp->Prop} (h:t σ H λ c H1=>if c=true then Q true H1 else u σ H1 Q):tOr t u σ H Q:=h
theorem sq_if {c:TT} {a b rest:TS} {D:Ends} {σ:L2.St} {H:Hp} (h:c σ H λ k H1=>if k=true then a { D with nx:=rest D } σ H1 else b { D with nx:=rest D } σ H1):tSeq (tIfS c a b) rest D σ H:=h
theorem sq_ret {te:TE} {D:Ends} {σ:L2.St} {H:Hp} (h:te σ H D.rt):tRet te D σ H:=h
def TupI (h:Heap) (v:Value) (x:Int×Int):Prop:=∃(p:Addr) (o:Obj) (n:Nat) (t u:Tok),v=.ref p/\h.get? p=some o/\o.cls=.type "tuple"/\o.data=.seq #[.int x.1 t,.int x.2 u] n
noncomputable def gtI (x y:Int×Int):Bool:=if x.1=y.1 then decide (y.2 < x.2) else decide (y.1 < x.1)
section
variable {prog:Program} {w:W0} {A:P2} {E:Value->C0->Prop} {s:C0}
theorem tup_gt {v z:Value} {x y:Int×Int} {Q:Value->C0->Prop} (hx:TupI s.heap v x) (hy:TupI s.heap z y) (hu:A.units < cLine) (h:Q (.bool (gtI x y)) s):T0 (N1 prog w) A (W8 .Gt v z) Q E s:=by
 obtain ⟨p,o,n,t,u,rfl,d,g,m⟩:=hx;obtain ⟨r,e,C,D,B,rfl,c,k,l⟩:=hy;refine j3d (op:=.Gt) (T:="tuple") ⟨o,d,g⟩ ⟨e,c,k⟩ E9 (r9 E9 ⟨o,d,g⟩ F.entry_tuple_gt ?_ (F.args_tuple_gt_2 _ _)) hu;refine (show T0 _ _ (j45 (.ref r) (.type "tuple") >>= _) _ _ s from o0 (P6 (T:="tuple") ⟨e,c,k⟩ isSubtype_tuple_tuple ?_));simp only [Z5,L3,if_false];refine o0 (F8 d m (o0 (F8 c l (o0 ?_))));simp only [j03,List.zip_nil_left,L7,a8];refine o0 (o0 ((M5 prog w).eqBool (a:=x.1) (b:=y.1) (Y6 prog w _ _) (Y6 prog w _ _) ?_));have f :∀{i j:Int} {a b:Tok} {R:Value->C0->Prop},R (.bool (decide (j < i))) s->T0 (N1 prog w) A.in1 (W8 .Gt (.int i a) (.int j b)) R E s:=λ q=>(show T0 _ _ (E3 .Gt _ _) _ _ _ from gt_int q)
 by_cases e1:x.1=y.1
 ·rw [decide_eq_true e1];simp only [Z5,L3,if_false];refine F0 (o0 (o0 ((M5 prog w).eqBool (a:=x.2) (b:=y.2) (Y6 prog w _ _) (Y6 prog w _ _) ?_)));unfold gtI at h;rw [if_pos e1] at h;by_cases e2:x.2=y.2
  ·rw [decide_eq_true e2];simp only [Z5,L3,if_false];rw [decide_eq_false (by omega)] at h;exact F0 (F0 (F0 ⟨_,rfl,(λ z=>nomatch z),h⟩))
  ·rw [decide_eq_false e2];simp only [F9,if_true];exact o0 (O7 (o0 (f (o0 (F0 (F0 (F0 (F0 ⟨_,rfl,(λ z=>nomatch z),h⟩))))))))
 ·rw [decide_eq_false e1];simp only [F9,if_true];unfold gtI at h;rw [if_neg e1] at h;exact o0 (O7 (o0 (f (o0 (F0 (F0 (F0 (F0 ⟨_,rfl,(λ z=>nomatch z),h⟩))))))))
theorem TupI.kept {h h':Heap} {v:Value} {x:Int×Int} {c:Addr} {oc:Obj} (q:TupI h v x) (e:h.get? c=some oc) (nc:oc.cls≠.type "tuple") (k :∀b o,b≠c->h.get? b=some o->h'.get? b=some o):TupI h' v x:=by obtain ⟨p,o,n,t,u,rfl,a,d,f⟩:=q;exact ⟨p,o,n,t,u,rfl,k p o (λ z=>by rw [z,e] at a;cases a;exact nc d) a,d,f⟩
end
section
variable {X:Cx}
theorem gtI_iff {x y:Int×Int}:gtI x y=true↔y.1 < x.1\/(x.1=y.1/\y.2 < x.2):=by
 unfold gtI;by_cases e:x.1=y.1
 ·rw [if_pos e,decide_eq_true_iff];omega
 ·rw [if_neg e,decide_eq_true_iff];omega
end
noncomputable def kasRun {α:Type} (c:Nat->Nat->Bool) (n:Nat):j2f α->Option α
 | .ret a=>some a
 | .ask i j k=>if i < n/\j < n/\i≠j then kasRun c n (k (c i j)) else none
theorem zbn {α:Type} {c:Nat->Nat->Bool} {n:Nat} {cmp:Nat->Nat->(Bool->C0->Prop)->C0->Prop} {s:C0} {Q:α->C0->Prop} (hc :∀i j C,i < n->j < n->i≠j->C (c i j) s->cmp i j C s) :∀(t:j2f α) (a:α),kasRun c n t=some a->Q a s->t.kasWp cmp Q s
 | .ret b,a,h,q=>by cases h;exact q
 | .ask i j k,a,h,q=>by
  unfold kasRun at h;by_cases z:i < n/\j < n/\i≠j
  ·rw [if_pos z] at h;exact hc i j _ z.1 z.2.1 z.2.2 (zbn hc (k (c i j)) a h q)
  ·rw [if_neg z] at h;cases h
theorem z6b {α:Type} {c d:Nat->Nat->Bool} {n:Nat} (h :∀i j,i < n->j < n->c i j=d i j) :∀t:j2f α,kasRun c n t=kasRun d n t
 | .ret _=>rfl
 | .ask i j k=>by
  unfold kasRun;by_cases z:i < n/\j < n/\i≠j
  ·rw [if_pos z,if_pos z,h i j z.1 z.2.1];exact z6b h _
  ·rw [if_neg z,if_neg z]
noncomputable def z20:Nat->List Nat->List (List Nat)
 | 0,_=>[[]]
 | n + 1,l=>l.flatMap λ x=>(z20 n (l.erase x)).map (x :: ·)
noncomputable def z3p (n:Nat) (r:List Nat):Bool:=match kasRun (λ i j=>decide (r.getD i 0 < r.getD j 0)) n (z6 n) with
 | some p=>(p.toList.map (λ i=>r.getD i 0) == O0 n) && p.toList.isPerm (O0 n)
 | none=>false
theorem good2:(z20 2 (O0 2)).all (z3p 2)=true:=by decide +kernel
theorem good3:(z20 3 (O0 3)).all (z3p 3)=true:=by decide +kernel
theorem good4:(z20 4 (O0 4)).all (z3p 4)=true:=by decide +kernel
theorem good5:(z20 5 (O0 5)).all (z3p 5)=true:=by decide +kernel
theorem good6:(z20 6 (O0 6)).all (z3p 6)=true:=by decide +kernel
theorem zkl :∀n,2<=n->n<=6->(z20 n (O0 n)).all (z3p n)=true
 | 2,_,_=>good2
 | 3,_,_=>good3
 | 4,_,_=>good4
 | 5,_,_=>good5
 | 6,_,_=>good6
 | 0,h,_=>absurd h (by decide)
 | 1,h,_=>absurd h (by decide)
 | n + 7,_,h=>absurd h (by omega)
theorem zc3 :∀(r l:List Nat),r.Nodup->(∀x∈r,x∈l)->r∈z20 r.length l
 | [],l,_,_=>List.mem_singleton.mpr rfl
 | x :: r,l,nd,h=>by rw [W5] at nd;refine List.mem_flatMap.mpr ⟨x,h x (.head _),List.mem_map.mpr ⟨r,zc3 r (l.erase x) nd.2 λ y a=>?_,rfl⟩⟩;exact (j53 (show y≠x from λ e=>nd.1 (e ▸ a))).mpr (h y (.tail _ a))
noncomputable def ltS (a b:Str):Bool:=decide (a.cps.toList < b.cps.toList)
theorem z65 (a:Str):ltS a a=false:=decide_eq_false (List.lt_irrefl _)
theorem zhi {a b c:Str} (h:ltS a b=true) (k:ltS b c=true):ltS a c=true:=decide_eq_true (List.lt_trans (of_decide_eq_true h) (of_decide_eq_true k))
theorem zi2 {a b:Str} (h:ltS a b=false) (k:ltS b a=false):a=b:=by have e:a.cps.toList=b.cps.toList:=List.le_antisymm (List.not_lt.mp (of_decide_eq_false k)) (List.not_lt.mp (of_decide_eq_false h));cases a;cases b;congr;exact Array.toList_inj.mp e
noncomputable def rkS (ks:List Str) (z:Str):Nat:=(ks.filter λ x=>ltS x z).length
theorem z57 {α:Type} {p q:α->Bool} :∀{l:List α},(∀x∈l,p x=true->q x=true)->(l.filter p).length<=(l.filter q).length
 | [],_=>J0 _
 | x :: l,h=>by
  have a:=z57 (l:=l) λ y b=>h y (.tail _ b);cases hp:p x with
  | true=>rw [R3 hp,R3 (h x (.head _) hp)];exact Nat.succ_le_succ a
  | false=>
   rw [W4 (by rw [hp];decide)];cases hq:q x with
   | true=>rw [R3 hq];exact Nat.le_succ_of_le a
   | false=>rw [W4 (by rw [hq];decide)];exact a
theorem z2q {α:Type} {p q:α->Bool} {y:α} :∀{l:List α},(∀x∈l,p x=true->q x=true)->y∈l->p y=false->q y=true->(l.filter p).length < (l.filter q).length
 | [],_,h,_,_=>absurd h N0
 | x :: l,h,hy,hp,hq=>by
  rcases List.mem_cons.mp hy with rfl|hy
  ·rw [W4 (by rw [hp];decide),R3 hq];exact Nat.lt_succ_of_le (z57 λ z b=>h z (.tail _ b))
  ·have a:=z2q (l:=l) (λ z b=>h z (.tail _ b)) hy hp hq;cases hpx:p x with
   | true=>rw [R3 hpx,R3 (h x (.head _) hpx)];exact Nat.succ_lt_succ a
   | false=>
    rw [W4 (by rw [hpx];decide)];cases hqx:q x with
    | true=>rw [R3 hqx];exact U2 a
    | false=>rw [W4 (by rw [hqx];decide)];exact a
theorem rk_lt {ks:List Str} {a b:Str} (ha:a∈ks) (h:ltS a b=true):rkS ks a < rkS ks b:=z2q (λ x _ z=>zhi z h) ha (z65 a) h
theorem rk_iff {ks:List Str} {a b:Str} (ha:a∈ks) (hb:b∈ks):ltS a b=decide (rkS ks a < rkS ks b):=by
 cases h:ltS a b with
 | true=>exact (decide_eq_true (rk_lt ha h)).symm
 | false=>
  refine (decide_eq_false λ z=>?_).symm;cases k:ltS b a with
  | true=>have:=rk_lt hb k;omega
  | false=>rw [zi2 h k] at z;exact Q4 _ z
theorem rk_inj {ks:List Str} {a b:Str} (ha:a∈ks) (hb:b∈ks) (e:rkS ks a=rkS ks b):a=b:=zi2 (by rw [rk_iff ha hb];exact decide_eq_false (by omega)) (by rw [rk_iff hb ha];exact decide_eq_false (by omega))
theorem zja {ks:List Str} {a:Str} (ha:a∈ks):rkS ks a < ks.length:=by have h:=z2q (l:=ks) (p:=λ x=>ltS x a) (q:=λ _=>true) (λ _ _ _=>rfl) ha (z65 a) rfl;rw [List.filter_eq_self.mpr (λ _ _=>rfl)] at h;exact h
theorem nodup_map_on {α β:Type} {f:α->β} :∀{l:List α},(∀a∈l,∀b∈l,f a=f b->a=b)->l.Nodup->(l.map f).Nodup
 | [],_,_=>.nil
 | x :: l,h,nd=>by rw [W5] at nd;rw [L1,W5];refine ⟨λ z=>?_,nodup_map_on (λ a d b g=>h a (.tail _ d) b (.tail _ g)) nd.2⟩;obtain ⟨y,c,e⟩:=List.mem_map.mp z;exact nd.1 (h x (.head _) y (.tail _ c) e.symm ▸ c)
theorem zge {ks:List Str} (nd:ks.Nodup) (h2:2<=ks.length) (h6:ks.length<=6) :∃p:Array Nat,kasRun (λ i j=>ltS (ks.getD i "") (ks.getD j "")) ks.length (z6 ks.length)=some p/\p.toList.Perm (O0 ks.length)/\(p.toList.map λ i=>ks.getD i "").Pairwise λ x y=>ltS x y=true:=by
 have o :∀i,i < ks.length->ks.getD i ""∈ks:=λ i g=>by rw [Q1,v0 g];exact J3 g
 have u:(ks.map (rkS ks)).length=ks.length:=B0 ..;have m :∀i,i < ks.length->(ks.map (rkS ks)).getD i 0=rkS ks (ks.getD i ""):=λ i g=>by rw [Q1,Q1,K0,v0 g];rfl
 have v:ks.map (rkS ks)∈z20 ks.length (O0 ks.length):=by
  have:=zc3 (ks.map (rkS ks)) (O0 ks.length) (nodup_map_on (λ a f b h e=>rk_inj f h e) nd) λ x w=>by obtain ⟨a,f,rfl⟩:=List.mem_map.mp w;exact List.mem_range.mpr (zja f)
  rwa [u] at this
 have k:=List.all_eq_true.mp (zkl _ h2 h6) _ v;unfold z3p at k;have t:=z6b (c:=λ i j=>ltS (ks.getD i "") (ks.getD j "")) (d:=λ i j=>decide ((ks.map (rkS ks)).getD i 0 < (ks.map (rkS ks)).getD j 0)) (n:=ks.length) (λ i j g r=>by rw [m i g,m j r];exact rk_iff (o i g) (o j r)) (z6 ks.length);rw [t];cases hk:kasRun (λ i j=>decide ((ks.map (rkS ks)).getD i 0 < (ks.map (rkS ks)).getD j 0)) ks.length (z6 ks.length) with
 | none=>rw [hk] at k;cases k
 | some p=>
  rw [hk] at k;obtain ⟨q,l⟩:=Bool.and_eq_true_iff.mp k;have q:=eq_of_beq q;have l:=List.isPerm_iff.mp l;refine ⟨p,rfl,l,?_⟩;rw [j0e];have s:(p.toList.map λ i=>(ks.map (rkS ks)).getD i 0).Pairwise (· < ·):=by rw [q];exact Y8
  rw [j0e] at s;refine s.imp_of_mem λ {a b} f h z=>?_;have f:=List.mem_range.mp (l.mem_iff.mp f);have h:=List.mem_range.mp (l.mem_iff.mp h);rw [m a f,m b h] at z;rw [rk_iff (o a f) (o b h)];exact decide_eq_true z
def TupS (h:Heap) (v:Value) (k:Str):Prop:=∃(p:Addr) (o:Obj) (xs:Array Value) (n:Nat) (t:Tok),v=.ref p/\h.get? p=some o/\o.cls=.type "tuple"/\o.data=.seq xs n/\xs[0]? = some (.str k t)
theorem TupS.kept {h h':Heap} {v:Value} {x:Str} {c:Addr} {oc:Obj} (q:TupS h v x) (e:h.get? c=some oc) (nc:oc.cls≠.type "tuple") (k :∀b o,b≠c->h.get? b=some o->h'.get? b=some o):TupS h' v x:=by obtain ⟨p,o,g,n,t,rfl,a,d,f⟩:=q;exact ⟨p,o,g,n,t,rfl,k p o (λ z=>by rw [z,e] at a;cases a;exact nc d) a,d,f⟩
section
variable {prog:Program} {w:W0} {A:P2} {E:Value->C0->Prop} {s:C0}
theorem zlu {v z:Value} {x y:Str} {Q:Bool->C0->Prop} (hx:TupS s.heap v x) (hy:TupS s.heap z y) (ne:x≠y) (h:Q (ltS x y) s):T0 (N1 prog w) A (keyLt' (tuples' true) v z) Q E s:=by
  obtain ⟨p,o,f,n,t,rfl,u,H,q,g⟩:=hx;obtain ⟨F,K,d,I,c,rfl,l,J,j,i⟩:=hy;have B :∃r,f.toList=.str x t :: r:=by
    cases hl:f.toList with
    | nil => have : f.toList[0]? = some (.str x t) := by simpa using g
             rw [hl] at this;cases this
    | cons a r => have : f.toList[0]? = some (.str x t) := by simpa using g
                  rw [hl] at this;cases this;exact ⟨r,rfl⟩
  have C :∃r,d.toList=.str y c :: r:=by
    cases hl:d.toList with
    | nil => have : d.toList[0]? = some (.str y c) := by simpa using i
             rw [hl] at this;cases this
    | cons a r => have : d.toList[0]? = some (.str y c) := by simpa using i
                  rw [hl] at this;cases this;exact ⟨r,rfl⟩
  obtain ⟨L,D⟩:=B;obtain ⟨G,m⟩:=C;refine PySem.W.kat_lt u q l j ?_;rw [D,m,j03];refine PySem.W.kat_cons ((z0i prog w).eqBool (a:=.inr x) (b:=.inr y) (kV_is (k:=.inr x) (show RelV (kV (.inr x)) (.str x t) from ⟨t,rfl⟩)) (kV_is (k:=.inr y) (show RelV (kV (.inr y)) (.str y c) from ⟨c,rfl⟩)) ?_);rw [decide_eq_false (λ e=>ne (j38 e))];exact PySem.W.kat_no (oneLt_str h)
theorem z8w {h:Heap} :∀{vs:List Value} {ks:List Str},All2 (λ v k=>TupS h v k) vs ks->∃fs,PySem.W.KatTups h vs fs/\fs.length=vs.length/\∀f∈fs,∃k t,f=A9 k t
 | _,_,.nil=>⟨[],trivial,rfl,λ _ h=>absurd h N0⟩
 | _,_,.cons a r=>by obtain ⟨fs,b,g,m⟩:=z8w r;obtain ⟨p,o,q,n,t,rfl,j,l,c,i⟩:=a;exact ⟨_ :: fs,PySem.W.KatTups.cons j l c i b,by rw [X0,X0,g],λ f d=>(List.mem_cons.mp d).elim (λ e=>⟨_,_,e⟩) (m f)⟩
theorem zj8 {a:Addr} {vs:List Value} {ks:List Str} {n0:Nat} {P:j14->C0->Prop} (ho:s.heap.get? a=some (J9 "list" vs.toArray n0)) (l6:vs.length<=6) (al:All2 (λ v k=>TupS s.heap v k) vs ks) (nd:ks.Nodup)
  (h :∀(p:List Nat) (h':Heap) (e:Nat),p.Perm (O0 vs.length)->(p.map λ i=>ks.getD i "").Pairwise (λ x y=>ltS x y=true)->(∀b o,b≠a->s.heap.get? b=some o->h'.get? b=some o)->h'.get? a=some (J9 "list" (p.map λ i=>vs.getD i U3).toArray e)->P (.done (.ret .none)) { s with heap:=h' }) :
  T0 (N1 prog w) A (R9.«list.sort» ⟨[.ref a],[]⟩) P E s:=by
 have lk:ks.length=vs.length:=z03 al;have la:a < s.heap.objs.size:=R0 ho;have sz:vs.length<=sizeLine:=L0 l6 (by decide);obtain ⟨K,R⟩ :∃K,(s.heap.update a (P4 λ _=>(#[]:Array Value))).get? a=some (J9 "list" #[] K):=⟨_,get?_update_seq ho λ _=>#[]⟩
 rw [list_sort_plain];refine o0 (listItems_at ho rfl (o0 (listUpdate_at ho rfl (o0 (seqEpoch_at R rfl (o0 (wpAny_newTuple (o0 (wpAny_newList (N2 ?_) (E2 _))) (by simpa using sz))))) (by simpa using sz) (E2 _))));dsimp only;generalize hh3:((s.heap.update a (P4 λ _=>(#[]:Array Value))).push (J9 "tuple" vs.toArray 0)).push (J9 "list" #[] 0)=h3;have s1:=S8 s.heap a (P4 λ _=>(#[]:Array Value));have O :∀b o,b≠a->s.heap.get? b=some o->h3.get? b=some o:=λ b o n e=>by rw [<-hh3];exact G0 _ (G0 _ ((s1.2 b n).trans e))
 have B:h3.get? a=some (J9 "list" #[] K):=by rw [<-hh3];exact G0 _ (G0 _ R)
 have a0:All2 (λ v k=>TupS h3 v k) vs ks:=z00 (λ _ _ z=>z.kept ho (show N3 "list"≠.type "tuple" by decide) O) al;have L :∀(m:Array Value) (p:List Nat),m=(p.map λ i=>vs.getD i U3).toArray->p.Perm (O0 vs.length)->(p.map λ i=>ks.getD i "").Pairwise (λ x y=>ltS x y=true)->P (.done (.ret .none)) { s with heap:=h3.update a (P4 λ _=>m) }:=λ m p g l r=>by
  obtain ⟨I,U⟩ :∃I,(h3.update a (P4 λ _=>m)).get? a=some (J9 "list" m I):=⟨_,get?_update_seq B λ _=>m⟩
  rw [g] at U⊢;exact h p _ I l r (λ b o n e=>(z5 _ _ (A2 n)).trans (O b o n e)) U
 have X :∀(p:List Nat),p.Perm (O0 vs.length)->(p.map λ i=>vs.getD i U3).toArray.size<=sizeLine + 1:=λ p l=>by rw [V0,B0,l.length_eq,W1];exact L0 sz (K3 _)
 by_cases d:vs.toArray.size < 2
 ·rw [if_pos d];have H:vs.length < 2:=by simpa using d
  have F:(O0 vs.length).map (λ i=>vs.getD i U3)=vs:=by
   apply Q5
   ·simp
   ·intro i J d;simp [Q1,v0 d]
  have r:((O0 vs.length).map λ i=>ks.getD i "").Pairwise (λ x y=>ltS x y=true):=by
   match N:vs.length,H with
   | 0,_=>exact J7
   | 1,_=>exact List.pairwise_singleton _ _
  refine o0 (F0 ?_);rw [if_pos d];refine (show T0 _ _ (O4 ((),SortSt.mk' general' (vs.toArray.zip vs.toArray) #[] 7 none) >>= _) _ _ _ from o0 (F0 ?_));dsimp only;have g:Array.map (λ x=>x.snd) (arrOf (SortSt.mk' general' (vs.toArray.zip vs.toArray) #[] 7 none))=((O0 vs.length).map λ i=>vs.getD i U3).toArray:=by
   rw [F];show Array.map (λ x=>x.snd) (vs.toArray.zip vs.toArray)=vs.toArray;apply Array.ext
   ·simp
   ·intro i J d;simp
  refine o0 (seqEpoch_at B rfl (o0 (listUpdate_at B rfl ?_ (E2 _) ?_)))
  ·simp only [bne_self_eq_false,L3,if_false];exact F0 (L _ _ g (j17 _) r)
  ·rw [g];exact X _ (j17 _)
 ·rw [if_neg d];have H:2<=vs.length:=by simpa using Nat.not_lt.mp d
  obtain ⟨fs,kt,lf,a5⟩:=z8w a0;refine o0 (PySem.W.kat_kind (T:=.type "str") kt (by omega) (λ f G=>?_) (by decide) ?_)
  ·obtain ⟨k,t,rfl⟩:=a5 f G;exact PySem.W.Looks.now
  ·rw [if_neg d];obtain ⟨p,F,l,r⟩:=zge nd (by omega) (by omega);rw [lk] at F l;rw [show (N3 "str" != N3 "tuple")=true by decide];have V :∀i,i < vs.length->TupS h3 (vs.getD i U3) (ks.getD i ""):=λ i S=>by have Z:ks[i]? = some (ks[i]'(by omega)):=v0 (by omega);obtain ⟨v,N,z⟩:=z0f a0 Z;rw [Q1,Q1,N,Z];exact z
   have ask:(z6 vs.length).kasWp (PySem.W.kas_ask prog w A (tuples' true) vs) (λ M u=>u={ s with heap:=h3 }/\M=p) { s with heap:=h3 }:=zbn (c:=λ i j=>ltS (ks.getD i "") (ks.getD j "")) (n:=vs.length) (λ i j C S hj ne q=>zlu (s:={ s with heap:=h3 }) (V i S) (V j hj) (λ e=>ne ?_) q) (z6 vs.length) p F ⟨rfl,rfl⟩
   ·refine o0 (N4 (PySem.W.kat_run (κ:=tuples' true) (ks:=vs) (vs:=vs) (Q:=λ D u=>u={ s with heap:=h3 }/\failedOf D=none/\Array.map (λ x=>x.snd) (arrOf D)=(p.toList.map λ i=>vs.getD i U3).toArray) rfl H (by omega) (λ M D u a1 a2 a3 Y=>⟨Y.1,a3,by rw [<-Y.2];exact PySem.W.kat_snds rfl a2⟩) ask) ?_ λ _ _ z=>z);rintro ⟨⟨⟩,D⟩ u ⟨rfl,G,g⟩;dsimp only at G g⊢;refine o0 (seqEpoch_at B rfl (o0 (listUpdate_at B rfl ?_ (E2 _) ?_)))
    ·rw [G];simp only [bne_self_eq_false,L3,if_false];exact F0 (L _ _ g l r)
    ·rw [g];exact X _ l
   ·have J:i < ks.length:=by omega
    have d:j < ks.length:=by omega
    rw [Q1,Q1,v0 J,v0 d] at e;exact (List.getElem_inj nd).mp e
end
section
variable {X:Cx}
theorem zb3:CallR X (.builtin "sorted") (λ xs H Q=>∃(a:Addr) (ys:List V) (ks:List Str),xs=[.ref a]/\SqL X.K H a ys/\All2 (λ y k=>∃(p:Addr) (r:List V),y=V.ref p/\SqT X.K H p (.str k :: r)) ys ks/\ys.length<=6/\ks.Nodup/\
  ∀(l:Addr) (p:List Nat),H l=none->p.Perm (O0 ys.length)->(p.map λ i=>ks.getD i "").Pairwise (λ x y=>ltS x y=true)->Q (.ref l) (upd H l (.lst (p.map λ i=>ys.getD i .non)))):=by
 intro a1 s σ H xs us Q I rv h;obtain ⟨a,ys,ks,rfl,sq,al,l6,W,q⟩:=h;obtain ⟨u,rfl,rx⟩:=vals1 rv;cases rx;obtain ⟨d,A,pl,L⟩:=I.list sq;have O:d.length=ys.length:=A.length.symm;refine Calls.call_function_entry kind_sorted plain_sorted entry_sorted (args_sorted1 _) ?_;unfold R9.«sorted»;obtain ⟨o,f,D,n,C⟩:=pl.isList;refine o0 (m:=checkCount "sorted" 1 1 _) (F0 (o0 (wpAny_collect_seq a (.inl rfl) f D C (λ c G=>?_) (by rw [V0,<-A.length];exact L))));have P :∀{g:List Value} {ys:List V} {ks:List Str},Vals ys g->All2 (λ y k=>∃(p:Addr) (r:List V),y=V.ref p/\SqT X.K H p (.str k :: r)) ys ks->All2 (λ v k=>TupS s.heap v k) g ks:=by
  intro g ys;induction ys generalizing g with
  | nil=>intro ks c E;cases c;cases E;exact .nil
  | cons y ys ih=>
   intro ks c E;cases c with
   | cons ra rb=>
    cases E with
    | cons a b=>
     refine .cons ?_ (ih rb b);obtain ⟨p,r,rfl,sp⟩:=a;obtain ⟨js,rj,⟨o,f,D,n,C⟩,_⟩:=I.tuple sp;cases rj with
     | cons r0 _=>obtain ⟨t,rfl⟩:=r0;cases (show _=J1 p from ra);exact ⟨p,o,_,n,t,rfl,f,D,C,by simp⟩
 have Z :∀p:List Nat,(∀i∈p,i < ys.length)->Vals (p.map λ i=>ys.getD i .non) (p.map λ i=>d.getD i U3):=by
  intro p;induction p with
  | nil=>intro _;exact .nil
  | cons i p ih=>intro J;refine .cons ?_ (ih λ j Y=>J j (.tail _ Y));have w:=J i (.head _);obtain ⟨u,T,R⟩:=A.get (v0 w);show RelV (ys.getD i .non) (d.getD i U3);rw [Q1,Q1,v0 w,T];exact R
 have M:d.length<=6:=by omega
 have N:(c.push (J9 "list" d.toArray 0)).get? c.objs.size=some (J9 "list" d.toArray 0):=C1 _ rfl;have a0:All2 (λ v k=>TupS (c.push (J9 "list" d.toArray 0)) v k) d ks:=z00 (λ _ _ z=>by obtain ⟨p,o,xs,n,t,e,f,r⟩:=z;exact ⟨p,o,xs,n,t,e,G0 _ (G _ _ f),r⟩) (P A al);have F:Inv X a1 σ H { s with heap:=c }:=I.kept (t':=s.toks) G;refine o0 (wpAny_newList (o0 (N2 (r9 slot_list_sort ⟨_,N,rfl⟩ entry_list_sort (zj8 (s:={ s with heap:=c.push (J9 "list" d.toArray 0) }) N M a0 W λ p U e B pw kk hl=>⟨_,rfl,?_⟩) (args_list_sort _)))) (by simpa using L0 M (by decide)));rw [O] at B;have S :∀i∈p,i < ys.length:=λ i w=>List.mem_range.mp (B.mem_iff.mp w);have k2 :∀b o,c.get? b=some o->U.get? b=some o:=λ b o z=>kk b o (Z0 (R0 z)) (G0 _ z);refine F0 ⟨_,rfl,.ref c.objs.size,_,F.laid (t':=s.toks) (o:=.lst (p.map λ i=>ys.getD i .non)) k2 (J0 _) ⟨?_,_,e,Z p S,hl⟩,rfl,q _ p (F.hok.fresh (J0 _)) B pw⟩;rw [B0,B.length_eq,W1];exact L
end
noncomputable def addT (ns:List Str) (v:Str):List Str:=if v∈ns then ns else ns++[v]
theorem za3 (ns:List Str) (v:Str):(addT ns v).length=if v∈ns then ns.length else ns.length + 1:=by
 unfold addT;by_cases z:v∈ns
 ·rw [if_pos z,if_pos z]
 ·rw [if_neg z,if_neg z,I0];rfl
theorem zj1 (ns:List Str) (v k:Str):(decide (k∈ns) || decide (k=v))=decide (k∈addT ns v):=by
 unfold addT;by_cases z:v∈ns
 ·rw [if_pos z];by_cases y:k=v
  ·rw [y,decide_eq_true z];rfl
  ·rw [decide_eq_false y,j02]
 ·rw [if_neg z];by_cases y:k=v
  ·rw [decide_eq_true y,Bool.or_true,decide_eq_true (by rw [y];exact List.mem_append.mpr (.inr (List.mem_singleton.mpr rfl)))]
  ·rw [decide_eq_false y,j02];by_cases x:k∈ns
   ·rw [decide_eq_true x,decide_eq_true (List.mem_append.mpr (.inl x))]
   ·rw [decide_eq_false x,decide_eq_false (λ w=>(List.mem_append.mp w).elim x λ u=>y (List.mem_singleton.mp u))]
section
variable {prog:Program} {w:W0} {A:P2} {E:Value->C0->Prop} {s:C0}
theorem z8g {h h':Heap} {a:Addr} {M:Str->Bool} {n:Nat} (k :∀o,h.get? a=some o->h'.get? a=some o) (x:f8 (K5 prog w) h a M n):f8 (K5 prog w) h' a M n:=by obtain ⟨o,b,c,t,e,r⟩:=x;exact ⟨o,b,c,t,k _ e,r⟩
theorem zj2 {h:Heap} {a:Addr} (e:h.get? a=some (set0 w)):f8 (K5 prog w) h a (λ k=>decide (k∈([]:List Str))) ([]:List Str).length:=
 ⟨_,#[],0,_,e,⟨rfl,rfl,rfl⟩,rfl,λ x b=>by simp at b,λ k=>⟨λ z=>absurd (of_decide_eq_true z) N0,λ ⟨e,he,_⟩=>by simp at he⟩,by decide,by rfl,rfl⟩
theorem zen {S it l:Addr} {items:Array Value} (nsi:S≠it) (nsl:S≠l) (nil':it≠l) :∀(ms:List Str) (i:Nat) (ns:List Str) (A:P2) (R:j2c->C0->Prop) (s:C0),A.handled=none->s.heap.IsListIter it l i->s.heap.IsList l items->
  StrsAre (items.toList.drop i) ms->f8 (K5 prog w) s.heap S (λ k=>decide (k∈ns)) ns.length->ns.length + ms.length < scanBound->
  (∀h' tk ns',f8 (K5 prog w) h' S (λ k=>decide (k∈ns')) ns'.length->ns'=ms.foldl addT ns->(∀c o,c≠S->c≠it->s.heap.get? c=some o->h'.get? c=some o)->R (.ok (.ret .none)) { s with heap:=h',toks:=tk })->
  T5 (N1 prog w) A (U7 "set.update.loop" { pos:=[.ref S,.ref it],kw:=[] }) R s
 | [],i,ns,A,R,s,hh,si,sl,al,dd,hz,q=>by
  have F:items[i]? = none:=by
   cases hd:items.toList.drop i with
   | nil=>have:=List.drop_eq_nil_iff.mp hd;rw [J2] at this;exact v5 this
   | cons u us=>rw [hd] at al;cases al
  refine P3 X6 ?_;show T0 _ _ (n8 (.ref it) >>= _) _ _ s;refine o0 (C6 (show (A.under _).handled=none from hh) si sl F λ h' n=>?_);exact F0 (q h' s.toks ns (z8g (λ o e=>n S o nsi e) dd) rfl λ c o _ J e=>n c o J e)
 | m :: ms,i,ns,A,R,s,hh,si,sl,al,dd,hz,q=>by
  cases hd:items.toList.drop i with
  | nil=>rw [hd] at al;cases al
  | cons u us=>
   rw [hd] at al;cases al with
   | cons _ tk al=>
    have H:items.toList[i]? = some (.str m tk):=by have:=congrArg (λ l=>l[0]?) hd;simpa using this
    have x:items[i]? = some (.str m tk):=by simpa using H
    have B:items.toList.drop (i + 1)=us:=by have:=congrArg j1a hd;simpa using this
    refine P3 X6 ?_;show T0 _ _ (n8 (.ref it) >>= _) _ _ s;refine o0 (D5 si sl x λ t y h=>?_);have D:t.IsList l items:=by obtain ⟨o,a,b⟩:=sl;exact ⟨o,(h.2 l (A2 nil')).trans a,b⟩
    have E:=z8g (prog:=prog) (w:=w) (λ o e=>(h.2 S nsi).trans e) dd;rw [X0] at hz;refine o0 (N2 (show T0 _ _ (setAdd S (.str m tk)) _ _ _ from ?_));unfold setAdd;have v:(K5 prog w).is m (.str m tk)=true:=PySem.strKind_is prog w m tk;refine N2 (o0 ((K5 prog w).pyHash (k:=m) v ?_));refine wpAny_setAddHashed_of (s:={ s with heap:=t,toks:=s.toks + 1 }) v rfl E (Y0 (by omega) hz) λ f g d=>?_;refine F0 ⟨zbc _,?_⟩;have C:f8 (K5 prog w) f S (λ k=>decide (k∈addT ns m)) (addT ns m).length:=by
     rw [za3];have a:(λ p=>decide (p∈ns) || decide (p=m))=λ k=>decide (k∈addT ns m):=funext λ k=>zj1 ns m k;rw [a] at d;by_cases z:m∈ns
     ·rw [if_pos z];rw [if_pos (decide_eq_true z)] at d;exact d
     ·rw [if_neg z];rw [if_neg (by rw [decide_eq_false z];decide)] at d;exact d
    have I:f.IsListIter it l (i + 1):=by obtain ⟨o,a,b⟩:=y;exact ⟨o,(g.2 it (A2 nsi)).trans a,b⟩
    have M:f.IsList l items:=by obtain ⟨o,a,b⟩:=D;exact ⟨o,(g.2 l (A2 nsl)).trans a,b⟩
    have O:(addT ns m).length<=ns.length + 1:=by rw [za3];split<;>omega
    refine zen nsi nsl nil' ms (i + 1) (addT ns m) A R { s with heap:=f,toks:=s.toks + 1 } hh I M (by rw [B];exact al) C (by omega) λ h' N ns' K L G=>q h' N ns' K L λ c o j r e=>G c o j r ((g.2 c j).trans ((h.2 c r).trans e))
theorem z90 {l:Addr} {items:Array Value} {ns:List Str} {Q:Value->C0->Prop} (hh:A.handled=none) (ht:s.heap.IsList l items) (hi:StrsAre items.toList ns) (hb:ns.length < scanBound)
  (h :∀h' tk ns',f8 (K5 prog w) h' s.heap.objs.size (λ k=>decide (k∈ns')) ns'.length->ns'=ns.foldl addT []->(∀b o,s.heap.get? b=some o->h'.get? b=some o)->Q (.ref s.heap.objs.size) { s with heap:=h',toks:=tk }) :
  T0 (N1 prog w) A (call (.type "set") [.ref l]) Q E s:=by
 obtain ⟨c,P,U⟩:=F.called_set.mro;have W:=F.called_set.made;have O:=F.called_set.sub;refine j42 (codeAny_of_tree (show T0 _ _ (callAny (.type "set") _) _ _ _ from F0 ⟨Code.quiet_builtin _ (by decide +kernel),P3 F.entry_type_call ?_⟩));rw [j57 (weight_type_call_type "set" [.ref l] []) rfl];have Z:=F.called_set.notType;have h2:=F.called_set.canCreate;have X:=F.typeCall_set_1 (.ref l)
 (repeat (any_goals (first|assumption|wp_step)));refine Q6 (zhq (.ref l) (E:=E) (Q₁:=λ m j=>m=.ref s.heap.objs.size/\j={ s with heap:=s.heap.push (set0 w) }) ⟨rfl,rfl⟩) λ r j a=>?_
 cases r with
 | error e=>exact a
 | ok fl=>
  cases fl with
  | next=>exact a.elim
  | brk=>exact a.elim
  | cont=>exact a.elim
  | ret m=>
   obtain ⟨rfl,rfl⟩:=a;have f:(s.heap.push (set0 w)).get? s.heap.objs.size=some (set0 w):=C1 _ rfl;have z:o7 { s with heap:=s.heap.push (set0 w) } (.ref s.heap.objs.size) "set":=⟨_,f,rfl⟩
   have N:=F.called_set.init.lookup;have M:=F.called_set.init.bind (.ref s.heap.objs.size)
   (repeat (any_goals (first|assumption|wp_step)))
   have D:T5 (N1 prog w) A.in1 (.call (.builtin "set.__init__") ⟨[.ref s.heap.objs.size,.ref l],[]⟩) (wants (λ r v=>r=.none/\Q (.ref s.heap.objs.size) v) E) { s with heap:=s.heap.push (set0 w) }:=by
    refine j09 F.called_set.init.plain F.entry_set_init (check_set_init_1 z ?_);obtain ⟨o,g,u,n,p⟩:=ht;obtain ⟨Y,I,a0,B⟩:=o;dsimp only at u p;subst u p;have x:(s.heap.push (set0 w)).get? l=some { cls:=.type "list",dict:=I,data:=.seq items n,slots:=B }:=G0 _ g;have V:=z9a;have T:=z6x;have L:(N3 "list" == N3 "dict")=false:=by decide
    have R:(s.heap.push (set0 w)).get? s.heap.objs.size=some { cls:=.type "set",dict:=none,data:=.set #[] 0 (.fresh 0 0 (!w.params.followText "set-order")),slots:=#[] }:=f;have H:(s.heap.push (set0 w)).IsList l items:=⟨_,x,rfl,n,rfl⟩
    have q:l < s.heap.objs.size:=R0 g;unfold R9.«set.__init__» noKeywords i9;generalize hPI:pyIter=PI
    wp_walk
    subst hPI;refine F6 H (o0 (wpAny_runValue ?_));have t :∀b o,s.heap.get? b=some o->((s.heap.push (set0 w)).push { cls:=.type "list_iterator",data:=.fields #[.ref l,.int 0 0] }).get? b=some o:=λ b o e=>G0 _ (G0 _ e);have i:(s.heap.push (set0 w)).objs.size=s.heap.objs.size + 1:=W6 _ _;refine zen (S:=s.heap.objs.size) (it:=(s.heap.push (set0 w)).objs.size) (l:=l) (items:=items) (by rw [i];exact Z0 (O3 _)) (J4 q) (by rw [i];exact J4 (U2 q)) ns 0 [] _ _ _ (by simp [hh]) ⟨_,C1 _ rfl,rfl,rfl⟩ ⟨_,t _ _ g,rfl,n,rfl⟩ (by rw [V6];exact hi) (zj2 (G0 _ f)) (by simpa using hb) λ h' tk ns' y J C=>?_;refine F0 (F0 ⟨rfl,h h' tk ns' y J λ b o e=>C b o (Z0 (R0 e)) (by rw [i];exact Z0 (U2 (R0 e))) (t b o e)⟩)
   refine Q6 D λ K v d=>?_;cases K with
   | error e=>exact d
   | ok f2=>
    cases f2 with
    | next=>exact d.elim
    | brk=>exact d.elim
    | cont=>exact d.elim
    | ret r=>obtain ⟨rfl,G⟩:=d;exact F0 (F0 G)
end
section
variable {X:Cx}
noncomputable def tLSetS (K:j0) (te:TE):TE:=λ σ H Q=>te σ H λ x H1=>∃(a:Addr) (ns:List Str),x=.ref a/\SqL K H1 a (ns.map V.str)/\ns.length < 100/\Q (.int ((ns.foldl addT []).length:Nat)) H1
theorem z53 :∀(vs ns:List Str),(vs.foldl addT ns).length<=ns.length + vs.length
 | [],ns=>J0 _
 | v :: vs,ns=>by
  have b:=z53 vs (addT ns v);have a:(addT ns v).length<=ns.length + 1:=by rw [za3];split<;>omega
  show (vs.foldl addT (addT ns v)).length<=_;rw [X0];omega
theorem z8u :∀{ns:List Str} {us:List Value},Vals (ns.map V.str) us->StrsAre us ns
 | [],_,.nil=>.nil
 | n :: ns,_,.cons a r=>by obtain ⟨t,rfl⟩:=a;exact .cons n t (z8u r)
theorem ze8 {e:Expr} {te:TE} {p1 p2 c1 c2:Pos} (hcalm:X.calm=true) (g1:Gl X "len") (m1:X.mg "len" = none) (g2:Gl X "set") (m2:X.mg "set" = none) (b1:N5 "len" = some (.builtin "len")) (b2:N5 "set" = some (.type "set")) (ha:PE X e te)
  (he:E1 [e] X.env=[(false,Z3 e X.env)]:=by rfl):PE X (.Call (.Name "len" p1) [.Call (.Name "set" p2) [e] [] c2] [] c1) (tLSetS X.K te):=by
 intro w s σ H Q I h;have j:X.A.handled=none:=I.ok.hd hcalm;refine U4 (ld_blt I g1 m1 b1 ?_ (by decide) (by decide));refine S6 ?_ rfl rfl;refine (show T0 _ _ (j3f ((false,Z3 (.Call (.Name "set" p2) [e] [] c2) X.env) :: [])) _ _ s from C5 ?_);refine U4 (ld_blt I g2 m2 b2 ?_ (by decide) (by decide));refine T4 ?_ he rfl;rw [he];refine (show T0 _ _ (j3f ((false,Z3 e X.env) :: [])) _ _ s from C5 (thn (ha w s σ H _ I h) λ u f ⟨x,H1,I1,r1,a,ns,ex,sq,hl,q⟩=>?_));subst ex;cases r1;refine b6 ?_;obtain ⟨F,v,m,C⟩:=I1.list sq;refine z90 j m.isList (by simpa using z8u v) (Z6 hl (by decide)) λ p b B c r i=>b6 ?_;subst r;obtain ⟨o,y,z,t,g,n,d,_,_,E,l,k⟩:=c;have D:(ns.foldl addT []).length < 100:=by have:=z53 ns [];rw [K4,V5] at this;omega
 refine call_len_set (s:={ f with heap:=p,toks:=b }) g n d l (by omega) ?_;rw [k];exact ⟨.int ((ns.foldl addT []).length:Nat),H1,(I1.kept (t':=b + 1 + 1) i),⟨_,rfl⟩,q⟩
end
noncomputable def Itc (x:Str):It:=⟨λ i _=>i < x.cps.size,λ i H v H'=>H'=H/\∃c,x.cps[i]? = some c/\v=.str ⟨#[c]⟩,λ i _=>x.cps.size<=i⟩
theorem zif {P:Program} {w:W0} {K:j0} {tg:Expr} {x:Str} {it:Addr} {t:Tok}:Turn P w K tg (Itc x) [it] it (λ i h=>h.IsStrIter it "str_ascii_iterator" x t i) where
 mem:=by simp
 obj:=λ i h a b f=>by
  obtain rfl:b=it:=by simpa using f
  obtain ⟨o,e,c,d⟩:=a;exact ⟨o,e,λ v z=>by rw [d] at z;cases z⟩
 keep:=λ i h g a k=>by obtain ⟨o,e,r⟩:=a;exact ⟨o,k it (by simp) o e,r⟩
 item:=by intro X l A n F i G s σ H E I j a p;subst l A n;obtain ⟨q,m,N,u,y,B⟩:=j it (by simp);have D:x.cps[i]? = some x.cps[i]:=j2a p;refine wpAny_pyNext_ascii_item a D λ g C J=>?_;have L:Inv X G σ H { s with heap:=g,toks:=s.toks + 1 }:=I.turned (t':=s.toks + 1) (λ b o f e=>(J.2 b f).trans e) q m u y B;obtain ⟨o,e,c,d⟩:=id C;exact ⟨_,rfl,go_of (s:={ s with heap:=g,toks:=s.toks + 1 }) e c d (by decide) ⟨.str ⟨#[x.cps[i]]⟩,H,L,⟨_,rfl⟩,⟨rfl,_,D,rfl⟩,C,λ b f=>(j b f).1⟩⟩
 done:=by intro X l A n F i G s σ H E I j a p;subst l A n;obtain ⟨q,m,N,u,y,B⟩:=j it (by simp);exact wpAny_pyNext_ascii_end (I.ok.hd F) a (v5 p) λ g M=>⟨rfl,I.turned (t':=s.toks) (λ b o f e=>M b o f e) q m u y B⟩
 self:=λ _ _ _ _ _ a h=>wpAny_pyIter_striter_ascii a h
noncomputable def iStr (tl:TE):TI:=λ σ H R=>tl σ H λ v H1=>∃x:Str,v=.str x/\x.cps.all (· < 128)=true/\R (Itc x) H1
theorem pi_str {X:Cx} {tg l:Expr} {tl:TE} (hl:PE X l tl):PI X tg l (iStr tl):=by
 intro c s σ H R I h;refine thn (hl c s σ H _ I h) λ v a ⟨y,H1,I1,r1,x,e,ha,q⟩=>?_;subst e;obtain ⟨t,rfl⟩:=r1;refine wpAny_pyIter_ascii ha ?_;refine ⟨a.heap.objs.size,[a.heap.objs.size],_,_,H1,rfl,I1.kept (t':=a.toks) λ b o e=>G0 _ e,zif,⟨_,C1 _ rfl,rfl,rfl⟩,λ b d=>?_,q⟩;obtain rfl:b=a.heap.objs.size:=by simpa using d
 exact I1.fpOk (J0 _) (I1.hok.fresh (J0 _))
theorem zgd {x:Str} {H1:Hp}:RunsR Same (Itc x) H1 x.cps.size (λ i v _=>∃c,x.cps[i]? = some c/\v=.str ⟨#[c]⟩):=
 ⟨λ i a H s=>a,λ H s=>J0 _,λ i a H v b s y=>by obtain ⟨e,y⟩:=y;subst e;exact ⟨Same.refl _,y⟩⟩
theorem tcompS {x:Str} {tl te:TE} {tc:TT} {g:TG} {m:Nat} {fr:List (Nat×Str)} {σ:L2.St} {H H1:Hp} {Q:VK} (p:Nat->Bool) (R:Nat->V->Hp->Prop) (hR :∀i y H H',Same H H'->R i y H->R i y H') (htl :∀R:VK,R (.str x) H1->tl σ H R) (ha:x.cps.all (· < 128)=true) (hn:x.cps.size<=sizeLine)
  (body :∀i,i < x.cps.size->∀v H,Same H1 H->(∃c,x.cps[i]? = some c/\v=.str ⟨#[c]⟩)->∀(KT:VK) (KF:Hp->Prop),(p i=true->∀y H',Same H H'->R i y H'->KT y H')->(p i=false->∀H',Same H H'->KF H')->
   g v (cStG σ fr (F1 m none)) H λ σ6 H6=>∃us,us.length=m/\σ6=cStG σ fr us/\tc (cStG σ fr us) H6 λ b H2=>if b=true then te (cStG σ fr us) H2 KT else KF H2)
  (hQ :∀l H' ys,Same H1 H'->H' l=none->All2 (λ i y=>R i y H') ((O0 x.cps.size).filter p) ys->Q (.ref l) (upd H' l (.lst ys))):tCompG (iStr tl) m fr g tc te σ H Q:=
 htl _ ⟨x,rfl,ha,z2x (Same.refl _) (λ _ _ _ a b=>a.trans b) p R hR zgd hn body hQ⟩
theorem zk2 {K:j0} {te:TE} {σ:L2.St} {H:Hp} {Q:VK} (h:te σ H λ x H1=>∃(a:Addr) (ns:List Str),x=.ref a/\SqL K H1 a (ns.map V.str)/\ns.length < 100/\Q (.int ((ns.foldl addT []).length:Nat)) H1):tLSetS K te σ H Q:=h
theorem tB_not {te:TE} {σ:L2.St} {H:Hp} {Q:Bool->Hp->Prop} (h:te σ H λ x H1=>∃c,x=.bl c/\Q (!c) H1):tNot (tB te) σ H Q:=h
end L2
set_option maxHeartbeats 400000
namespace L2
open PySem PySem.Spec PyProof.Rows
end L2
set_option maxHeartbeats 1000000
namespace L2
open PySem PySem.Spec PyProof.Rows
structure ZLAt (h:Heap) (z T U i j a b:Addr) (n:Nat) (f:Value):Prop where
 z:IsZip h z T U f
 t:IsPair h T (.ref i) (.ref j)
 u :∃p q,IsPair h U p q
 i:h.IsListIter i a n
 j:h.IsListIter j b n
end L2
namespace L2
open PySem PySem.Spec PyProof.Rows PySem.NumText
end L2
namespace L2
open PySem PySem.Spec PyProof.Rows
def TupN (h:Heap) (v:Value) (x:(Int×Int)×Int):Prop:=∃(p:Addr) (o:Obj) (n:Nat) (q:Value) (u:Tok),v=.ref p/\h.get? p=some o/\o.cls=.type "tuple"/\o.data=.seq #[q,.int x.2 u] n/\TupI h q x.1
noncomputable def gtN (x y:(Int×Int)×Int):Bool:=if x.1=y.1 then decide (y.2 < x.2) else gtI x.1 y.1
theorem gtN_iff {x y:(Int×Int)×Int}:gtN x y=true↔gtI x.1 y.1=true\/(x.1=y.1/\y.2 < x.2):=by
 unfold gtN;by_cases e:x.1=y.1
 ·rw [if_pos e,decide_eq_true_iff,e];constructor
  ·exact λ h=>.inr ⟨rfl,h⟩
  ·rintro (h|h)
   ·have:=gtI_iff.mp h;omega
   ·exact h.2
 ·rw [if_neg e];exact ⟨.inl,λ h=>h.elim id λ z=>absurd z.1 e⟩
theorem zjy {x y:Int×Int} (h1:gtI x y=false) (h2:gtI y x=false):x=y:=by
 have h1:¬ _:=λ z=>Bool.eq_false_iff.mp h1 (gtI_iff.mpr z);have h2:¬ _:=λ z=>Bool.eq_false_iff.mp h2 (gtI_iff.mpr z);obtain ⟨a,b⟩:=x;obtain ⟨c,d⟩:=y;simp only at h1 h2;have e:a=c:=by omega
 have f:b=d:=by omega
 rw [e,f]
theorem zl6 {x y:(Int×Int)×Int} (h1:gtN x y=false) (h2:gtN y x=false):x=y:=by
 have h1:¬ _:=λ z=>Bool.eq_false_iff.mp h1 (gtN_iff.mpr z);have h2:¬ _:=λ z=>Bool.eq_false_iff.mp h2 (gtN_iff.mpr z);have e:x.1=y.1:=zjy (Bool.eq_false_iff.mpr λ z=>h1 (.inl z)) (Bool.eq_false_iff.mpr λ z=>h2 (.inl z));have a:x.2=y.2:=by have c:¬ y.2 < x.2:=λ z=>h1 (.inr ⟨e,z⟩);have b:¬ x.2 < y.2:=λ z=>h2 (.inr ⟨e.symm,z⟩);omega
 exact j51 e a
theorem gtN_tr {x y z:(Int×Int)×Int} (h:gtN x y=false) (k:gtN y z=false):gtN x z=false:=by have h:¬ _:=λ q=>Bool.eq_false_iff.mp h (gtN_iff.mpr q);have k:¬ _:=λ q=>Bool.eq_false_iff.mp k (gtN_iff.mpr q);refine Bool.eq_false_iff.mpr λ q=>?_;obtain ⟨⟨e,f⟩,d⟩:=x;obtain ⟨⟨a,b⟩,g⟩:=y;obtain ⟨⟨c,j⟩,i⟩:=z;have q:=gtN_iff.mp q;rw [gtI_iff,D9] at h k q;simp only at h k q;omega
theorem TupI.kept2 {h h':Heap} {v:Value} {x:Int×Int} (q:TupI h v x) (k :∀b o,h.get? b=some o->o.cls=.type "tuple"->h'.get? b=some o):TupI h' v x:=by obtain ⟨p,o,n,t,u,rfl,d,a,c⟩:=q;exact ⟨p,o,n,t,u,rfl,k p o d a,a,c⟩
theorem TupN.kept {h h':Heap} {v:Value} {x:(Int×Int)×Int} {c:Addr} {oc:Obj} (q:TupN h v x) (e:h.get? c=some oc) (nc:oc.cls≠.type "tuple") (k :∀b o,b≠c->h.get? b=some o->h'.get? b=some o):TupN h' v x:=by obtain ⟨p,o,n,q,u,rfl,a,d,f,g⟩:=q;exact ⟨p,o,n,q,u,rfl,k p o (λ z=>by rw [z,e] at a;cases a;exact nc d) a,d,f,g.kept e nc k⟩
section
variable {prog:Program} {w:W0} {A:P2} {E:Value->C0->Prop} {s:C0}
theorem zl5 {v z:Value} {x y:Int×Int} {Q:Bool->C0->Prop} (hx:TupI s.heap v x) (hy:TupI s.heap z y) (hu:A.units + 1 < cLine) (h:Q (decide (x=y)) s):T0 (N1 prog w) A (eqBool v z) Q E s:=by
 obtain ⟨p,o,n,t,u,rfl,f,i,c⟩:=hx;obtain ⟨g,k,m,q,l,rfl,d,b,a⟩:=hy;have j:Reads s.heap (.ref p) (.tuple [.int x.1,.int x.2]) _:=.tuple f i c (.cons (.int _ _) (.cons (.int _ _) .nil));have rb:Reads s.heap (.ref g) (.tuple [.int y.1,.int y.2]) _:=.tuple d b a (.cons (.int _ _) (.cons (.int _ _) .nil));have e:PyData.eqv (.tuple [.int x.1,.int x.2]) (.tuple [.int y.1,.int y.2])=decide (x=y):=by show ((x.1 == y.1) && ((x.2 == y.2) && true))=_;rw [Bool.eq_iff_iff];simp [Prod.ext_iff]
 exact SeqAt.eqAt_reads _ _ A s _ _ _ _ j rb rfl rfl (Y0 (Nat.add_le_add_left (Nat.min_le_left _ _) _) hu) prog w E Q (by rw [e];exact h)
theorem zkk {v z:Value} {x y:(Int×Int)×Int} {Q:Value->C0->Prop} (hx:TupN s.heap v x) (hy:TupN s.heap z y) (hu:A.units + 3 < cLine) (h:Q (.bool (gtN x y)) s):T0 (N1 prog w) A (W8 .Gt v z) Q E s:=by
 obtain ⟨p,o,n,q,u,rfl,d,e,B,f⟩:=hx;obtain ⟨r,k,D,C,G,rfl,c,g,m,l⟩:=hy;refine j3d (op:=.Gt) (T:="tuple") ⟨o,d,e⟩ ⟨k,c,g⟩ E9 (r9 E9 ⟨o,d,e⟩ F.entry_tuple_gt ?_ (F.args_tuple_gt_2 _ _)) (by omega);refine (show T0 _ _ (j45 (.ref r) (.type "tuple") >>= _) _ _ s from o0 (P6 (T:="tuple") ⟨k,c,g⟩ isSubtype_tuple_tuple ?_));simp only [Z5,L3,if_false];refine o0 (F8 d B (o0 (F8 c m (o0 ?_))));simp only [j03,List.zip_nil_left,L7,a8];refine o0 (o0 (zl5 f l (show A.units + 1 + 1 < cLine by omega) ?_));have t :∀{i j:Int} {a b:Tok} {R:Value->C0->Prop},R (.bool (decide (j < i))) s->T0 (N1 prog w) A.in1 (W8 .Gt (.int i a) (.int j b)) R E s:=λ q=>(show T0 _ _ (E3 .Gt _ _) _ _ _ from gt_int q)
 unfold gtN at h;by_cases e1:x.1=y.1
 ·rw [decide_eq_true e1];simp only [Z5,L3,if_false];refine F0 (o0 (o0 ((M5 prog w).eqBool (a:=x.2) (b:=y.2) (Y6 prog w _ _) (Y6 prog w _ _) ?_)));rw [if_pos e1] at h;by_cases e2:x.2=y.2
  ·rw [decide_eq_true e2];simp only [Z5,L3,if_false];rw [decide_eq_false (by omega)] at h;exact F0 (F0 (F0 ⟨_,rfl,(λ z=>nomatch z),h⟩))
  ·rw [decide_eq_false e2];simp only [F9,if_true];exact o0 (O7 (o0 (t (o0 (F0 (F0 (F0 (F0 ⟨_,rfl,(λ z=>nomatch z),h⟩))))))))
 ·rw [decide_eq_false e1];simp only [F9,if_true];rw [if_neg e1] at h;exact o0 (O7 (o0 (tup_gt f l (show A.units + 1 < cLine by omega) (o0 (F0 (F0 (F0 (F0 ⟨_,rfl,(λ z=>nomatch z),h⟩))))))))
noncomputable def bestN (m:Value×((Int×Int)×Int)):List (Value×((Int×Int)×Int))->Value×((Int×Int)×Int)
 | []=>m
 | x :: r=>bestN (if gtN x.2 m.2=true then x else m) r
theorem z7x {I l S:Addr} {its:Array Value} (nl:l≠I) (ns:S≠I) (nsl:l≠S) :∀(xs:List (Value×((Int×Int)×Int))) (k c:Nat) (m:Value×((Int×Int)×Int)) (A:P2) (R:j2c->C0->Prop) (s:C0),A.handled=none->A.units + 9 < cLine->s.heap.IsListIter I l k->s.heap.IsList l its->its.toList.drop k=xs.map (·.1)->
  s.heap.get? S=some { cls:=.type "list",dict:=none,data:=.seq #[m.1,m.1] c,slots:=#[] }->TupN s.heap m.1 m.2->(∀x∈xs,TupN s.heap x.1 x.2)->
  (∀h' tk,(∀b o,b≠I->b≠S->s.heap.get? b=some o->h'.get? b=some o)->R (.ok (.ret (bestN m xs).1)) { s with heap:=h',toks:=tk })->
  T5 (N1 prog w) A (.builtin "max.loop" ⟨[.ref I,.none,.ref S],[]⟩) R s
 | [],k,c,m,A,R,s,hh,hu,hI,hl,hd,hS,hm,hx,q=>by
  have K:its[k]? = none:=by have:=List.drop_eq_nil_iff.mp hd;rw [J2] at this;exact v5 this
  refine P3 j25 ?_;rw [q9 S5 _];refine (show T0 _ A.in1 (seqItems? (.ref S) >>= _) _ _ s from o0 (j08 hS rfl ?_));refine (show T0 _ A.in1 (tryCatch (n8 (.ref I)) _ >>= _) _ _ s from o0 (y7 (C6 (show A.in1.handled=none from hh) hI hl K λ h' d=>?_)));have a:=d S _ ns hS;refine (show T0 _ A.in1 (updateSeq S (λ _=>#[]) >>= _) _ _ _ from o0 (j36 a rfl (o0 (j30 (F0 ?_)))));exact q _ _ λ b o f h e=>(z5 _ _ (A2 h)).trans (d b o f e)
 | x :: xs,k,c,m,A,R,s,hh,hu,hI,hl,hd,hS,hm,hx,q=>by
  have u:its.toList[k]? = some x.1:=by have:=congrArg (λ z=>z[0]?) hd;simpa using this
  have u:its[k]? = some x.1:=by simpa using u
  have D:its.toList.drop (k + 1)=xs.map (·.1):=by have:=congrArg j1a hd;simpa using this
  have B:(toString "max"++toString ".loop" : String) = "max.loop":=by decide
  obtain ⟨J,G,L,_⟩:=id hI;have F:J.cls≠.type "tuple":=by rw [L];decide
  refine P3 j25 ?_;rw [q9 S5 _];refine (show T0 _ A.in1 (seqItems? (.ref S) >>= _) _ _ s from o0 (j08 hS rfl ?_));refine (show T0 _ A.in1 (tryCatch (n8 (.ref I)) _ >>= _) _ _ s from o0 (y7 (D5 hI hl u λ h' C H=>?_)));have g :∀b o,b≠I->s.heap.get? b=some o->h'.get? b=some o:=λ b o n e=>(H.2 b n).trans e;have a:=g S _ ns hS;have E:h'.IsList l its:=hl.elim λ o z=>⟨o,g l o nl z.1,z.2⟩
  have v:TupN h' m.1 m.2:=hm.kept G F g;have p :∀y∈x :: xs,TupN h' y.1 y.2:=λ y i=>(hx y i).kept G F g;refine (show T0 _ A.in1 (tryCatch (K9 [x.1,x.1] (W8 .Gt x.1 m.1 >>= _)) _ >>= _) _ _ _ from o0 (y7 (N2 (o0 (zkk (s:={ s with heap:=h' }) (p x (.head _)) v (show A.units + 1 + 3 < cLine by omega) (o0 (N2 (T3 (o0 (j30 (F0 ?_)))))))))));have d:bestN m (x :: xs)=bestN (if gtN x.2 m.2=true then x else m) xs:=rfl;cases hg:gtN x.2 m.2 with
  | true=>rw [hg,if_pos rfl] at d;simp only [if_true];refine o0 (j36 a rfl (o0 (j30 ?_)));rw [B];have j :∀b o,b≠S->h'.get? b=some o->(h'.update S (P4 λ _=>#[x.1,x.1])).get? b=some o:=λ b o n e=>(z5 _ _ (A2 n)).trans e;refine F0 ⟨R7 S5 _,z7x nl ns nsl xs (k + 1) _ x A R { s with heap:=h'.update S (P4 λ _=>#[x.1,x.1]) } hh hu (C.elim λ o z=>⟨o,j I o (A2 ns) z.1,z.2⟩) (E.elim λ o z=>⟨o,j l o nsl z.1,z.2⟩) D (v7 _ a rfl) ((p x (.head _)).kept a (show N3 "list"≠.type "tuple" by decide) j) (λ y i=>(p y (.tail _ i)).kept a (show N3 "list"≠.type "tuple" by decide) j) λ r tk t=>?_⟩;rw [<-d];exact q r tk λ b o f h e=>t b o f h (j b o h (g b o f e))
  | false=>rw [hg,if_neg (by decide)] at d;simp only [L3,if_false];refine o0 (j30 ?_);rw [B];refine F0 ⟨R7 S5 _,z7x nl ns nsl xs (k + 1) c m A R { s with heap:=h' } hh hu C E D a v (λ y i=>p y (.tail _ i)) λ r tk t=>?_⟩;rw [<-d];exact q r tk λ b o f h e=>t b o f h (g b o f e)
theorem zg2 {l:Addr} {its:Array Value} {m:Value×((Int×Int)×Int)} {xs:List (Value×((Int×Int)×Int))} {Q:Value->C0->Prop} (hh:A.handled=none) (hu:A.units + 9 < cLine) (hl:s.heap.IsList l its) (hi:its.toList=(m :: xs).map (·.1)) (ht :∀x∈m :: xs,TupN s.heap x.1 x.2)
  (q :∀h' tk,(∀b o,s.heap.get? b=some o->h'.get? b=some o)->Q (bestN m xs).1 { s with heap:=h',toks:=tk }):T0 (N1 prog w) A (call (.builtin "max") [.ref l]) Q E s:=by
 have B:(toString "max"++toString ".loop" : String) = "max.loop":=by decide
 refine call_function_tree F.kind_max F.plain_max F.entry_max (F.args_max1 _) ?_;refine (show T0 _ A.in1 (z9 "max" ["key","default"] 0 ⟨[],[]⟩ >>= _) _ _ s from o0 (j2j (show z9 "max" ["key","default"] 0 ⟨[],[]⟩=O4 [none,none] from rfl) (o0 (F0 ?_))));refine o0 (F6 hl ?_);refine o0 (G6 ?_);rw [B];dsimp only;generalize hI0:s.heap.push { cls:=.type "list_iterator",data:=.fields #[.ref l,.int 0 0] }=h1;have y:h1.get? s.heap.objs.size=some { cls:=.type "list_iterator",data:=.fields #[.ref l,.int 0 0] }:=by rw [<-hI0];exact C1 _ rfl
 have h:h1.objs.size=s.heap.objs.size + 1:=by rw [<-hI0];exact W6 _ _
 have d :∀b o,s.heap.get? b=some o->h1.get? b=some o:=λ b o e=>by rw [<-hI0];exact G0 _ e
 generalize hS0:h1.push { cls:=.type "list",data:=.seq #[] }=h2;have k:h2.get? h1.objs.size=some { cls:=.type "list",data:=.seq #[] }:=by rw [<-hS0];exact C1 _ rfl
 have a :∀b o,h1.get? b=some o->h2.get? b=some o:=λ b o e=>by rw [<-hS0];exact G0 _ e
 have r:l < s.heap.objs.size:=hl.elim λ o z=>R0 z.1;generalize hI:s.heap.objs.size=I at y h r;generalize hSS:h1.objs.size=S at k h;have v:S≠I:=by omega
 have G:l≠I:=Z0 r;have K:l≠S:=Z0 (by rw [h];exact U2 r);have P :∀x∈m :: xs,TupN h2 x.1 x.2:=λ x c=>by obtain ⟨p,o,n,t,u,e,N,T,M,U⟩:=ht x c;exact ⟨p,o,n,t,u,e,a _ _ (d _ _ N),T,M,U.kept2 λ b o e _=>a _ _ (d _ _ e)⟩
 refine F0 ⟨R7 S5 _,P3 j25 ?_⟩;rw [q9 S5 _];refine (show T0 _ A.in1 (seqItems? (.ref S) >>= _) _ _ _ from o0 (j08 k rfl ?_));have V:its[0]? = some m.1:=by have:=congrArg (λ z=>z[0]?) hi;simpa using this
 refine (show T0 _ A.in1 (tryCatch (n8 (.ref I)) _ >>= _) _ _ _ from o0 (y7 (D5 (l:=l) ⟨_,a _ _ y,rfl,rfl⟩ (hl.elim λ o z=>⟨o,a _ _ (d _ _ z.1),z.2⟩) V λ f O L=>?_)));have g :∀b o,b≠I->h2.get? b=some o->f.get? b=some o:=λ b o n e=>(L.2 b n).trans e;have j:=g S _ v k;refine (show T0 _ A.in1 (updateSeq S (λ _=>#[m.1,m.1]) >>= _) _ _ _ from o0 (j36 j rfl ?_));rw [B];have i :∀b o,b≠S->f.get? b=some o->(f.update S (P4 λ _=>#[m.1,m.1])).get? b=some o:=λ b o n e=>(z5 _ _ (A2 n)).trans e;have J :∀x∈m :: xs,TupN (f.update S (P4 λ _=>#[m.1,m.1])) x.1 x.2:=λ x c=>((P x c).kept (a _ _ y) (show N3 "list_iterator"≠.type "tuple" by decide) g).kept j (show N3 "list"≠.type "tuple" by decide) i;refine F0 ⟨R7 S5 _,z7x G v K xs 1 _ m A _ { s with heap:=f.update S (P4 λ _=>#[m.1,m.1]) } hh hu (O.elim λ o z=>⟨o,i I o (A2 v) z.1,z.2⟩) (hl.elim λ o z=>⟨o,i l o K (g _ _ G (a _ _ (d _ _ z.1))),z.2⟩) ?_ (v7 _ j rfl) (J m (.head _)) (λ x c=>J x (.tail _ c)) λ h' tk R=>?_⟩
 ·rw [hi];rfl
 ·refine q h' tk λ b o e=>?_;have D:b < I:=by rw [<-hI];exact R0 e
  have C:b≠I:=Z0 D;have H:b≠S:=Z0 (by rw [h];exact U2 D);exact R b o C H (i _ _ H (g _ _ C (a _ _ (d _ _ e))))
end
section
variable {X:Cx}
theorem zhp (x:(Int×Int)×Int):gtN x x=false:=Bool.eq_false_iff.mpr λ z=>by
 rcases gtN_iff.mp z with z|z
 ·have:=gtI_iff.mp z;omega
 ·omega
theorem zi3 {x y:(Int×Int)×Int} (h:gtN x y=true):gtN y x=false:=Bool.eq_false_iff.mpr λ z=>by obtain ⟨⟨d,e⟩,c⟩:=x;obtain ⟨⟨a,b⟩,f⟩:=y;have h:=gtN_iff.mp h;have z:=gtN_iff.mp z;rw [gtI_iff,D9] at h z;simp only at h z;omega
theorem za8 :∀(xs:List (Value×((Int×Int)×Int))) (m:Value×((Int×Int)×Int)),bestN m xs∈m :: xs/\∀x∈m :: xs,gtN x.2 (bestN m xs).2=false
 | [],m=>⟨.head _,λ x a=>by rw [List.mem_singleton.mp a];exact zhp _⟩
 | y :: xs,m=>by
  show bestN (if gtN y.2 m.2=true then y else m) xs∈m :: y :: xs/\∀x∈m :: y :: xs,gtN x.2 (bestN (if gtN y.2 m.2=true then y else m) xs).2=false;by_cases z:gtN y.2 m.2=true
  ·rw [if_pos z];obtain ⟨c,b⟩:=za8 xs y;refine ⟨.tail _ c,λ x a=>?_⟩;rcases List.mem_cons.mp a with e|a
   ·rw [e];exact gtN_tr (zi3 z) (b y (.head _))
   ·exact b x a
  ·rw [if_neg z];obtain ⟨c,b⟩:=za8 xs m;refine ⟨?_,λ x a=>?_⟩
   ·rcases List.mem_cons.mp c with e|e
    ·rw [e];exact .head _
    ·exact .tail _ (.tail _ e)
   ·rcases List.mem_cons.mp a with e|a
    ·rw [e];exact b m (.head _)
    ·rcases List.mem_cons.mp a with e|a
     ·rw [e];exact gtN_tr (Bool.eq_false_iff.mpr z) (b m (.head _))
     ·exact b x (.tail _ a)
theorem zf5 {pins:List (Addr×Obj)} {σ:St} {H:Hp} {s:C0} (I:Inv X pins σ H s) {q:Addr} {i j:Int} (st:SqT X.K H q [.int i,.int j]):TupI s.heap (.ref q) (i,j):=by obtain ⟨k,h,⟨o,e,f,n,b⟩,_⟩:=I.tuple st;obtain ⟨m,l,rfl,c,a⟩:=vals2 h;obtain ⟨d,rfl⟩:=c;obtain ⟨g,rfl⟩:=a;exact ⟨q,o,n,d,g,rfl,e,f,b⟩
noncomputable def rGtT (K:j0):R2:=λ x y H Q=>∃(p q:Addr) (a b:Int×Int),x=.ref p/\y=.ref q/\SqT K H p [.int a.1,.int a.2]/\SqT K H q [.int b.1,.int b.2]/\Q (.bl (gtI a b)) H
theorem op_gtT {k:Nat} (hr:Room k X.A):OpR X (E3 .Gt) (rGtT X.K):=by intro i s σ H x y v u Q I d c h;obtain ⟨p,q,a,b,rfl,rfl,g,f,e⟩:=h;cases d;cases c;exact (show T0 _ _ (W8 .Gt _ _) _ _ _ from tup_gt (zf5 I g) (zf5 I f) (by have:=hr.units;omega) ⟨.bl _,H,I,rfl,e⟩)
theorem zby (hcalm:X.calm=true) {k:Nat} (hr:Room k X.A):CallR X (.builtin "max") (λ xs H Q=>∃(l:Addr) (m:Addr×((Int×Int)×Int)) (r:List (Addr×((Int×Int)×Int))),xs=[.ref l]/\SqL X.K H l ((m :: r).map λ x=>V.ref x.1)/\(∀x∈m :: r,∃q,SqT X.K H x.1 [.ref q,.int x.2.2]/\SqT X.K H q [.int x.2.1.1,.int x.2.1.2])/\
  ∀b,(b∈m :: r)->(∀x∈m :: r,gtN x.2 b.2=false)->Q (.ref b.1) H):=by
 intro a0 s σ H xs g Q I T h;obtain ⟨l,m,r,rfl,R,O,q⟩:=h;obtain ⟨u,rfl,N⟩:=vals1 T;cases N;obtain ⟨j,P,G,Y⟩:=I.list R;have F:j.toArray.toList=(((J1 m.1,m.2) :: r.map λ x=>(J1 x.1,x.2)):List (Value×((Int×Int)×Int))).map (·.1):=by
  have go :∀(f:List (Addr×((Int×Int)×Int))) (g:List Value),Vals (f.map λ x=>V.ref x.1) g->g=(f.map λ x=>(J1 x.1,x.2)).map (·.1):=by
   intro f;induction f with
   | nil=>intro g h;cases h;rfl
   | cons y f ih=>
    intro g h;cases h with
    | cons a b=>cases (show _=J1 y.1 from a);rw [L1,L1,<-ih _ b]
  simpa using go (m :: r) j P
 have p :∀x∈(((J1 m.1,m.2) :: r.map λ x=>(J1 x.1,x.2)):List (Value×((Int×Int)×Int))),TupN s.heap x.1 x.2:=λ x c=>by
  obtain ⟨y,d,rfl⟩ :∃y∈m :: r,x=(J1 y.1,y.2):=by
   rcases List.mem_cons.mp c with e|c
   ·exact ⟨m,.head _,e⟩
   ·obtain ⟨y,d,e⟩:=List.mem_map.mp c;exact ⟨y,.tail _ d,e.symm⟩
  obtain ⟨q,D,z⟩:=O y d;obtain ⟨Z,U,⟨o,E,L,n,B⟩,_⟩:=I.tuple D;obtain ⟨J,u2,rfl,S,C⟩:=vals2 U;cases (show J=.ref q from S);obtain ⟨t,rfl⟩:=C;exact ⟨y.1,o,n,.ref q,t,rfl,E,L,B,zf5 I z⟩
 refine zg2 (I.ok.hd hcalm) (by have:=hr.units;omega) G.isList F p λ W v k=>?_;obtain ⟨w,i⟩:=za8 (r.map λ x=>(J1 x.1,x.2)) (J1 m.1,m.2);obtain ⟨y,d,M⟩ :∃y∈m :: r,bestN (J1 m.1,m.2) (r.map λ x=>(J1 x.1,x.2))=(J1 y.1,y.2):=by
  rcases List.mem_cons.mp w with e|c
  ·exact ⟨m,.head _,e⟩
  ·obtain ⟨y,d,e⟩:=List.mem_map.mp c;exact ⟨y,.tail _ d,e.symm⟩
 rw [M] at i⊢;refine ⟨.ref y.1,H,I.kept (t':=v) k,rfl,q y d λ x c=>?_⟩;rcases List.mem_cons.mp c with e|c
 ·rw [e];exact i _ (.head _)
 ·exact i (J1 x.1,x.2) (.tail _ (List.mem_map.mpr ⟨x,c,rfl⟩))
end
end L2
open PySem PySem.W PyProof.Rows
set_option maxHeartbeats 4000000
namespace TJ
section
variable (p:Program) (w:W0) (n₀:Nat) (ann:Option Value) (code:Code) (q:Pos)
theorem zfx {n m:Nat} :∀{s s' s'':C0} {t t' t'':j4a},segGo D4 p w n₀ ann 1 n s t=some (s',t')->segGo D4 p w n₀ ann 1 m s' t'=some (s'',t'')->
  segGo D4 p w n₀ ann 1 (n + m) s t=some (s'',t''):=by
 induction n with
 | zero=>
  intro s s' s'' t t' t'' h k;obtain ⟨rfl,rfl⟩:s=s'/\t=t':=by simpa [segGo] using h
  rw [V5];exact k
 | succ n ih=>
  intro s s' s'' t t' t'' h k;rw [show n + 1 + m=n + m + 1 by omega];unfold segGo at h⊢;cases he:endAt 1 t with
  | some f=>rw [he] at h;cases h
  | none=>
   rw [he] at h;cases hk:stepOk n₀ ann t with
   | false=>rw [hk] at h;cases h
   | true=>
    rw [hk] at h;cases hs:step (denote D4) p w s t with
    | halt o s₂=>rw [hs] at h;cases h
    | go s₂ t₂=>rw [hs] at h;exact ih h k
def Steps (c:Nat) (s:C0) (t:j4a) (s':C0) (t':j4a):Prop:=∃n,n<=c/\segGo D4 p w n₀ ann 1 n s t=some (s',t')
def Goes {α:Type} (c:Nat) (x:Sem α) (s:C0) (pos:Pos) (a:α) (s':C0) (pos':Pos):Prop:=
 ∀(K:α->Sem Fin) (H:Value->Sem Fin) (gd:Bool->Bool) (lv:List Value->List Value),
  Steps p w n₀ ann c s ⟨x.wrap K H gd lv,code,pos,[topFrame q]⟩ s' ⟨K a,code,pos',[topFrame q]⟩
end
section
variable {p:Program} {w:W0} {n₀:Nat} {ann:Option Value} {code:Code} {q:Pos}
theorem Steps.trans {c d:Nat} {s s' s'':C0} {t t' t'':j4a} (h:Steps p w n₀ ann c s t s' t') (k:Steps p w n₀ ann d s' t' s'' t''):Steps p w n₀ ann (c + d) s t s'' t'':=by obtain ⟨n,a,h⟩:=h;obtain ⟨m,b,k⟩:=k;exact ⟨n + m,by omega,zfx p w n₀ ann h k⟩
theorem Steps.refl {s:C0} {t:j4a}:Steps p w n₀ ann 0 s t s t:=⟨0,J0 _,rfl⟩
theorem Steps.le {c d:Nat} {s s':C0} {t t':j4a} (h:Steps p w n₀ ann c s t s' t') (l:c<=d):Steps p w n₀ ann d s t s' t':=let ⟨n,a,b⟩:=h;⟨n,L0 a l,b⟩
theorem Steps.one {s s':C0} {t t':j4a} (he:endAt 1 t=none) (hk:stepOk n₀ ann t=true) (hs:step (denote D4) p w s t=.go s' t'):Steps p w n₀ ann 1 s t s' t':=by refine ⟨1,J0 _,?_⟩;unfold segGo;rw [he,hk,hs];rfl
variable {α β:Type} {s s' s'':C0} {pos pos' pos'':Pos} {a:α} {b:β} {c d:Nat}
theorem Goes.pure:Goes p w n₀ ann code q 0 (j3a a:Sem α) s pos a s pos:=λ _ _ _ _=>.refl
theorem Goes.le {x:Sem α} (h:Goes p w n₀ ann code q c x s pos a s' pos') (l:c<=d):Goes p w n₀ ann code q d x s pos a s' pos':=λ K H b e=>(h K H b e).le l
theorem Goes.bind {x:Sem α} {f:α->Sem β} (h:Goes p w n₀ ann code q c x s pos a s' pos') (k:Goes p w n₀ ann code q d (f a) s' pos' b s'' pos''):Goes p w n₀ ann code q (c + d) (x >>= f) s pos b s'' pos'':=by
 intro K H i g;have e:(x >>= f).wrap K H i g=x.wrap (λ a=>(f a).wrap K H i g) H i g:=by rw [Sem.bind_eq_wrap',Sem.wrap_wrap];rfl
 rw [e];exact (h _ H i g).trans (k K H i g)
theorem Goes.keep {x:Sem α} {vs:List Value} (h:Goes p w n₀ ann code q c x s pos a s' pos'):Goes p w n₀ ann code q c (x.keep vs) s pos a s' pos':=by intro K H b d;rw [Sem.keep_eq_wrap,Sem.wrap_wrap];exact h K H _ _
theorem Goes.holding {x:Sem α} {vs:List Value} (h:Goes p w n₀ ann code q c x s pos a s' pos'):Goes p w n₀ ann code q c (K9 vs x) s pos a s' pos':=by rw [holding_eq_keep];exact h.keep
theorem Goes.rule {tag:String}:Goes p w n₀ ann code q 1 (PySem.rule tag) s pos () s pos:=λ _ _ _ _=>.one rfl rfl rfl
theorem Goes.at' {pos₁:Pos}:Goes p w n₀ ann code q 1 (j3e pos₁) s pos () s pos₁:=λ _ _ _ _=>.one rfl rfl rfl
theorem Goes.loadPart {A:Addr} {o:Obj} {part:Option Value} (ho:s.heap.get? A=some o):Goes p w n₀ ann code q 1 (loadPart A part) s pos o s pos:=λ K H e c=>.one rfl rfl (by obtain ⟨heap,a,b,f,d⟩:=s;show (match heap.get? A with|some o=>Step.go _ _|none=>_)=_;have ho:heap.get? A=some o:=ho;rw [ho];rfl)
theorem Goes.updatePart {A:Addr} {o:Obj} {f:Obj->Obj} {part:Option Value} (ho:s.heap.get? A=some o) (hn:Nat.ble n₀ A=true):Goes p w n₀ ann code q 1 (updatePart A part f) s pos () { s with heap:=s.heap.update A f } pos:=λ K H e c=>
 .one rfl (by
  show (_ && (Nat.ble n₀ A || _ || _ || _))=true;rw [hn];rfl) (by
  obtain ⟨heap,a,b,g,d⟩:=s;have ho:heap.get? A=some o:=ho;show (if (heap.get? A).isSome=true then Step.go _ _ else _)=_;rw [ho];rfl)
theorem Goes.leaf {x:Sem α} {sT sT':SharedT} (n:Nat) (h :∀K H gd lv,segGoT D4 p w n₀ ann 1 n sT ⟨x.wrap K H gd lv,code,pos,[topFrame q]⟩=some (sT',⟨K a,code,pos',[topFrame q]⟩)) :
  Goes p w n₀ ann code q n x sT.abs pos a sT'.abs pos':=λ K H gd lv=>⟨n,J0 _,segGo_of (h K H gd lv)⟩
end
end TJ
open PySem PySem.W PyProof.Rows
namespace TJ
section
variable {p:Program} {w:W0} {n₀:Nat} {ann:Option Value} {code:Code} {q:Pos} {s:C0} {pos:Pos}
theorem Goes.forIn {γ β:Type} {c:Nat} {f:γ->β->Sem (ForInStep β)} {b:β} :∀{l:List γ},(∀x∈l,Goes p w n₀ ann code q c (f x b) s pos (.yield b) s pos)->Goes p w n₀ ann code q (l.length * c) (ForIn.forIn l b f) s pos b s pos
 | [],_=>by rw [a8];exact Goes.pure.le (E2 _)
 | x :: l,h=>by rw [L7];have k:=Goes.forIn (l:=l) λ y a=>h y (V1 _ a);have e:=Goes.bind (f:=λ r=>match r with | .done b=>(j3a b:Sem β) | .yield b=>ForIn.forIn l b f) (h x X1) k;exact e.le (by rw [X0,Nat.add_mul];omega)
theorem Goes.entries {d:Addr} {o:Obj} {es:Array DictEntry} {ep:Nat} {part:Option Value} (ho:s.heap.get? d=some o) (hd:o.data=.dict es ep):Goes p w n₀ ann code q 1 (dictEntries d part) s pos es s pos:=by unfold dictEntries;refine (Goes.bind (d:=0) (Goes.loadPart ho) ?_);rw [hd];exact Goes.pure
theorem Goes.epoch {d:Addr} {o:Obj} {es:Array DictEntry} {ep:Nat} {part:Option Value} (ho:s.heap.get? d=some o) (hd:o.data=.dict es ep):Goes p w n₀ ann code q 1 (dictEpoch d part) s pos ep s pos:=by unfold dictEpoch;refine (Goes.bind (d:=0) (Goes.loadPart ho) ?_);rw [hd];exact Goes.pure
theorem Goes.mayTell {a:Addr} {stored:List Value} {cq:Nat} (hq:Goes p w n₀ ann code q cq (g7 8 (.ref a)) s pos true s pos) (hs :∀v∈stored,Goes p w n₀ ann code q cq (g7 8 v) s pos true s pos) :
  Goes p w n₀ ann code q (cq + stored.length * cq) (tableMayTell (.ref a) stored) s pos false s pos:=by
 unfold tableMayTell;split
 ·exact Goes.pure.le (E2 _)
 ·refine Goes.bind hq ?_;simp only [Z5,L3,if_false];refine (Goes.bind (a:=(none,())) (d:=0) (Goes.forIn λ v b=>?_) ?_).le (J0 _)
  ·refine (Goes.bind (d:=0) (hs v b) ?_).le (J0 _);simp only [Z5,L3,if_false];exact Goes.pure
  ·exact Goes.pure
theorem Goes.find_none {d a:Addr} {o:Obj} {es:Array DictEntry} {ep:Nat} {h:Int} {cq ce:Nat} (ho:s.heap.get? d=some o) (hd:o.data=.dict es ep)
  (hq:Goes p w n₀ ann code q cq (g7 8 (.ref a)) s pos true s pos)
  (hk :∀e∈es.toList,∃b,e.key=.ref b/\b≠a/\Goes p w n₀ ann code q cq (g7 8 (.ref b)) s pos true s pos/\Goes p w n₀ ann code q ce (eqBool (.ref b) (.ref a)) s pos false s pos) :
  Goes p w n₀ ann code q (2 + cq + es.size * (cq + ce + 10)) (dictFind d (.ref a) h) s pos none s pos:=by
 have n :∀(i:Nat) (e:DictEntry),es[i]? = some e->e∈es.toList:=λ i e A=>Array.mem_toList_iff.mpr (j41 A);have B:¬ (es.any λ e=>e.key == J1 a && e.hash != h)=true:=by rw [<-Array.any_toList,List.any_eq_true];rintro ⟨e,hin,hc⟩;obtain ⟨b,f,g,_⟩:=hk e hin;simp only [f,A5,beq_iff_eq,Value.ref.injEq] at hc;exact g hc.1
 have l :∀v∈(z7 es.size (λ i=>es[i]?.map (·.hash)) h).filterMap (λ i=>es[i]?.map (·.key)),∃b,v=.ref b/\b≠a/\Goes p w n₀ ann code q cq (g7 8 v) s pos true s pos:=by
  intro v k;obtain ⟨i,_,j⟩:=List.mem_filterMap.mp k;cases hei:es[i]? with
  | none=>rw [hei] at j;cases j
  | some e=>
   rw [hei] at j;obtain rfl:e.key=v:=by simpa using j
   obtain ⟨b,f,g,u,_⟩:=hk e (n i e hei);exact ⟨b,f,g,f ▸ u⟩
 have m:(z7 es.size (λ i=>es[i]?.map (·.hash)) h).length<=es.size:=by unfold z7;exact L0 (p7 _ _) (by rw [W1];exact J0 _)
 have t:((z7 es.size (λ i=>es[i]?.map (·.hash)) h).filterMap (λ i=>es[i]?.map (·.key))).length<=es.size:=L0 (j35 _ _) m;unfold dictFind;refine Goes.holding ?_;refine (Goes.bind (d:=1 + cq + es.size * (cq + ce + 10)) (Goes.entries ho hd) ?_).le (by omega);dsimp only;rw [if_neg (show ¬ ((J1 a :: (z7 es.size (λ i=>es[i]?.map (·.hash)) h).filterMap (λ i=>es[i]?.map (·.key))).all carriedByValue)=true by simp [carriedByValue])];rw [if_neg B];have r:¬ (((z7 es.size (λ i=>es[i]?.map (·.hash)) h).filterMap (λ i=>es[i]?.map (·.key))) == [J1 a])=true:=by intro e;have e:=eq_of_beq e;obtain ⟨b,f,g,_⟩:=l (.ref a) (by rw [e];exact List.mem_singleton.mpr rfl);exact g (by injection f with f;exact f.symm)
 rw [if_neg r];refine (Goes.bind (d:=1 + es.size * (ce + 10)) (Goes.mayTell hq λ v k=>(let ⟨_,_,_,z⟩:=l v k;z)) ?_).le ?_
 ·rw [if_neg (by simp)];refine (Goes.bind (a:=(none,none)) (d:=0) (Goes.forIn (c:=ce + 10) λ i j=>?_) ?_).le ?_
  ·cases hei:es[i]? with
   | none=>exact Goes.pure.le (E2 _)
   | some e=>
    dsimp only;split
    ·obtain ⟨b,f,g,_,y⟩:=hk e (n i e hei);rw [f];refine (Goes.bind (d:=ce + 2) (Goes.epoch ho hd) (Goes.bind (d:=2) y (Goes.bind (d:=1) (Goes.epoch ho hd) ?_))).le (by omega);rw [if_neg (by simp)];rw [if_neg (by simp)];refine Goes.bind (d:=0) Goes.rule ?_;rw [if_neg (by simp)];exact Goes.pure
    ·exact Goes.pure.le (E2 _)
  ·exact Goes.pure
  ·have:=Q9 (ce + 10) m;omega
 ·have:=Q9 cq t;have x:es.size * (cq + ce + 10)=es.size * cq + es.size * (ce + 10):=by rw [<-Nat.mul_add,Nat.add_assoc]
  rw [x];omega
end
end TJ
open PySem PySem.W PyProof.Rows
namespace TJ
noncomputable abbrev dObj (es:Array DictEntry) (ep:Nat):Obj:={ cls:=.type "dict",data:=.dict es ep }
noncomputable abbrev KV3:=Addr×Value×Int
noncomputable def ent (x:KV3):DictEntry:=⟨x.2.2,.ref x.1,x.2.1⟩
noncomputable def unh (a:Addr):Sem Value:=do rule "hash.unhashable";raiseError "TypeError" s!"unhashable type: '{← typeNameOf (.ref a)}'"
noncomputable def zbv (d:Addr) (vs:List (Value×Value)):Sem PUnit:=forIn vs Z9 λ (x:Value×Value) (_:PUnit)=>(do j3g d x.1 x.2;O4 (R4 Z9):Sem (ForInStep PUnit))
section
variable {p:Program} {w:W0} {n₀:Nat} {ann:Option Value} {code:Code} {q:Pos} {pos:Pos} {F:Obj->Nat->SharedT} {d:Addr}
structure Fam (n₀:Nat) (d:Addr) (F:Obj->Nat->SharedT):Prop where
 le:Nat.ble n₀ d=true
 get :∀es ep tk,(F (dObj es ep) tk).abs.heap.get? d=some (dObj es ep)
 upd :∀es ep tk (e:DictEntry),({ (F (dObj es ep) tk).abs with heap:=(F (dObj es ep) tk).abs.heap.update d (n9 (·.push e)) }:C0)=(F (dObj (es.push e) (ep + 1)) tk).abs
theorem Goes.updKeys (Z:Fam n₀ d F) {es:Array DictEntry} {ep tk:Nat} {e:DictEntry} {part:Option Value} (hsz:es.size < sizeLine) :
  Goes p w n₀ ann code q 3 (updateDictKeys d (·.push e) part) (F (dObj es ep) tk).abs pos () (F (dObj (es.push e) (ep + 1)) tk).abs pos:=by
 unfold updateDictKeys;refine (Goes.bind (d:=2) (Goes.loadPart (Z.get es ep tk)) ?_);dsimp only;have u:=Goes.updatePart (p:=p) (w:=w) (ann:=ann) (code:=code) (q:=q) (pos:=pos) (part:=part) (f:=n9 (·.push e)) (Z.get es ep tk) Z.le;rw [Z.upd es ep tk e] at u;refine Goes.bind (d:=1) u ?_;unfold lookBehind;refine Goes.bind (d:=0) (Goes.loadPart (Z.get _ _ tk)) ?_;have a:(dObj (es.push e) (ep + 1)).data.pastItsLine=none:=by unfold Data.pastItsLine;dsimp only;rw [if_neg (by rw [Array.size_push];omega)]
 rw [a];exact Goes.pure
theorem Goes.set (Z:Fam n₀ d F) {a:Addr} {v:Value} {es:Array DictEntry} {ep tk k cp cq ce:Nat} {hsh:Int} (hsz:es.size < sizeLine)
  (hpy:Goes p w n₀ ann code q cp (pyHash (.ref a)) (F (dObj es ep) tk).abs pos hsh (F (dObj es ep) (tk + k)).abs pos)
  (hq:Goes p w n₀ ann code q cq (g7 8 (.ref a)) (F (dObj es ep) (tk + k)).abs pos true (F (dObj es ep) (tk + k)).abs pos)
  (hk :∀e∈es.toList,∃b,e.key=.ref b/\b≠a/\Goes p w n₀ ann code q cq (g7 8 (.ref b)) (F (dObj es ep) (tk + k)).abs pos true (F (dObj es ep) (tk + k)).abs pos/\
   Goes p w n₀ ann code q ce (eqBool (.ref b) (.ref a)) (F (dObj es ep) (tk + k)).abs pos false (F (dObj es ep) (tk + k)).abs pos) :
  Goes p w n₀ ann code q (cp + (2 + cq + es.size * (cq + ce + 10)) + 4) (j3g d (.ref a) v) (F (dObj es ep) tk).abs pos () (F (dObj (es.push ⟨hsh,.ref a,v⟩) (ep + 1)) (tk + k)).abs pos:=by
 unfold j3g;refine Goes.holding ?_;refine (Goes.bind (d:=(2 + cq + es.size * (cq + ce + 10)) + 4) hpy ?_).le (by omega);unfold dictSetHashed;refine Goes.holding ?_;refine Goes.bind (d:=4) (Goes.find_none (h:=hsh) (Z.get es ep (tk + k)) rfl hq hk) ?_;exact Goes.bind (d:=3) Goes.rule (Goes.updKeys Z hsz)
theorem zk4 {γ β:Type} {f:γ->β->Sem (ForInStep β)} {x:γ} {xs:List γ} {b b' b'':β} {c c':Nat} {s s' s'':C0} (h:Goes p w n₀ ann code q c (f x b) s pos (.yield b') s' pos) (k:Goes p w n₀ ann code q c' (forIn xs b' f) s' pos b'' s'' pos) :
  Goes p w n₀ ann code q (c + c') (forIn (x :: xs) b f) s pos b'' s'' pos:=by
 rw [L7];exact Goes.bind (f:=λ r=>match r with | .done b=>(j3a b:Sem β) | .yield b=>forIn xs b f) h k
theorem Goes.loop (Z:Fam n₀ d F) {cp cq ce N:Nat} (all:List KV3) (hN:all.length<=N) (hN':N < sizeLine) (hnd:(all.map (·.1)).Nodup)
  (hQ :∀x∈all,∀oD tk,Goes p w n₀ ann code q cq (g7 8 (.ref x.1)) (F oD tk).abs pos true (F oD tk).abs pos)
  (hE:all.Pairwise λ x y=>∀oD tk,Goes p w n₀ ann code q ce (eqBool (.ref x.1) (.ref y.1)) (F oD tk).abs pos false (F oD tk).abs pos)
  (hH :∀x∈all,∀oD tk,Goes p w n₀ ann code q cp (pyHash (.ref x.1)) (F oD tk).abs pos x.2.2 (F oD (tk + 3)).abs pos) :
  ∀(todo done:List KV3) (tk:Nat),all=done++todo->
   Goes p w n₀ ann code q (todo.length * (cp + (2 + cq + N * (cq + ce + 10)) + 4)) (zbv d (todo.map λ x=>(J1 x.1,x.2.1)))
    (F (dObj (done.map ent).toArray done.length) tk).abs pos () (F (dObj (all.map ent).toArray all.length) (tk + 3 * todo.length)).abs pos:=by
 intro todo;induction todo with
 | nil=>intro done tk e;rw [C3] at e;subst e;unfold zbv;rw [w5,a8];exact Goes.pure.le (E2 _)
 | cons x todo ih=>
  intro done tk e;have h:x∈all:=by rw [e];exact R1 _ X1
  have g:=ih (done++[x]) (tk + 3) (by rw [e,T2];rfl);unfold zbv at g⊢;rw [L1];have f:(done.map ent).toArray.size<=N:=by rw [V0,B0];rw [e,I0] at hN;omega
  have c:=Goes.set (p:=p) (w:=w) (ann:=ann) (code:=code) (q:=q) (pos:=pos) (v:=x.2.1) (ep:=done.length) Z (Y0 f hN') (hH x h _ tk) (hQ x h _ _) (es:=(done.map ent).toArray) (ce:=ce) (by
   intro s o;obtain ⟨y,a,rfl⟩:=List.mem_map.mp o;have m:y∈all:=by rw [e];exact F7 _ a
   have l:y.1≠x.1:=by rw [e,P1,L1] at hnd;intro q;exact (List.nodup_append.mp hnd).2.2 y.1 (List.mem_map.mpr ⟨y,a,rfl⟩) x.1 X1 q
   rw [e] at hE;exact ⟨y.1,rfl,l,hQ y m _ _,(List.pairwise_append.mp hE).2.2 y a x X1 _ _⟩)
  have i:((done.map ent).toArray.push ⟨x.2.2,.ref x.1,x.2.1⟩)=((done++[x]).map ent).toArray:=by rw [List.push_toArray,P1];rfl
  have n:done.length + 1=(done++[x]).length:=by rw [I0];rfl
  rw [i,n] at c;have k:tk + 3 * (x :: todo).length=(tk + 3) + 3 * todo.length:=by rw [X0];omega
  rw [k];have r:Goes p w n₀ ann code q (_ + 0) (do j3g d (J1 x.1,x.2.1).1 (J1 x.1,x.2.1).2;j3a (R4 Z9):Sem (ForInStep PUnit)) _ pos (R4 Z9) _ pos:=Goes.bind c Goes.pure;have j:=zk4 (b:=Z9) (xs:=todo.map λ x=>(J1 x.1,x.2.1)) r g;refine j.le ?_;rw [X0,Nat.add_mul];have:=Q9 (cq + ce + 10) f;omega
noncomputable def zao (acc:Nat):Int:=if acc == 2 ^ 64 - 1 then 1546275796 else if acc < 2 ^ 63 then acc else (acc:Int) - (2 ^ 64:Nat)
theorem z7o (acc:Nat) (h:acc < 2 ^ 64):-(2:Int) ^ 63<=zao acc/\zao acc < 2 ^ 63:=by
 unfold zao;split
 ·constructor<;>decide
 ·split
  ·constructor<;>omega
  ·constructor<;>omega
theorem z6i (hs:List Int):-(2:Int) ^ 63<=A0 hs/\A0 hs < 2 ^ 63:=
 z7o _ (j0c _ (by decide))
theorem Goes.pyHashT {a:Addr} {s s':C0} {hs:List Int} {tok:Tok} (h1:Goes p w n₀ ann code q 1 (cRoomFor "hash" [.ref a]) s pos () s pos)
  (h2:Goes p w n₀ ann code q 1 (specialOf (.ref a) "__hash__") s pos (some (.builtin "tuple.__hash__")) s pos)
  (h3:Goes p w n₀ ann code q 22 (W7 (.ref a) "__hash__" (unh a)) s pos (some (.int (A0 hs) tok)) s' pos) :
  Goes p w n₀ ann code q 25 (pyHash (.ref a)) s pos (U1 (A0 hs)) s' pos:=by
 have e:pyHash (.ref a)=pyHashByItsType (.ref a):=rfl;rw [e];unfold pyHashByItsType;refine Goes.bind (d:=24) h1 ?_;refine Goes.bind (d:=23) h2 ?_;rw [if_neg (by rw [beq_builtin_none];exact D1)];refine Goes.bind (d:=22) h2 ?_;show Goes p w n₀ ann code q 22 (W7 (.ref a) "__hash__" (unh a) >>= _) s pos _ s' pos;refine Goes.bind (d:=0) h3 ?_;have r:(decide (-(2:Int) ^ 63<=A0 hs) && decide (A0 hs < 2 ^ 63))=true:=by have r:=z6i hs;rw [decide_eq_true r.1,decide_eq_true r.2];rfl
 show Goes p w n₀ ann code q 0 (if (decide (-(2:Int) ^ 63<=A0 hs) && decide (A0 hs < 2 ^ 63))=true then _ else _) s' pos _ s' pos;have b:U1 (A0 hs)=(if (A0 hs == -1)=true then -2 else A0 hs):=by unfold U1;rw [if_pos r]
 rw [if_pos r,b];exact Goes.pure
theorem Goes.subDict {pairs:List (Sem Value×Sem Value)} {s s₁ s':C0} {vs:List (Value×Value)} {c c':Nat} {d:Addr} (hlen:pairs.length<=15) (hd:s.heap.objs.size=d)
  (h1:Goes p w n₀ ann code q c (evalPairs pairs) { s with heap:=s.heap.push { cls:=.type "dict",data:=.dict #[] } } pos vs s₁ pos)
  (h2:Goes p w n₀ ann code q c' (zbv d vs) s₁ pos () s' pos):Goes p w n₀ ann code q (1 + (c + c')) (subDict pairs) s pos d s' pos:=by
 subst hd;unfold PySem.subDict;refine Goes.bind (a:=s.heap.objs.size) (λ _ _ _ _=>.one rfl rfl rfl) ?_;refine (Goes.bind (d:=0) (a:=()) (Goes.holding ?_) Goes.pure);rw [if_pos hlen];refine Goes.bind h1 ?_;exact Goes.holding (Goes.bind (d:=0) h2 Goes.pure)
theorem Goes.execs1 {st:Stmt} {env:Env} {s s':C0} {pos':Pos} {c:Nat} (h:Goes p w n₀ ann code q c (exec st env) s pos .next s' pos'):Goes p w n₀ ann code q c (execs [st] env) s pos .next s' pos':=by rw [execs_cons];exact Goes.bind (d:=0) h Goes.pure
theorem Goes.seg {l:List Stmt} {env:Env} {s s':C0} {pos':Pos} {c:Nat} (h:Goes p w n₀ ann code q c (execs l env) s pos .next s' pos') :∃n,n<=c + 1/\segRun D4 p w n₀ ann 1 n s (piecesOf l env code pos [topFrame q])=some (.next,s',code,pos'):=by obtain ⟨n,a,h⟩:=h doneF deadEnd id id;exact ⟨n + 1,by omega,seg_go h rfl⟩
end
theorem zjf {p q:Program} {loose:List Str} {Xt:C0->Bool} {α:Type} {Yf:C0->α} {Ya:W0->α} {N:Nat} {H₀:P0->Heap} {gs₀:Array GenState} {d₀:Drawn} {k₀ m₀:Nat} {ann:Option Value} {S:W0->Q3->C0}
  (opens :∀w:W0,(fencedOpening D4 p w N).map (λ s=>(s.heap,s.gens,s.drawn,s.toks))=some (H₀ w.params,gs₀,d₀,k₀))
  (sizes :∀w:W0,(((H₀ w.params).isNs Q2 && gs₀.size == 0),(H₀ w.params).objs.size,(H₀ w.params).nsMap Q2 "__annotations__")=(true,m₀,ann))
  (runs :∀(w:W0) (os:Q3),∃M,M<=N/\topRun D4 p w m₀ ann M ⟨H₀ w.params,gs₀,d₀,k₀,os⟩ (topStub p)=some (S w os))
  (looks1 :∀(w:W0) (os:Q3),(staticsOk (o8 p.main.body) (H₀ w.params) (S w os).heap && namesBound p (S w os).heap && gensDone (S w os) && laidKept (H₀ w.params) (S w os).heap)=true)
  (looks2 :∀(w:W0) (os:Q3),openSeen q loose (o8 p.main.body) Xt true (S w os)=openGood q loose) (looks3 :∀(w:W0) (os:Q3),Yf (S w os)=Ya w):LeftO p q loose Xt Yf Ya N:=by
 intro w;obtain ⟨⟨h,d,b,k,os⟩,e,a⟩:=Option.map_eq_some_iff.mp (opens w);simp only [D9] at a;obtain ⟨rfl,rfl,rfl,rfl⟩:=a;have z:=sizes w;simp only [D9] at z;obtain ⟨c,i,g⟩:=z;obtain ⟨M,f,r⟩:=runs w os;have r:=topRun_mono (N - M) _ _ _ _ r;rw [Nat.add_sub_cancel' f] at r;have t:topFrom D4 p w N ⟨H₀ w.params,d,b,k,os⟩=some (S w os):=by unfold topFrom;dsimp only;rw [c,i,g,r];show (match (staticsOk (o8 p.main.body) (H₀ w.params) (S w os).heap && namesBound p (S w os).heap && gensDone (S w os) && laidKept (H₀ w.params) (S w os).heap) with|true=>some (S w os)|false=>none)=_;rw [looks1 w os]
 unfold openEnds;rw [e];show (topFrom D4 p w N _).map _=_;rw [t];show some (_,_)=some (_,_);rw [looks2 w os,looks3 w os]
theorem zey {p:Program} {w:W0} {n₀:Nat} {ann:Option Value} {env:Env} {q:Pos} {c N:Nat} {s s' r:C0} {l rest:List Stmt} {b:Code} {pos pos':Pos} (h:Goes p w n₀ ann b q c (execs l env) s pos .next s' pos')
  (k:topRun D4 p w n₀ ann N s' (restOf rest env b pos' [topFrame q])=some r) :∃M,M<=c + 1 + N/\topRun D4 p w n₀ ann M s (restOf (l++rest) env b pos [topFrame q])=some r:=by
 obtain ⟨n,a,g⟩:=Goes.seg h;exact ⟨n + N,by omega,piece_app g k⟩
end TJ
open PySem PySem.Spec PyProof.Rows
namespace L2
noncomputable abbrev fnX (x q:Str) (s:Stmt) (m:Str) (k c:Nat):FuncData:=T6 x q (z9c s) (z5r s) (z07 s) .none .none .none (.str m k) none (.ref c) .none
noncomputable abbrev fY (x q:Str) (s:Stmt):=fnX x q s "law_talejudge_k33_turned_without_back" 778
noncomputable abbrev fO (x q:Str) (s:Stmt) (m:Str) (k c:Nat):Obj:=⟨.type "function",none,.func (fnX x q s m k c),#[]⟩
noncomputable abbrev fL (x q:Str) (s:Stmt):=fO x q s "law_talejudge_k33_turned_without_back" 778
noncomputable abbrev cO (x q:Str) (i l n a j:Nat):Obj:=
 ⟨.type "code",none,.fields #[.str x i,.str q (i + 1),.str "/claim/cut.py" (i + 2),.int l 0,.int n 0,.int 0 0,.int 0 0,.int 3 0,.ref a,.bool true,.int 181 0,.ref (a + 1),.none,.ref (a + 2),.ref (a + 3),.ref (a + 4),.int j 0,.int l 0,.str "/claim/cut.py" (j + 1)],#[]⟩
noncomputable abbrev cP (x q:Str) (i l n a j:Nat):Obj:=
 ⟨.type "code",none,.fields #[.str x i,.str q (i + 1),.str "/claim/cut.py" (i + 2),.int l 0,.int n 0,.int 0 0,.int 0 0,.int 3 0,.ref a,.bool true,.int 181 0,.ref (a + 1),.none,.none,.none,.ref (a + 2),.int j 0,.int l 0,.str "/claim/cut.py" (j + 1)],#[]⟩
noncomputable abbrev kR (P:P0) (x:Str) (i a:Nat):DictEntry:=⟨g0 P x,.str x i,.ref a⟩
section
variable {P:Program} {w:W0} {K:j0} {mg:Str->Option Value} {base:Heap} {x q:Str} {st:Stmt} {f:Addr} {fd:FuncData} {k:Nat} {ps:List Str} {sp:Sp}
theorem z0a {m:Str} {i c:Nat} (l:K.lookup f=some (fO x q st m i c):=by kernel_rfl) (hc:f9 K (.ref c) q=true:=by kernel_rfl) (hk:L5 K (.ref f)=true:=by kernel_rfl):Fun K x q st f (fnX x q st m i c):=fun_mk l hc hk
theorem cal_mk (T:TX K mg) (F:Fun K x q st f fd) (g:W3 K Q2 x=some (some (.ref f))) (b:Binds K fd ps []) (G:FnOk P w K mg base CX0 k f fd ps sp):Cal P w K mg base x ps k sp:=⟨⟨f,fd,G,T.of g,F.kp,b⟩⟩
theorem zlt (T:TX K mg) (F:Fun K x q st f fd) (g:W3 K Q2 x=some (some (.ref f))) (b:Binds K fd ps []) (G:FnOk P w K mg base (CXE P w base) k f fd ps sp):CalE P w K mg base x ps k sp:=⟨⟨f,fd,G,T.of g,F.kp,b⟩⟩
end
section
variable {p:List Value->Prop}
theorem us1 (h :∀a,p [a]) :∀us:List Value,us.length=1->p us | [a],_=>h a
theorem us2 (h :∀a b,p [a,b]) :∀us:List Value,us.length=2->p us | [a,b],_=>h a b
theorem us3 (h :∀a b c,p [a,b,c]) :∀us:List Value,us.length=3->p us | [a,b,c],_=>h a b c
theorem us4 (h :∀a b c d,p [a,b,c,d]) :∀us:List Value,us.length=4->p us | [a,b,c,d],_=>h a b c d
theorem us5 (h :∀a b c d e,p [a,b,c,d,e]) :∀us:List Value,us.length=5->p us | [a,b,c,d,e],_=>h a b c d e
theorem us6 (h :∀a b c d e f,p [a,b,c,d,e,f]) :∀us:List Value,us.length=6->p us | [a,b,c,d,e,f],_=>h a b c d e f
end
end L2
set_option maxHeartbeats 0
namespace K33
open PySem PySem.W PyProof.Rows TJ L2
noncomputable abbrev PX:Program:=PySem.Challenge.pw_talejudge_k33_turned_without_back
noncomputable abbrev annX:Option Value:=some (.ref 6)
noncomputable def tp (a b:Str) (t:Nat):Obj:={ cls:=.type "tuple",data:=.seq #[.str a t,.str b (t + 1)] 0 }
noncomputable def tups:List Obj:=[tp "register" "read" 394,tp "register" "write" 396,tp "counter" "read" 398,tp "counter" "add" 400,tp "queue" "put" 402,tp "queue" "take" 404,tp "set" "put" 406,tp "set" "cut" 408,tp "set" "has" 410,tp "cell" "read" 412,tp "cell" "write" 414,tp "cell" "swap" 416]
noncomputable def insAll:List Obj->Nat->BT->BT
 | [],_,t=>t
 | x :: r,n,t=>insAll r (n + 1) (t.ins n x)
noncomputable def treeD (P:P0) (oD:Obj):BT:=insAll tups 151 ((K33.pre.tree_167 P).ins 150 oD)
noncomputable def FX (w:W0) (os:Q3) (oD:Obj) (tk:Nat):SharedT:=⟨treeD w.params oD,163,{},⟨[]⟩,{},tk,os⟩
noncomputable abbrev cdX:Code:=.body (behindTheImports PX) K33.pre.env_1
noncomputable abbrev qX:Pos:=⟨0,0,0,0⟩
noncomputable abbrev BX:List Frame:=[topFrame qX]
noncomputable abbrev GX {α:Type} (w:W0) (c:Nat) (x:Sem α) (s:C0) (pos:Pos) (a:α) (s':C0) (pos':Pos):Prop:=Goes PX w 11 annX cdX qX c x s pos a s' pos'
def LX (n:Nat) {α:Type} (x:Sem α) (w:W0) (pos:Pos) (s:Q3->Obj->Nat->SharedT) (a:Nat->α) (s':Q3->Obj->Nat->SharedT) (pos':Pos):Prop:=
 ∀(os:Q3) (oD:Obj) (tk:Nat) (K:α->Sem j14) (H:Value->Sem j14) (gd:Bool->Bool) (lv:List Value->List Value),
  PySem.W.Fast.tw10295753902157049106 T8 PX w 11 annX 1 n (s os oD tk) ⟨x.wrap K H gd lv,cdX,pos,BX⟩=some (s' os oD tk,⟨K (a tk),cdX,pos',BX⟩)
theorem LX.goes {n:Nat} {α:Type} {x:Sem α} {w:W0} {pos pos':Pos} {s s':Q3->Obj->Nat->SharedT} {a:Nat->α} (h:LX n x w pos s a s' pos') (os:Q3) (oD:Obj) (tk:Nat):GX w n x (s os oD tk).abs pos (a tk) (s' os oD tk).abs pos':=by refine Goes.leaf n λ K H c b=>?_;have e:=h os oD tk K H c b;rw [<-PySem.W.Fast.te10295753902157049106,<-w6] at e;exact e
noncomputable abbrev stay (w:W0):Q3->Obj->Nat->SharedT:=FX w
noncomputable abbrev plus3 (w:W0):Q3->Obj->Nat->SharedT:=λ os oD tk=>FX w os oD (tk + 3)
theorem qtH (a:Addr) (h :∀(w:W0) (pos:Pos),LX 3 (PySem.W.Fast.tw13066428366354244818 8 (.ref a)) w pos (stay w) (λ _=>true) (stay w) pos:=by intro w pos os oD tk K H gd lv;kernel_rfl) (w:W0) (pos:Pos):LX 3 (g7 8 (.ref a)) w pos (stay w) (λ _=>true) (stay w) pos:=by rw [PySem.W.Fast.te13066428366354244818];exact h w pos
noncomputable def qt0:=qtH 151
noncomputable def qt1:=qtH 152
noncomputable def qt2:=qtH 153
noncomputable def qt3:=qtH 154
noncomputable def qt4:=qtH 155
noncomputable def qt5:=qtH 156
noncomputable def qt6:=qtH 157
noncomputable def qt7:=qtH 158
noncomputable def qt8:=qtH 159
noncomputable def qt9:=qtH 160
noncomputable def qt10:=qtH 161
noncomputable def qt11:=qtH 162
theorem eqH (n:Nat) (a b:Addr) (hf :∀(w:W0) (pos:Pos),LX n (u6 (.ref a) (.ref b)) (w.withFollow "special-get-raises" false) pos (stay (w.withFollow "special-get-raises" false)) (λ _=>false) (stay (w.withFollow "special-get-raises" false)) pos:=by intro w pos os oD tk K H gd lv;kernel_rfl) (ht :∀(w:W0) (pos:Pos),LX n (u6 (.ref a) (.ref b)) (w.withFollow "special-get-raises" true) pos (stay (w.withFollow "special-get-raises" true)) (λ _=>false) (stay (w.withFollow "special-get-raises" true)) pos:=by intro w pos os oD tk K H gd lv;kernel_rfl) (w:W0) (pos:Pos):LX n (eqBool (.ref a) (.ref b)) w pos (stay w) (λ _=>false) (stay w) pos:=by rw [PySem.W.Fast.te13926502685295537346];exact byRow2 "special-get-raises" (P:=λ w=>LX n (u6 (.ref a) (.ref b)) w pos (stay w) (λ _=>false) (stay w) pos) (λ w=>hf w pos) (λ w=>ht w pos) w
noncomputable def eq0_1:=eqH 20 151 152
noncomputable def eq0_2:=eqH 16 151 153
noncomputable def eq0_3:=eqH 16 151 154
noncomputable def eq0_4:=eqH 16 151 155
noncomputable def eq0_5:=eqH 16 151 156
noncomputable def eq0_6:=eqH 16 151 157
noncomputable def eq0_7:=eqH 16 151 158
noncomputable def eq0_8:=eqH 16 151 159
noncomputable def eq0_9:=eqH 16 151 160
noncomputable def eq0_10:=eqH 16 151 161
noncomputable def eq0_11:=eqH 16 151 162
noncomputable def eq1_2:=eqH 16 152 153
noncomputable def eq1_3:=eqH 16 152 154
noncomputable def eq1_4:=eqH 16 152 155
noncomputable def eq1_5:=eqH 16 152 156
noncomputable def eq1_6:=eqH 16 152 157
noncomputable def eq1_7:=eqH 16 152 158
noncomputable def eq1_8:=eqH 16 152 159
noncomputable def eq1_9:=eqH 16 152 160
noncomputable def eq1_10:=eqH 16 152 161
noncomputable def eq1_11:=eqH 16 152 162
noncomputable def eq2_3:=eqH 20 153 154
noncomputable def eq2_4:=eqH 16 153 155
noncomputable def eq2_5:=eqH 16 153 156
noncomputable def eq2_6:=eqH 16 153 157
noncomputable def eq2_7:=eqH 16 153 158
noncomputable def eq2_8:=eqH 16 153 159
noncomputable def eq2_9:=eqH 16 153 160
noncomputable def eq2_10:=eqH 16 153 161
noncomputable def eq2_11:=eqH 16 153 162
noncomputable def eq3_4:=eqH 16 154 155
noncomputable def eq3_5:=eqH 16 154 156
noncomputable def eq3_6:=eqH 16 154 157
noncomputable def eq3_7:=eqH 16 154 158
noncomputable def eq3_8:=eqH 16 154 159
noncomputable def eq3_9:=eqH 16 154 160
noncomputable def eq3_10:=eqH 16 154 161
noncomputable def eq3_11:=eqH 16 154 162
noncomputable def eq4_5:=eqH 20 155 156
noncomputable def eq4_6:=eqH 16 155 157
noncomputable def eq4_7:=eqH 16 155 158
noncomputable def eq4_8:=eqH 16 155 159
noncomputable def eq4_9:=eqH 16 155 160
noncomputable def eq4_10:=eqH 16 155 161
noncomputable def eq4_11:=eqH 16 155 162
noncomputable def eq5_6:=eqH 16 156 157
noncomputable def eq5_7:=eqH 16 156 158
noncomputable def eq5_8:=eqH 16 156 159
noncomputable def eq5_9:=eqH 16 156 160
noncomputable def eq5_10:=eqH 16 156 161
noncomputable def eq5_11:=eqH 16 156 162
noncomputable def eq6_7:=eqH 20 157 158
noncomputable def eq6_8:=eqH 20 157 159
noncomputable def eq6_9:=eqH 16 157 160
noncomputable def eq6_10:=eqH 16 157 161
noncomputable def eq6_11:=eqH 16 157 162
noncomputable def eq7_8:=eqH 20 158 159
noncomputable def eq7_9:=eqH 16 158 160
noncomputable def eq7_10:=eqH 16 158 161
noncomputable def eq7_11:=eqH 16 158 162
noncomputable def eq8_9:=eqH 16 159 160
noncomputable def eq8_10:=eqH 16 159 161
noncomputable def eq8_11:=eqH 16 159 162
noncomputable def eq9_10:=eqH 20 160 161
noncomputable def eq9_11:=eqH 20 160 162
noncomputable def zkh:=eqH 20 161 162
theorem crH (a:Addr) (hf :∀(w:W0) (pos:Pos),LX 1 (v6 "hash" [.ref a]) (w.withFollow "special-get-raises" false) pos (stay (w.withFollow "special-get-raises" false)) (λ _=>()) (stay (w.withFollow "special-get-raises" false)) pos:=by intro w pos os oD tk K H gd lv;kernel_rfl) (ht :∀(w:W0) (pos:Pos),LX 1 (v6 "hash" [.ref a]) (w.withFollow "special-get-raises" true) pos (stay (w.withFollow "special-get-raises" true)) (λ _=>()) (stay (w.withFollow "special-get-raises" true)) pos:=by intro w pos os oD tk K H gd lv;kernel_rfl) (w:W0) (pos:Pos):LX 1 (cRoomFor "hash" [.ref a]) w pos (stay w) (λ _=>()) (stay w) pos:=by rw [PySem.W.Fast.te13383273872528276517];exact byRow2 "special-get-raises" (P:=λ w=>LX 1 (v6 "hash" [.ref a]) w pos (stay w) (λ _=>()) (stay w) pos) (λ w=>hf w pos) (λ w=>ht w pos) w
theorem soH (a:Addr) (hf :∀(w:W0) (pos:Pos),LX 1 (A6 (.ref a) "__hash__") (w.withFollow "special-get-raises" false) pos (stay (w.withFollow "special-get-raises" false)) (λ _=>some (.builtin "tuple.__hash__")) (stay (w.withFollow "special-get-raises" false)) pos:=by intro w pos os oD tk K H gd lv;kernel_rfl) (ht :∀(w:W0) (pos:Pos),LX 1 (A6 (.ref a) "__hash__") (w.withFollow "special-get-raises" true) pos (stay (w.withFollow "special-get-raises" true)) (λ _=>some (.builtin "tuple.__hash__")) (stay (w.withFollow "special-get-raises" true)) pos:=by intro w pos os oD tk K H gd lv;kernel_rfl) (w:W0) (pos:Pos):LX 1 (specialOf (.ref a) "__hash__") w pos (stay w) (λ _=>some (.builtin "tuple.__hash__")) (stay w) pos:=by rw [PySem.W.Fast.te4214721358667687652];exact byRow2 "special-get-raises" (P:=λ w=>LX 1 (A6 (.ref a) "__hash__") w pos (stay w) (λ _=>some (.builtin "tuple.__hash__")) (stay w) pos) (λ w=>hf w pos) (λ w=>ht w pos) w
theorem csH (a:Addr) (k l:Str) (hf :∀(w:W0) (pos:Pos),LX 22 (o6 (.ref a) "__hash__" (unh a)) (w.withFollow "special-get-raises" false) pos (stay (w.withFollow "special-get-raises" false)) (λ tk=>some (.int (A0 [g0 (w.withFollow "special-get-raises" false).params k,g0 (w.withFollow "special-get-raises" false).params l]) (tk + 2))) (plus3 (w.withFollow "special-get-raises" false)) pos:=by intro w pos os oD tk K H gd lv;kernel_rfl) (ht :∀(w:W0) (pos:Pos),LX 22 (o6 (.ref a) "__hash__" (unh a)) (w.withFollow "special-get-raises" true) pos (stay (w.withFollow "special-get-raises" true)) (λ tk=>some (.int (A0 [g0 (w.withFollow "special-get-raises" true).params k,g0 (w.withFollow "special-get-raises" true).params l]) (tk + 2))) (plus3 (w.withFollow "special-get-raises" true)) pos:=by intro w pos os oD tk K H gd lv;kernel_rfl) (w:W0) (pos:Pos):LX 22 (W7 (.ref a) "__hash__" (unh a)) w pos (stay w) (λ tk=>some (.int (A0 [g0 w.params k,g0 w.params l]) (tk + 2))) (plus3 w) pos:=by rw [PySem.W.Fast.te16697807410369149715];exact byRow2 "special-get-raises" (P:=λ w=>LX 22 (o6 (.ref a) "__hash__" (unh a)) w pos (stay w) (λ tk=>some (.int (A0 [g0 w.params k,g0 w.params l]) (tk + 2))) (plus3 w) pos) (λ w=>hf w pos) (λ w=>ht w pos) w
noncomputable def cr0:=crH 151
noncomputable def so0:=soH 151
noncomputable def cs0:=csH 151 "register" "read"
noncomputable def cr1:=crH 152
noncomputable def so1:=soH 152
noncomputable def cs1:=csH 152 "register" "write"
noncomputable def cr2:=crH 153
noncomputable def so2:=soH 153
noncomputable def cs2:=csH 153 "counter" "read"
noncomputable def cr3:=crH 154
noncomputable def so3:=soH 154
noncomputable def cs3:=csH 154 "counter" "add"
noncomputable def cr4:=crH 155
noncomputable def so4:=soH 155
noncomputable def cs4:=csH 155 "queue" "put"
noncomputable def cr5:=crH 156
noncomputable def so5:=soH 156
noncomputable def cs5:=csH 156 "queue" "take"
noncomputable def cr6:=crH 157
noncomputable def so6:=soH 157
noncomputable def cs6:=csH 157 "set" "put"
noncomputable def cr7:=crH 158
noncomputable def so7:=soH 158
noncomputable def cs7:=csH 158 "set" "cut"
noncomputable def cr8:=crH 159
noncomputable def so8:=soH 159
noncomputable def cs8:=csH 159 "set" "has"
noncomputable def cr9:=crH 160
noncomputable def so9:=soH 160
noncomputable def cs9:=csH 160 "cell" "read"
noncomputable def cr10:=crH 161
noncomputable def so10:=soH 161
noncomputable def cs10:=csH 161 "cell" "write"
noncomputable def cr11:=crH 162
noncomputable def so11:=soH 162
noncomputable def cs11:=csH 162 "cell" "swap"
noncomputable def allX (P:P0):List KV3:=[(151,(.ref 95),(U1 (A0 [g0 P "register",g0 P "read"]))),(152,(.ref 102),(U1 (A0 [g0 P "register",g0 P "write"]))),(153,(.ref 95),(U1 (A0 [g0 P "counter",g0 P "read"]))),(154,(.ref 109),(U1 (A0 [g0 P "counter",g0 P "add"]))),(155,(.ref 116),(U1 (A0 [g0 P "queue",g0 P "put"]))),(156,(.ref 123),(U1 (A0 [g0 P "queue",g0 P "take"]))),(157,(.ref 130),(U1 (A0 [g0 P "set",g0 P "put"]))),(158,(.ref 135),(U1 (A0 [g0 P "set",g0 P "cut"]))),(159,(.ref 142),(U1 (A0 [g0 P "set",g0 P "has"]))),(160,(.ref 95),(U1 (A0 [g0 P "cell",g0 P "read"]))),(161,(.ref 102),(U1 (A0 [g0 P "cell",g0 P "write"]))),(162,(.ref 149),(U1 (A0 [g0 P "cell",g0 P "swap"])))]
theorem zka (w:W0) (os:Q3) (pos:Pos):(allX w.params).Pairwise λ x y=>∀oD tk,GX w 20 (eqBool (.ref x.1) (.ref y.1)) (FX w os oD tk).abs pos false (FX w os oD tk).abs pos:=by
 unfold allX;refine
 .cons (λ y a oD tk=>(by
  revert y;simp only [K2,N0,false_implies,implies_true,and_true];exact ⟨(eq0_1 w pos).goes os oD tk |>.le (by decide),(eq0_2 w pos).goes os oD tk |>.le (by decide),(eq0_3 w pos).goes os oD tk |>.le (by decide),(eq0_4 w pos).goes os oD tk |>.le (by decide),(eq0_5 w pos).goes os oD tk |>.le (by decide),(eq0_6 w pos).goes os oD tk |>.le (by decide),(eq0_7 w pos).goes os oD tk |>.le (by decide),(eq0_8 w pos).goes os oD tk |>.le (by decide),(eq0_9 w pos).goes os oD tk |>.le (by decide),(eq0_10 w pos).goes os oD tk |>.le (by decide),(eq0_11 w pos).goes os oD tk |>.le (by decide)⟩))
  (.cons (λ y a oD tk=>(by
  revert y;simp only [K2,N0,false_implies,implies_true,and_true];exact ⟨(eq1_2 w pos).goes os oD tk |>.le (by decide),(eq1_3 w pos).goes os oD tk |>.le (by decide),(eq1_4 w pos).goes os oD tk |>.le (by decide),(eq1_5 w pos).goes os oD tk |>.le (by decide),(eq1_6 w pos).goes os oD tk |>.le (by decide),(eq1_7 w pos).goes os oD tk |>.le (by decide),(eq1_8 w pos).goes os oD tk |>.le (by decide),(eq1_9 w pos).goes os oD tk |>.le (by decide),(eq1_10 w pos).goes os oD tk |>.le (by decide),(eq1_11 w pos).goes os oD tk |>.le (by decide)⟩))
  (.cons (λ y a oD tk=>(by
  revert y;simp only [K2,N0,false_implies,implies_true,and_true];exact ⟨(eq2_3 w pos).goes os oD tk |>.le (by decide),(eq2_4 w pos).goes os oD tk |>.le (by decide),(eq2_5 w pos).goes os oD tk |>.le (by decide),(eq2_6 w pos).goes os oD tk |>.le (by decide),(eq2_7 w pos).goes os oD tk |>.le (by decide),(eq2_8 w pos).goes os oD tk |>.le (by decide),(eq2_9 w pos).goes os oD tk |>.le (by decide),(eq2_10 w pos).goes os oD tk |>.le (by decide),(eq2_11 w pos).goes os oD tk |>.le (by decide)⟩))
  (.cons (λ y a oD tk=>(by
  revert y;simp only [K2,N0,false_implies,implies_true,and_true];exact ⟨(eq3_4 w pos).goes os oD tk |>.le (by decide),(eq3_5 w pos).goes os oD tk |>.le (by decide),(eq3_6 w pos).goes os oD tk |>.le (by decide),(eq3_7 w pos).goes os oD tk |>.le (by decide),(eq3_8 w pos).goes os oD tk |>.le (by decide),(eq3_9 w pos).goes os oD tk |>.le (by decide),(eq3_10 w pos).goes os oD tk |>.le (by decide),(eq3_11 w pos).goes os oD tk |>.le (by decide)⟩))
  (.cons (λ y a oD tk=>(by
  revert y;simp only [K2,N0,false_implies,implies_true,and_true];exact ⟨(eq4_5 w pos).goes os oD tk |>.le (by decide),(eq4_6 w pos).goes os oD tk |>.le (by decide),(eq4_7 w pos).goes os oD tk |>.le (by decide),(eq4_8 w pos).goes os oD tk |>.le (by decide),(eq4_9 w pos).goes os oD tk |>.le (by decide),(eq4_10 w pos).goes os oD tk |>.le (by decide),(eq4_11 w pos).goes os oD tk |>.le (by decide)⟩))
  (.cons (λ y a oD tk=>(by
  revert y;simp only [K2,N0,false_implies,implies_true,and_true];exact ⟨(eq5_6 w pos).goes os oD tk |>.le (by decide),(eq5_7 w pos).goes os oD tk |>.le (by decide),(eq5_8 w pos).goes os oD tk |>.le (by decide),(eq5_9 w pos).goes os oD tk |>.le (by decide),(eq5_10 w pos).goes os oD tk |>.le (by decide),(eq5_11 w pos).goes os oD tk |>.le (by decide)⟩))
  (.cons (λ y a oD tk=>(by
  revert y;simp only [K2,N0,false_implies,implies_true,and_true];exact ⟨(eq6_7 w pos).goes os oD tk |>.le (by decide),(eq6_8 w pos).goes os oD tk |>.le (by decide),(eq6_9 w pos).goes os oD tk |>.le (by decide),(eq6_10 w pos).goes os oD tk |>.le (by decide),(eq6_11 w pos).goes os oD tk |>.le (by decide)⟩))
  (.cons (λ y a oD tk=>(by
  revert y;simp only [K2,N0,false_implies,implies_true,and_true];exact ⟨(eq7_8 w pos).goes os oD tk |>.le (by decide),(eq7_9 w pos).goes os oD tk |>.le (by decide),(eq7_10 w pos).goes os oD tk |>.le (by decide),(eq7_11 w pos).goes os oD tk |>.le (by decide)⟩))
  (.cons (λ y a oD tk=>(by
  revert y;simp only [K2,N0,false_implies,implies_true,and_true];exact ⟨(eq8_9 w pos).goes os oD tk |>.le (by decide),(eq8_10 w pos).goes os oD tk |>.le (by decide),(eq8_11 w pos).goes os oD tk |>.le (by decide)⟩))
  (.cons (λ y a oD tk=>(by
  revert y;simp only [K2,N0,false_implies,implies_true,and_true];exact ⟨(eq9_10 w pos).goes os oD tk |>.le (by decide),(eq9_11 w pos).goes os oD tk |>.le (by decide)⟩))
  (.cons (λ y a oD tk=>(by
  revert y;simp only [K2,N0,false_implies,implies_true,and_true];exact (zkh w pos).goes os oD tk |>.le (by decide)))
  (.cons (λ y a=>nomatch a)
  (J7))))))))))))
theorem allX_q (w:W0) (os:Q3) (pos:Pos) :∀x∈allX w.params,∀oD tk,GX w 3 (g7 8 (.ref x.1)) (FX w os oD tk).abs pos true (FX w os oD tk).abs pos:=by unfold allX;simp only [K2,N0,false_implies,implies_true,and_true];exact ⟨λ oD tk=>(qt0 w pos).goes os oD tk,λ oD tk=>(qt1 w pos).goes os oD tk,λ oD tk=>(qt2 w pos).goes os oD tk,λ oD tk=>(qt3 w pos).goes os oD tk,λ oD tk=>(qt4 w pos).goes os oD tk,λ oD tk=>(qt5 w pos).goes os oD tk,λ oD tk=>(qt6 w pos).goes os oD tk,λ oD tk=>(qt7 w pos).goes os oD tk,λ oD tk=>(qt8 w pos).goes os oD tk,λ oD tk=>(qt9 w pos).goes os oD tk,λ oD tk=>(qt10 w pos).goes os oD tk,λ oD tk=>(qt11 w pos).goes os oD tk⟩
theorem allX_h (w:W0) (os:Q3) (pos:Pos) :∀x∈allX w.params,∀oD tk,GX w 25 (pyHash (.ref x.1)) (FX w os oD tk).abs pos x.2.2 (FX w os oD (tk + 3)).abs pos:=by unfold allX;simp only [K2,N0,false_implies,implies_true,and_true];exact ⟨λ oD tk=>Goes.pyHashT ((cr0 w pos).goes os oD tk) ((so0 w pos).goes os oD tk) ((cs0 w pos).goes os oD tk),λ oD tk=>Goes.pyHashT ((cr1 w pos).goes os oD tk) ((so1 w pos).goes os oD tk) ((cs1 w pos).goes os oD tk),λ oD tk=>Goes.pyHashT ((cr2 w pos).goes os oD tk) ((so2 w pos).goes os oD tk) ((cs2 w pos).goes os oD tk),λ oD tk=>Goes.pyHashT ((cr3 w pos).goes os oD tk) ((so3 w pos).goes os oD tk) ((cs3 w pos).goes os oD tk),λ oD tk=>Goes.pyHashT ((cr4 w pos).goes os oD tk) ((so4 w pos).goes os oD tk) ((cs4 w pos).goes os oD tk),λ oD tk=>Goes.pyHashT ((cr5 w pos).goes os oD tk) ((so5 w pos).goes os oD tk) ((cs5 w pos).goes os oD tk),λ oD tk=>Goes.pyHashT ((cr6 w pos).goes os oD tk) ((so6 w pos).goes os oD tk) ((cs6 w pos).goes os oD tk),λ oD tk=>Goes.pyHashT ((cr7 w pos).goes os oD tk) ((so7 w pos).goes os oD tk) ((cs7 w pos).goes os oD tk),λ oD tk=>Goes.pyHashT ((cr8 w pos).goes os oD tk) ((so8 w pos).goes os oD tk) ((cs8 w pos).goes os oD tk),λ oD tk=>Goes.pyHashT ((cr9 w pos).goes os oD tk) ((so9 w pos).goes os oD tk) ((cs9 w pos).goes os oD tk),λ oD tk=>Goes.pyHashT ((cr10 w pos).goes os oD tk) ((so10 w pos).goes os oD tk) ((cs10 w pos).goes os oD tk),λ oD tk=>Goes.pyHashT ((cr11 w pos).goes os oD tk) ((so11 w pos).goes os oD tk) ((cs11 w pos).goes os oD tk)⟩
theorem famX (w:W0) (os:Q3):Fam 11 150 (FX w os):=by
 have g :∀c,(treeD w.params c).get 150=some c:=λ c=>by kernel_rfl
 refine ⟨by decide,λ a b d=>abs_get (show 150 < 163 by decide) (g _),λ a b d e=>?_⟩;have u:(absHeap (treeD w.params (dObj a b)) 163 {}).update 150 (n9 (·.push e))=absHeap (treeD w.params (dObj (a.push e) (b + 1))) 163 {}:=by
  rw [<-absHeap_set (g _)];have v:(treeD w.params (dObj a b)).set 150 (n9 (·.push e))=treeD w.params (dObj (a.push e) (b + 1)):=by kernel_rfl
  rw [v]
 exact congrArg (λ h=>(⟨h,⟨[]⟩,{},d,os⟩:C0)) u
noncomputable def stD:Stmt:=(behindTheImports PX).getD 25 (.Pass ⟨0,0,0,0⟩)
noncomputable def sufX:List Stmt:=(behindTheImports PX).drop 26
theorem bodyX:behindTheImports PX=K33.pre.sts_7++(K33.pre.sts_59++(K33.pre.sts_78++(K33.pre.sts_102++([stD]++sufX)))):=by kernel_rfl
noncomputable def dKeys:Stmt->List (Option Expr)
 | .Assign _ (.Dict ks _ _) _=>ks
 | _=>[]
noncomputable def dVals:Stmt->List Expr
 | .Assign _ (.Dict _ vs _) _=>vs
 | _=>[]
noncomputable def dPos:Stmt->Pos
 | .Assign _ (.Dict _ _ p) _=>p
 | _=>⟨0,0,0,0⟩
noncomputable def sPos:Stmt->Pos
 | .Assign _ _ p=>p
 | _=>⟨0,0,0,0⟩
noncomputable abbrev p1X:Pos:=sPos stD
noncomputable abbrev p2X:Pos:=dPos stD
noncomputable abbrev p3X:Pos:=⟨53,0,53,5⟩
noncomputable def runX:List (Sem Value×Sem Value):=(((evalEachOpt (dKeys stD) K33.pre.env_1).zip ((evalEach (dVals stD) K33.pre.env_1).map λ v=>do let x <-v;j3e p2X;O4 x))).filterMap λ x=>x.1.map (·,x.2)
theorem stD_eq:stD=.Assign [.Name "DOERS" p3X] (.Dict (dKeys stD) (dVals stD) p2X) p1X:=by kernel_rfl
theorem evD:Z3 (.Dict (dKeys stD) (dVals stD) p2X) K33.pre.env_1=(do j3e p2X;let r <-(do let x <-subDict runX;O4 (some x));match r with|some x=>O4 (J1 x)|none=>newDict):=by kernel_rfl
theorem swD:u9 (.Dict (dKeys stD) (dVals stD) p2X) (some (.Name "DOERS" p3X)) p1X.line K33.pre.env_1=O4 false:=by kernel_rfl
noncomputable def F0X (w:W0) (os:Q3):SharedT:=⟨K33.pre.tree_167 w.params,150,{},⟨[]⟩,{},394,os⟩
noncomputable def F1X (w:W0) (os:Q3):SharedT:=⟨(K33.pre.tree_167 w.params).ins 150 (dObj #[] 0),151,{},⟨[]⟩,{},394,os⟩
noncomputable def vsX:List (Value×Value):=[(.ref 151,(.ref 95)),(.ref 152,(.ref 102)),(.ref 153,(.ref 95)),(.ref 154,(.ref 109)),(.ref 155,(.ref 116)),(.ref 156,(.ref 123)),(.ref 157,(.ref 130)),(.ref 158,(.ref 135)),(.ref 159,(.ref 142)),(.ref 160,(.ref 95)),(.ref 161,(.ref 102)),(.ref 162,(.ref 149))]
theorem zew (w:W0):LX 84 (evalPairs runX) w p2X (λ os _ _=>F1X w os) (λ _=>vsX) (λ os _ _=>FX w os (dObj #[] 0) 418) p2X:=by rw [PySem.W.Fast.te1788576489739465902];exact λ os b c K H d a=>by kernel_rfl
noncomputable def F2X (w:W0) (os:Q3) (oD:Obj) (tk:Nat):SharedT:=⟨(treeD w.params oD).set 3 (Obj.putName "DOERS" (g0 w.params "DOERS") (.str "DOERS" tk) (.ref 150)),163,{},⟨[]⟩,{},tk + 1,os⟩
theorem zg8 (w:W0) (pos:Pos):LX 6 (bindName K33.pre.env_1 "DOERS" (.ref 150)) w pos (stay w) (λ _=>()) (λ os oD tk=>F2X w os oD tk) pos:=by
 rw [PySem.W.Fast.te7536695828754713326];exact byRow2 "special-get-raises" (P:=λ w=>LX 6 (PySem.W.Fast.tw7536695828754713326 K33.pre.env_1 "DOERS" (.ref 150)) w pos (stay w) (λ _=>()) (λ os oD tk=>F2X w os oD tk) pos)
  (λ w os oD tk K H a b=>by kernel_rfl) (λ w os oD tk K H a b=>by kernel_rfl) w
noncomputable abbrev oDX (P:P0):Obj:=dObj ((allX P).map ent).toArray 12
noncomputable abbrev S2X (w:W0) (os:Q3):SharedT:=F2X w os (oDX w.params) 454
theorem stD_go (w:W0) (os:Q3) (pos:Pos):GX w 100000 (exec stD K33.pre.env_1) (F0X w os).abs pos .next (S2X w os).abs p3X:=by
 rw [stD_eq,exec_Assign_Name _ _ _ _ _ swD];have l:=Goes.loop (p:=PX) (w:=w) (ann:=annX) (code:=cdX) (q:=qX) (pos:=p2X) (famX w os) (N:=12) (allX w.params) (show 12<=12 by decide) (by decide) (show ([151,152,153,154,155,156,157,158,159,160,161,162]:List Nat).Nodup by decide) (allX_q w os p2X) (zka w os p2X) (allX_h w os p2X) (allX w.params) [] 418 rfl;have d:=(zew w).goes os (dObj #[] 0) 0;have b:GX w _ (subDict runX) (F0X w os).abs p2X 150 (FX w os (oDX w.params) 454).abs p2X:=
  Goes.subDict (by decide +kernel) (absHeap_size _ _ _) (show GX w _ (evalPairs runX) _ p2X vsX _ p2X from by
   have e:({ (F0X w os).abs with heap:=(F0X w os).abs.heap.push { cls:=.type "dict",data:=.dict #[] } }:C0)=(F1X w os).abs:=by have i:=absHeap_ins (t:=K33.pre.tree_167 w.params) (n:=150) (life:={}) (o:=dObj #[] 0) (by kernel_rfl);exact congrArg (λ h=>(⟨h,⟨[]⟩,{},394,os⟩:C0)) i.symm
   rw [e];exact d) l
 refine (Goes.bind Goes.at' (Goes.bind (a:=J1 150) (pos':=p2X) ?_ (Goes.bind Goes.at' (Goes.bind (f:=λ _=>O4 Flow.next) ((zg8 w p3X).goes os (oDX w.params) 454) Goes.pure)))).le (c:=1 + (((1 + ((1 + (84 + 12 * (25 + (2 + 3 + 12 * (3 + 20 + 10)) + 4))) + 0 + 0)) + (1 + (6 + 0))))) (by decide);rw [evD];exact Goes.bind Goes.at' (Goes.bind (Goes.bind b Goes.pure) Goes.pure)
noncomputable abbrev pLX:Pos:=⟨334,0,345,96⟩
noncomputable def R3X (w:W0) (os:Q3):Option (Flow×SharedT×Code×Pos):=PySem.W.Fast.tw10110043849684766642 T8 PX w 11 annX 1 2083 (S2X w os) ⟨(PySem.W.Fast.tw12563942051412417395 sufX K33.pre.env_1).wrap doneF deadEnd id id,cdX,p3X,BX⟩
noncomputable def S3X (w:W0) (os:Q3):SharedT:=match R3X w os with|some r=>r.2.1|none=>S2X w os
theorem R3X_eq (w:W0) (os:Q3):R3X w os=some (.next,S3X w os,cdX,pLX):=by kernel_rfl
theorem zkg (w:W0) (os:Q3):segRun D4 PX w 11 annX 1 2083 (S2X w os).abs (piecesOf sufX K33.pre.env_1 cdX p3X BX)=some (.next,(S3X w os).abs,cdX,pLX):=by have e:=R3X_eq w os;unfold R3X at e;rw [<-PySem.W.Fast.te10110043849684766642,<-w6,<-PySem.W.Fast.te12563942051412417395] at e;exact segRun_of e
noncomputable def S0X (w:W0) (os:Q3):SharedT:=⟨K33.pre.tree_6 w.params,15,{},⟨[]⟩,{},187,os⟩
theorem pre_go (w:W0) (os:Q3):topGo D4 PX w 11 annX 12 ⟨boot_heap w.params,Array.mk [],boot_drawn,boot_toks,os⟩ (topStub PX)=some ((S0X w os).abs,⟨denote D4 cdX,cdX,qX,BX⟩):=by rw [PySem.W.Fast.te15667345088766844465,w6,PySem.W.Fast.te11892475500146522536];kernel_rfl
theorem zje (w:W0) (os:Q3) :∃M,M<=200000/\topRun D4 PX w 11 annX M ⟨boot_heap w.params,Array.mk [],boot_drawn,boot_toks,os⟩ (topStub PX)=some (S3X w os).abs:=by have e:topRun D4 PX w 11 annX 2 (S3X w os).abs (restOf [] K33.pre.env_1 cdX pLX BX)=some (S3X w os).abs:=rfl;have b:=piece_app (zkg w os) e;rw [C3] at b;obtain ⟨M,h,g⟩:=zey (Goes.execs1 (stD_go w os ⟨49,0,52,21⟩)) b;have a:=K33.pre.chain PX (behindTheImports PX) w os _ M _ g;rw [<-bodyX] at a;have f:segRun D4 PX w 11 annX 1 1 (S0X w os).abs (blockOf (behindTheImports PX) K33.pre.env_1 cdX qX BX)=some (.next,(S0X w os).abs,cdX,qX):=rfl;have d:=piece_block f a;have c:=go_top (pre_go w os) d;refine ⟨_,?_,c⟩;simp only [Nat.add_eq];omega
noncomputable def looseX:List Str:=[("GREATEST_WORTH" : Str),("LONGEST_NAME" : Str),("SMALL_LETTERS" : Str),("is_whole" : Str),("is_within" : Str),("is_worth" : Str),("is_name" : Str),("is_tuple_of" : Str),("TaleError" : Str),("NoTale" : Str),("NoPlan" : Str),("FIRST_STATES" : Str),("WORTHS_OF_VERBS" : Str),("read_state" : Str),("write_state" : Str),("add_to_number" : Str),("put_behind" : Str),("take_first" : Str),("put_into_set" : Str),("cut_from_set" : Str),("has_in_set" : Str),("swap_state" : Str),("DOERS" : Str),("is_kind" : Str),("is_deed" : Str),("planned" : Str),("is_plan" : Str),("is_planned" : Str),("MOST_THINGS" : Str),("MOST_BEGINS" : Str),("LAST_HAND" : Str),("GREATEST_ANSWER" : Str),("ANSWER_WORDS" : Str),("make_tale" : Str),("make_things" : Str),("is_thing" : Str),("make_events" : Str),("is_begin" : Str),("is_end" : Str),("is_event" : Str),("is_hand" : Str),("is_answer" : Str),("go_by_turns" : Str),("MOST_HANDS" : Str),("MOST_DEEDS" : Str),("FIRST_HELD" : Str),("Errand" : Str),("Letter" : Str),("Copies" : Str),("check_plan" : Str),("run_copies" : Str),("_law_cell_at" : Str),("_law_mix" : Str),("_law_parts" : Str),("_law_begun" : Str),("_law_free" : Str),("_law_sent" : Str),("_law_ended" : Str),("_law_gone_on" : Str),("_law_come" : Str),("_law_moved" : Str),("_law_place" : Str),("_law_made" : Str),("_law_round" : Str),("_law_deed" : Str),("_law_told" : Str)]
noncomputable def viewX:Program:={ PX with main:={ PX.main with body:=(PX.main.body[73]?).toList } }
noncomputable def top (i:Nat):Stmt:=PX.main.body.getD i (.Pass ⟨0,0,0,0⟩)
noncomputable def subS (s:Stmt) (j:Nat):Stmt:=match s with
 | .ClassDef _ _ _ b _ _ _ _ _ _ _=>b.getD j s
 | _=>s
noncomputable def asX:List Addr:=[3,20,21,27,28,34,35,39,40,46,47,48,50,55,56,57,61,63,68,69,70,73,75,80,81,82,85,86,87,88,150,151,152,153,154,155,156,157,158,159,160,161,162,168,169,173,174,180,181,185,186,192,193,194,200,201,205,206,212,213,217,218,224,225,231,232,238,239,245,246,252,253,259,260,261,262,263,265,275,276,277,278,279,284,286,296,297,298,299,300,305,307,315,316,320,321,327,328,334,335,341,342,348,349,355,356,362,363,369,370,371,372,373,381,382,388,389,395,396,402,403,409,410,414,415,419,420,426,427,433,434,440,441,447,448,454,455,461,462,468,469,475,476,482,483,487,488,492,493]
noncomputable def KX (P:P0):Frag:=[
 (3,⟨(.type "dict"),none,(.dict #[⟨(g0 P "__name__"),(.str "__name__" 165),(.str "law_talejudge_k33_turned_without_back" 778)⟩,⟨(g0 P "__doc__"),(.str "__doc__" 166),.none⟩,⟨(g0 P "__package__"),(.str "__package__" 167),.none⟩,⟨(g0 P "__loader__"),(.str "__loader__" 168),(.builtin "__main__.__loader__#opaque")⟩,⟨(g0 P "__spec__"),(.str "__spec__" 169),.none⟩,kR P "__annotations__" 170 6,kR P "__builtins__" 171 4,⟨(g0 P "__file__"),(.str "__file__" 173),(.str "/claim/cut.py" 172)⟩,⟨(g0 P "__cached__"),(.str "__cached__" 174),.none⟩,⟨(g0 P "GREATEST_WORTH"),(.str "GREATEST_WORTH" 190),(.int (1000000000) 189)⟩,⟨(g0 P "LONGEST_NAME"),(.str "LONGEST_NAME" 192),(.int (8) 191)⟩,⟨(g0 P "SMALL_LETTERS"),(.str "SMALL_LETTERS" 194),(.str "abcdefghijklmnopqrstuvwxyz" 193)⟩,kR P "is_whole" 201 21,kR P "is_within" 209 28,kR P "is_worth" 216 35,kR P "is_name" 222 40,kR P "is_tuple_of" 230 47,kR P "TaleError" 250 57,kR P "NoTale" 266 70,kR P "NoPlan" 282 82,kR P "FIRST_STATES" 298 85,kR P "WORTHS_OF_VERBS" 323 88,kR P "read_state" 331 95,kR P "write_state" 339 102,kR P "add_to_number" 347 109,kR P "put_behind" 355 116,kR P "take_first" 363 123,kR P "put_into_set" 371 130,kR P "cut_from_set" 377 135,kR P "has_in_set" 385 142,kR P "swap_state" 393 149,kR P "DOERS" 454 150,kR P "is_kind" 461 169,kR P "is_deed" 467 174,kR P "planned" 478 181,kR P "is_plan" 484 186,kR P "is_planned" 492 193,⟨(g0 P "MOST_THINGS"),(.str "MOST_THINGS" 496),(.int (6) 495)⟩,⟨(g0 P "MOST_BEGINS"),(.str "MOST_BEGINS" 498),(.int (24) 497)⟩,⟨(g0 P "LAST_HAND"),(.str "LAST_HAND" 500),(.int (5) 499)⟩,⟨(g0 P "GREATEST_ANSWER"),(.str "GREATEST_ANSWER" 502),(.int (1000000000000) 501)⟩,kR P "ANSWER_WORDS" 505 194,kR P "make_tale" 514 201,kR P "make_things" 520 206,kR P "is_thing" 527 213,kR P "make_events" 533 218,kR P "is_begin" 541 225,kR P "is_end" 548 232,kR P "is_event" 557 239,kR P "is_hand" 564 246,kR P "is_answer" 571 253,kR P "go_by_turns" 581 260,⟨(g0 P "MOST_HANDS"),(.str "MOST_HANDS" 585),(.int (6) 584)⟩,⟨(g0 P "MOST_DEEDS"),(.str "MOST_DEEDS" 587),(.int (24) 586)⟩,kR P "FIRST_HELD" 592 262,kR P "Errand" 626 279,kR P "Letter" 659 300,kR P "Copies" 759 373,kR P "check_plan" 765 382,kR P "run_copies" 777 389,kR P "_law_cell_at" 787 396,kR P "_law_mix" 796 403,kR P "_law_parts" 807 410,kR P "_law_begun" 813 415,kR P "_law_free" 819 420,kR P "_law_sent" 830 427,kR P "_law_ended" 839 434,kR P "_law_gone_on" 851 441,kR P "_law_come" 867 448,kR P "_law_moved" 883 455,kR P "_law_place" 897 462,kR P "_law_made" 908 469,kR P "_law_round" 923 476,kR P "_law_deed" 936 483,kR P "_law_told" 942 488,kR P "law" 948 493] 76),#[]⟩),
 (20,cO "is_whole" "is_whole" 195 5 1 15 199),
 (21,fO "is_whole" "is_whole" (top 4) "talejudge.basics" 187 20),
 (27,cO "is_within" "is_within" 202 7 2 22 207),
 (28,fO "is_within" "is_within" (top 5) "talejudge.basics" 187 27),
 (34,cO "is_worth" "is_worth" 210 9 1 29 214),
 (35,fO "is_worth" "is_worth" (top 6) "talejudge.basics" 187 34),
 (39,cP "is_name" "is_name" 217 11 1 36 220),
 (40,fO "is_name" "is_name" (top 7) "talejudge.basics" 187 39),
 (46,cO "is_tuple_of" "is_tuple_of" 223 15 2 41 228),
 (47,fO "is_tuple_of" "is_tuple_of" (top 8) "talejudge.basics" 187 46),
 (48,⟨(.type "tuple"),none,(.seq #[(.type "ValueError")] 0),#[]⟩),
 (50,⟨(.type "dict"),none,(.dict #[⟨(g0 P "__module__"),(.str "__module__" 240),(.str "talejudge.errors" 231)⟩,⟨(g0 P "__qualname__"),(.str "__qualname__" 242),(.str "TaleError" 241)⟩,⟨(g0 P "__firstlineno__"),(.str "__firstlineno__" 244),(.int (18) 243)⟩,kR P "__static_attributes__" 245 55] 4),#[]⟩),
 (55,⟨(.type "tuple"),none,(.seq #[] 0),#[]⟩),
 (56,⟨(.type "dict"),none,(.dict #[⟨(g0 P "__module__"),(.str "__module__" 240),(.str "talejudge.errors" 231)⟩,⟨(g0 P "__firstlineno__"),(.str "__firstlineno__" 244),(.int (18) 243)⟩,kR P "__static_attributes__" 245 55,kR P "__weakref__" 247 58,⟨(g0 P "__doc__"),(.str "__doc__" 248),.none⟩] 3),#[]⟩),
 (57,⟨(.type "type"),none,(.cls ⟨"TaleError",[(.type "ValueError")],[(.ref 57),(.type "ValueError"),(.type "Exception"),(.type "BaseException"),(.type "object")],56,"TaleError",true,[],[(.ref 70),(.ref 82)],false,none,false⟩),#[some (.ref 48),none,some (.str "TaleError" 233),some (.str "TaleError" 241),some (.builtin "ValueError.__new__"),some (.bool true)]⟩),
 (61,⟨(.type "tuple"),none,(.seq #[(.ref 57)] 0),#[]⟩),
 (63,⟨(.type "dict"),none,(.dict #[⟨(g0 P "__module__"),(.str "__module__" 258),(.str "talejudge.errors" 231)⟩,⟨(g0 P "__qualname__"),(.str "__qualname__" 260),(.str "NoTale" 259)⟩,⟨(g0 P "__firstlineno__"),(.str "__firstlineno__" 262),(.int (20) 261)⟩,kR P "__static_attributes__" 263 68] 4),#[]⟩),
 (68,⟨(.type "tuple"),none,(.seq #[] 0),#[]⟩),
 (69,⟨(.type "dict"),none,(.dict #[⟨(g0 P "__module__"),(.str "__module__" 258),(.str "talejudge.errors" 231)⟩,⟨(g0 P "__firstlineno__"),(.str "__firstlineno__" 262),(.int (20) 261)⟩,kR P "__static_attributes__" 263 68,⟨(g0 P "__doc__"),(.str "__doc__" 264),.none⟩] 2),#[]⟩),
 (70,⟨(.type "type"),none,(.cls ⟨"NoTale",[(.ref 57)],[(.ref 70),(.ref 57),(.type "ValueError"),(.type "Exception"),(.type "BaseException"),(.type "object")],69,"NoTale",true,[],[],false,none,false⟩),#[some (.ref 61),none,some (.str "NoTale" 251),some (.str "NoTale" 259),some (.builtin "ValueError.__new__"),some (.bool true)]⟩),
 (73,⟨(.type "tuple"),none,(.seq #[(.ref 57)] 0),#[]⟩),
 (75,⟨(.type "dict"),none,(.dict #[⟨(g0 P "__module__"),(.str "__module__" 274),(.str "talejudge.errors" 231)⟩,⟨(g0 P "__qualname__"),(.str "__qualname__" 276),(.str "NoPlan" 275)⟩,⟨(g0 P "__firstlineno__"),(.str "__firstlineno__" 278),(.int (22) 277)⟩,kR P "__static_attributes__" 279 80] 4),#[]⟩),
 (80,⟨(.type "tuple"),none,(.seq #[] 0),#[]⟩),
 (81,⟨(.type "dict"),none,(.dict #[⟨(g0 P "__module__"),(.str "__module__" 274),(.str "talejudge.errors" 231)⟩,⟨(g0 P "__firstlineno__"),(.str "__firstlineno__" 278),(.int (22) 277)⟩,kR P "__static_attributes__" 279 80,⟨(g0 P "__doc__"),(.str "__doc__" 280),.none⟩] 2),#[]⟩),
 (82,⟨(.type "type"),none,(.cls ⟨"NoPlan",[(.ref 57)],[(.ref 82),(.ref 57),(.type "ValueError"),(.type "Exception"),(.type "BaseException"),(.type "object")],81,"NoPlan",true,[],[],false,none,false⟩),#[some (.ref 73),none,some (.str "NoPlan" 267),some (.str "NoPlan" 275),some (.builtin "ValueError.__new__"),some (.bool true)]⟩),
 (85,⟨(.type "dict"),none,(.dict #[⟨(g0 P "register"),(.str "register" 285),(.int (0) 286)⟩,⟨(g0 P "counter"),(.str "counter" 287),(.int (0) 288)⟩,kR P "queue" 289 86,kR P "set" 290 87,⟨(g0 P "cell"),(.str "cell" 291),(.int (0) 292)⟩] 5),#[]⟩),
 (86,⟨(.type "tuple"),none,(.seq #[] 0),#[]⟩),
 (87,⟨(.type "tuple"),none,(.seq #[] 0),#[]⟩),
 (88,⟨(.type "dict"),none,(.dict #[⟨(g0 P "read"),(.str "read" 299),(.int (0) 300)⟩,⟨(g0 P "take"),(.str "take" 301),(.int (0) 302)⟩,⟨(g0 P "write"),(.str "write" 303),(.int (1) 304)⟩,⟨(g0 P "add"),(.str "add" 305),(.int (1) 306)⟩,⟨(g0 P "put"),(.str "put" 307),(.int (1) 308)⟩,⟨(g0 P "cut"),(.str "cut" 309),(.int (1) 310)⟩,⟨(g0 P "has"),(.str "has" 311),(.int (1) 312)⟩,⟨(g0 P "swap"),(.str "swap" 313),(.int (2) 314)⟩] 8),#[]⟩),
 (150,⟨(.type "dict"),none,(.dict #[⟨(U1 (A0 [g0 P "register",g0 P "read"])),(.ref 151),(.ref 95)⟩,⟨(U1 (A0 [g0 P "register",g0 P "write"])),(.ref 152),(.ref 102)⟩,⟨(U1 (A0 [g0 P "counter",g0 P "read"])),(.ref 153),(.ref 95)⟩,⟨(U1 (A0 [g0 P "counter",g0 P "add"])),(.ref 154),(.ref 109)⟩,⟨(U1 (A0 [g0 P "queue",g0 P "put"])),(.ref 155),(.ref 116)⟩,⟨(U1 (A0 [g0 P "queue",g0 P "take"])),(.ref 156),(.ref 123)⟩,⟨(U1 (A0 [g0 P "set",g0 P "put"])),(.ref 157),(.ref 130)⟩,⟨(U1 (A0 [g0 P "set",g0 P "cut"])),(.ref 158),(.ref 135)⟩,⟨(U1 (A0 [g0 P "set",g0 P "has"])),(.ref 159),(.ref 142)⟩,⟨(U1 (A0 [g0 P "cell",g0 P "read"])),(.ref 160),(.ref 95)⟩,⟨(U1 (A0 [g0 P "cell",g0 P "write"])),(.ref 161),(.ref 102)⟩,⟨(U1 (A0 [g0 P "cell",g0 P "swap"])),(.ref 162),(.ref 149)⟩] 12),#[]⟩),
 (151,⟨(.type "tuple"),none,(.seq #[(.str "register" 394),(.str "read" 395)] 0),#[]⟩),
 (152,⟨(.type "tuple"),none,(.seq #[(.str "register" 396),(.str "write" 397)] 0),#[]⟩),
 (153,⟨(.type "tuple"),none,(.seq #[(.str "counter" 398),(.str "read" 399)] 0),#[]⟩),
 (154,⟨(.type "tuple"),none,(.seq #[(.str "counter" 400),(.str "add" 401)] 0),#[]⟩),
 (155,⟨(.type "tuple"),none,(.seq #[(.str "queue" 402),(.str "put" 403)] 0),#[]⟩),
 (156,⟨(.type "tuple"),none,(.seq #[(.str "queue" 404),(.str "take" 405)] 0),#[]⟩),
 (157,⟨(.type "tuple"),none,(.seq #[(.str "set" 406),(.str "put" 407)] 0),#[]⟩),
 (158,⟨(.type "tuple"),none,(.seq #[(.str "set" 408),(.str "cut" 409)] 0),#[]⟩),
 (159,⟨(.type "tuple"),none,(.seq #[(.str "set" 410),(.str "has" 411)] 0),#[]⟩),
 (160,⟨(.type "tuple"),none,(.seq #[(.str "cell" 412),(.str "read" 413)] 0),#[]⟩),
 (161,⟨(.type "tuple"),none,(.seq #[(.str "cell" 414),(.str "write" 415)] 0),#[]⟩),
 (162,⟨(.type "tuple"),none,(.seq #[(.str "cell" 416),(.str "swap" 417)] 0),#[]⟩),
 (168,cO "is_kind" "is_kind" 455 54 1 163 459),
 (169,fO "is_kind" "is_kind" (top 26) "talejudge.store" 283 168),
 (173,cP "is_deed" "is_deed" 462 56 3 170 465),
 (174,fO "is_deed" "is_deed" (top 27) "talejudge.store" 283 173),
 (180,cO "planned" "planned" 470 66 1 175 476),
 (181,fO "planned" "planned" (top 29) "talejudge.plans" 468 180),
 (185,cP "is_plan" "is_plan" 479 71 4 182 482),
 (186,fO "is_plan" "is_plan" (top 30) "talejudge.plans" 468 185),
 (192,cO "is_planned" "is_planned" 485 76 2 187 490),
 (193,fO "is_planned" "is_planned" (top 31) "talejudge.plans" 468 192),
 (194,⟨(.type "tuple"),none,(.seq #[(.str "ok" 503),(.str "none" 504)] 0),#[]⟩),
 (200,cO "make_tale" "make_tale" 506 84 2 195 512),
 (201,fO "make_tale" "make_tale" (top 38) "talejudge.tales" 493 200),
 (205,cP "make_things" "make_things" 515 87 1 202 518),
 (206,fO "make_things" "make_things" (top 39) "talejudge.tales" 493 205),
 (212,cO "is_thing" "is_thing" 521 95 1 207 525),
 (213,fO "is_thing" "is_thing" (top 40) "talejudge.tales" 493 212),
 (217,cP "make_events" "make_events" 528 97 2 214 531),
 (218,fO "make_events" "make_events" (top 41) "talejudge.tales" 493 217),
 (224,cO "is_begin" "is_begin" 534 105 2 219 539),
 (225,fO "is_begin" "is_begin" (top 42) "talejudge.tales" 493 224),
 (231,cO "is_end" "is_end" 542 109 1 226 546),
 (232,fO "is_end" "is_end" (top 43) "talejudge.tales" 493 231),
 (238,cO "is_event" "is_event" 549 111 3 233 555),
 (239,fO "is_event" "is_event" (top 44) "talejudge.tales" 493 238),
 (245,cO "is_hand" "is_hand" 558 113 1 240 562),
 (246,fO "is_hand" "is_hand" (top 45) "talejudge.tales" 493 245),
 (252,cO "is_answer" "is_answer" 565 115 1 247 569),
 (253,fO "is_answer" "is_answer" (top 46) "talejudge.tales" 493 252),
 (259,cO "go_by_turns" "go_by_turns" 572 119 1 254 579),
 (260,fO "go_by_turns" "go_by_turns" (top 47) "talejudge.tales" 493 259),
 (261,⟨(.type "tuple"),none,(.seq #[(.int (0) 588),(.int (-1) 590)] 0),#[]⟩),
 (262,⟨(.type "tuple"),none,(.seq #[(.ref 261),(.int (0) 591)] 0),#[]⟩),
 (263,⟨(.type "tuple"),none,(.seq #[] 0),#[]⟩),
 (265,⟨(.type "dict"),none,(.dict #[⟨(g0 P "__module__"),(.str "__module__" 600),(.str "talejudge.copies" 582)⟩,⟨(g0 P "__qualname__"),(.str "__qualname__" 602),(.str "Errand" 601)⟩,⟨(g0 P "__firstlineno__"),(.str "__firstlineno__" 604),(.int (131) 603)⟩,kR P "__init__" 614 276,kR P "__static_attributes__" 619 277] 5),#[]⟩),
 (275,cO "__init__" "Errand.__init__" 605 133 4 270 612),
 (276,fO "__init__" "Errand.__init__" (subS (top 52) 0) "talejudge.copies" 582 275),
 (277,⟨(.type "tuple"),none,(.seq #[(.str "deed" 615),(.str "hand" 616),(.str "heard" 617),(.str "kept" 618)] 0),#[]⟩),
 (278,⟨(.type "dict"),none,(.dict #[⟨(g0 P "__module__"),(.str "__module__" 600),(.str "talejudge.copies" 582)⟩,⟨(g0 P "__firstlineno__"),(.str "__firstlineno__" 604),(.int (131) 603)⟩,kR P "__init__" 614 276,kR P "__static_attributes__" 619 277,kR P "__dict__" 621 280,kR P "__weakref__" 623 281,⟨(g0 P "__doc__"),(.str "__doc__" 624),.none⟩] 4),#[]⟩),
 (279,⟨(.type "type"),none,(.cls ⟨"Errand",[(.type "object")],[(.ref 279),(.type "object")],278,"Errand",true,[],[],false,none,false⟩),#[none,none,some (.str "Errand" 593),some (.str "Errand" 601),some (.builtin "object.__new__"),some (.bool true)]⟩),
 (284,⟨(.type "tuple"),none,(.seq #[] 0),#[]⟩),
 (286,⟨(.type "dict"),none,(.dict #[⟨(g0 P "__module__"),(.str "__module__" 634),(.str "talejudge.copies" 582)⟩,⟨(g0 P "__qualname__"),(.str "__qualname__" 636),(.str "Letter" 635)⟩,⟨(g0 P "__firstlineno__"),(.str "__firstlineno__" 638),(.int (138) 637)⟩,kR P "__init__" 648 297,kR P "__static_attributes__" 652 298] 5),#[]⟩),
 (296,cO "__init__" "Letter.__init__" 639 140 4 291 646),
 (297,fO "__init__" "Letter.__init__" (subS (top 53) 0) "talejudge.copies" 582 296),
 (298,⟨(.type "tuple"),none,(.seq #[(.str "errand" 649),(.str "held" 650),(.str "number" 651)] 0),#[]⟩),
 (299,⟨(.type "dict"),none,(.dict #[⟨(g0 P "__module__"),(.str "__module__" 634),(.str "talejudge.copies" 582)⟩,⟨(g0 P "__firstlineno__"),(.str "__firstlineno__" 638),(.int (138) 637)⟩,kR P "__init__" 648 297,kR P "__static_attributes__" 652 298,kR P "__dict__" 654 301,kR P "__weakref__" 656 302,⟨(g0 P "__doc__"),(.str "__doc__" 657),.none⟩] 4),#[]⟩),
 (300,⟨(.type "type"),none,(.cls ⟨"Letter",[(.type "object")],[(.ref 300),(.type "object")],299,"Letter",true,[],[],false,none,false⟩),#[none,none,some (.str "Letter" 627),some (.str "Letter" 635),some (.builtin "object.__new__"),some (.bool true)]⟩),
 (305,⟨(.type "tuple"),none,(.seq #[] 0),#[]⟩),
 (307,⟨(.type "dict"),none,(.dict #[⟨(g0 P "__module__"),(.str "__module__" 667),(.str "talejudge.copies" 582)⟩,⟨(g0 P "__qualname__"),(.str "__qualname__" 669),(.str "Copies" 668)⟩,⟨(g0 P "__firstlineno__"),(.str "__firstlineno__" 671),(.int (144) 670)⟩,kR P "__init__" 677 316,kR P "go_on" 683 321,kR P "begin_deed" 692 328,kR P "send" 701 335,kR P "bring" 709 342,kR P "bring_to_copy" 718 349,kR P "bring_back" 727 356,kR P "go_on_from_asking" 736 363,kR P "end_deed" 745 370,kR P "__static_attributes__" 752 371] 13),#[]⟩),
 (315,cP "__init__" "Copies.__init__" 672 146 4 312 675),
 (316,fO "__init__" "Copies.__init__" (subS (top 54) 0) "talejudge.copies" 582 315),
 (320,cP "go_on" "Copies.go_on" 678 154 2 317 681),
 (321,fO "go_on" "Copies.go_on" (subS (top 54) 1) "talejudge.copies" 582 320),
 (327,cO "begin_deed" "Copies.begin_deed" 684 167 2 322 690),
 (328,fO "begin_deed" "Copies.begin_deed" (subS (top 54) 2) "talejudge.copies" 582 327),
 (334,cO "send" "Copies.send" 693 173 2 329 699),
 (335,fO "send" "Copies.send" (subS (top 54) 3) "talejudge.copies" 582 334),
 (341,cO "bring" "Copies.bring" 702 177 2 336 707),
 (342,fO "bring" "Copies.bring" (subS (top 54) 4) "talejudge.copies" 582 341),
 (348,cO "bring_to_copy" "Copies.bring_to_copy" 710 183 3 343 716),
 (349,fO "bring_to_copy" "Copies.bring_to_copy" (subS (top 54) 5) "talejudge.copies" 582 348),
 (355,cO "bring_back" "Copies.bring_back" 719 188 3 350 725),
 (356,fO "bring_back" "Copies.bring_back" (subS (top 54) 6) "talejudge.copies" 582 355),
 (362,cO "go_on_from_asking" "Copies.go_on_from_asking" 728 197 2 357 734),
 (363,fO "go_on_from_asking" "Copies.go_on_from_asking" (subS (top 54) 7) "talejudge.copies" 582 362),
 (369,cO "end_deed" "Copies.end_deed" 737 206 3 364 743),
 (370,fO "end_deed" "Copies.end_deed" (subS (top 54) 8) "talejudge.copies" 582 369),
 (371,⟨(.type "tuple"),none,(.seq #[(.str "back" 746),(.str "events" 747),(.str "idle" 748),(.str "left" 749),(.str "letters" 750),(.str "stock" 751)] 0),#[]⟩),
 (372,⟨(.type "dict"),none,(.dict #[⟨(g0 P "__module__"),(.str "__module__" 667),(.str "talejudge.copies" 582)⟩,⟨(g0 P "__firstlineno__"),(.str "__firstlineno__" 671),(.int (144) 670)⟩,kR P "__init__" 677 316,kR P "go_on" 683 321,kR P "begin_deed" 692 328,kR P "send" 701 335,kR P "bring" 709 342,kR P "bring_to_copy" 718 349,kR P "bring_back" 727 356,kR P "go_on_from_asking" 736 363,kR P "end_deed" 745 370,kR P "__static_attributes__" 752 371,kR P "__dict__" 754 374,kR P "__weakref__" 756 375,⟨(g0 P "__doc__"),(.str "__doc__" 757),.none⟩] 4),#[]⟩),
 (373,⟨(.type "type"),none,(.cls ⟨"Copies",[(.type "object")],[(.ref 373),(.type "object")],372,"Copies",true,[],[],false,none,false⟩),#[none,none,some (.str "Copies" 660),some (.str "Copies" 668),some (.builtin "object.__new__"),some (.bool true)]⟩),
 (381,cP "check_plan" "check_plan" 760 209 2 378 763),
 (382,fO "check_plan" "check_plan" (top 55) "talejudge.copies" 582 381),
 (388,cO "run_copies" "run_copies" 766 217 4 383 775),
 (389,fO "run_copies" "run_copies" (top 56) "talejudge.copies" 582 388),
 (395,cO "_law_cell_at" "_law_cell_at" 780 224 2 390 785),
 (396,fL "_law_cell_at" "_law_cell_at" (top 58) 395),
 (402,cO "_law_mix" "_law_mix" 788 228 2 397 794),
 (403,fL "_law_mix" "_law_mix" (top 59) 402),
 (409,cO "_law_parts" "_law_parts" 797 232 2 404 805),
 (410,fL "_law_parts" "_law_parts" (top 60) 409),
 (414,cP "_law_begun" "_law_begun" 808 242 2 411 811),
 (415,fL "_law_begun" "_law_begun" (top 61) 414),
 (419,cP "_law_free" "_law_free" 814 247 2 416 817),
 (420,fL "_law_free" "_law_free" (top 62) 419),
 (426,cO "_law_sent" "_law_sent" 820 249 4 421 828),
 (427,fL "_law_sent" "_law_sent" (top 63) 426),
 (433,cO "_law_ended" "_law_ended" 831 256 3 428 837),
 (434,fL "_law_ended" "_law_ended" (top 64) 433),
 (440,cO "_law_gone_on" "_law_gone_on" 840 259 3 435 849),
 (441,fL "_law_gone_on" "_law_gone_on" (top 65) 440),
 (447,cO "_law_come" "_law_come" 852 273 3 442 865),
 (448,fL "_law_come" "_law_come" (top 66) 447),
 (454,cO "_law_moved" "_law_moved" 868 285 4 449 881),
 (455,fL "_law_moved" "_law_moved" (top 67) 454),
 (461,cO "_law_place" "_law_place" 884 299 5 456 895),
 (462,fL "_law_place" "_law_place" (top 68) 461),
 (468,cO "_law_made" "_law_made" 898 306 5 463 906),
 (469,fL "_law_made" "_law_made" (top 69) 468),
 (475,cO "_law_round" "_law_round" 909 309 6 470 921),
 (476,fL "_law_round" "_law_round" (top 70) 475),
 (482,cO "_law_deed" "_law_deed" 924 315 6 477 934),
 (483,fL "_law_deed" "_law_deed" (top 71) 482),
 (487,cP "_law_told" "_law_told" 937 320 6 484 940),
 (488,fL "_law_told" "_law_told" (top 72) 487),
 (492,cP "law" "law" 943 334 1 489 946),
 (493,fL "law" "law" (top 73) 492)]
noncomputable def HX:Hook:=kHook KX asX (λ _=>by kernel_rfl)
noncomputable abbrev XtX:C0->Bool:=λ s=>xlAt viewX [] s && recOk (RowW.records (OpenRow.toRowW PySem.Challenge.rw_talejudge_k33_turned_without_back.row)) s
theorem look1 (w:W0) (os:Q3):(staticsOk (o8 PX.main.body) (boot_heap w.params) (S3X w os).abs.heap && namesBound PX (S3X w os).abs.heap && gensDone (S3X w os).abs && laidKept (boot_heap w.params) (S3X w os).abs.heap)=true:=by kernel_rfl
theorem look2 (w:W0) (os:Q3):openSeen viewX looseX (o8 PX.main.body) XtX true (S3X w os).abs=openGood viewX looseX:=by rw [PySem.W.Fast.te4187177175401517315];kernel_rfl
theorem look3 (w:W0) (os:Q3):Hook.obs HX (S3X w os).abs=Hook.val HX w:=by kernel_rfl
theorem leftX:LeftO PX viewX looseX XtX (Hook.obs HX) (Hook.val HX) 200000:=
 zjf (H₀:=boot_heap) (gs₀:=Array.mk []) (boot_open (by kernel_rfl) (by decide) (λ s=>rfl)) (λ w=>by kernel_rfl) zje look1 look2 look3
end K33
set_option maxHeartbeats 4000000
namespace L2
open PySem PySem.Spec PyProof.Rows
theorem FnScope.k {N P:List Str} {sc:Scope} (a:sc.kind=.function:=by exact rfl) (b:sc.isCoroutine=false:=by exact rfl) (c:sc.isGenerator=false:=by exact rfl) (d:N.Nodup:=by decide +kernel) (e:N.take P.length=P:=by exact rfl) (f :∀x∈P,sc.names.lookup x=some .local\/sc.names.lookup x=some .cell:=by decide +kernel) (g :∀y∈sc.names,y.2≠.free:=by decide +kernel):FnScope N P sc:=⟨a,b,c,d,e,f,g⟩
theorem newA {H:Hp} {p:Addr} (o:HO) (h:H p=none) :∃H',H'=upd H p o/\Same H H'/\H' p=some o:=⟨_,rfl,Same.upd h,z04⟩
theorem iteK {c A B:Prop} [Decidable c] (h:B) (hc:¬ c:=by decide +kernel):if c then A else B:=iteN hc h
theorem pg_cn {X:Cx} {scope:Scope} {cl:List (Str×Addr)} {N:List Str} {C:Addr} {s₂:C0} {H₂:Hp} {fp:List Addr} {x:Str} {px:Pos} (i:Nat) (hN:N.Nodup:=by decide +kernel) (hi:N[i]? = some x:=by exact rfl) (hx:scope.names.lookup x=some .local:=by exact rfl):PG (cxComp X scope cl N C s₂ H₂ fp) (.Name x px) (gName i):=zj4 i hN hi hx
theorem pe_cg {X:Cx} {xs:List Str} {tg:Expr} {g:TG} {pos:Pos} {elt iter:Expr} {ifs:List Expr} {scope:Scope} {fr:List (Nat×Str)} {wi:TI} {tc:TT} {te:TE} (hi:PI X tg iter wi)
  (hg :∀cl C s₂ H₂ fp,PG (cxComp X scope cl (xs++fr.map (·.2)) C s₂ H₂ fp) tg g)
  (ht :∀cl C s₂ H₂ fp,PF (cxComp X scope cl (xs++fr.map (·.2)) C s₂ H₂ fp) ifs tc) (he :∀cl C s₂ H₂ fp,PE (cxComp X scope cl (xs++fr.map (·.2)) C s₂ H₂ fp) elt te) (hcalm:X.calm=true:=by exact rfl)
  (hfr :∀p∈fr,X.N[p.1]? = some p.2/\(X.env.kindOf p.2=some .cell\/X.env.kindOf p.2=some .free):=by first|exact λ _ z=>absurd z N0|(intro p hp;obtain rfl:=List.mem_singleton.mp hp;first|exact ⟨rfl,.inl rfl⟩|exact ⟨rfl,.inr rfl⟩))
  (hin:(scope.names.all λ y=>y.2 != C2 || fr.any λ p=>p.2 == y.1)=true:=by decide +kernel)
  (hfs :∀p∈fr,(p.2,C2)∈scope.names/\((X8 scope X.env).names.lookup p.2=some .cell\/(X8 scope X.env).names.lookup p.2=some .free):=by first|exact λ _ z=>absurd z N0|(intro p hp;obtain rfl:=List.mem_singleton.mp hp;exact ⟨by decide +kernel,by first|exact .inl rfl|exact .inr rfl⟩))
  (hcell :∀y∈scope.names,y.2≠NameKind.cell:=by decide +kernel) (hkind:scope.kind=.function:=by exact rfl) (hnames :∀y∈scope.names,y.2=NameKind.local->scope.names.lookup y.1=some .local:=by decide +kernel)
  (hs :∀x,A7 iter X.env x=O4 x:=by intro _;rfl):PE X (.ListComp elt [⟨tg,iter,ifs,0⟩] scope pos) (tCompG wi xs.length fr g tc te):=
 zf4 hcalm hi hfr (λ y a e=>by
  have h:=List.all_eq_true.mp hin y a;rw [e] at h;obtain ⟨p,hp,z⟩:=List.any_eq_true.mp (show fr.any (λ p=>p.2 == y.1)=true from h);have:=(hfr p hp).2
  rwa [eq_of_beq z] at this) hfs hcell hkind hnames hg ht he hs
end L2
namespace K33
open PySem PySem.Spec PyProof.Rows TJ L2
abbrev Gg (n:Str) (a:Addr):Prop:=∀P,W3 (KX P) Q2 n=some (some (.ref a))
abbrev Gn (n:Str):Prop:=∀P,W3 (KX P) Q2 n=some none
noncomputable abbrev kx (w:W0):=KX w.params
noncomputable abbrev Ca (P:Program) (w:W0) (mg:Str->Option Value) (base:Heap):=Cal P w (KX w.params) mg base
noncomputable abbrev CaE (P:Program) (w:W0) (mg:Str->Option Value) (base:Heap):=CalE P w (KX w.params) mg base
noncomputable abbrev Fo (P:Program) (w:W0) (mg:Str->Option Value) (base:Heap):=FnOk P w (KX w.params) mg base
theorem z0k:Gn "isinstance":=λ _=>by kernel_rfl
theorem n_len:Gn "len":=λ _=>by kernel_rfl
theorem n_all:Gn "all":=λ _=>by kernel_rfl
theorem n_max:Gn "max":=λ _=>by kernel_rfl
theorem n_int:Gn "int":=λ _=>by kernel_rfl
theorem n_str:Gn "str":=λ _=>by kernel_rfl
theorem n_bool:Gn "bool":=λ _=>by kernel_rfl
theorem zdu:Gn "tuple":=λ _=>by kernel_rfl
theorem n_list:Gn "list":=λ _=>by kernel_rfl
theorem z36:Gn "range":=λ _=>by kernel_rfl
theorem ziq:Gn "sorted":=λ _=>by kernel_rfl
theorem n_dict:Gn "dict":=λ _=>by kernel_rfl
theorem n_set:Gn "set":=λ _=>by kernel_rfl
theorem zcz:Gn "enumerate":=λ _=>by kernel_rfl
theorem z6f (P:P0):W3 (KX P) Q2 "GREATEST_WORTH" = some (some (.int (1000000000) 189)):=by kernel_rfl
theorem z7q (P:P0):W3 (KX P) Q2 "LONGEST_NAME" = some (some (.int (8) 191)):=by kernel_rfl
theorem z6l (P:P0):W3 (KX P) Q2 "SMALL_LETTERS" = some (some (.str "abcdefghijklmnopqrstuvwxyz" 193)):=by kernel_rfl
theorem zer:Gg "is_whole" 21:=λ _=>by kernel_rfl
theorem zcf:Gg "is_within" 28:=λ _=>by kernel_rfl
theorem zff:Gg "is_worth" 35:=λ _=>by kernel_rfl
theorem zgb:Gg "is_name" 40:=λ _=>by kernel_rfl
theorem z9b:Gg "is_tuple_of" 47:=λ _=>by kernel_rfl
theorem zah:Gg "NoPlan" 82:=λ _=>by kernel_rfl
theorem z84:Gg "FIRST_STATES" 85:=λ _=>by kernel_rfl
theorem z59:Gg "WORTHS_OF_VERBS" 88:=λ _=>by kernel_rfl
theorem zlp:Gg "DOERS" 150:=λ _=>by kernel_rfl
theorem zg1:Gg "is_kind" 169:=λ _=>by kernel_rfl
theorem zfu:Gg "is_deed" 174:=λ _=>by kernel_rfl
theorem zgt:Gg "planned" 181:=λ _=>by kernel_rfl
theorem zgk:Gg "is_plan" 186:=λ _=>by kernel_rfl
theorem z9o:Gg "is_planned" 193:=λ _=>by kernel_rfl
theorem z89 (P:P0):W3 (KX P) Q2 "MOST_THINGS" = some (some (.int (6) 495)):=by kernel_rfl
theorem z8y (P:P0):W3 (KX P) Q2 "MOST_BEGINS" = some (some (.int (24) 497)):=by kernel_rfl
theorem zcp (P:P0):W3 (KX P) Q2 "LAST_HAND" = some (some (.int (5) 499)):=by kernel_rfl
theorem z5a (P:P0):W3 (KX P) Q2 "GREATEST_ANSWER" = some (some (.int (1000000000000) 501)):=by kernel_rfl
theorem z7j:Gg "ANSWER_WORDS" 194:=λ _=>by kernel_rfl
theorem zcd:Gg "make_tale" 201:=λ _=>by kernel_rfl
theorem z9e:Gg "make_things" 206:=λ _=>by kernel_rfl
theorem zfl:Gg "is_thing" 213:=λ _=>by kernel_rfl
theorem z8h:Gg "make_events" 218:=λ _=>by kernel_rfl
theorem zfd:Gg "is_begin" 225:=λ _=>by kernel_rfl
theorem zjg:Gg "is_end" 232:=λ _=>by kernel_rfl
theorem zdq:Gg "is_event" 239:=λ _=>by kernel_rfl
theorem zhf:Gg "is_hand" 246:=λ _=>by kernel_rfl
theorem zct:Gg "is_answer" 253:=λ _=>by kernel_rfl
theorem z93:Gg "go_by_turns" 260:=λ _=>by kernel_rfl
theorem z9p (P:P0):W3 (KX P) Q2 "MOST_HANDS" = some (some (.int (6) 584)):=by kernel_rfl
theorem zap (P:P0):W3 (KX P) Q2 "MOST_DEEDS" = some (some (.int (24) 586)):=by kernel_rfl
theorem z9y:Gg "FIRST_HELD" 262:=λ _=>by kernel_rfl
theorem za1:Gg "Errand" 279:=λ _=>by kernel_rfl
theorem zem:Gg "Letter" 300:=λ _=>by kernel_rfl
theorem zis:Gg "Copies" 373:=λ _=>by kernel_rfl
theorem za5:Gg "check_plan" 382:=λ _=>by kernel_rfl
theorem z9w:Gg "run_copies" 389:=λ _=>by kernel_rfl
theorem z80:Gg "_law_cell_at" 396:=λ _=>by kernel_rfl
theorem zfk:Gg "_law_mix" 403:=λ _=>by kernel_rfl
theorem zaf:Gg "_law_parts" 410:=λ _=>by kernel_rfl
theorem zaa:Gg "_law_begun" 415:=λ _=>by kernel_rfl
theorem zci:Gg "_law_free" 420:=λ _=>by kernel_rfl
theorem zcq:Gg "_law_sent" 427:=λ _=>by kernel_rfl
theorem zaz:Gg "_law_ended" 434:=λ _=>by kernel_rfl
theorem z78:Gg "_law_gone_on" 441:=λ _=>by kernel_rfl
theorem zd6:Gg "_law_come" 448:=λ _=>by kernel_rfl
theorem zam:Gg "_law_moved" 455:=λ _=>by kernel_rfl
theorem zaq:Gg "_law_place" 462:=λ _=>by kernel_rfl
theorem zcj:Gg "_law_made" 469:=λ _=>by kernel_rfl
theorem zax:Gg "_law_round" 476:=λ _=>by kernel_rfl
theorem zcu:Gg "_law_deed" 483:=λ _=>by kernel_rfl
theorem zcb:Gg "_law_told" 488:=λ _=>by kernel_rfl
theorem g_law:Gg "law" 493:=λ _=>by kernel_rfl
theorem za2 (P:P0):C9 (KX P) 82 [.type "ValueError",.type "Exception",.type "BaseException",.type "object"] "ValueError.__new__" = true:=by kernel_rfl
noncomputable def kl_FIRST_STATES:List (Str×V):=[("register",.int (0)),("counter",.int (0)),("queue",.ref 86),("set",.ref 87),("cell",.int (0))]
theorem z6k (P:P0):KDict (KX P) P 85 kl_FIRST_STATES:=⟨⟨#[⟨(g0 P "register"),(.str "register" 285),(.int (0) 286)⟩,⟨(g0 P "counter"),(.str "counter" 287),(.int (0) 288)⟩,⟨(g0 P "queue"),(.str "queue" 289),(.ref 86)⟩,⟨(g0 P "set"),(.str "set" 290),(.ref 87)⟩,⟨(g0 P "cell"),(.str "cell" 291),(.int (0) 292)⟩],5,by kernel_rfl,(.cons ⟨⟨_,rfl⟩,rfl,⟨_,rfl⟩⟩ (.cons ⟨⟨_,rfl⟩,rfl,⟨_,rfl⟩⟩ (.cons ⟨⟨_,rfl⟩,rfl,rfl⟩ (.cons ⟨⟨_,rfl⟩,rfl,rfl⟩ (.cons ⟨⟨_,rfl⟩,rfl,⟨_,rfl⟩⟩ .nil)))))⟩,by decide⟩
noncomputable def kl_WORTHS_OF_VERBS:List (Str×V):=[("read",.int (0)),("take",.int (0)),("write",.int (1)),("add",.int (1)),("put",.int (1)),("cut",.int (1)),("has",.int (1)),("swap",.int (2))]
theorem z4k (P:P0):KDict (KX P) P 88 kl_WORTHS_OF_VERBS:=⟨⟨#[⟨(g0 P "read"),(.str "read" 299),(.int (0) 300)⟩,⟨(g0 P "take"),(.str "take" 301),(.int (0) 302)⟩,⟨(g0 P "write"),(.str "write" 303),(.int (1) 304)⟩,⟨(g0 P "add"),(.str "add" 305),(.int (1) 306)⟩,⟨(g0 P "put"),(.str "put" 307),(.int (1) 308)⟩,⟨(g0 P "cut"),(.str "cut" 309),(.int (1) 310)⟩,⟨(g0 P "has"),(.str "has" 311),(.int (1) 312)⟩,⟨(g0 P "swap"),(.str "swap" 313),(.int (2) 314)⟩],8,by kernel_rfl,(.cons ⟨⟨_,rfl⟩,rfl,⟨_,rfl⟩⟩ (.cons ⟨⟨_,rfl⟩,rfl,⟨_,rfl⟩⟩ (.cons ⟨⟨_,rfl⟩,rfl,⟨_,rfl⟩⟩ (.cons ⟨⟨_,rfl⟩,rfl,⟨_,rfl⟩⟩ (.cons ⟨⟨_,rfl⟩,rfl,⟨_,rfl⟩⟩ (.cons ⟨⟨_,rfl⟩,rfl,⟨_,rfl⟩⟩ (.cons ⟨⟨_,rfl⟩,rfl,⟨_,rfl⟩⟩ (.cons ⟨⟨_,rfl⟩,rfl,⟨_,rfl⟩⟩ .nil))))))))⟩,by decide⟩
noncomputable def kl_DOERS:List ((Str×Str)×V):=[(("register","read"),.ref 95),(("register","write"),.ref 102),(("counter","read"),.ref 95),(("counter","add"),.ref 109),(("queue","put"),.ref 116),(("queue","take"),.ref 123),(("set","put"),.ref 130),(("set","cut"),.ref 135),(("set","has"),.ref 142),(("cell","read"),.ref 95),(("cell","write"),.ref 102),(("cell","swap"),.ref 149)]
theorem zj9 (P:P0):KDictT (KX P) P 150 kl_DOERS:=⟨⟨#[⟨(U1 (A0 [g0 P "register",g0 P "read"])),(.ref 151),(.ref 95)⟩,⟨(U1 (A0 [g0 P "register",g0 P "write"])),(.ref 152),(.ref 102)⟩,⟨(U1 (A0 [g0 P "counter",g0 P "read"])),(.ref 153),(.ref 95)⟩,⟨(U1 (A0 [g0 P "counter",g0 P "add"])),(.ref 154),(.ref 109)⟩,⟨(U1 (A0 [g0 P "queue",g0 P "put"])),(.ref 155),(.ref 116)⟩,⟨(U1 (A0 [g0 P "queue",g0 P "take"])),(.ref 156),(.ref 123)⟩,⟨(U1 (A0 [g0 P "set",g0 P "put"])),(.ref 157),(.ref 130)⟩,⟨(U1 (A0 [g0 P "set",g0 P "cut"])),(.ref 158),(.ref 135)⟩,⟨(U1 (A0 [g0 P "set",g0 P "has"])),(.ref 159),(.ref 142)⟩,⟨(U1 (A0 [g0 P "cell",g0 P "read"])),(.ref 160),(.ref 95)⟩,⟨(U1 (A0 [g0 P "cell",g0 P "write"])),(.ref 161),(.ref 102)⟩,⟨(U1 (A0 [g0 P "cell",g0 P "swap"])),(.ref 162),(.ref 149)⟩],12,by kernel_rfl,(.cons ⟨⟨151,394,395,0,rfl,by kernel_rfl⟩,rfl,rfl⟩ (.cons ⟨⟨152,396,397,0,rfl,by kernel_rfl⟩,rfl,rfl⟩ (.cons ⟨⟨153,398,399,0,rfl,by kernel_rfl⟩,rfl,rfl⟩ (.cons ⟨⟨154,400,401,0,rfl,by kernel_rfl⟩,rfl,rfl⟩ (.cons ⟨⟨155,402,403,0,rfl,by kernel_rfl⟩,rfl,rfl⟩ (.cons ⟨⟨156,404,405,0,rfl,by kernel_rfl⟩,rfl,rfl⟩ (.cons ⟨⟨157,406,407,0,rfl,by kernel_rfl⟩,rfl,rfl⟩ (.cons ⟨⟨158,408,409,0,rfl,by kernel_rfl⟩,rfl,rfl⟩ (.cons ⟨⟨159,410,411,0,rfl,by kernel_rfl⟩,rfl,rfl⟩ (.cons ⟨⟨160,412,413,0,rfl,by kernel_rfl⟩,rfl,rfl⟩ (.cons ⟨⟨161,414,415,0,rfl,by kernel_rfl⟩,rfl,rfl⟩ (.cons ⟨⟨162,416,417,0,rfl,by kernel_rfl⟩,rfl,rfl⟩ .nil))))))))))))⟩,by decide +kernel,by decide⟩
noncomputable abbrev y2b:Stmt:=top 4
noncomputable abbrev y1b:FuncData:=fnX "is_whole" "is_whole" (top 4) "talejudge.basics" 187 20
theorem z60 (P:P0):Fun (KX P) "is_whole" "is_whole" y2b 21 y1b:=z0a
theorem zfh (P:P0):Binds (KX P) y1b ["value"] []:=(z60 P).binds λ _ _ _ _ _ _=>us1 λ _=>rfl
theorem zcc:FnScope ["value"] ["value"] (z07 y2b):=.k
noncomputable abbrev y21:Stmt:=top 5
noncomputable abbrev y0y:FuncData:=fnX "is_within" "is_within" (top 5) "talejudge.basics" 187 27
theorem z48 (P:P0):Fun (KX P) "is_within" "is_within" y21 28 y0y:=z0a
theorem zcn (P:P0):Binds (KX P) y0y ["value","greatest"] []:=(z48 P).binds λ _ _ _ _ _ _=>us2 λ _ _=>rfl
theorem zb0:FnScope ["value","greatest"] ["value","greatest"] (z07 y21):=.k
noncomputable abbrev y2c:Stmt:=top 6
noncomputable abbrev y1c:FuncData:=fnX "is_worth" "is_worth" (top 6) "talejudge.basics" 187 34
theorem z5m (P:P0):Fun (KX P) "is_worth" "is_worth" y2c 35 y1c:=z0a
theorem ze0 (P:P0):Binds (KX P) y1c ["value"] []:=(z5m P).binds λ _ _ _ _ _ _=>us1 λ _=>rfl
theorem zd0:FnScope ["value"] ["value"] (z07 y2c):=.k
noncomputable abbrev y2h:Stmt:=top 7
noncomputable abbrev y1m:FuncData:=fnX "is_name" "is_name" (top 7) "talejudge.basics" 187 39
theorem z7i (P:P0):Fun (KX P) "is_name" "is_name" y2h 40 y1m:=z0a
theorem zfw (P:P0):Binds (KX P) y1m ["value"] []:=(z7i P).binds λ _ _ _ _ _ _=>us1 λ _=>rfl
theorem zeu:FnScope ["value"] ["value"] (z07 y2h):=.k
noncomputable abbrev y1h:Stmt:=top 8
noncomputable abbrev y0h:FuncData:=fnX "is_tuple_of" "is_tuple_of" (top 8) "talejudge.basics" 187 46
theorem z2o (P:P0):Fun (KX P) "is_tuple_of" "is_tuple_of" y1h 47 y0h:=z0a
theorem z9d (P:P0):Binds (KX P) y0h ["value","many"] []:=(z2o P).binds λ _ _ _ _ _ _=>us2 λ _ _=>rfl
theorem z7r:FnScope ["value","many"] ["value","many"] (z07 y1h):=.k
noncomputable abbrev y2i:Stmt:=top 26
noncomputable abbrev y1n:FuncData:=fnX "is_kind" "is_kind" (top 26) "talejudge.store" 283 168
theorem z7m (P:P0):Fun (KX P) "is_kind" "is_kind" y2i 169 y1n:=z0a
theorem zhc (P:P0):Binds (KX P) y1n ["kind"] []:=(z7m P).binds λ _ _ _ _ _ _=>us1 λ _=>rfl
theorem zfn:FnScope ["kind"] ["kind"] (z07 y2i):=.k
noncomputable abbrev y2j:Stmt:=top 27
noncomputable abbrev y1o:FuncData:=fnX "is_deed" "is_deed" (top 27) "talejudge.store" 283 173
theorem z7s (P:P0):Fun (KX P) "is_deed" "is_deed" y2j 174 y1o:=z0a
theorem zh1 (P:P0):Binds (KX P) y1o ["kind","verb","worth"] []:=(z7s P).binds λ _ _ _ _ _ _=>us3 λ _ _ _=>rfl
theorem sc_is_deed:FnScope ["kind","verb","worth","many"] ["kind","verb","worth"] (z07 y2j):=.k
noncomputable abbrev y2k:Stmt:=top 29
noncomputable abbrev y1p:FuncData:=fnX "planned" "planned" (top 29) "talejudge.plans" 468 180
theorem z7t (P:P0):Fun (KX P) "planned" "planned" y2k 181 y1p:=z0a
theorem zgc (P:P0):Binds (KX P) y1p ["plan"] []:=(z7t P).binds λ _ _ _ _ _ _=>us1 λ _=>rfl
theorem sc_planned:FnScope ["plan","told","own"] ["plan"] (z07 y2k):=.k
noncomputable abbrev y2l:Stmt:=top 30
noncomputable abbrev y1q:FuncData:=fnX "is_plan" "is_plan" (top 30) "talejudge.plans" 468 185
theorem z81 (P:P0):Fun (KX P) "is_plan" "is_plan" y2l 186 y1q:=z0a
theorem zfr (P:P0):Binds (KX P) y1q ["kind","plan","most_hands","most_deeds"] []:=(z81 P).binds λ _ _ _ _ _ _=>us4 λ _ _ _ _=>rfl
theorem sc_is_plan:FnScope ["kind","plan","most_hands","most_deeds","told"] ["kind","plan","most_hands","most_deeds"] (z07 y2l):=.k
noncomputable abbrev y1s:Stmt:=top 31
noncomputable abbrev y0p:FuncData:=fnX "is_planned" "is_planned" (top 31) "talejudge.plans" 468 192
theorem z3d (P:P0):Fun (KX P) "is_planned" "is_planned" y1s 193 y0p:=z0a
theorem zad (P:P0):Binds (KX P) y0p ["kind","deed"] []:=(z3d P).binds λ _ _ _ _ _ _=>us2 λ _ _=>rfl
theorem z8q:FnScope ["kind","deed"] ["kind","deed"] (z07 y1s):=.k
noncomputable abbrev y22:Stmt:=top 38
noncomputable abbrev y0z:FuncData:=fnX "make_tale" "make_tale" (top 38) "talejudge.tales" 493 200
theorem z4a (P:P0):Fun (KX P) "make_tale" "make_tale" y22 201 y0z:=z0a
theorem zd4 (P:P0):Binds (KX P) y0z ["things","events"] []:=(z4a P).binds λ _ _ _ _ _ _=>us2 λ _ _=>rfl
theorem sc_make_tale:FnScope ["things","events","own_things"] ["things","events"] (z07 y22):=.k
noncomputable abbrev y1i:Stmt:=top 39
noncomputable abbrev y0i:FuncData:=fnX "make_things" "make_things" (top 39) "talejudge.tales" 493 205
theorem z2p (P:P0):Fun (KX P) "make_things" "make_things" y1i 206 y0i:=z0a
theorem z9g (P:P0):Binds (KX P) y0i ["things"] []:=(z2p P).binds λ _ _ _ _ _ _=>us1 λ _=>rfl
theorem z7b:FnScope ["things"] ["things"] (z07 y1i):=.k
noncomputable abbrev y2d:Stmt:=top 40
noncomputable abbrev y1d:FuncData:=fnX "is_thing" "is_thing" (top 40) "talejudge.tales" 493 212
theorem z5k (P:P0):Fun (KX P) "is_thing" "is_thing" y2d 213 y1d:=z0a
theorem zdm (P:P0):Binds (KX P) y1d ["thing"] []:=(z5k P).binds λ _ _ _ _ _ _=>us1 λ _=>rfl
theorem zd2:FnScope ["thing"] ["thing"] (z07 y2d):=.k
noncomputable abbrev y1j:Stmt:=top 41
noncomputable abbrev y0j:FuncData:=fnX "make_events" "make_events" (top 41) "talejudge.tales" 493 217
theorem z2v (P:P0):Fun (KX P) "make_events" "make_events" y1j 218 y0j:=z0a
theorem z96 (P:P0):Binds (KX P) y0j ["events","kinds"] []:=(z2v P).binds λ _ _ _ _ _ _=>us2 λ _ _=>rfl
theorem z7h:FnScope ["events","kinds"] ["events","kinds"] (z07 y1j):=.k
noncomputable abbrev y2e:Stmt:=top 42
noncomputable abbrev y1e:FuncData:=fnX "is_begin" "is_begin" (top 42) "talejudge.tales" 493 224
theorem z5q (P:P0):Fun (KX P) "is_begin" "is_begin" y2e 225 y1e:=z0a
theorem zfq (P:P0):Binds (KX P) y1e ["event","kinds"] []:=(z5q P).binds λ _ _ _ _ _ _=>us2 λ _ _=>rfl
theorem zco:FnScope ["event","kinds"] ["event","kinds"] (z07 y2e):=.k
noncomputable abbrev y2n:Stmt:=top 43
noncomputable abbrev y23:FuncData:=fnX "is_end" "is_end" (top 43) "talejudge.tales" 493 231
theorem z9m (P:P0):Fun (KX P) "is_end" "is_end" y2n 232 y23:=z0a
theorem zjr (P:P0):Binds (KX P) y23 ["event"] []:=(z9m P).binds λ _ _ _ _ _ _=>us1 λ _=>rfl
theorem zg5:FnScope ["event"] ["event"] (z07 y2n):=.k
noncomputable abbrev y2f:Stmt:=top 44
noncomputable abbrev y1f:FuncData:=fnX "is_event" "is_event" (top 44) "talejudge.tales" 493 238
theorem z5z (P:P0):Fun (KX P) "is_event" "is_event" y2f 239 y1f:=z0a
theorem zfo (P:P0):Binds (KX P) y1f ["event","word","many"] []:=(z5z P).binds λ _ _ _ _ _ _=>us3 λ _ _ _=>rfl
theorem zcl:FnScope ["event","word","many"] ["event","word","many"] (z07 y2f):=.k
noncomputable abbrev y2m:Stmt:=top 45
noncomputable abbrev y1r:FuncData:=fnX "is_hand" "is_hand" (top 45) "talejudge.tales" 493 245
theorem z79 (P:P0):Fun (KX P) "is_hand" "is_hand" y2m 246 y1r:=z0a
theorem zh5 (P:P0):Binds (KX P) y1r ["hand"] []:=(z79 P).binds λ _ _ _ _ _ _=>us1 λ _=>rfl
theorem zd7:FnScope ["hand"] ["hand"] (z07 y2m):=.k
noncomputable abbrev y24:Stmt:=top 46
noncomputable abbrev y10:FuncData:=fnX "is_answer" "is_answer" (top 46) "talejudge.tales" 493 252
theorem z49 (P:P0):Fun (KX P) "is_answer" "is_answer" y24 253 y10:=z0a
theorem zce (P:P0):Binds (KX P) y10 ["answer"] []:=(z49 P).binds λ _ _ _ _ _ _=>us1 λ _=>rfl
theorem z9q:FnScope ["answer"] ["answer"] (z07 y24):=.k
noncomputable abbrev y1k:Stmt:=top 47
noncomputable abbrev y0k:FuncData:=fnX "go_by_turns" "go_by_turns" (top 47) "talejudge.tales" 493 259
theorem z2t (P:P0):Fun (KX P) "go_by_turns" "go_by_turns" y1k 260 y0k:=z0a
theorem z97 (P:P0):Binds (KX P) y0k ["events"] []:=(z2t P).binds λ _ _ _ _ _ _=>us1 λ _=>rfl
theorem sc_go_by_turns:FnScope ["events","busy","event","begins"] ["events"] (z07 y1k):=.k
noncomputable abbrev y1t:Stmt:=top 55
noncomputable abbrev y0q:FuncData:=fnX "check_plan" "check_plan" (top 55) "talejudge.copies" 582 381
theorem z3n (P:P0):Fun (KX P) "check_plan" "check_plan" y1t 382 y0q:=z0a
theorem z9x (P:P0):Binds (KX P) y0q ["many","plan"] []:=(z3n P).binds λ _ _ _ _ _ _=>us2 λ _ _=>rfl
theorem sc_check_plan:FnScope ["many","plan","worths"] ["many","plan"] (z07 y1t):=.k
noncomputable abbrev y1u:Stmt:=top 56
noncomputable abbrev y0r:FuncData:=fnX "run_copies" "run_copies" (top 56) "talejudge.copies" 582 388
theorem z3m (P:P0):Fun (KX P) "run_copies" "run_copies" y1u 389 y0r:=z0a
theorem za9 (P:P0):Binds (KX P) y0r ["many","plan","choices","back"] []:=(z3m P).binds λ _ _ _ _ _ _=>us4 λ _ _ _ _=>rfl
theorem sc_run_copies:FnScope ["many","plan","choices","back","copies","choice"] ["many","plan","choices","back"] (z07 y1u):=.k
noncomputable abbrev y17:Stmt:=top 58
noncomputable abbrev y0d:FuncData:=fY "_law_cell_at" "_law_cell_at" (top 58) 395
theorem z22 (P:P0):Fun (KX P) "_law_cell_at" "_law_cell_at" y17 396 y0d:=z0a
theorem z7z (P:P0):Binds (KX P) y0d ["script","k"] []:=(z22 P).binds λ _ _ _ _ _ _=>us2 λ _ _=>rfl
theorem z6s:FnScope ["script","k"] ["script","k"] (z07 y17):=.k
noncomputable abbrev y2g:Stmt:=top 59
noncomputable abbrev y1g:FuncData:=fY "_law_mix" "_law_mix" (top 59) 402
theorem z5p (P:P0):Fun (KX P) "_law_mix" "_law_mix" y2g 403 y1g:=z0a
theorem ze5 (P:P0):Binds (KX P) y1g ["cell","k"] []:=(z5p P).binds λ _ _ _ _ _ _=>us2 λ _ _=>rfl
theorem sc__law_mix:FnScope ["cell","k","one"] ["cell","k"] (z07 y2g):=.k
noncomputable abbrev y1v:Stmt:=top 60
noncomputable abbrev y0s:FuncData:=fY "_law_parts" "_law_parts" (top 60) 409
theorem z3k (P:P0):Fun (KX P) "_law_parts" "_law_parts" y1v 410 y0s:=z0a
theorem zay (P:P0):Binds (KX P) y0s ["cell","least"] []:=(z3k P).binds λ _ _ _ _ _ _=>us2 λ _ _=>rfl
theorem sc__law_parts:FnScope ["cell","least","xs","rest","k"] ["cell","least"] (z07 y1v):=.k
noncomputable abbrev y1w:Stmt:=top 61
noncomputable abbrev y0t:FuncData:=fY "_law_begun" "_law_begun" (top 61) 414
theorem z3o (P:P0):Fun (KX P) "_law_begun" "_law_begun" y1w 415 y0t:=z0a
theorem zaj (P:P0):Binds (KX P) y0t ["many","plan"] []:=(z3o P).binds λ _ _ _ _ _ _=>us2 λ _ _=>rfl
theorem sc__law_begun:FnScope ["many","plan","state"] ["many","plan"] (z07 y1w):=.k
noncomputable abbrev y25:Stmt:=top 62
noncomputable abbrev y11:FuncData:=fY "_law_free" "_law_free" (top 62) 419
theorem z4j (P:P0):Fun (KX P) "_law_free" "_law_free" y25 420 y11:=z0a
theorem zc4 (P:P0):Binds (KX P) y11 ["state","plan"] []:=(z4j P).binds λ _ _ _ _ _ _=>us2 λ _ _=>rfl
theorem z9r:FnScope ["state","plan"] ["state","plan"] (z07 y25):=.k
noncomputable abbrev y26:Stmt:=top 63
noncomputable abbrev y12:FuncData:=fY "_law_sent" "_law_sent" (top 63) 426
theorem z4e (P:P0):Fun (KX P) "_law_sent" "_law_sent" y26 427 y12:=z0a
theorem zcs (P:P0):Binds (KX P) y12 ["state","hand","stamp","worth"] []:=(z4e P).binds λ _ _ _ _ _ _=>us4 λ _ _ _ _=>rfl
theorem sc__law_sent:FnScope ["state","hand","stamp","worth","copy"] ["state","hand","stamp","worth"] (z07 y26):=.k
noncomputable abbrev y1x:Stmt:=top 64
noncomputable abbrev y0u:FuncData:=fY "_law_ended" "_law_ended" (top 64) 433
theorem z3s (P:P0):Fun (KX P) "_law_ended" "_law_ended" y1x 434 y0u:=z0a
theorem za4 (P:P0):Binds (KX P) y0u ["state","hand","answer"] []:=(z3s P).binds λ _ _ _ _ _ _=>us3 λ _ _ _=>rfl
theorem z8c:FnScope ["state","hand","answer"] ["state","hand","answer"] (z07 y1x):=.k
noncomputable abbrev y18:Stmt:=top 65
noncomputable abbrev y0e:FuncData:=fY "_law_gone_on" "_law_gone_on" (top 65) 440
theorem z26 (P:P0):Fun (KX P) "_law_gone_on" "_law_gone_on" y18 441 y0e:=z0a
theorem z7e (P:P0):Binds (KX P) y0e ["state","hand","back"] []:=(z26 P).binds λ _ _ _ _ _ _=>us3 λ _ _ _=>rfl
theorem sc__law_gone_on:FnScope ["state","hand","back","deed","stamp","worth"] ["state","hand","back"] (z07 y18):=.k
noncomputable abbrev y27:Stmt:=top 66
noncomputable abbrev y13:FuncData:=fY "_law_come" "_law_come" (top 66) 447
theorem z4b (P:P0):Fun (KX P) "_law_come" "_law_come" y27 448 y13:=z0a
theorem zc6 (P:P0):Binds (KX P) y13 ["state","letter","back"] []:=(z4b P).binds λ _ _ _ _ _ _=>us3 λ _ _ _=>rfl
theorem sc__law_come:FnScope ["state","letter","back","copy","hand","turn","side","stamp","worth","deed"] ["state","letter","back"] (z07 y27):=.k
noncomputable abbrev y1y:Stmt:=top 67
noncomputable abbrev y0v:FuncData:=fY "_law_moved" "_law_moved" (top 67) 454
theorem z3e (P:P0):Fun (KX P) "_law_moved" "_law_moved" y1y 455 y0v:=z0a
theorem za0 (P:P0):Binds (KX P) y0v ["state","plan","number","back"] []:=(z3e P).binds λ _ _ _ _ _ _=>us4 λ _ _ _ _=>rfl
theorem sc__law_moved:FnScope ["state","plan","number","back","free","hand","verb","worth","at","letter"] ["state","plan","number","back"] (z07 y1y):=.k
noncomputable abbrev y1z:Stmt:=top 68
noncomputable abbrev y0w:FuncData:=fY "_law_place" "_law_place" (top 68) 461
theorem z39 (P:P0):Fun (KX P) "_law_place" "_law_place" y1z 462 y0w:=z0a
theorem z9n (P:P0):Binds (KX P) y0w ["state","plan","hand","side","copy"] []:=(z39 P).binds λ _ _ _ _ _ _=>us5 λ _ _ _ _ _=>rfl
theorem sc__law_place:FnScope ["state","plan","hand","side","copy","free","k","letter"] ["state","plan","hand","side","copy"] (z07 y1z):=.k
noncomputable abbrev y28:Stmt:=top 69
noncomputable abbrev y14:FuncData:=fY "_law_made" "_law_made" (top 69) 468
theorem z47 (P:P0):Fun (KX P) "_law_made" "_law_made" y28 469 y14:=z0a
theorem zcg (P:P0):Binds (KX P) y14 ["state","plan","choices","choice","back"] []:=(z47 P).binds λ _ _ _ _ _ _=>us5 λ _ _ _ _ _=>rfl
theorem zav:FnScope ["state","plan","choices","choice","back"] ["state","plan","choices","choice","back"] (z07 y28):=.k
noncomputable abbrev y20:Stmt:=top 70
noncomputable abbrev y0x:FuncData:=fY "_law_round" "_law_round" (top 70) 475
theorem z3c (P:P0):Fun (KX P) "_law_round" "_law_round" y20 476 y0x:=z0a
theorem zaw (P:P0):Binds (KX P) y0x ["state","plan","choices","hand","copies","back"] []:=(z3c P).binds λ _ _ _ _ _ _=>us6 λ _ _ _ _ _ _=>rfl
theorem sc__law_round:FnScope ["state","plan","choices","hand","copies","back","turn","copy","side"] ["state","plan","choices","hand","copies","back"] (z07 y20):=.k
noncomputable abbrev y29:Stmt:=top 71
noncomputable abbrev y15:FuncData:=fY "_law_deed" "_law_deed" (top 71) 482
theorem z4c (P:P0):Fun (KX P) "_law_deed" "_law_deed" y29 483 y15:=z0a
theorem zc8 (P:P0):Binds (KX P) y15 ["state","plan","choices","hand","rounds","back"] []:=(z4c P).binds λ _ _ _ _ _ _=>us6 λ _ _ _ _ _ _=>rfl
theorem sc__law_deed:FnScope ["state","plan","choices","hand","rounds","back","copies"] ["state","plan","choices","hand","rounds","back"] (z07 y29):=.k
noncomputable abbrev y2a:Stmt:=top 72
noncomputable abbrev y16:FuncData:=fY "_law_told" "_law_told" (top 72) 487
theorem z4q (P:P0):Fun (KX P) "_law_told" "_law_told" y2a 488 y16:=z0a
theorem zcv (P:P0):Binds (KX P) y16 ["many","plan","turn","elder","readers","back"] []:=(z4q P).binds λ _ _ _ _ _ _=>us6 λ _ _ _ _ _ _=>rfl
theorem sc__law_told:FnScope ["many","plan","turn","elder","readers","back","state","choices","order","few","others","k","events"] ["many","plan","turn","elder","readers","back"] (z07 y2a):=.k
noncomputable abbrev y2o:Stmt:=top 73
noncomputable abbrev fd_law:FuncData:=fY "law" "law" (top 73) 492
theorem F_law (P:P0):Fun (KX P) "law" "law" y2o 493 fd_law:=z0a
theorem sc_law:FnScope ["script","xs","many","worths","readers","plan","elder"] ["script"] (z07 y2o):=.k
noncomputable abbrev y0l:Stmt:=subS (top 52) 0
noncomputable abbrev y02:FuncData:=fnX "__init__" "Errand.__init__" (subS (top 52) 0) "talejudge.copies" 582 275
theorem z2d (P:P0):Fun (KX P) "__init__" "Errand.__init__" y0l 276 y02:=z0a
theorem z1f (P:P0):Binds (KX P) y02 ["self","hand","deed","kept"] []:=(z2d P).binds λ _ _ _ _ _ _=>us4 λ _ _ _ _=>rfl
theorem z4g:FnScope ["self","hand","deed","kept"] ["self","hand","deed","kept"] (z07 y0l):=.k
theorem z7k (P:P0):Mk (KX P) 279 276:=⟨by kernel_rfl,by kernel_rfl,by kernel_rfl,by kernel_rfl⟩
theorem z0g (P:P0):Cls (KX P) 279:=⟨by kernel_rfl,by kernel_rfl,by kernel_rfl,by kernel_rfl⟩
theorem z0u (P:P0):NoAttr (KX P) 279 "hand":=by unfold NoAttr;kernel_rfl
theorem z0t (P:P0):NoAttr (KX P) 279 "deed":=by unfold NoAttr;kernel_rfl
theorem z0x (P:P0):NoAttr (KX P) 279 "kept":=by unfold NoAttr;kernel_rfl
theorem z1b (P:P0):NoAttr (KX P) 279 "heard":=by unfold NoAttr;kernel_rfl
noncomputable abbrev y0m:Stmt:=subS (top 53) 0
noncomputable abbrev y03:FuncData:=fnX "__init__" "Letter.__init__" (subS (top 53) 0) "talejudge.copies" 582 296
theorem z2e (P:P0):Fun (KX P) "__init__" "Letter.__init__" y0m 297 y03:=z0a
theorem z2g (P:P0):Binds (KX P) y03 ["self","errand","number","held"] []:=(z2e P).binds λ _ _ _ _ _ _=>us4 λ _ _ _ _=>rfl
theorem z4p:FnScope ["self","errand","number","held"] ["self","errand","number","held"] (z07 y0m):=.k
theorem zbo (P:P0):Mk (KX P) 300 297:=⟨by kernel_rfl,by kernel_rfl,by kernel_rfl,by kernel_rfl⟩
theorem z1r (P:P0):Cls (KX P) 300:=⟨by kernel_rfl,by kernel_rfl,by kernel_rfl,by kernel_rfl⟩
theorem z1l (P:P0):NoAttr (KX P) 300 "errand":=by unfold NoAttr;kernel_rfl
theorem z2l (P:P0):NoAttr (KX P) 300 "number":=by unfold NoAttr;kernel_rfl
theorem z21 (P:P0):NoAttr (KX P) 300 "held":=by unfold NoAttr;kernel_rfl
noncomputable abbrev y0n:Stmt:=subS (top 54) 0
noncomputable abbrev y07:FuncData:=fnX "__init__" "Copies.__init__" (subS (top 54) 0) "talejudge.copies" 582 315
theorem z2b (P:P0):Fun (KX P) "__init__" "Copies.__init__" y0n 316 y07:=z0a
theorem z5b (P:P0):Binds (KX P) y07 ["self","many","plan","back"] []:=(z2b P).binds λ _ _ _ _ _ _=>us4 λ _ _ _ _=>rfl
theorem z4o:FnScope ["self","many","plan","back"] ["self","many","plan","back"] (z07 y0n):=.k
theorem zhg (P:P0):Mk (KX P) 373 316:=⟨by kernel_rfl,by kernel_rfl,by kernel_rfl,by kernel_rfl⟩
theorem z09 (P:P0):Cls (KX P) 373:=⟨by kernel_rfl,by kernel_rfl,by kernel_rfl,by kernel_rfl⟩
theorem z0q (P:P0):NoAttr (KX P) 373 "stock":=by unfold NoAttr;kernel_rfl
theorem z46 (P:P0):NoAttr (KX P) 373 "back":=by unfold NoAttr;kernel_rfl
theorem z24 (P:P0):NoAttr (KX P) 373 "left":=by unfold NoAttr;kernel_rfl
theorem z1g (P:P0):NoAttr (KX P) 373 "idle":=by unfold NoAttr;kernel_rfl
theorem z0p (P:P0):NoAttr (KX P) 373 "letters":=by unfold NoAttr;kernel_rfl
theorem z10 (P:P0):NoAttr (KX P) 373 "events":=by unfold NoAttr;kernel_rfl
noncomputable abbrev y19:Stmt:=subS (top 54) 1
noncomputable abbrev y0a:FuncData:=fnX "go_on" "Copies.go_on" (subS (top 54) 1) "talejudge.copies" 582 320
theorem z40 (P:P0):Fun (KX P) "go_on" "Copies.go_on" y19 321 y0a:=z0a
theorem z7l (P:P0):Binds (KX P) y0a ["self","choice"] []:=(z40 P).binds λ _ _ _ _ _ _=>us2 λ _ _=>rfl
theorem sc_Copies_go_on:FnScope ["self","choice","ready","many","chosen","letter"] ["self","choice"] (z07 y19):=.k
theorem z6u (P:P0):Meth (KX P) 373 "go_on" 321:=⟨by kernel_rfl,by kernel_rfl,by kernel_rfl⟩
noncomputable abbrev y0f:Stmt:=subS (top 54) 2
noncomputable abbrev y05:FuncData:=fnX "begin_deed" "Copies.begin_deed" (subS (top 54) 2) "talejudge.copies" 582 327
theorem z1t (P:P0):Fun (KX P) "begin_deed" "Copies.begin_deed" y0f 328 y05:=z0a
theorem z45 (P:P0):Binds (KX P) y05 ["self","hand"] []:=(z1t P).binds λ _ _ _ _ _ _=>us2 λ _ _=>rfl
theorem sc_Copies_begin_deed:FnScope ["self","hand","deed"] ["self","hand"] (z07 y0f):=.k
theorem z3b (P:P0):Meth (KX P) 373 "begin_deed" 328:=⟨by kernel_rfl,by kernel_rfl,by kernel_rfl⟩
noncomputable abbrev y1l:Stmt:=subS (top 54) 3
noncomputable abbrev y08:FuncData:=fnX "send" "Copies.send" (subS (top 54) 3) "talejudge.copies" 582 334
theorem z56 (P:P0):Fun (KX P) "send" "Copies.send" y1l 335 y08:=z0a
theorem z2u (P:P0):Binds (KX P) y08 ["self","errand"] []:=(z56 P).binds λ _ _ _ _ _ _=>us2 λ _ _=>rfl
theorem sc_Copies_send:FnScope ["self","errand","number"] ["self","errand"] (z07 y1l):=.k
theorem z29 (P:P0):Meth (KX P) 373 "send" 335:=⟨by kernel_rfl,by kernel_rfl,by kernel_rfl⟩
noncomputable abbrev y1a:Stmt:=subS (top 54) 4
noncomputable abbrev y0b:FuncData:=fnX "bring" "Copies.bring" (subS (top 54) 4) "talejudge.copies" 582 341
theorem z42 (P:P0):Fun (KX P) "bring" "Copies.bring" y1a 342 y0b:=z0a
theorem z7c (P:P0):Binds (KX P) y0b ["self","letter"] []:=(z42 P).binds λ _ _ _ _ _ _=>us2 λ _ _=>rfl
theorem z6o:FnScope ["self","letter"] ["self","letter"] (z07 y1a):=.k
theorem z6j (P:P0):Meth (KX P) 373 "bring" 342:=⟨by kernel_rfl,by kernel_rfl,by kernel_rfl⟩
noncomputable abbrev y0c:Stmt:=subS (top 54) 5
noncomputable abbrev y01:FuncData:=fnX "bring_to_copy" "Copies.bring_to_copy" (subS (top 54) 5) "talejudge.copies" 582 348
theorem z1d (P:P0):Fun (KX P) "bring_to_copy" "Copies.bring_to_copy" y0c 349 y01:=z0a
theorem z2w (P:P0):Binds (KX P) y01 ["self","errand","number"] []:=(z1d P).binds λ _ _ _ _ _ _=>us3 λ _ _ _=>rfl
theorem z2j:FnScope ["self","errand","number"] ["self","errand","number"] (z07 y0c):=.k
theorem z2k (P:P0):Meth (KX P) 373 "bring_to_copy" 349:=⟨by kernel_rfl,by kernel_rfl,by kernel_rfl⟩
noncomputable abbrev y0g:Stmt:=subS (top 54) 6
noncomputable abbrev y06:FuncData:=fnX "bring_back" "Copies.bring_back" (subS (top 54) 6) "talejudge.copies" 582 355
theorem z1p (P:P0):Fun (KX P) "bring_back" "Copies.bring_back" y0g 356 y06:=z0a
theorem z3u (P:P0):Binds (KX P) y06 ["self","errand","held"] []:=(z1p P).binds λ _ _ _ _ _ _=>us3 λ _ _ _=>rfl
theorem z3f:FnScope ["self","errand","held"] ["self","errand","held"] (z07 y0g):=.k
theorem z3j (P:P0):Meth (KX P) 373 "bring_back" 356:=⟨by kernel_rfl,by kernel_rfl,by kernel_rfl⟩
noncomputable abbrev y09:Stmt:=subS (top 54) 7
noncomputable abbrev y00:FuncData:=fnX "go_on_from_asking" "Copies.go_on_from_asking" (subS (top 54) 7) "talejudge.copies" 582 362
theorem z0z (P:P0):Fun (KX P) "go_on_from_asking" "Copies.go_on_from_asking" y09 363 y00:=z0a
theorem z1u (P:P0):Binds (KX P) y00 ["self","errand"] []:=(z0z P).binds λ _ _ _ _ _ _=>us2 λ _ _=>rfl
theorem sc_Copies_go_on_from_asking:FnScope ["self","errand","greatest"] ["self","errand"] (z07 y09):=.k
theorem z1n (P:P0):Meth (KX P) 373 "go_on_from_asking" 363:=⟨by kernel_rfl,by kernel_rfl,by kernel_rfl⟩
noncomputable abbrev y0o:Stmt:=subS (top 54) 8
noncomputable abbrev y04:FuncData:=fnX "end_deed" "Copies.end_deed" (subS (top 54) 8) "talejudge.copies" 582 369
theorem z2c (P:P0):Fun (KX P) "end_deed" "Copies.end_deed" y0o 370 y04:=z0a
theorem z2a (P:P0):Binds (KX P) y04 ["self","errand","worth"] []:=(z2c P).binds λ _ _ _ _ _ _=>us3 λ _ _ _=>rfl
theorem z4m:FnScope ["self","errand","worth"] ["self","errand","worth"] (z07 y0o):=.k
theorem z1x (P:P0):Meth (KX P) 373 "end_deed" 370:=⟨by kernel_rfl,by kernel_rfl,by kernel_rfl⟩
section
variable {P:Program} {w:W0} {mg:Str->Option Value} {base:Heap}
def z2z:Sp:=λ vs H Q _=>∃x T,vs=[x]/\TagOf H x T/\Q (.bl (decide (T = "int"))) H
theorem zch (T:TX (kx w) mg):Fo P w mg base CX0 1 21 y1b ["value"] z2z:=by
 refine (z60 w.params).ok zcc (λ b H Q E h=>?_) (λ e A d s H b Q E c h=>?_)
 ·obtain ⟨x,t,rfl,_⟩:=h;rfl
 ·obtain ⟨x,t,rfl,a,q⟩:=h;refine ⟨_,(z05 (ps_ret (pe_and (z08 z0l rfl (T.no (z0k _)) Y3 (z01 (pv 0) (z01 (z2f (v:=.ty "int") rfl (T.no (n_int _)) boot_int rfl) pa_nil))) (pe_one (pe_not (z08 z0l rfl (T.no (z0k _)) Y3 (z01 (pv 0) (z01 (z2f (v:=.ty "bool") rfl (T.no (n_bool _)) boot_bool rfl) pa_nil)))))))),?_⟩;refine ⟨_,rfl,_,_,_,rfl,a,by decide,_,rfl,?_⟩;by_cases h1:instB t "int" = true
  ·rw [if_pos h1];refine ⟨_,rfl,_,_,_,rfl,a,by decide,_,rfl,?_⟩;rw [z5x a (by decide)];have:(!decide (t = "bool"))=decide (t = "int"):=by rcases a.one with rfl|rfl|rfl|rfl|rfl|rfl|rfl<;>revert h1<;>decide
   rw [this];exact q
  ·rw [if_neg h1];have:decide (t = "int")=false:=by rcases a.one with rfl|rfl|rfl|rfl|rfl|rfl|rfl<;>revert h1<;>decide
   rw [this] at q;exact q
def z3q:Sp:=λ vs H Q _=>∃x T g,vs=[x,.int g]/\TagOf H x T/\Q (.bl (z0h x g)) H
theorem zar (T:TX (kx w) mg) (c0:Ca P w mg base "is_whole" ["value"] 1 z2z):Fo P w mg base CX0 2 28 y0y ["value","greatest"] z3q:=by
 refine (z48 w.params).ok zb0 (λ c H Q E h=>?_) (λ e A d s H c Q E b h=>?_)
 ·obtain ⟨x,t,g,rfl,_⟩:=h;rfl
 ·obtain ⟨x,t,g,rfl,a,q⟩:=h;refine ⟨_,(z05 (ps_ret (pe_and (pe_cal c0 (b.mono (by decide)) rfl (z01 (pv 0) pa_nil)) (pe_one (zee op_le op_le (pe_un un_neg (pv 1)) (pv 0) (pv 1)))))),?_⟩;refine ⟨_,rfl,x,t,rfl,a,_,rfl,?_⟩;by_cases h1:t = "int"
  ·subst h1;obtain ⟨i,rfl⟩:=a.int;refine iteT ?_;refine ⟨_,rfl,_,rfl,_,rfl,_,_,rfl,rfl,_,rfl,?_⟩;unfold z0h at q;dsimp only at q;by_cases h2:-g<=i
   ·rw [decide_eq_true h2] at q⊢;refine iteT ⟨_,rfl,_,_,rfl,rfl,?_⟩;rw [O6] at q;exact q
   ·rw [decide_eq_false h2] at q⊢;refine iteF ?_;rw [g8] at q;exact q
  ·rw [decide_eq_false h1];refine iteF ?_;rw [noInt a h1] at q;exact q
def z71:Sp:=λ vs H Q _=>∃x T,vs=[x]/\TagOf H x T/\Q (.bl (z0h x 1000000000)) H
theorem zd5 (T:TX (kx w) mg) (c0:Ca P w mg base "is_within" ["value","greatest"] 2 z3q):Fo P w mg base CX0 3 35 y1c ["value"] z71:=by
 refine (z5m w.params).ok zd0 (λ c H Q E h=>?_) (λ e A d s H c Q E a h=>?_)
 ·obtain ⟨x,t,rfl,_⟩:=h;rfl
 ·obtain ⟨x,t,rfl,b,q⟩:=h;refine ⟨_,(z05 (ps_ret (pe_cal c0 (a.mono (by decide)) rfl (z01 (pv 0) (z01 (z1s (v:=.int (1000000000)) rfl (T.of (z6f _)) ⟨_,rfl⟩) pa_nil))))),?_⟩;exact ⟨_,rfl,x,t,1000000000,rfl,b,q⟩
def z11:Sp:=λ vs H Q _=>∃x T m,vs=[x,.int m]/\TagOf H x T/\Q (.bl (match tupOf H x with|some xs=>decide ((xs.length:Int)=m)|none=>false)) H
theorem z7p (T:TX (kx w) mg):Fo P w mg base CX0 1 47 y0h ["value","many"] z11:=by
 refine (z2o w.params).ok z7r (λ i H Q E h=>?_) (λ l A j s H i Q E k h=>?_)
 ·obtain ⟨x,t,g,rfl,_⟩:=h;rfl
 ·obtain ⟨x,t,g,rfl,b,q⟩:=h;refine ⟨_,(z05 (ps_ret (pe_and (z08 z0l rfl (T.no (z0k _)) Y3 (z01 (pv 0) (z01 (z2f (v:=.ty "tuple") rfl (T.no (zdu _)) boot_tuple rfl) pa_nil))) (pe_one (z33 opEq (z08 z0r rfl (T.no (n_len _)) X2 (z01 (pv 0) pa_nil)) (pv 1) (nomark _)))))),?_⟩;refine ⟨_,rfl,_,_,_,rfl,b,by decide,_,rfl,?_⟩;rw [z5x b (by decide)];by_cases h1:t = "tuple"
  ·subst h1;obtain ⟨a,c,rfl,d⟩:=b.tuple;refine iteT ⟨_,rfl,.inl ⟨a,c,rfl,.inr (SqT.of d),_,rfl,rfl,?_⟩⟩;have e:tupOf H (.ref a)=some c:=by unfold tupOf;dsimp only;rw [d]
   rw [e] at q;have f:decide (V.int (c.length:Int)=V.int g)=decide ((c.length:Int)=g):=by simp
   rw [f];exact q
  ·rw [decide_eq_false h1];refine iteF ?_;rw [noTup b h1] at q;exact q
noncomputable def kindB (x:V):Bool:=match x with
 | .str z=>(kl_FIRST_STATES.lookup z).isSome
 | _=>false
def z5s:Sp:=λ vs H Q _=>∃x T,vs=[x]/\TagOf H x T/\Q (.bl (kindB x)) H
theorem zdn (T:TX (kx w) mg):Fo P w mg base CX0 1 169 y1n ["kind"] z5s:=by
 refine (z7m w.params).ok zfn (λ b H Q E h=>?_) (λ e A d s H b Q E c h=>?_)
 ·obtain ⟨x,t,rfl,_⟩:=h;rfl
 ·obtain ⟨x,t,rfl,a,q⟩:=h;refine ⟨_,(z05 (ps_ret (pe_and (z08 z0l rfl (T.no (z0k _)) Y3 (z01 (pv 0) (z01 (z2f (v:=.ty "str") rfl (T.no (n_str _)) j47 rfl) pa_nil))) (pe_one (z33 (zjc (z6k _)) (pv 0) (z1s (v:=.ref 85) rfl (T.of (z84 _)) rfl) (by with_unfolding_all rfl)))))),?_⟩;refine ⟨_,rfl,_,_,_,rfl,a,by decide,_,rfl,?_⟩;rw [z5x a (by decide)];by_cases h1:t = "str"
  ·subst h1;obtain ⟨z,rfl⟩:=a.str;exact iteT ⟨_,rfl,z,rfl,rfl,q⟩
  ·rw [decide_eq_false h1];refine iteF ?_;cases x with
   | str z=>exact absurd a h1
   | _=>exact q
noncomputable def formOf (k v:Str):Int:=match kl_DOERS.lookup (k,v) with
 | none=>-1
 | some _=>(match kl_WORTHS_OF_VERBS.lookup v with|some (.int i)=>i|_=>-1)
noncomputable def deedB (H:Hp) (k v x:V):Bool:=match k,v with
 | .str a,.str b=>if formOf a b=0 then decide (x=.non) else if formOf a b=1 then z0h x 1000000000 else if formOf a b=2 then
   (match tupOf H x with|some xs=>decide (xs.length=2) && xs.all λ y=>z0h y 1000000000|none=>false) else false
 | _,_=>false
theorem z8j {a b:Str} {v:V} (h:kl_DOERS.lookup (a,b)=some v):(kl_FIRST_STATES.lookup a).isSome=true/\∃i,kl_WORTHS_OF_VERBS.lookup b=some (.int i)/\(i=0\/i=1\/i=2):=by
 have m:=z68 h;have all :∀p∈kl_DOERS,(kl_FIRST_STATES.lookup p.1.1).isSome=true/\(kl_WORTHS_OF_VERBS.lookup p.1.2=some (.int 0)\/kl_WORTHS_OF_VERBS.lookup p.1.2=some (.int 1)\/kl_WORTHS_OF_VERBS.lookup p.1.2=some (.int 2)):=by decide +kernel
 obtain ⟨d,c⟩:=all _ m;refine ⟨d,?_⟩;rcases c with c|c|c
 ·exact ⟨0,c,.inl rfl⟩
 ·exact ⟨1,c,.inr (.inl rfl)⟩
 ·exact ⟨2,c,.inr (.inr rfl)⟩
def z6e:Sp:=λ vs H Q _=>∃k v x Tk Tv Tx,vs=[k,v,x]/\TagOf H k Tk/\TagOf H v Tv/\TagOf H x Tx/\Flat H x/\∀H',Same H H'->Q (.bl (deedB H k v x)) H'
theorem zf0 (T:TX (kx w) mg) (c0:Ca P w mg base "is_kind" ["kind"] 1 z5s) (c1:Ca P w mg base "is_worth" ["value"] 3 z71) (c2:Ca P w mg base "is_tuple_of" ["value","many"] 1 z11):Fo P w mg base CX0 4 174 y1o ["kind","verb","worth"] z6e:=by
 refine (z7s w.params).ok sc_is_deed (λ vs H Q E h=>?_) (λ a3 A a2 s H vs Q E m h=>?_)
 ·obtain ⟨k,v,x,I,O,t,rfl,_⟩:=h;rfl
 ·obtain ⟨k,v,x,I,O,t,rfl,hk,o,u,hf,q⟩:=h;refine ⟨_,(z02 (ps_if (PW.pt (pw_or (pt_not (pt_val (pe_cal c0 (m.mono (by decide)) rfl (z01 (pv 0) pa_nil)) (λ _=>rfl))) (pw_or (pt_not (pt_val (z08 z0l rfl (T.no (z0k _)) Y3 (z01 (pv 1) (z01 (z2f (v:=.ty "str") rfl (T.no (n_str _)) j47 rfl) pa_nil))) (λ _=>rfl))) (pw_or1 (z0b (zan (hu_of m) (zj9 _)) (pe_tup (z01 (pv 0) (z01 (pv 1) pa_nil))) (z1s (v:=.ref 150) rfl (T.of (zlp _)) rfl) (by with_unfolding_all rfl))))))
   (z05 (ps_ret pe_bl))
   z0j)
   (z02 (ps_set (i:=3) sc_is_deed.nd rfl (Z1 rfl) (pe_ix (ix_kd (z4k _)) (z1s (v:=.ref 88) rfl (T.of (z59 _)) rfl) (pv 1) (λ _ _=>rfl)))
   (z02 (ps_if (z0b opEq (pv 3) pe_int (nomark _))
   (z05 (ps_ret (z33 op_isN (pv 2) pe_non (nomark _))))
   z0j)
   (z02 (ps_if (z0b opEq (pv 3) pe_int (nomark _))
   (z05 (ps_ret (pe_cal c1 (m.mono (by decide)) rfl (z01 (pv 2) pa_nil))))
   z0j)
   (z05 (ps_ret (pe_and (pe_cal c2 (m.mono (by decide)) rfl (z01 (pv 2) (z01 (pv 3) pa_nil))) (pe_one (z08 (z30 rfl) rfl (T.no (n_all _)) j21 (z01 (pe_cg (xs:=["part"]) (g:=gName 0) (fr:=[]) (pi_tup (pv 2)) (λ _ _ _ _ _=>(pg_cn (N:=["part"]) 0)) (λ _ _ _ _ _=>pf_nil) (λ _ _ _ _ _=>(pe_cal c1 (m.mono (by decide)) rfl (z01 (pv 0) pa_nil)))) pa_nil)))))))))),?_⟩
  refine ⟨_,rfl,k,I,rfl,hk,_,rfl,?_⟩;have M:deedB H k v x=false->Q (.bl false) H:=λ e=>by have:=q H (Same.refl H);rw [e] at this;exact this
  by_cases j :∃a,k=.str a/\(kl_FIRST_STATES.lookup a).isSome=true
  ·obtain ⟨a,rfl,j⟩:=j;have a0:kindB (.str a)=true:=j;rw [a0];refine iteF ?_;refine ⟨_,rfl,_,_,_,rfl,o,by decide,_,rfl,?_⟩;rw [z5x o (by decide)];by_cases r:O = "str"
   ·subst r;obtain ⟨b,rfl⟩:=o.str;refine iteF ?_;refine ⟨_,rfl,_,rfl,?_⟩;refine ⟨w_2,λ p X=>⟨p,a,b,rfl,z04,rfl,_,rfl,?_⟩⟩;have d:Same H (upd H p (.tup [.str a,.str b])):=Same.upd X;cases h3:kl_DOERS.lookup (a,b) with
    | none=>
     refine iteT ?_;have:=q _ d;have e:deedB H (.str a) (.str b) x=false:=by unfold deedB formOf;dsimp only;rw [h3];rfl
     rw [e] at this;exact this
    | some z=>
     refine iteF ?_;obtain ⟨_,i,S,h5⟩:=z8j h3;have B:formOf a b=i:=by unfold formOf;rw [h3];dsimp only;rw [S]
     refine ⟨_,rfl,b,.int i,rfl,rfl,S,?_⟩;refine ⟨_,rfl,rfl,_,rfl,?_⟩;rcases h5 with rfl|rfl|rfl
     ·refine iteT ⟨_,rfl,rfl,?_⟩;have:=q _ d;have e:deedB H (.str a) (.str b) x=decide (x=.non):=by unfold deedB;dsimp only;rw [B];rfl
      rw [e] at this;exact this
     ·refine iteF ⟨_,rfl,rfl,_,rfl,?_⟩;refine iteT ⟨_,rfl,x,t,rfl,u.same d,?_⟩;have:=q _ d;have e:deedB H (.str a) (.str b) x=z0h x 1000000000:=by unfold deedB;dsimp only;rw [B];rfl
      rw [e] at this;exact this
     ·refine iteF ⟨_,rfl,rfl,_,rfl,?_⟩;refine iteF ⟨_,rfl,_,rfl,x,t,2,rfl,u.same d,_,rfl,?_⟩;rw [ze7 u d];have e:deedB H (.str a) (.str b) x=(match tupOf H x with|some xs=>decide (xs.length=2) && xs.all λ y=>z0h y 1000000000|none=>false):=by unfold deedB;dsimp only;rw [B];rfl
      rw [e] at q;cases ht:tupOf H x with
      | none=>rw [ht] at q;exact iteF (q _ d)
      | some xs=>
       rw [ht] at q;dsimp only at q⊢;by_cases n:xs.length=2
       ·have C:((xs.length:Nat):Int)=2:=by omega
        rw [if_pos (decide_eq_true C)];rw [decide_eq_true n,O6] at q;obtain ⟨c,rfl,hc⟩:=zef ht;have a1:xs.length<=sizeLine:=by rw [n];decide
        refine e_cb1 ?_;refine zbs (K:=KX w.params) (a:=c) (xs:=xs) (H1:=upd H p (.tup [.str a,.str b])) (λ _=>true) (λ i y _=>y=.bl (z0h (xs[i]?.getD .non) 1000000000)) (λ _ _ _ _ _ z=>z) (λ R h=>⟨_,rfl,h⟩) (SqT.of (d _ _ hc)) a1 ?_ ?_
        ·intro i J D H' F G KT KF Y k2;obtain ⟨Ty,ty⟩:=(hf xs ht).2 D (O1 G);refine ⟨[some D],rfl,rfl,iteT ?_⟩;exact ⟨_,rfl,D,Ty,rfl,(ty.same d).same F,Y rfl _ _ (Same.refl _) (by rw [G];rfl)⟩
        ·intro l H' U F n L;rw [List.filter_eq_self.mpr (λ _ _=>rfl)] at L;have ey:U=xs.map λ y=>V.bl (z0h y 1000000000):=by
          rw [z1i (f:=λ i=>V.bl (z0h (xs[i]?.getD .non) 1000000000)) L];apply Q5
          ·simp
          ·intro i j r;have J:i < xs.length:=by simpa using j
           simp [v0 J]
         subst ey;refine ⟨l,_,rfl,SqL.of z04,λ y W=>?_,?_⟩
         ·obtain ⟨z,_,rfl⟩:=List.mem_map.mp W;exact ⟨_,rfl⟩
         ·have Z:((xs.map λ y=>V.bl (z0h y 1000000000)).all λ y=>decide (y=V.bl true))=xs.all λ y=>z0h y 1000000000:=by rw [Z8];congr 1;funext y;simp
          rw [Z];exact q _ ((d.trans F).trans (Same.upd n))
       ·have C:¬ ((xs.length:Nat):Int)=2:=by omega
        rw [if_neg (by rw [decide_eq_false C];exact D1)];rw [decide_eq_false n,g8] at q;exact q _ d
   ·rw [decide_eq_false r];refine iteT ?_;exact M (by unfold deedB;cases v with|str z=>exact absurd o r|_=>rfl)
  ·have e1:kindB k=false:=by
    cases k with
    | str z=>exact Bool.eq_false_iff.mpr λ e=>j ⟨z,rfl,e⟩
    | _=>rfl
   rw [e1];refine iteT ?_;refine M ?_;cases k with
   | str a=>
    cases v with
    | str b=>
     unfold deedB formOf;dsimp only;cases h3:kl_DOERS.lookup (a,b) with
     | none=>rfl
     | some z=>exact absurd ⟨a,rfl,(z8j h3).1⟩ j
    | _=>rfl
   | _=>rfl
inductive Ev
 | beg (h:Int) (n v x:V)
 | fin (h:Int) (a:V)
structure Rc where
 h:Int
 n:V
 v:V
 x:V
 a:V
 b:Nat
 e:Option Nat
noncomputable def endV:Option Nat->V
 | none=>.non
 | some i=>.int i
def RcAt (K:j0) (H:Hp) (r:Rc) (y:V):Prop:=∃p,y=.ref p/\SqT K H p [.int r.h,r.n,r.v,r.x,r.a,.int r.b,endV r.e]
theorem z69 {n j:Nat} (h:j < n):ixN n (j:Nat)=some j:=by unfold ixN;rw [if_pos (by omega),if_pos (by omega)];rfl
theorem Same.keep {H H':Hp} {l:Addr} {o:HO} (s:Same H H') (n:H l=none):Same H (upd H' l o):=λ a x e=>by rw [upd_ne (z0m e n)];exact s a x e
theorem z1q {α β:Type} {R:α->β->Prop} {x:α} {y:β} :∀{xs:List α} {ys:List β},All2 R xs ys->R x y->All2 R (xs++[x]) (ys++[y])
 | _,_,.nil,h=>.cons h .nil
 | _,_,.cons a r,h=>.cons a (z1q r h)
theorem zjh {κ:Type} [DecidableEq κ] {kvs:List (κ×V)} {k:κ} {v:V}:(putK kvs k v).length<=kvs.length + 1:=by
 unfold putK;by_cases z:(kvs.any λ a=>decide (a.1=k))=true
 ·rw [if_pos z,B0];omega
 ·rw [if_neg z,I0];exact J0 _
theorem z0o {α β:Type} {R:α->β->Prop} :∀{xs:List α} {ys:List β} {i:Nat} {x:α},All2 R xs ys->xs[i]? = some x->∃y,ys[i]? = some y/\R x y
 | _,_,i,x,.nil,e=>by simp at e
 | _,_,0,x,.cons a _,e=>by rw [E4] at e;cases e;exact ⟨_,E4,a⟩
 | _,_,i + 1,x,.cons _ r,e=>by rw [Z2] at e;obtain ⟨y,c,b⟩:=z0o r e;exact ⟨y,by rw [Z2];exact c,b⟩
end
section
noncomputable def oStep (os:List Int):Ev->List Int
 | .beg h _ _ _=>os++[h]
 | .fin h _=>os.filter λ k=>decide (k≠h)
noncomputable def oOk (os:List Int):Ev->Prop
 | .beg h _ _ _=>h∉os
 | .fin h _=>h∈os
noncomputable def EWf:List Int->List Ev->Prop
 | _,[]=>True
 | os,e :: es=>oOk os e/\EWf (oStep os e) es
theorem EWf.snoc :∀{es:List Ev} {os:List Int} {e:Ev},EWf os es->oOk (es.foldl oStep os) e->EWf os (es++[e])
 | [],os,e,_,h=>⟨h,trivial⟩
 | x :: es,os,e,w,h=>⟨w.1,EWf.snoc w.2 h⟩
structure DInv (i:Nat) (rs:List Rc) (os:List Int):Prop where
 b :∀r∈rs,r.b < i
 e :∀r∈rs,∀e,r.e=some e->e < i
 p :∀(x y:Nat) (r q:Rc),x < y->rs[x]? = some r->rs[y]? = some q->r.b < q.b/\(r.h=q.h->∃e,r.e=some e/\e < q.b)
 o :∀r∈rs,r.h∉os->r.e.isSome=true
 m :∀h∈os,h∈rs.map Rc.h
theorem zc9 {kvs:List (Key×V)} {k:Key}:(valV kvs k).isSome=true↔k∈kvs.map (·.1):=by
 induction kvs with
 | nil=>simp [valV]
 | cons p r ih=>
  obtain ⟨a,pv⟩:=p;by_cases y:a=k
  ·subst y;rw [z15 rfl];simp
  ·rw [z16 y,ih,L1,M3];exact ⟨λ z=>.inr z,λ z=>z.resolve_left λ x=>y x.symm⟩
theorem zd9 {kvs:List (Key×V)} {k:Key} {v:V} (h:k∉kvs.map (·.1)):putK kvs k v=kvs++[(k,v)]:=by unfold putK;rw [if_neg];intro z;obtain ⟨p,a,e⟩:=List.any_eq_true.mp z;exact h (List.mem_map.mpr ⟨p,a,of_decide_eq_true e⟩)
theorem z1j {α β:Type} {R:α->β->Prop} :∀{xs:List α} {ys:List β},ys.length=xs.length->(∀(k:Nat) a b,xs[k]? = some a->ys[k]? = some b->R a b)->All2 R xs ys
 | [],[],_,_=>.nil
 | [],y :: ys,h,_=>by cases h
 | x :: xs,[],h,_=>by cases h
 | x :: xs,y :: ys,h,f=>.cons (f 0 x y rfl rfl) (z1j (by simpa using h) λ k a b c d=>f (k + 1) a b (by rw [Z2];exact c) (by rw [Z2];exact d))
end
section
variable {P:Program} {w:W0} {mg:Str->Option Value} {base:Heap}
structure NameOk (z:Str):Prop where
 l1:1<=z.length
 l8:z.length<=8
 s :∀c∈z.cps.toList,97<=c/\c<=122
theorem NameOk.ascii {z:Str} (h:NameOk z):z.cps.all (· < 128)=true:=by rw [Array.all_eq_true_iff_forall_mem];intro c a;have:=h.s c (Array.mem_toList_iff.mpr a);exact decide_eq_true (by omega)
theorem zgo :∀k:Fin 26,(Z7 ("abcdefghijklmnopqrstuvwxyz" : Str) ⟨#[97 + k.val]⟩ 0 ("abcdefghijklmnopqrstuvwxyz" : Str).length 1).isEmpty=false:=by decide +kernel
theorem zha {c:Nat} (h:97<=c/\c<=122):(Z7 ("abcdefghijklmnopqrstuvwxyz" : Str) ⟨#[c]⟩ 0 ("abcdefghijklmnopqrstuvwxyz" : Str).length 1).isEmpty=false:=by have:=zgo ⟨c - 97,by omega⟩;rw [show 97 + (c - 97)=c by omega] at this;exact this
def z5v:Sp:=λ vs H Q _=>∃z:Str,vs=[.str z]/\NameOk z/\∀H',Same H H'->Q (.bl true) H'
theorem zfi (T:TX (kx w) mg):Fo P w mg base CX0 1 40 y1m ["value"] z5v:=by
 refine (z7i w.params).ok zeu (λ p H Q E h=>?_) (λ J A B s H p Q E D h=>?_)
 ·obtain ⟨z,rfl,_⟩:=h;rfl
 ·obtain ⟨z,rfl,b,q⟩:=h;refine ⟨_,(z02 (ps_if (PW.pt (pw_or (pt_not (pt_val (z08 z0l rfl (T.no (z0k _)) Y3 (z01 (pv 0) (z01 (z2f (v:=.ty "str") rfl (T.no (n_str _)) j47 rfl) pa_nil))) (λ _=>rfl))) (pw_or1 (pt_not (zj5 op_le op_le pe_int (z08 z0r rfl (T.no (n_len _)) X2 (z01 (pv 0) pa_nil)) (z1s (v:=.int (8)) rfl (T.of (z7q _)) ⟨_,rfl⟩))))))
   (z05 (ps_ret pe_bl))
   z0j)
   (z05 (ps_ret (z08 (z30 rfl) rfl (T.no (n_all _)) j21 (z01 (pe_cg (xs:=["sign"]) (g:=gName 0) (fr:=[]) (pi_str (pv 0)) (λ _ _ _ _ _=>(pg_cn (N:=["sign"]) 0)) (λ _ _ _ _ _=>pf_nil) (λ _ _ _ _ _=>(z33 zg3 (pv 0) (z1s (v:=.str "abcdefghijklmnopqrstuvwxyz") rfl (T.of (z6l _)) ⟨_,rfl⟩) (by with_unfolding_all rfl)))) pa_nil))))),?_⟩
  have I:=b.l1;have f:=b.l8;refine sq_if (t_or ?_);refine ⟨_,rfl,_,_,"str",rfl,rfl,by decide,_,rfl,iteN (by decide) ?_⟩;refine ⟨_,rfl,.inr ⟨z,rfl,L0 f (by decide),_,_,rfl,rfl,_,rfl,?_⟩⟩;refine iteP (decide_eq_true (by omega)) ?_;refine ⟨_,_,rfl,rfl,_,rfl,iteN (by rw [decide_eq_true (show (z.length:Int)<=8 by omega)];decide) ?_⟩;refine t_nx (sq_ret (e_cb1 ?_));refine tcompS (x:=z) (H1:=H) (λ _=>true) (λ _ y _=>y=.bl true) (λ _ _ _ _ _ z=>z) (λ R h=>⟨_,rfl,h⟩) b.ascii (L0 (m:=8) f (by decide)) ?_ ?_
  ·intro i F v H1 d k KT G l C;obtain ⟨c,r,rfl⟩:=k;have o:c∈z.cps.toList:=Array.mem_toList_iff.mpr (j41 r);refine ⟨[some (.str ⟨#[c]⟩)],rfl,rfl,iteT ?_⟩;refine ⟨_,rfl,_,_,rfl,rfl,?_⟩;rw [zha (b.s c o)];exact l rfl _ _ (Same.refl _) rfl
  intro j H1 bs d t n;have e :∀y∈bs,y=.bl true:=λ y a=>by obtain ⟨m,u⟩:=List.mem_iff_getElem?.mp a;obtain ⟨_,_,z⟩:=z0f n u;exact z
  refine ⟨j,bs,rfl,SqL.of z04,λ y a=>⟨true,e y a⟩,?_⟩;rw [List.all_eq_true.mpr (λ y a=>decide_eq_true (e y a))];exact q _ (d.trans (Same.upd t))
structure ThingOk (t:Str×Str):Prop where
 n:NameOk t.1
 k:kindB (.str t.2)=true
def ThV (H:Hp) (t:Str×Str) (y:V):Prop:=∃p,y=.ref p/\H p=some (.tup [.str t.1,.str t.2])
theorem ThV.same {H H':Hp} {t:Str×Str} {y:V} (s:Same H H') (h:ThV H t y):ThV H' t y:=h.elim λ p z=>⟨p,z.1,s _ _ z.2⟩
theorem z4h {H:Hp} {p:Addr} {xs:List V} (e:H p=some (.tup xs)):tupOf H (.ref p)=some xs:=by unfold tupOf;dsimp only;rw [e]
def z70:Sp:=λ vs H Q _=>∃t y,vs=[y]/\ThV H t y/\ThingOk t/\∀H',Same H H'->Q (.bl true) H'
theorem zc7 (T:TX (kx w) mg) (c0:Ca P w mg base "is_tuple_of" ["value","many"] 1 z11) (c1:Ca P w mg base "is_name" ["value"] 1 z5v) (c2:Ca P w mg base "is_kind" ["kind"] 1 z5s):Fo P w mg base CX0 2 213 y1d ["thing"] z70:=by
 refine (z5k w.params).ok zd2 (λ d H Q E h=>?_) (λ g A f s H d Q E b h=>?_)
 ·obtain ⟨t,y,rfl,_⟩:=h;rfl
 ·obtain ⟨t,y,rfl,⟨p,rfl,a⟩,ok,q⟩:=h;refine ⟨_,(z05 (ps_ret (pe_and (pe_cal c0 (b.mono (by decide)) rfl (z01 (pv 0) (z01 pe_int pa_nil))) (pe_and (pe_cal c1 (b.mono (by decide)) rfl (z01 (pe_ix ix_seq (pv 0) pe_int (λ _ _=>rfl)) pa_nil)) (pe_one (pe_cal c2 (b.mono (by decide)) rfl (z01 (pe_ix ix_seq (pv 0) pe_int (λ _ _=>rfl)) pa_nil))))))),?_⟩;refine ⟨_,rfl,_,"tuple",2,rfl,.inr (.inl ⟨⟨_,a⟩,rfl⟩),?_⟩;rw [z4h a];refine ⟨_,rfl,iteP (by simp) ?_⟩;refine ⟨_,rfl,.inr (.inl ⟨p,_,0,.str t.1,rfl,rfl,SqT.of a,z06 (j:=0) rfl,t.1,rfl,ok.n,λ e c=>⟨true,rfl,iteP rfl ?_⟩⟩)⟩;refine ⟨_,rfl,.inr (.inl ⟨p,_,1,.str t.2,rfl,rfl,SqT.of (c _ _ a),z06 (j:=1) rfl,_,"str",rfl,rfl,?_⟩)⟩;rw [ok.k];exact q _ c
theorem zh6 {H:Hp} {ts:List (Str×Str)} {ys zs:List V}:All2 (ThV H) ts ys->(All2 (λ (i:Nat) z=>z=V.str ((ts[i]?.getD ("","")).1)) (O0 ys.length) zs)->zs=(ts.map (·.1)).map V.str:=λ c d=>by
 have f:ys.length=ts.length:=z03 c;rw [z1i d,f];apply Q5
 ·simp
 ·intro i a b;have e:i < ts.length:=by simpa using a
  simp [v0 e]
theorem z8f :∀(us ns:List Str),us.Nodup->(∀u∈us,u∉ns)->(us.foldl addT ns).length=ns.length + us.length
 | [],ns,_,_=>rfl
 | u :: us,ns,nd,h=>by
  rw [W5] at nd;have e:addT ns u=ns++[u]:=by unfold addT;rw [if_neg (h u (.head _))]
  rw [W2,e,z8f us (ns++[u]) nd.2 λ v a z=>?_]
  ·simp only [I0,X0,K4];omega
  ·rcases List.mem_append.mp z with z|z
   ·exact h v (.tail _ a) z
   ·rw [List.mem_singleton.mp z] at a;exact nd.1 a
theorem zi5 {K:j0} {H:Hp} :∀{ts:List (Str×Str)} {ys:List V},All2 (ThV H) ts ys->All2 (λ y k=>∃(p:Addr) (r:List V),y=V.ref p/\SqT K H p (.str k :: r)) ys (ts.map (·.1))
 | _,_,.nil=>.nil
 | _,_,.cons a r=>.cons (a.elim λ p z=>⟨p,_,z.1,SqT.of z.2⟩) (zi5 r)
def z3x (K:j0):Sp:=λ vs H Q _=>∃a ys ts,vs=[.ref a]/\H a=some (.lst ys)/\All2 (ThV H) ts ys/\ts.length<=6/\(ts.map (·.1)).Nodup/\(∀t∈ts,ThingOk t)/\∀(p:List Nat) c H',Same H H'->H' c=some (.tup (p.map λ i=>ys.getD i .non))->p.Perm (O0 ys.length)->(p.map λ i=>(ts.map (·.1)).getD i ("" : Str)).Pairwise (λ x y=>ltS x y=true)->Q (.ref c) H'
theorem z7g (T:TX (kx w) mg) (c0:Ca P w mg base "is_thing" ["thing"] 2 z70):Fo P w mg base CX0 3 206 y0i ["things"] (z3x (kx w)):=by
 refine (z2p w.params).ok z7b (λ vs H Q E h=>?_) (λ a6 A a5 s H vs Q E hr h=>?_)
 ·obtain ⟨a,d,b,rfl,_⟩:=h;rfl
 ·obtain ⟨a,d,b,rfl,J,G,l6,O,ok,q⟩:=h;refine ⟨_,(z02 (ps_if (PW.pt (pw_or (pt_not (pt_val (z08 z0l rfl (T.no (z0k _)) Y3 (z01 (pv 0) (z01 (z2f (v:=.ty "list") rfl (T.no (n_list _)) j2b rfl) pa_nil))) (λ _=>rfl))) (pw_or1 (pt_not (pt_val (z08 (z30 rfl) rfl (T.no (n_all _)) j21 (z01 (pe_cg (xs:=["thing"]) (g:=gName 0) (fr:=[]) (z1e (pv 0)) (λ _ _ _ _ _=>(pg_cn (N:=["thing"]) 0)) (λ _ _ _ _ _=>pf_nil) (λ _ _ _ _ _=>(pe_cal c0 (hr.mono (by decide)) rfl (z01 (pv 0) pa_nil)))) pa_nil)) (λ _=>rfl))))))
   (z05 z4f)
   z0j)
   (z02 (ps_if (z0b op_gt (z08 z0r rfl (T.no (n_len _)) X2 (z01 (pv 0) pa_nil)) (z1s (v:=.int (6)) rfl (T.of (z89 _)) ⟨_,rfl⟩) (nomark _))
   (z05 z4f)
   z0j)
   (z02 (ps_if (z0b op_lt (ze8 rfl rfl (T.no (n_len _)) rfl (T.no (n_set _)) X2 boot_set (pe_cg (xs:=["thing"]) (g:=gName 0) (fr:=[]) (z1e (pv 0)) (λ _ _ _ _ _=>(pg_cn (N:=["thing"]) 0)) (λ _ _ _ _ _=>pf_nil) (λ _ _ _ _ _=>(pe_ix (z2n (K:=KX w.params) rfl) (pv 0) pe_int (λ _ _=>rfl))))) (z08 z0r rfl (T.no (n_len _)) X2 (z01 (pv 0) pa_nil)) (nomark _))
   (z05 z4f)
   z0j)
   (z05 (ps_ret (z5e z54 rfl (T.no (zdu _)) boot_tuple (z01 (z08 zb3 rfl (T.no (ziq _)) boot_sorted (z01 (pv 0) pa_nil)) pa_nil))))))),?_⟩
  have ly:d.length=b.length:=z03 G;refine sq_if (t_or ?_);refine ⟨_,rfl,_,_,"list",rfl,.inl ⟨⟨_,J⟩,rfl⟩,by decide,_,rfl,iteN (by decide) ?_⟩;refine tB_not (e_cb1 ?_);refine z1v (K:=KX w.params) (a:=a) (xs:=d) (H1:=H) (λ _=>true) (λ _ y _=>y=.bl true) (λ _ _ _ _ _ z=>z) (λ R h=>⟨_,rfl,h⟩) (SqL.of J) (L0 (m:=6) (by omega) (by decide)) ?_ ?_
  ·intro i hi v H1 C u KT KF D k2;obtain ⟨t,r,tv⟩:=z0f G u;refine ⟨[some v],rfl,rfl,iteT ?_⟩;exact ⟨_,rfl,t,v,rfl,tv.same C,ok t (O1 r),λ M f=>D rfl _ _ f rfl⟩
  intro L H1 bs C a3 a1;have W :∀y∈bs,y=.bl true:=λ y k=>by obtain ⟨m,hm⟩:=List.mem_iff_getElem?.mp k;obtain ⟨_,_,z⟩:=z0f a1 hm;exact z
  refine ⟨L,bs,rfl,SqL.of z04,λ y k=>⟨true,W y k⟩,?_⟩;rw [List.all_eq_true.mpr (λ y k=>decide_eq_true (W y k))];refine ⟨_,rfl,iteN (by decide) ?_⟩;have f:=C.trans (Same.upd (o:=.lst bs) a3);generalize upd H1 L (.lst bs)=M at f⊢;have x:=f _ _ J;have F:=z00 (λ _ _ z=>ThV.same f z) G;refine t_nx (sq_if ?_);refine ⟨_,rfl,.inl ⟨a,_,rfl,.inl (SqL.of x),_,_,rfl,rfl,_,rfl,iteN (λ e=>absurd (of_decide_eq_true e) (by omega)) ?_⟩⟩;refine t_nx (sq_if (t_test (zk2 ?_)));refine z1v (K:=KX w.params) (a:=a) (xs:=d) (H1:=M) (λ _=>true) (λ i y _=>y=.str ((b[i]?.getD ("","")).1)) (λ _ _ _ _ _ z=>z) (λ R h=>⟨_,rfl,h⟩) (SqL.of x) (L0 (m:=6) (by omega) (by decide)) ?_ ?_
  ·intro i hi v I B u KT KF D k2;obtain ⟨t,r,p,rfl,Y⟩:=z0f F u;refine ⟨[some (.ref p)],rfl,rfl,iteT ?_⟩;exact ⟨_,rfl,.inr (.inl ⟨p,_,0,.str t.1,rfl,rfl,SqT.of (B _ _ Y),z06 (j:=0) rfl,D rfl _ _ (Same.refl _) (by rw [r];rfl)⟩)⟩
  intro n I zs B a0 X;rw [List.filter_eq_self.mpr (λ _ _=>rfl)] at X;have ez:=zh6 F X;subst ez;have l:=B.trans (Same.upd (o:=.lst ((b.map (·.1)).map V.str)) a0);have S:upd I n (.lst ((b.map (·.1)).map V.str)) n=some (.lst ((b.map (·.1)).map V.str)):=z04;generalize upd I n (.lst ((b.map (·.1)).map V.str))=H4 at l S⊢;have U:=l _ _ x;have a4:=z00 (λ _ _ z=>ThV.same l z) F;refine ⟨n,b.map (·.1),rfl,SqL.of S,by rw [B0];omega,_,rfl,.inl ⟨a,_,rfl,.inl (SqL.of U),_,_,rfl,rfl,_,rfl,iteN (λ e=>absurd (of_decide_eq_true e) ?_) ?_⟩⟩
  ·rw [z8f _ [] O (λ _ _=>N0),K4,B0];omega
  refine t_nx (sq_ret ?_);refine ⟨_,rfl,a,d,b.map (·.1),rfl,SqL.of U,zi5 a4,by omega,O,λ l5 p a2 pp pw=>?_⟩;have Z:=l.trans (Same.upd (o:=.lst (p.map λ i=>d.getD i .non)) a2);refine ⟨l5,_,rfl,.inl ⟨SqL.of z04,λ c hc=>?_⟩⟩;exact q p c _ (f.trans (Z.trans (Same.upd hc))) z04 pp pw
def z9f:Sp:=λ vs H Q _=>∃h:Int,vs=[.int h]/\0<=h/\h<=5/\Q (.bl true) H
theorem zeb (T:TX (kx w) mg) (c0:Ca P w mg base "is_whole" ["value"] 1 z2z):Fo P w mg base CX0 2 246 y1r ["hand"] z9f:=by
 refine (z79 w.params).ok zd7 (λ b H Q E h=>?_) (λ g A f s H b Q E a h=>?_)
 ·obtain ⟨h,rfl,_⟩:=h;rfl
 ·obtain ⟨h,rfl,d,c,q⟩:=h;refine ⟨_,(z05 (ps_ret (pe_and (pe_cal c0 (a.mono (by decide)) rfl (z01 (pv 0) pa_nil)) (pe_one (zee op_le op_le pe_int (pv 0) (z1s (v:=.int (5)) rfl (T.of (zcp _)) ⟨_,rfl⟩)))))),?_⟩;refine ⟨_,rfl,_,"int",rfl,rfl,_,rfl,iteP (by decide) ?_⟩;refine ⟨_,rfl,_,_,rfl,rfl,_,rfl,?_⟩;rw [decide_eq_true d];refine iteT ⟨_,_,rfl,rfl,?_⟩;have e:decide (h<=5)=true:=decide_eq_true c;show Q (.bl (decide (h<=5))) H;rw [e];exact q
def z4d:Sp:=λ vs H Q _=>∃(p:Addr) (xs:List V) (z wd:Str) (h m:Int),vs=[.ref p,.str wd,.int m]/\H p=some (.tup (.str z :: .int h :: xs))/\0<=h/\h<=5/\Q (.bl (decide (((xs.length + 2:Nat):Int)=m) && decide (z=wd))) H
theorem zc5 (T:TX (kx w) mg) (c0:Ca P w mg base "is_tuple_of" ["value","many"] 1 z11) (c1:Ca P w mg base "is_hand" ["hand"] 2 z9f):Fo P w mg base CX0 3 239 y1f ["event","word","many"] z4d:=by
 refine (z5z w.params).ok zcl (λ f H Q E h=>?_) (λ l A k s H f Q E c h=>?_)
 ·obtain ⟨p,d,z,b,h,m,rfl,_⟩:=h;rfl
 ·obtain ⟨p,d,z,b,h,m,rfl,a,g,i,q⟩:=h;refine ⟨_,(z05 (ps_ret (pe_and (pe_cal c0 (c.mono (by decide)) rfl (z01 (pv 0) (z01 (pv 2) pa_nil))) (pe_and (z08 z0l rfl (T.no (z0k _)) Y3 (z01 (pe_ix ix_seq (pv 0) pe_int (λ _ _=>rfl)) (z01 (z2f (v:=.ty "str") rfl (T.no (n_str _)) j47 rfl) pa_nil))) (pe_and (z33 opEq (pe_ix ix_seq (pv 0) pe_int (λ _ _=>rfl)) (pv 1) (nomark _)) (pe_one (pe_cal c1 (c.mono (by decide)) rfl (z01 (pe_ix ix_seq (pv 0) pe_int (λ _ _=>rfl)) pa_nil)))))))),?_⟩;refine ⟨_,rfl,_,rfl,_,"tuple",m,rfl,.inr (.inl ⟨⟨_,a⟩,rfl⟩),?_⟩;rw [z4h a];refine ⟨_,rfl,?_⟩;by_cases hm:((d.length + 2:Nat):Int)=m;rotate_left
  ·rw [decide_eq_false hm,g8] at q;exact iteN (λ e=>hm (of_decide_eq_true e)) q
  rw [decide_eq_true hm,O6] at q;refine iteP (decide_eq_true hm) ?_;refine ⟨_,rfl,.inr (.inl ⟨p,_,0,.str z,rfl,rfl,SqT.of a,z06 (j:=0) rfl,_,_,"str",rfl,rfl,by decide,_,rfl,iteP (by decide) ?_⟩)⟩;refine ⟨_,rfl,.inr (.inl ⟨p,_,0,.str z,rfl,rfl,SqT.of a,z06 (j:=0) rfl,_,rfl,rfl,_,rfl,?_⟩)⟩;by_cases hz:z=b
  ·subst hz;refine iteP (decide_eq_true rfl) ?_;rw [decide_eq_true rfl] at q;exact ⟨_,rfl,.inr (.inl ⟨p,_,1,.int h,rfl,rfl,SqT.of a,z06 (j:=1) rfl,h,rfl,g,i,q⟩)⟩
  ·refine iteN (λ e=>hz (by have:=of_decide_eq_true e;injection this)) ?_;rw [decide_eq_false hz] at q;exact q
def AnsOk (a:V):Prop:=a=.str "ok"\/a=.str "none"\/∃i,a=.int i/\z0h (.int i) 1000000000000=true
theorem zf2 {H:Hp}:SqT (kx w) H 194 [.str "ok",.str "none"]:=
 .inr ⟨⟨(.type "tuple"),none,(.seq #[(.str "ok" 503),(.str "none" 504)] 0),#[]⟩,#[(.str "ok" 503),(.str "none" 504)],0,by kernel_rfl,rfl,rfl,w_2,.cons ⟨_,rfl⟩ (.cons ⟨_,rfl⟩ .nil)⟩
def z61:Sp:=λ vs H Q _=>∃a,vs=[a]/\AnsOk a/\Q (.bl true) H
theorem za7 (T:TX (kx w) mg) (c0:Ca P w mg base "is_within" ["value","greatest"] 2 z3q):Fo P w mg base CX0 3 253 y10 ["answer"] z61:=by
 refine (z49 w.params).ok z9q (λ c H Q E h=>?_) (λ e A d s H c Q E b h=>?_)
 ·obtain ⟨a,rfl,_⟩:=h;rfl
 ·obtain ⟨a,rfl,ok,q⟩:=h;refine ⟨_,(z02 (ps_if (pt_val (z08 z0l rfl (T.no (z0k _)) Y3 (z01 (pv 0) (z01 (z2f (v:=.ty "str") rfl (T.no (n_str _)) j47 rfl) pa_nil))) (λ _=>rfl))
   (z05 (ps_ret (z33 zb6 (pv 0) (z1s (v:=.ref 194) rfl (T.of (z7j _)) rfl) (by with_unfolding_all rfl))))
   z0j)
   (z05 (ps_ret (pe_cal c0 (b.mono (by decide)) rfl (z01 (pv 0) (z01 (z1s (v:=.int (1000000000000)) rfl (T.of (z5a _)) ⟨_,rfl⟩) pa_nil)))))),?_⟩
  refine sq_if ?_;rcases ok with rfl|rfl|⟨i,rfl,hi⟩
  ·refine ⟨_,rfl,_,_,"str",rfl,rfl,by decide,_,rfl,iteP (by decide) ?_⟩;exact ⟨_,rfl,194,_,rfl,.inr zf2,rfl,rfl,q⟩
  ·refine ⟨_,rfl,_,_,"str",rfl,rfl,by decide,_,rfl,iteP (by decide) ?_⟩;exact ⟨_,rfl,194,_,rfl,.inr zf2,rfl,rfl,q⟩
  ·refine ⟨_,rfl,_,_,"int",rfl,rfl,by decide,_,rfl,iteN (by decide) ?_⟩;refine t_nx (sq_ret ?_);refine ⟨_,rfl,_,"int",_,rfl,rfl,?_⟩;rw [hi];exact q
inductive XOk (H:Hp):Str->Str->V->Prop
 | none {k v:Str}:formOf k v=0->XOk H k v .non
 | one {k v:Str} {i:Int}:formOf k v=1->z0h (.int i) 1000000000=true->XOk H k v (.int i)
 | two {k v:Str} {i j:Int} {p:Addr}:formOf k v=2->H p=some (.tup [.int i,.int j])->z0h (.int i) 1000000000=true->z0h (.int j) 1000000000=true->XOk H k v (.ref p)
theorem XOk.same {H H':Hp} {k v:Str} {x:V} (s:Same H H') (h:XOk H k v x):XOk H' k v x:=by
 cases h with
 | none e=>exact .none e
 | one e h=>exact .one e h
 | two e h1 h2 h3=>exact .two e (s _ _ h1) h2 h3
theorem XOk.deed {H:Hp} {k v:Str} {x:V} (h:XOk H k v x):deedB H (.str k) (.str v) x=true/\(∃T,TagOf H x T)/\Flat H x:=by
 cases h with
 | none e=>refine ⟨?_,⟨"NoneType",rfl⟩,λ b z=>by cases z⟩;unfold deedB;dsimp only;rw [e,if_pos rfl];rfl
 | one e h=>refine ⟨?_,⟨"int",rfl⟩,λ b z=>by cases z⟩;unfold deedB;dsimp only;rw [e,if_neg (by decide),if_pos rfl];exact h
 | two e h1 h2 h3=>
  rename_i i j p;refine ⟨?_,⟨"tuple",.inr (.inl ⟨⟨_,h1⟩,rfl⟩)⟩,λ b z=>?_⟩
  ·unfold deedB;dsimp only;rw [e,if_neg (by decide),if_neg (by decide),if_pos rfl,z4h h1];show (decide ([V.int i,V.int j].length=2) && (z0h (.int i) 1000000000 && (z0h (.int j) 1000000000 && true)))=true;rw [h2,h3];rfl
  ·rw [z4h h1] at z;cases z;refine ⟨(show (2:Nat)<=1000 by decide),λ y a=>?_⟩;simp only [M3,N0,or_false] at a;rcases a with rfl|rfl<;>exact ⟨"int",rfl⟩
noncomputable def EvT (H:Hp) (ts:List (Str×Str)):Ev->V->Prop
 | .beg h n v x,y=>∃p nm k vb,y=.ref p/\H p=some (.tup [.str "begin",.int h,n,v,x])/\0<=h/\h<=5/\n=.str nm/\v=.str vb/\(nm,k)∈ts/\NameOk nm/\XOk H k vb x
 | .fin h a,y=>∃p,y=.ref p/\H p=some (.tup [.str "end",.int h,a])/\0<=h/\h<=5/\AnsOk a
theorem EvT.same {H H':Hp} {ts:List (Str×Str)} (s:Same H H') :∀{e:Ev} {y:V},EvT H ts e y->EvT H' ts e y
 | .beg h n v x,_,⟨p,nm,k,vb,h1,h2,h3,h4,h5,h6,h7,h8,h9⟩=>⟨p,nm,k,vb,h1,s _ _ h2,h3,h4,h5,h6,h7,h8,h9.same s⟩
 | .fin h a,_,⟨p,h1,h2,h3⟩=>⟨p,h1,s _ _ h2,h3⟩
def KdAt (H:Hp) (d:Addr) (ts:List (Str×Str)):Prop:=∃kvs:List (Key×V),H d=some (.dK kvs)/\∀nm k,(nm,k)∈ts->valV kvs (.inr nm)=some (.str k)
theorem KdAt.same {H H':Hp} {d:Addr} {ts:List (Str×Str)} (s:Same H H') (h:KdAt H d ts):KdAt H' d ts:=h.elim λ a z=>⟨a,s _ _ z.1,z.2⟩
noncomputable def isBeg:Ev->Bool
 | .beg _ _ _ _=>true
 | .fin _ _=>false
def z75:Sp:=λ vs H Q _=>∃e y d ts,vs=[y,.ref d]/\EvT H ts e y/\KdAt H d ts/\∀H',Same H H'->Q (.bl (isBeg e)) H'
theorem zcm (T:TX (kx w) mg) (c0:Ca P w mg base "is_event" ["event","word","many"] 3 z4d) (c1:Ca P w mg base "is_name" ["value"] 1 z5v) (c2:Ca P w mg base "is_deed" ["kind","verb","worth"] 4 z6e):Fo P w mg base CX0 5 225 y1e ["event","kinds"] z75:=by
 refine (z5q w.params).ok zco (λ D H Q E h=>?_) (λ U A R s H D Q E f h=>?_)
 ·obtain ⟨e,y,d,L,rfl,_⟩:=h;rfl
 ·obtain ⟨e,y,d,L,rfl,o,⟨S,F,C⟩,q⟩:=h;refine ⟨_,(z02 (ps_if (PW.pt (pw_or (pt_not (pt_val (pe_cal c0 (f.mono (by decide)) rfl (z01 (pv 0) (z01 pe_str (z01 pe_int pa_nil)))) (λ _=>rfl))) (pw_or (pt_not (pt_val (pe_cal c1 (f.mono (by decide)) rfl (z01 (pe_ix ix_seq (pv 0) pe_int (λ _ _=>rfl)) pa_nil)) (λ _=>rfl))) (pw_or1 (pt_cmp (zgz (hu_of f) (pe_ix ix_seq (pv 0) pe_int (λ _ _=>rfl)) (pv 1)) (by with_unfolding_all rfl))))))
   (z05 (ps_ret pe_bl))
   z0j)
   (z05 (ps_ret (pe_cal c2 (f.mono (by decide)) rfl (z01 (z0c (hu_of f) (pv 1) (pe_ix ix_seq (pv 0) pe_int (λ _ _=>rfl)) (λ _ _=>rfl)) (z01 (pe_ix ix_seq (pv 0) pe_int (λ _ _=>rfl)) (z01 (pe_ix ix_seq (pv 0) pe_int (λ _ _=>rfl)) pa_nil))))))),?_⟩
  refine sq_if ?_;cases e with
  | fin h a=>obtain ⟨p,rfl,c,l,m,_⟩:=o;refine ⟨_,rfl,p,[a],"end","begin",h,5,rfl,c,l,m,_,rfl,iteP (by rw [show decide (("end" : Str) = "begin")=false by decide +kernel,j29];rfl) ?_⟩;exact iteP rfl (q _ (Same.refl _))
  | beg h n v x=>obtain ⟨p,b,k,K,rfl,c,l,m,rfl,rfl,I,M,N⟩:=o;refine ⟨_,rfl,p,_,"begin","begin",h,5,rfl,c,l,m,_,rfl,iteN (by rw [show decide (("begin" : Str) = "begin")=true by decide +kernel];show ¬ (!(decide (((3 + 2:Nat):Int)=5) && true))=true;decide) ?_⟩;refine ⟨_,rfl,.inr (.inl ⟨p,_,2,.str b,rfl,rfl,SqT.of c,z06 (j:=2) rfl,b,rfl,M,λ B g=>⟨true,rfl,iteN (by decide) ?_⟩⟩)⟩;have z:=g _ _ F;have i:=g _ _ c;have dg:DGet B d (.str b) (some (.str k)):=(C b k I) ▸ DGet.k (k:=.inr b) z;refine ⟨_,rfl,.inr (.inl ⟨p,_,2,.str b,rfl,rfl,SqT.of i,z06 (j:=2) rfl,?_⟩)⟩;refine ⟨_,rfl,d,_,rfl,dg,_,rfl,iteN (by show ¬ (!true)=true;decide) ?_⟩;refine t_nx (sq_ret ?_);obtain ⟨G,⟨u,r⟩,J⟩:=(N.same g).deed;refine ⟨_,rfl,_,rfl,.inr (.inl ⟨p,_,2,.str b,rfl,rfl,SqT.of i,z06 (j:=2) rfl,d,_,rfl,dg,?_⟩)⟩;refine ⟨_,rfl,.inr (.inl ⟨p,_,3,.str K,rfl,rfl,SqT.of i,z06 (j:=3) rfl,?_⟩)⟩;refine ⟨_,rfl,.inr (.inl ⟨p,_,4,x,rfl,rfl,SqT.of i,z06 (j:=4) rfl,_,_,_,"str","str",u,rfl,rfl,rfl,r,J,λ O t=>?_⟩)⟩;rw [G];exact q _ (g.trans t)
def zbp:Sp:=λ vs H Q _=>∃h a y ts,vs=[y]/\EvT H ts (.fin h a) y/\Q (.bl true) H
theorem zgs (T:TX (kx w) mg) (c0:Ca P w mg base "is_event" ["event","word","many"] 3 z4d) (c1:Ca P w mg base "is_answer" ["answer"] 3 z61):Fo P w mg base CX0 4 232 y23 ["event"] zbp:=by
 refine (z9m w.params).ok zg5 (λ d H Q E h=>?_) (λ l A k s H d Q E c h=>?_)
 ·obtain ⟨h,a,y,f,rfl,_⟩:=h;rfl
 ·obtain ⟨h,a,y,f,rfl,⟨p,rfl,b,e,i,g⟩,q⟩:=h;refine ⟨_,(z05 (ps_ret (pe_and (pe_cal c0 (c.mono (by decide)) rfl (z01 (pv 0) (z01 pe_str (z01 pe_int pa_nil)))) (pe_one (pe_cal c1 (c.mono (by decide)) rfl (z01 (pe_ix ix_seq (pv 0) pe_int (λ _ _=>rfl)) pa_nil)))))),?_⟩;refine ⟨_,rfl,p,[a],"end","end",h,3,rfl,b,e,i,_,rfl,iteP (by rw [show decide (("end" : Str) = "end")=true by decide +kernel];rfl) ?_⟩;exact ⟨_,rfl,.inr (.inl ⟨p,_,2,a,rfl,rfl,SqT.of b,z06 (j:=2) rfl,a,rfl,g,q⟩)⟩
def z43 (K:j0):Sp:=λ vs H Q _=>∃a ys ts es,vs=[.ref a]/\SqL K H a ys/\All2 (EvT H ts) es ys/\es.length<=1000/\EWf [] es/\∀H',Same H H'->Q (.bl true) H'
theorem z86 (T:TX (kx w) mg):Fo P w mg base CX0 1 260 y0k ["events"] (z43 (kx w)):=by
 refine (z2t w.params).ok sc_go_by_turns (λ U H Q E h=>?_) (λ a2 A a1 s H U Q E t h=>?_)
 ·obtain ⟨a,l,ts,f,rfl,_⟩:=h;rfl
 ·obtain ⟨a,l,ts,f,rfl,D,C,ln,W,q⟩:=h;refine ⟨_,(z02 (ps_set (i:=1) sc_go_by_turns.nd rfl (Z1 rfl) zij)
   (z02 (ps_for w4 rfl (z1e (pv 0)) (z0s (i:=2) sc_go_by_turns.nd rfl (Z1 rfl))
   (z02 (ps_set (i:=3) sc_go_by_turns.nd rfl (Z1 rfl) (z33 opEq (pe_ix ix_seq (pv 2) pe_int (λ _ _=>rfl)) pe_str (nomark _)))
   (z02 (ps_if (z0b opEq (zjl (hu_of t) (pv 1) (pe_ix ix_seq (pv 2) pe_int (λ _ _=>rfl)) pe_bl ⟨rfl,rfl,rfl,rfl⟩) (pv 3) (nomark _))
   (z05 (ps_ret pe_bl))
   z0j)
   (z05 (z3t (hu_of t) (pv 1) (pe_ix ix_seq (pv 2) pe_int (λ _ _=>rfl)) (pv 3) rfl)))))
   (z05 (ps_ret pe_bl)))),?_⟩
  have ly:l.length=f.length:=z03 C;refine z0e ?_;intro d r;refine g_name ?_;obtain ⟨H0,O,F,e0⟩:=newA (.dK []) r;rw [<-O];refine ⟨_,rfl,a,rfl,⟨_,F.seq D⟩,?_⟩;refine z5n (K:=KX w.params) (a:=a) (xs:=l) (λ i σ o=>Same H o/\(∃kvs os,o d=some (.dK kvs)/\kvs.length<=i/\EWf os (f.drop i)/\∀h:Int,(valV kvs (.inl h)).getD (.bl false)=.bl (decide (h∈os)))/\∃x2 x3,σ=[some (.ref a),some (.ref d),x2,x3])
   ⟨F,⟨[],[],e0,J0 _,by rw [V6];exact W,λ h=>by rw [decide_eq_false N0];rfl⟩,_,_,rfl⟩ (λ _ σ o _ h=>h.1.seq D) ?_ ?_
  ·rintro i y σ B L ⟨s1,⟨kvs,os,ed,lk,wf1,kv⟩,x2,x3,rfl⟩;obtain ⟨e,Z,I⟩:=z0f C L;obtain ⟨X,J⟩:=List.getElem?_eq_some_iff.mp Z;have M:f.drop i=e :: f.drop (i + 1):=by rw [y8 X,J]
   rw [M] at wf1;have G:=EvT.same s1 I;refine g_name ?_;obtain ⟨p,xs,z,h,b,g,c,Y,N,S,a0⟩ :∃(p:Addr) (xs:List V) (z:Str) (h:Int) (b:Bool),y=.ref p/\B p=some (.tup (.str z :: .int h :: xs))/\decide (z = "begin")=b/\decide (h∈os) = !b/\(∀k:Int,decide (k∈oStep os e)=if k=h then b else decide (k∈os))/\EWf (oStep os e) (f.drop (i + 1)):=by
    cases e with
    | beg h n v x=>
     obtain ⟨p,nm,k,vb,g,c,_⟩:=G;refine ⟨p,_,"begin",h,true,g,c,by decide +kernel,by rw [decide_eq_false (show h∉os from wf1.1)];rfl,λ k=>?_,wf1.2⟩;show decide (k∈os++[h])=_;by_cases z:k=h
     ·rw [if_pos z,decide_eq_true (List.mem_append.mpr (.inr (List.mem_singleton.mpr z)))]
     ·rw [if_neg z];by_cases y:k∈os
      ·rw [decide_eq_true y,decide_eq_true (List.mem_append.mpr (.inl y))]
      ·rw [decide_eq_false y,decide_eq_false (λ w=>(List.mem_append.mp w).elim y λ u=>z (List.mem_singleton.mp u))]
    | fin h a'=>
     obtain ⟨p,g,c,_⟩:=G;refine ⟨p,_,"end",h,false,g,c,by decide +kernel,by rw [decide_eq_true (show h∈os from wf1.1)];rfl,λ k=>?_,wf1.2⟩;show decide (k∈os.filter λ j=>decide (j≠h))=_;by_cases z:k=h
     ·rw [if_pos z,decide_eq_false (λ w=>(of_decide_eq_true (List.mem_filter.mp w).2) z)]
     ·rw [if_neg z];by_cases y:k∈os
      ·rw [decide_eq_true y,decide_eq_true (List.mem_filter.mpr ⟨y,decide_eq_true z⟩)]
      ·rw [decide_eq_false y,decide_eq_false (λ w=>y (List.mem_filter.mp w).1)]
   subst g;refine z0e ?_;refine ⟨_,rfl,.inr (.inl ⟨p,_,0,.str z,rfl,rfl,SqT.of c,z06 (j:=0) rfl,rfl,?_⟩)⟩;have R:decide (V.str z=V.str "begin")=b:=by
    rw [<-Y];by_cases y:z = "begin"
    ·rw [y,decide_eq_true rfl,decide_eq_true rfl]
    ·rw [decide_eq_false y,decide_eq_false (λ e=>y (by injection e))]
   rw [R];refine g_name ?_;refine sq_if ?_;refine ⟨_,rfl,d,rfl,.inl ⟨_,.inl ed⟩,_,rfl,.inr (.inl ⟨p,_,1,.int h,rfl,rfl,SqT.of c,z06 (j:=1) rfl,_,DGet.k (k:=.inl h) ed,?_⟩)⟩;rw [kv h,N];refine ⟨_,rfl,rfl,_,rfl,iteN (by cases b<;>decide) ?_⟩;refine t_nx ?_;refine ⟨_,rfl,_,rfl,_,rfl,.inr (.inl ⟨p,_,1,.int h,rfl,rfl,SqT.of c,z06 (j:=1) rfl,d,_,rfl,DPut.k (k:=.inl h) ed (Y0 (m:=1000) (by omega) (by decide)),?_⟩)⟩;refine ⟨Same.keep s1 r,⟨_,oStep os e,z04,L0 zjh (by omega),a0,λ k=>?_⟩,_,_,rfl⟩;rw [zat,S k];by_cases z:k=h
   ·rw [if_pos (by rw [z]),if_pos z];rfl
   ·rw [if_neg (λ e=>z (Sum.inl.inj e)),if_neg z];exact kv k
  ·rintro σ B ⟨s1,_,x2,x3,rfl⟩;exact q _ s1
theorem zll {H:Hp} {ts:List (Str×Str)} {e:Ev} {y:V} (h:EvT H ts e y) :∃(p:Addr) (z:Str) (r:List V),y=.ref p/\H p=some (.tup (.str z :: r))/\decide (z = "begin")=isBeg e:=by
 cases e with
 | beg h n v x=>obtain ⟨p,f,k,d,c,b,_⟩:=h;exact ⟨p,_,_,c,b,(show decide (("begin" : Str) = "begin")=true by decide +kernel)⟩
 | fin h a=>obtain ⟨p,c,b,_⟩:=h;exact ⟨p,_,_,c,b,(show decide (("end" : Str) = "begin")=false by decide +kernel)⟩
theorem zbq {z y:Str}:decide (V.str z=V.str y)=decide (z=y):=by
 by_cases e:z=y
 ·rw [e,decide_eq_true rfl,decide_eq_true rfl]
 ·rw [decide_eq_false e,decide_eq_false (λ x=>e (by injection x))]
def z41 (K:j0):Sp:=λ vs H Q _=>∃a d ys ts es,vs=[.ref a,.ref d]/\H a=some (.lst ys)/\KdAt H d ts/\All2 (EvT H ts) es ys/\es.length<=1000/\(es.filter isBeg).length<=24/\EWf [] es/\∀c H',Same H H'->H' c=some (.tup ys)->Q (.ref c) H'
theorem z7d (T:TX (kx w) mg) (c0:Ca P w mg base "is_begin" ["event","kinds"] 5 z75) (c1:Ca P w mg base "is_end" ["event"] 4 zbp) (c2:Ca P w mg base "go_by_turns" ["events"] 1 (z43 (kx w))):Fo P w mg base CX0 6 218 y0j ["events","kinds"] (z41 (kx w)):=by
 refine (z2v w.params).ok z7h (λ vs H Q E h=>?_) (λ a8 A a7 s H vs Q E L h=>?_)
 ·obtain ⟨a,d,f,D,k,rfl,_⟩:=h;rfl
 ·obtain ⟨a,d,f,D,k,rfl,O,kd,M,ln,a2,wf,q⟩:=h;refine ⟨_,(z02 (ps_if (PW.pt (pw_or (pt_not (pt_val (z08 z0l rfl (T.no (z0k _)) Y3 (z01 (pv 0) (z01 (z2f (v:=.ty "list") rfl (T.no (n_list _)) j2b rfl) pa_nil))) (λ _=>rfl))) (pw_or1 (pt_not (pt_val (z08 (z30 rfl) rfl (T.no (n_all _)) j21 (z01 (pe_cg (xs:=["event"]) (g:=gName 0) (fr:=[(1,"kinds")]) (z1e (pv 0)) (λ _ _ _ _ _=>(pg_cn (N:=["event","kinds"]) 0)) (λ _ _ _ _ _=>pf_nil) (λ _ _ _ _ _=>(pe_or (pe_cal c0 (L.mono (by decide)) rfl (z01 (pv 0) (z01 (pv 1) pa_nil))) (pe_one (pe_cal c1 (L.mono (by decide)) rfl (z01 (pv 0) pa_nil)))))) pa_nil)) (λ _=>rfl))))))
   (z05 z4f)
   z0j)
   (z02 (ps_if (z0b op_gt (z08 z0r rfl (T.no (n_len _)) X2 (z01 (pe_cg (xs:=["event"]) (g:=gName 0) (fr:=[]) (z1e (pv 0)) (λ _ _ _ _ _=>(pg_cn (N:=["event"]) 0)) (λ _ _ _ _ _=>(pf_one (z0b opEq (pe_ix (z2n (K:=KX w.params) rfl) (pv 0) pe_int (λ _ _=>rfl)) pe_str (nomark _)))) (λ _ _ _ _ _=>(pv 0))) pa_nil)) (z1s (v:=.int (24)) rfl (T.of (z8y _)) ⟨_,rfl⟩) (nomark _))
   (z05 z4f)
   z0j)
   (z02 (ps_if (pt_not (pt_val (pe_cal c2 (L.mono (by decide)) rfl (z01 (pv 0) pa_nil)) (λ _=>rfl)))
   (z05 z4f)
   z0j)
   (z05 (ps_ret (z5e z54 rfl (T.no (zdu _)) boot_tuple (z01 (pv 0) pa_nil))))))),?_⟩
  have ly:f.length=k.length:=z03 M;refine sq_if (t_or ?_);refine ⟨_,rfl,_,_,"list",rfl,.inl ⟨⟨_,O⟩,rfl⟩,by decide,_,rfl,iteN (by decide) ?_⟩;refine tB_not (e_cb1 ?_);refine z1v (K:=KX w.params) (a:=a) (xs:=f) (H1:=H) (λ _=>true) (λ _ y _=>y=.bl true) (λ _ _ _ _ _ z=>z) (λ R h=>⟨_,rfl,h⟩) (SqL.of O) (L0 (m:=1000) (by omega) (by decide)) ?_ ?_
  ·intro i hi v H1 B G KT KF t J;obtain ⟨e,he,F⟩:=z0f M G;have a0:=EvT.same B F;refine ⟨[some v],rfl,rfl,iteT ?_⟩;refine ⟨_,rfl,_,rfl,e,v,d,D,rfl,a0,kd.same B,λ U b=>⟨_,rfl,?_⟩⟩;cases e with
   | beg h n v' x=>exact iteP rfl (t rfl _ _ b rfl)
   | fin h a'=>exact iteN (λ z=>by cases z) ⟨_,rfl,h,a',v,D,rfl,EvT.same b a0,t rfl _ _ b rfl⟩
  intro S H1 bs B a4 a3;have Y :∀y∈bs,y=.bl true:=λ y l=>by obtain ⟨m,hm⟩:=List.mem_iff_getElem?.mp l;obtain ⟨_,_,z⟩:=z0f a3 hm;exact z
  refine ⟨S,bs,rfl,SqL.of z04,λ y l=>⟨true,Y y l⟩,?_⟩;rw [List.all_eq_true.mpr (λ y l=>decide_eq_true (Y y l))];refine ⟨_,rfl,iteN (by decide) ?_⟩;have b:=B.trans (Same.upd (o:=.lst bs) a4);generalize upd H1 S (.lst bs)=U at b⊢;have V:=b _ _ O;have W:=z00 (λ _ _ z=>EvT.same b z) M;refine t_nx (sq_if (zj7 ?_));refine z1v (K:=KX w.params) (a:=a) (xs:=f) (H1:=U) (λ i=>isBeg (k[i]?.getD (.fin 0 .non))) (λ _ y _=>True) (λ _ _ _ _ _ z=>z) (λ R h=>⟨_,rfl,h⟩) (SqL.of V) (L0 (m:=1000) (by omega) (by decide)) ?_ ?_
  ·intro i hi v Z I G KT KF t J;obtain ⟨e,he,F⟩:=z0f W G;rw [he] at t J;obtain ⟨p,z,r,rfl,ep,hz⟩:=zll (EvT.same I F);refine ⟨[some (.ref p)],rfl,rfl,?_⟩;refine ⟨_,rfl,.inr (.inl ⟨p,_,0,.str z,rfl,rfl,SqT.of ep,z06 (j:=0) rfl,rfl,_,rfl,?_⟩)⟩;rw [zbq,hz];cases hbe:isBeg e with
   | true=>exact iteP rfl ⟨_,rfl,t hbe _ _ (Same.refl _) trivial⟩
   | false=>exact iteN (by decide) (J hbe _ (Same.refl _))
  intro l3 Z u I a1 a6;have lz:u.length<=24:=by rw [z03 a6,ly];have:=congrArg j55 (z6g isBeg (λ e=>e) (.fin 0 .non) k);rw [B0,B0] at this;rw [this];exact a2
  have C:=I.trans (Same.upd (o:=.lst u) a1);refine .inl ⟨l3,u,rfl,.inl (SqL.of z04),?_⟩;generalize upd Z l3 (.lst u)=H4 at C⊢;refine ⟨_,_,rfl,rfl,_,rfl,iteN (λ e=>absurd (of_decide_eq_true e) (by omega)) ?_⟩;refine t_nx (sq_if ?_);have X:=C _ _ V;have a5:=z00 (λ _ _ z=>EvT.same C z) W;refine ⟨_,rfl,a,f,D,k,rfl,SqL.of X,a5,ln,wf,λ H5 s5=>⟨true,rfl,iteN (by decide) ?_⟩⟩;refine t_nx (sq_ret ?_);refine ⟨_,rfl,a,_,rfl,.inl ⟨SqL.of (s5 _ _ X),λ c hc=>?_⟩⟩;exact q c _ (((b.trans C).trans s5).trans (Same.upd hc)) z04
theorem z73 :∀(more kvs:List (Key×V)),((kvs++more).map (·.1)).Nodup->mergeK kvs more=kvs++more
 | [],kvs,_=>(C3 _).symm
 | kv :: more,kvs,nd=>by
  have fr:kv.1∉kvs.map (·.1):=λ z=>by rw [P1,j0f] at nd;exact nd.2.2 _ z _ (.head _) rfl
  show mergeK (putK kvs kv.1 kv.2) more=_;rw [zd9 fr,z73 more (kvs++[(kv.1,kv.2)]) (by rw [T2];exact nd),T2];rfl
theorem val_in :∀{kvs:List (Key×V)} {k:Key} {v:V},(kvs.map (·.1)).Nodup->(k,v)∈kvs->valV kvs k=some v
 | (k',v') :: kvs,k,v,nd,h=>by
  rw [L1,W5] at nd;rcases List.mem_cons.mp h with e|h
  ·cases e;exact z15 rfl
  ·rw [z16 (λ e=>nd.1 (by have e:k'=k:=e;subst e;exact List.mem_map.mpr ⟨_,h,rfl⟩))];exact val_in nd.2 h
def z5l (K:j0):Sp:=λ vs H Q _=>∃a b ys ts zs es,vs=[.ref a,.ref b]/\H a=some (.lst ys)/\All2 (ThV H) ts ys/\ts.length<=6/\(ts.map (·.1)).Nodup/\(∀t∈ts,ThingOk t)/\H b=some (.lst zs)/\All2 (EvT H ts) es zs/\es.length<=1000/\(es.filter isBeg).length<=24/\EWf [] es/\
 ∀(p:List Nat) t c e H',Same H H'->H' t=some (.tup [.ref c,.ref e])->H' c=some (.tup (p.map λ i=>ys.getD i .non))->H' e=some (.tup zs)->p.Perm (O0 ys.length)->(p.map λ i=>(ts.map (·.1)).getD i ("" : Str)).Pairwise (λ x y=>ltS x y=true)->Q (.ref t) H'
theorem z9u (T:TX (kx w) mg) (c0:Ca P w mg base "make_things" ["things"] 3 (z3x (kx w))) (c1:Ca P w mg base "make_events" ["events","kinds"] 6 (z41 (kx w))):Fo P w mg base CX0 7 201 y0z ["things","events"] (z5l (kx w)):=by
 refine (z4a w.params).ok sc_make_tale (λ vs H Q E h=>?_) (λ a3 A a2 s H vs Q E R h=>?_)
 ·obtain ⟨a,b,l,f,C,F,rfl,_⟩:=h;rfl
 ·obtain ⟨a,b,l,f,C,F,rfl,ea,v,l6,nd,ok,r,av,X,a0,wf,q⟩:=h;refine ⟨_,(z02 (ps_set (i:=2) sc_make_tale.nd rfl (Z1 rfl) (pe_cal c0 (R.mono (by decide)) rfl (z01 (pv 0) pa_nil)))
   (z05 (ps_ret (pe_tup (z01 (pv 2) (z01 (pe_cal c1 (R.mono (by decide)) rfl (z01 (pv 1) (z01 (z5e (zd3 rfl) rfl (T.no (n_dict _)) boot_dict (z01 (pv 2) pa_nil)) pa_nil))) pa_nil)))))),?_⟩
  have Z:l.length=f.length:=z03 v;refine z0e ?_;refine ⟨_,rfl,a,l,f,rfl,ea,v,l6,nd,ok,λ p c n K S B M=>?_⟩;refine g_name ?_;have G :∀i∈p,i < f.length:=λ i g=>by have:=List.mem_range.mp (B.mem_iff.mp g);omega
  have a1 :∀p:List Nat,(∀i∈p,i < f.length)->All2 (λ (q:Key×V) y=>∃b,y=.ref b/\SqT (kx w) n b [kV q.1,q.2]) (p.map λ i=>((.inr (f.getD i ("","")).1,.str (f.getD i ("","")).2):Key×V)) (p.map λ i=>l.getD i .non):=by
   intro p;induction p with
   | nil=>intro _;exact .nil
   | cons i p ih=>
    intro N;have g:=N i (.head _);obtain ⟨y,hy,b,hb,r⟩:=z0o v (v0 g);refine .cons ⟨b,?_,?_⟩ (ih λ j hj=>N j (.tail _ hj))
    ·show l.getD i .non=_;rw [Q1,hy];exact hb
    ·show SqT (kx w) n b [.str (f.getD i ("","")).1,.str (f.getD i ("","")).2];rw [Q1,v0 g];exact SqT.of (K _ _ r)
  refine ⟨_,rfl,_,rfl,_,rfl,c,_,_,rfl,.inr S,a1 p G,λ d I=>?_⟩;have L:((p.map λ i=>((.inr (f.getD i ("","")).1,.str (f.getD i ("","")).2):Key×V)).map (·.1)).Nodup:=by
   rw [V2];have O:(p.map λ i=>(f.map (·.1)).getD i ("" : Str)).Nodup:=M.imp λ {x y} z e=>by rw [e,z65] at z;cases z
   have e1:(p.map λ i=>(f.map (·.1)).getD i ("" : Str))=p.map λ i=>(f.getD i ("","")).1:=V9 λ i g=>by have g:=G i g;rw [Q1,Q1,K0,v0 g];rfl
   rw [e1] at O;have:(p.map ((·.1) ∘ λ i=>((.inr (f.getD i ("","")).1,.str (f.getD i ("","")).2):Key×V)))=(p.map λ i=>(f.getD i ("","")).1).map Sum.inr:=by rw [V2];rfl
   rw [this];exact L2.nodup_map_on (λ a _ b _ e=>j38 e) O
  have mg:mergeK [] (p.map λ i=>((.inr (f.getD i ("","")).1,.str (f.getD i ("","")).2):Key×V))=p.map λ i=>((.inr (f.getD i ("","")).1,.str (f.getD i ("","")).2):Key×V):=z73 _ [] L;rw [mg];have m:=K.trans (Same.upd (o:=.dK (p.map λ i=>((.inr (f.getD i ("","")).1,.str (f.getD i ("","")).2):Key×V))) I);have U:KdAt (upd n d (.dK (p.map λ i=>((.inr (f.getD i ("","")).1,.str (f.getD i ("","")).2):Key×V)))) d f:=⟨_,z04,λ nm k hm=>by obtain ⟨i,g⟩:=List.mem_iff_getElem?.mp hm;refine val_in L (List.mem_map.mpr ⟨i,B.mem_iff.mpr (List.mem_range.mpr (by rw [Z];exact (List.getElem?_eq_some_iff.mp g).1)),?_⟩);rw [Q1,g];rfl⟩
  have D:=(Same.upd (o:=.dK (p.map λ i=>((.inr (f.getD i ("","")).1,.str (f.getD i ("","")).2):Key×V))) I) _ _ S;generalize upd n d (.dK (p.map λ i=>((.inr (f.getD i ("","")).1,.str (f.getD i ("","")).2):Key×V)))=H2 at m U D⊢;refine ⟨b,d,C,f,F,rfl,m _ _ r,U,z00 (λ _ _ z=>EvT.same m z) av,X,a0,wf,λ e H3 J Y=>⟨w_2,λ t W=>?_⟩⟩;have u:=Same.upd (o:=.tup [.ref c,.ref e]) W;exact q p t c e _ ((m.trans J).trans u) z04 (u _ _ (J _ _ D)) (u _ _ Y) B M
end
section
mutual
noncomputable def HPd (H:Hp):PyData->V->Prop
 | .none,v=>v=.non
 | .bool b,v=>v=.bl b
 | .int i,v=>v=.int i
 | .str z,v=>v=.str z
 | .list ds,v=>∃a xs,v=.ref a/\H a=some (.lst xs)/\HPds H ds xs
 | .tuple ds,v=>∃a xs,v=.ref a/\H a=some (.tup xs)/\HPds H ds xs
 | .dict kvs,v=>kvs=[]/\∃a,v=.ref a/\H a=some (.dK [])
noncomputable def HPds (H:Hp):List PyData->List V->Prop
 | [],xs=>xs=[]
 | d :: ds,xs=>∃x r,xs=x :: r/\HPd H d x/\HPds H ds r
end
mutual
theorem HPd.mono' {H H':Hp} (s :∀a xs,H a=some (.tup xs)->H' a=some (.tup xs)) (t :∀a xs,H a=some (.lst xs)->H' a=some (.lst xs)) (u :∀a,H a=some (.dK [])->H' a=some (.dK [])) :∀(d:PyData) (v:V),HPd H d v->HPd H' d v
 | .none,_,h=>h
 | .bool _,_,h=>h
 | .int _,_,h=>h
 | .str _,_,h=>h
 | .list ds,v,h=>by obtain ⟨a,xs,rfl,e,r⟩:=h;exact ⟨a,xs,rfl,t _ _ e,HPds.mono' s t u ds xs r⟩
 | .tuple ds,v,h=>by obtain ⟨a,xs,rfl,e,r⟩:=h;exact ⟨a,xs,rfl,s _ _ e,HPds.mono' s t u ds xs r⟩
 | .dict _,v,h=>by obtain ⟨e,a,rfl,b⟩:=h;exact ⟨e,a,rfl,u _ b⟩
theorem HPds.mono' {H H':Hp} (s :∀a xs,H a=some (.tup xs)->H' a=some (.tup xs)) (t :∀a xs,H a=some (.lst xs)->H' a=some (.lst xs)) (u :∀a,H a=some (.dK [])->H' a=some (.dK [])) :∀(ds:List PyData) (xs:List V),HPds H ds xs->HPds H' ds xs
 | [],_,h=>h
 | d :: ds,xs,h=>by obtain ⟨x,r,rfl,a,b⟩:=h;exact ⟨x,r,rfl,HPd.mono' s t u d x a,HPds.mono' s t u ds r b⟩
end
theorem HPd.same {H H':Hp} {d:PyData} {v:V} (h:HPd H d v) (s:Same H H'):HPd H' d v:=HPd.mono' (λ _ _ q=>s _ _ q) (λ _ _ q=>s _ _ q) (λ _ q=>s _ _ q) d v h
theorem HPds.all {H:Hp} :∀{ds:List PyData} {xs:List V},HPds H ds xs->All2 (HPd H) ds xs
 | [],_,h=>by cases (show _=[] from h);exact .nil
 | d :: ds,xs,h=>by obtain ⟨x,r,rfl,a,b⟩:=h;exact .cons a (HPds.all b)
noncomputable def dif (B H:Hp):Hp:=λ p=>if B p=none then H p else none
noncomputable def tDat (P:L2.St->Prop) (d:PyData):TE:=λ σ H Q=>P σ/\∀v H',Same H H'->HPd (dif H H') d v->Q v H'
noncomputable def tDats (P:L2.St->Prop) (ds:List PyData):TA:=λ σ H Q=>P σ/\∀xs H',Same H H'->HPds (dif H H') ds xs->Q xs H'
variable {X:Cx} {pos:Pos} {P:L2.St->Prop}
structure QD (X:Cx) (P:L2.St->Prop) (e:Expr) (d:PyData):Prop where
 run:PE X e (tDat P d)
structure QDs (X:Cx) (P:L2.St->Prop) (es:List Expr) (ds:List PyData):Prop where
 run:PA X es (tDats P ds)
theorem HPds.length {H:Hp} {ds:List PyData} {xs:List V} (h:HPds H ds xs):xs.length=ds.length:=z03 h.all
theorem zbu {P P':Program} {w w':W0} {h:Heap} {a:Addr} (d:h.DictOf (z0i P w) a []):h.DictOf (z0i P' w') a []:=by
 obtain ⟨o,i,j,k,l,g,m,c,f⟩:=d;have b:i = #[]:=by have:=c.length;exact Array.eq_empty_of_size_eq_zero (by simpa using this)
 subst b;exact ⟨o,#[],j,k,l,g,(λ e b=>by simp at b),.nil,f⟩
theorem z88 (n:Nat):(O0 n).all (λ _=>true)=true:=List.all_eq_true.mpr λ _ _=>rfl
mutual
theorem zl7 {pins:List (Addr×Obj)} {σ:L2.St} {H:Hp} {s:C0} (I:Inv X pins σ H s) :∀(d:PyData) (A:P2) (x y:V) (u v:Value),HPd H d x->HPd H d y->RelV x u->RelV y v->A.units + d.depth + 1 < cLine->j23 A s u v true
 | .none,A,x,y,u,v,hx,hy,rx,ry,hu=>by cases (show x=.non from hx);cases (show y=.non from hy);cases (show u=.none from rx);cases (show v=.none from ry);exact D6 _
 | .bool b,A,x,y,u,v,hx,hy,rx,ry,hu=>by cases (show x=.bl b from hx);cases (show y=.bl b from hy);cases (show u=.bool b from rx);cases (show v=.bool b from ry);exact D6 _
 | .int i,A,x,y,u,v,hx,hy,rx,ry,hu=>by
  cases (show x=.int i from hx);cases (show y=.int i from hy);obtain ⟨t,rfl⟩:=rx;obtain ⟨F,rfl⟩:=ry;have:=m9 (A:=A) (s:=s) i t i F
  rwa [beq_self_eq_true] at this
 | .str i,A,x,y,u,v,hx,hy,rx,ry,hu=>by
  cases (show x=.str i from hx);cases (show y=.str i from hy);obtain ⟨t,rfl⟩:=rx;obtain ⟨F,rfl⟩:=ry;have:=j32 (A:=A) (s:=s) i t i F
  rwa [beq_self_eq_true] at this
 | .list ds,A,x,y,u,v,hx,hy,rx,ry,hu=>by
  obtain ⟨a,D,rfl,k,h⟩:=hx;obtain ⟨b,o,rfl,g,f⟩:=hy;cases (show u=.ref a from rx);cases (show v=.ref b from ry);obtain ⟨n,c,B,_⟩:=I.list (SqL.of k);obtain ⟨m,l,z,_⟩:=I.list (SqL.of g);have N:A.units + (C4 ds + 1) + 1 < cLine:=hu;have L:=c.length;have J:=l.length;have S:=h.length;have G:=f.length;by_cases hll:a=b
  ·subst hll;exact D6 _
  ·refine j9 hll ?_;have:=j3h (A:=A) (e:=λ _=>true) B.isList z.isList (by simp;omega) (by omega) (λ j p C=>?_)
   ·rwa [z88] at this
   ·have:=z4n I ds A.in1 D o n m h f c l (show A.units + 1 + C4 ds + 1 < cLine by omega) j (by simpa using p) (by simpa using C);simpa using this
 | .tuple ds,A,x,y,u,v,hx,hy,rx,ry,hu=>by
  obtain ⟨a,D,rfl,k,h⟩:=hx;obtain ⟨b,o,rfl,g,f⟩:=hy;cases (show u=.ref a from rx);cases (show v=.ref b from ry);obtain ⟨n,c,B,_⟩:=I.tuple (SqT.of k);obtain ⟨m,l,z,_⟩:=I.tuple (SqT.of g);have N:A.units + (C4 ds + 1) + 1 < cLine:=hu;have L:=c.length;have J:=l.length;have S:=h.length;have G:=f.length;by_cases hll:a=b
  ·subst hll;exact D6 _
  ·refine j9 hll ?_;have:=SeqAt.RcAt.tuples (A:=A) (e:=λ _=>true) B z (by omega) (λ j p C=>?_)
   ·rw [z88,O6] at this
    rwa [show (n.toArray.size == m.toArray.size)=true by simp;omega] at this
   ·have:=z4n I ds A.in1 D o n m h f c l (show A.units + 1 + C4 ds + 1 < cLine by omega) j (by simpa using p) (by simpa using C);simpa using this
 | .dict kvs,A,x,y,u,v,hx,hy,rx,ry,hu=>by
  obtain ⟨rfl,a,rfl,k⟩:=hx;obtain ⟨_,b,rfl,g⟩:=hy;cases (show u=.ref a from rx);cases (show v=.ref b from ry);by_cases hll:a=b
  ·subst hll;exact D6 _
  ·refine j9 hll λ U w E Q q=>?_;obtain ⟨_,R,T,c,P⟩:=dk_of I.hok k;obtain ⟨_,O,Y,K,M⟩:=dk_of I.hok g;cases c;cases K;exact PySem.W.keq_eq (r:=true) R O (zbu P) (zbu M) (by omega) (λ _=>.nil) q
theorem z4n {pins:List (Addr×Obj)} {σ:L2.St} {H:Hp} {s:C0} (I:Inv X pins σ H s) :∀(ds:List PyData) (A:P2) (xs ys:List V) (us vs:List Value),HPds H ds xs->HPds H ds ys->Vals xs us->Vals ys vs->A.units + C4 ds + 1 < cLine->∀j (h1:j < us.length) (h2:j < vs.length),j23 A s us[j] vs[j] true
 | [],A,xs,ys,us,vs,hx,hy,rx,ry,hu,j,h1,h2=>by cases (show xs=[] from hx);cases rx;exact absurd h1 (Nat.not_lt_zero _)
 | d :: ds,A,xs,ys,us,vs,hx,hy,rx,ry,hu,j,h1,h2=>by
  obtain ⟨x,a,rfl,g,b⟩:=hx;obtain ⟨y,c,rfl,f,e⟩:=hy;cases rx with
  | cons r1 r2=>
   cases ry with
   | cons q1 q2=>
    have h:A.units + max d.depth (C4 ds) + 1 < cLine:=hu;cases j with
    | zero=>exact zl7 I d A x y _ _ g f r1 q1 (by omega)
    | succ j=>exact z4n I ds A a c _ _ b e r2 q2 (by omega) j (j4d h1) (j4d h2)
end
noncomputable def rNeS:R2:=λ x y H Q=>∃ds,((HPd H (.list ds) x/\HPd H (.list ds) y)\/(HPd H (.tuple ds) x/\HPd H (.tuple ds) y))/\C4 ds<=49/\Q (.bl false) H
theorem op_neS {k:Nat} (hr:Room k X.A):OpR X (E3 .NotEq) rNeS:=by
 intro R s σ H x y u v Q I J G h;obtain ⟨i,N,S,q⟩:=h;have P:=hr.units;rcases N with ⟨z,r⟩|⟨z,r⟩
 ·obtain ⟨a,F,rfl,D,d⟩:=z;obtain ⟨b,o,rfl,t,c⟩:=r;cases (show u=.ref a from J);cases (show v=.ref b from G);obtain ⟨m,g,C,_⟩:=I.list (SqL.of D);obtain ⟨l,f,B,_⟩:=I.list (SqL.of t);have M:=g.length;have L:=f.length;have O:=d.length;have K:=c.length;have n:SeqAt.RcNeAt X.A s (.ref a) (.ref b) false:=by
   have:=SeqAt.RcNeAt.lists (A:=X.A) (e:=λ _=>true) C.isList B.isList (by simp;omega) (by omega) (λ j p E=>?_)
   ·rwa [z88] at this
   ·have:=z4n I i X.A.in1 F o m l d c g f (show X.A.units + 1 + C4 i + 1 < cLine by omega) j (by simpa using p) (by simpa using E);simpa using this
  exact n X.prog X.w _ _ ⟨.bl _,H,I,rfl,q⟩
 ·obtain ⟨a,F,rfl,D,d⟩:=z;obtain ⟨b,o,rfl,t,c⟩:=r;cases (show u=.ref a from J);cases (show v=.ref b from G);obtain ⟨m,g,C,_⟩:=I.tuple (SqT.of D);obtain ⟨l,f,B,_⟩:=I.tuple (SqT.of t);have M:=g.length;have L:=f.length;have O:=d.length;have K:=c.length;have n:SeqAt.RcNeAt X.A s (.ref a) (.ref b) false:=by
   have:=SeqAt.RcNeAt.tuples (A:=X.A) (e:=λ _=>true) C B (by omega) (λ j p E=>?_)
   ·rw [z88,O6] at this
    rwa [show (m.toArray.size == l.toArray.size)=true by simp;omega] at this
   ·have:=z4n I i X.A.in1 F o m l d c g f (show X.A.units + 1 + C4 i + 1 < cLine by omega) j (by simpa using p) (by simpa using E);simpa using this
  exact n X.prog X.w _ _ ⟨.bl _,H,I,rfl,q⟩
end
section
noncomputable def sc:PyData->V
 | .none=>.non
 | .bool b=>.bl b
 | .int i=>.int i
 | .str z=>.str z
 | _=>.ref 0
theorem sc_f {H:Hp} {d:PyData} {v:V} (h:HPd H d v) {β:Type} (f:V->β) (hf :∀a b,f (.ref a)=f (.ref b)):f v=f (sc d):=by
 cases d with
 | none=>cases (show v=.non from h);rfl
 | bool b=>cases (show v=.bl b from h);rfl
 | int i=>cases (show v=.int i from h);rfl
 | str z=>cases (show v=.str z from h);rfl
 | list ds=>obtain ⟨a,c,rfl,_⟩:=h;exact hf _ _
 | tuple ds=>obtain ⟨a,c,rfl,_⟩:=h;exact hf _ _
 | dict ds=>obtain ⟨_,a,rfl,_⟩:=h;exact hf _ _
noncomputable def tupD:PyData->Option (List PyData)
 | .tuple ds=>some ds
 | _=>none
theorem tup_D {H:Hp} {d:PyData} {v:V} (h:HPd H d v):(tupD d=none/\tupOf H v=none)\/∃ds xs,d=.tuple ds/\tupOf H v=some xs/\All2 (HPd H) ds xs:=by
 cases d with
 | none=>cases (show v=.non from h);exact .inl ⟨rfl,rfl⟩
 | bool b=>cases (show v=.bl b from h);exact .inl ⟨rfl,rfl⟩
 | int i=>cases (show v=.int i from h);exact .inl ⟨rfl,rfl⟩
 | str z=>cases (show v=.str z from h);exact .inl ⟨rfl,rfl⟩
 | list ds=>obtain ⟨a,xs,rfl,e,_⟩:=h;refine .inl ⟨rfl,?_⟩;unfold tupOf;dsimp only;rw [e]
 | tuple ds=>obtain ⟨a,xs,rfl,e,c⟩:=h;exact .inr ⟨ds,xs,rfl,z4h e,c.all⟩
 | dict ds=>obtain ⟨_,a,rfl,e⟩:=h;refine .inl ⟨rfl,?_⟩;unfold tupOf;dsimp only;rw [e]
theorem zgx {α β:Type} {R:α->β->Prop} {xs:List α} {ys:List β} (h:All2 R xs ys) {y:β} (hy:y∈ys) :∃x∈xs,R x y:=by
 induction h with
 | nil=>cases hy
 | cons a r ih=>
  rcases List.mem_cons.mp hy with rfl|hy
  ·exact ⟨_,.head _,a⟩
  ·obtain ⟨x,b,h⟩:=ih hy;exact ⟨x,.tail _ b,h⟩
theorem tag_D {H:Hp} {d:PyData} {v:V} (h:HPd H d v) :∃T,TagOf H v T:=by
 cases d with
 | none=>cases (show v=.non from h);exact ⟨_,rfl⟩
 | bool b=>cases (show v=.bl b from h);exact ⟨_,rfl⟩
 | int i=>cases (show v=.int i from h);exact ⟨_,rfl⟩
 | str z=>cases (show v=.str z from h);exact ⟨_,rfl⟩
 | list ds=>obtain ⟨a,c,rfl,e,_⟩:=h;exact ⟨_,.inl ⟨⟨_,e⟩,rfl⟩⟩
 | tuple ds=>obtain ⟨a,c,rfl,e,_⟩:=h;exact ⟨_,.inr (.inl ⟨⟨_,e⟩,rfl⟩)⟩
 | dict ds=>obtain ⟨_,a,rfl,e⟩:=h;exact ⟨_,.inr (.inr ⟨⟨_,e⟩,rfl⟩)⟩
noncomputable def deedP (k v:V) (d:PyData):Bool:=match k,v with
 | .str a,.str b=>if formOf a b=0 then decide (sc d=.non) else if formOf a b=1 then z0h (sc d) 1000000000 else if formOf a b=2 then
   (match tupD d with|some ds=>decide (ds.length=2) && ds.all λ y=>z0h (sc y) 1000000000|none=>false) else false
 | _,_=>false
theorem deed_D {H:Hp} {k v x:V} {d:PyData} (h:HPd H d x):deedB H k v x=deedP k v d:=by
 cases k with
 | str a=>
  cases v with
  | str b=>
   show (if formOf a b=0 then decide (x=.non) else if formOf a b=1 then z0h x 1000000000 else if formOf a b=2 then
    (match tupOf H x with|some xs=>decide (xs.length=2) && xs.all λ y=>z0h y 1000000000|none=>false) else false)=(if formOf a b=0 then decide (sc d=.non) else if formOf a b=1 then z0h (sc d) 1000000000 else if formOf a b=2 then
    (match tupD d with|some ds=>decide (ds.length=2) && ds.all λ y=>z0h (sc y) 1000000000|none=>false) else false)
   rw [sc_f h (λ v=>decide (v=.non)) (λ _ _=>rfl),sc_f h (λ v=>z0h v 1000000000) (λ _ _=>rfl)];have e:(match tupOf H x with|some xs=>decide (xs.length=2) && xs.all λ y=>z0h y 1000000000|none=>false)=(match tupD d with|some ds=>decide (ds.length=2) && ds.all λ y=>z0h (sc y) 1000000000|none=>false):=by
    rcases tup_D h with ⟨f,c⟩|⟨ds,ys,rfl,c,al⟩
    ·rw [c,f]
    rw [c];show (decide (ys.length=2) && ys.all λ y=>z0h y 1000000000)=(decide (ds.length=2) && ds.all λ y=>z0h (sc y) 1000000000);rw [z03 al];congr 1;clear c h;induction al with
    | nil=>rfl
    | cons a r ih=>rw [Y5,Y5,ih,sc_f a (λ v=>z0h v 1000000000) (λ _ _=>rfl)]
   rw [e]
  | _=>rfl
 | _=>rfl
end
section
variable {X:Cx}
theorem z8i {X:Cx} {K:j0} (hK:X.K=K):CallR X (.type "list") (λ xs H Q=>∃p ys,xs=[.ref p]/\(SqL K H p ys\/SqT K H p ys)/\∀l,H l=none->Q (.ref l) (upd H l (.lst ys))):=hK ▸ zb2
theorem zeq {o e:Expr} {es:List Expr} {to:TE} {t:TA} {apos cpos:Pos} (ho:PE X o to) (ha:PA X (e :: es) t)
  (hbase:E5 o "extend" X.env (Z3 o X.env)=Z3 o X.env:=by rfl)
  (hfew:((V4 cpos (E1 (e :: es) X.env)).all (λ x=>!x.1) && (v9 cpos (f7 [] X.env)).all (λ x=>x.1.isSome) && decide ((e :: es).length + ([]:List R6).length + (if ([]:List R6).isEmpty then 0 else 1) < 30))=true:=by rfl)
  (hline:(apos.endLine == cpos.line)=true:=by rfl) (hs:E1 (e :: es) X.env=(false,Z3 e X.env) :: E1 es X.env:=by rfl) (hplain:(V4 cpos (E1 es X.env)).any (·.1)=false:=by rfl) :
  PE X (.Call (.Attribute o "extend" apos) (e :: es) [] cpos) (tBM X.K "list" zi8 to t):=pe_bm N6 PySem.F.slot_list_extend PySem.F.type_list_extend zg0 ho ha hbase hfew hline hs hplain
end
theorem z7a (x:Int) :∀ns:List Int,inV (.int x) (ns.map V.int)=decide (x∈ns)
 | []=>by rw [decide_eq_false N0];rfl
 | n :: r=>by
  show ((n == x) || inV (.int x) (r.map V.int))=_;rw [z7a x r];by_cases e:n=x
  ·rw [beq_iff_eq.mpr e,Bool.true_or,decide_eq_true (List.mem_cons.mpr (.inl e.symm))]
  ·rw [Bool.eq_false_iff.mpr (λ h=>e (beq_iff_eq.mp h)),Bool.false_or];by_cases m:x∈r
   ·rw [decide_eq_true m,decide_eq_true (List.mem_cons.mpr (.inr m))]
   ·rw [decide_eq_false m,decide_eq_false (λ h=>(List.mem_cons.mp h).elim (λ y=>e y.symm) m)]
theorem zb9 :∀ns:List Int,(ns.map V.int).all flatV=true
 | []=>rfl
 | _ :: r=>by show (true && (r.map V.int).all flatV)=true;rw [zb9 r];rfl
theorem zhr :∀(l ns:List Int),(l.foldl addI ns).length<=ns.length + l.length
 | [],ns=>J0 _
 | x :: l,ns=>by
  have h:=zhr l (addI ns x);have a:(addI ns x).length<=ns.length + 1:=by unfold addI;split<;>simp
  rw [W2,X0];omega
theorem zbk :∀(l ns:List Int),ns.length + l.length<=(l.foldl addI ns).length->l.Nodup/\∀x∈l,x∉ns
 | [],ns,_=>⟨.nil,λ _ h=>absurd h N0⟩
 | x :: l,ns,h=>by
  rw [W2,X0] at h;have le:=zhr l (addI ns x);by_cases z:x∈ns
  ·have e:addI ns x=ns:=if_pos z;rw [e] at le h;omega
  ·have e:addI ns x=ns++[x]:=if_neg z;rw [e] at h;obtain ⟨c,b⟩:=zbk l (ns++[x]) (by rw [I0];show ns.length + 1 + l.length<=_;omega);refine ⟨List.nodup_cons.mpr ⟨λ y=>b x y (List.mem_append.mpr (.inr (List.mem_singleton.mpr rfl))),c⟩,λ y a=>?_⟩;rcases List.mem_cons.mp a with rfl|a
   ·exact z
   ·exact λ q=>b y a (List.mem_append.mpr (.inl q))
theorem z8e :∀(us ns:List Int),us.Nodup->(∀u∈us,u∉ns)->(us.foldl addI ns).length=ns.length + us.length
 | [],ns,_,_=>rfl
 | u :: us,ns,nd,h=>by
  rw [W5] at nd;have e:addI ns u=ns++[u]:=by unfold addI;rw [if_neg (h u (.head _))]
  rw [W2,e,z8e us (ns++[u]) nd.2 λ v a z=>?_]
  ·simp only [I0,X0,K4];omega
  ·rcases List.mem_append.mp z with z|z
   ·exact h v (.tail _ a) z
   ·rw [List.mem_singleton.mp z] at a;exact nd.1 a
noncomputable def ddP:Option Int->PyData
 | none=>.tuple [.str "read",.none]
 | some i=>.tuple [.str "write",.int i]
noncomputable def listD:PyData->Option (List PyData)
 | .list ds=>some ds
 | _=>none
noncomputable def flatP (rows:List PyData):List PyData:=(rows.map λ r=>(listD r).getD []).flatten
noncomputable def z1a (d:PyData):Bool:=match tupD d with
 | some [u,v]=>deedP (.str "register") (sc u) v
 | _=>false
noncomputable def planB (rows:List PyData):Bool:=decide (rows.length<=6) && (rows.all (λ r=>(listD r).isSome) && (decide ((flatP rows).length<=24) && (flatP rows).all z1a))
noncomputable def wr1:PyData->Option Int
 | .tuple [.str z,.int i]=>if z = "write" then some i else none
 | _=>none
noncomputable def wsP (ds:List PyData):List Int:=ds.filterMap wr1
noncomputable def goodB (rows:List PyData):Bool:=planB rows && (decide ((0:Int)∉wsP (flatP rows)) && decide (wsP (flatP rows)).Nodup)
noncomputable def small1 (d:PyData):Bool:=match tupD d with
 | some ds=>decide (ds.length<=1000)
 | none=>true
noncomputable def smallB (d:PyData):Bool:=match tupD d with
 | some ds=>ds.all small1
 | none=>true
structure PlOk (rows:List PyData):Prop where
 n:rows.length<=100
 f:(flatP rows).length<=100
 s :∀d∈flatP rows,smallB d=true
theorem zgn {v:V} {d:PyData} (h:deedP (.str "register") v d=true):(v=.str "read"/\d=.none)\/∃i,v=.str "write"/\d=.int i:=by
 cases v with
 | str b=>
  have h:(if formOf "register" b=0 then decide (sc d=.non) else if formOf "register" b=1 then z0h (sc d) 1000000000 else if formOf "register" b=2 then
   (match tupD d with|some ds=>decide (ds.length=2) && ds.all λ y=>z0h (sc y) 1000000000|none=>false) else false)=true:=h
  by_cases b1:b = "read"
  ·subst b1;rw [if_pos (by decide +kernel)] at h;refine .inl ⟨rfl,?_⟩;have h:=of_decide_eq_true h;cases d<;>first|rfl|cases h
  by_cases b2:b = "write"
  ·subst b2;rw [if_neg (by decide +kernel),if_pos (by decide +kernel)] at h;cases d with
   | int i=>exact .inr ⟨i,rfl,rfl⟩
   | _=>cases h
  ·exfalso;have e:formOf "register" b=-1:=by
    unfold formOf;cases hl:kl_DOERS.lookup (("register" : Str),b) with
    | none=>rfl
    | some v=>
     exfalso;have a:(kl_DOERS.all λ p=>!decide (p.1.1 = "register") || (decide (p.1.2 = "read") || decide (p.1.2 = "write")))=true:=by decide +kernel
     have m:=List.all_eq_true.mp a _ (z68 hl);rw [decide_eq_true (show (("register" : Str),b).1 = "register" from rfl),decide_eq_false b1,decide_eq_false b2] at m;cases m
   rw [e,if_neg (by decide),if_neg (by decide),if_neg (by decide)] at h;cases h
 | _=>cases h
theorem zdk {d:PyData} (h:z1a d=true) :∃o,d=ddP o:=by
 unfold z1a at h;cases d with
 | tuple ds=>
  change (match some ds with|some [u,v]=>deedP (.str "register") (sc u) v|_=>false)=true at h
  match ds,h with
  | [u,v],h=>
   rcases zgn (show deedP (.str "register") (sc u) v=true from h) with ⟨a,b⟩|⟨i,a,b⟩
   ·subst b;refine ⟨none,?_⟩;cases u<;>cases a;rfl
   ·subst b;refine ⟨some i,?_⟩;cases u<;>cases a;rfl
  | [],h=>cases h
  | [_],h=>cases h
  | _ :: _ :: _ :: _,h=>cases h
 | _=>cases h
theorem wr1_dd (o:Option Int):wr1 (ddP o)=o:=by
 cases o with
 | none=>rfl
 | some i=>simp [wr1,ddP]
section
variable {P:Program} {w:W0} {mg:Str->Option Value} {base:Heap}
theorem z8a {oss:List (List V)} {i:Nat} {own:List V} (h:oss[i]? = some own):(oss.take (i + 1)).flatten=(oss.take i).flatten++own:=by obtain ⟨a,e⟩:=List.getElem?_eq_some_iff.mp h;rw [List.take_succ_eq_append_getElem a,List.flatten_append,e];simp
theorem zjk {oss:List (List V)} (i:Nat):(oss.take i).flatten.length<=oss.flatten.length:=by
 have b:oss.flatten=(oss.take i).flatten++(oss.drop i).flatten:=by rw [<-List.flatten_append,List.take_append_drop]
 have a:=congrArg j55 b;rw [I0] at a;omega
def LsAt (H:Hp) (ys:List V) (o:V):Prop:=∃b,o=.ref b/\H b=some (.lst ys)
theorem LsAt.same {H H':Hp} {ys:List V} {o:V} (s:Same H H') (h:LsAt H ys o):LsAt H' ys o:=h.elim λ b z=>⟨b,z.1,s _ _ z.2⟩
def z5y (K:j0):Sp:=λ vs H Q _=>∃a os oss,vs=[.ref a]/\H a=some (.lst os)/\All2 (LsAt H) oss os/\oss.flatten.length<=100/\∀l H',Same H H'->H' l=some (.lst oss.flatten)->Q (.ref l) H'
theorem zdc (T:TX (kx w) mg):Fo P w mg base CX0 1 181 y1p ["plan"] (z5y (kx w)):=by
 refine (z7t w.params).ok sc_planned (λ v H Q E h=>?_) (λ G A z s H v Q E D h=>?_)
 ·obtain ⟨a,c,oss,rfl,_⟩:=h;rfl
 ·obtain ⟨a,c,oss,rfl,k,j,C,q⟩:=h;refine ⟨_,(z02 (ps_set (i:=1) sc_planned.nd rfl (Z1 rfl) (pe_lst pa_nil))
   (z02 (ps_for w4 rfl (z1e (pv 0)) (z0s (i:=2) sc_planned.nd rfl (Z1 rfl))
   (z05 (z0d (zeq (pv 1) (z01 (pv 2) pa_nil)))))
   (z05 (ps_ret (pv 1))))),?_⟩
  have B:c.length=oss.length:=z03 j;refine zhu ?_;refine ⟨w_0,λ l n=>?_⟩;refine g_name ?_;obtain ⟨F,u,f,x⟩:=newA (.lst []) n;rw [<-u];refine ⟨_,rfl,a,rfl,⟨_,SqL.of (f _ _ k)⟩,?_⟩;refine z5n (K:=KX w.params) (a:=a) (xs:=c) (λ i σ d=>Same H d/\d l=some (.lst (oss.take i).flatten)/\∃x2,σ=[some (.ref a),some (.ref l),x2]) ⟨f,x,_,rfl⟩ (λ _ σ d _ h=>SqL.of (h.1 _ _ k)) ?_ ?_
  ·rintro i y σ e p ⟨s2,el,x2,rfl⟩;obtain ⟨o,g,b,rfl,r⟩:=z0f j p;have t:=zjk (oss:=oss) (i + 1);rw [z8a g,I0] at t;refine g_name ?_;refine ⟨_,rfl,.inl ⟨rfl,_,SqL.of el⟩,_,rfl,l,b,_,o,rfl,rfl,el,s2 _ _ r,L0 (m:=100) (by omega) (by decide),?_⟩;refine ⟨Same.keep s2 n,?_,_,rfl⟩;rw [z8a g];exact z04
  ·rintro σ e ⟨s2,el,x2,rfl⟩;rw [U6 (by omega)] at el;exact ⟨_,rfl,q l e s2 el⟩
theorem zgi {α β:Type} {R:α->β->Prop} {ds:List α} {xs:List β} (h:All2 R ds xs):(∃u v x1 x2,ds=[u,v]/\xs=[x1,x2]/\R u x1/\R v x2)\/(xs.length≠2/\∀u v,ds≠[u,v]):=by
 cases h with
 | nil=>exact .inr ⟨by simp,by simp⟩
 | cons a h=>
  cases h with
  | nil=>exact .inr ⟨by simp,by simp⟩
  | cons b h=>
   cases h with
   | nil=>exact .inl ⟨_,_,_,_,rfl,rfl,a,b⟩
   | cons c h=>exact .inr ⟨by simp,by simp⟩
theorem zdy {ds:List PyData} (h :∀u v,ds≠[u,v]):z1a (.tuple ds)=false:=by
 show (match some ds with|some [u,v]=>deedP (.str "register") (sc u) v|_=>false)=false;split
 ·rename_i u v e;cases e;exact absurd rfl (h u v)
 ·rfl
def z51:Sp:=λ vs H Q _=>∃y d,vs=[.str "register",y]/\HPd H d y/\smallB d=true/\∀H',Same H H'->Q (.bl (z1a d)) H'
theorem z8r (T:TX (kx w) mg) (c0:Ca P w mg base "is_tuple_of" ["value","many"] 1 z11) (c1:Ca P w mg base "is_deed" ["kind","verb","worth"] 4 z6e):Fo P w mg base CX0 5 193 y0p ["kind","deed"] z51:=by
 refine (z3d w.params).ok z8q (λ G H Q E h=>?_) (λ S A O s H G Q E k h=>?_)
 ·obtain ⟨y,d,rfl,_⟩:=h;rfl
 ·obtain ⟨y,d,rfl,a,c,q⟩:=h;refine ⟨_,(z05 (ps_ret (pe_and (pe_cal c0 (k.mono (by decide)) rfl (z01 (pv 1) (z01 pe_int pa_nil))) (pe_one (pe_cal c1 (k.mono (by decide)) rfl (z01 (pv 0) (z01 (pe_ix ix_seq (pv 1) pe_int (λ _ _=>rfl)) (z01 (pe_ix ix_seq (pv 1) pe_int (λ _ _=>rfl)) pa_nil)))))))),?_⟩;obtain ⟨B,I⟩:=tag_D a;refine ⟨_,rfl,_,B,2,rfl,I,?_⟩;rcases tup_D a with ⟨o,b⟩|⟨ds,xs,rfl,b,al⟩
  ·rw [b];have e:z1a d=false:=by unfold z1a;rw [o]
   rw [e] at q;exact ⟨_,rfl,iteN (by decide) (q _ (Same.refl _))⟩
  ·rw [b];obtain ⟨p,F,rfl,f,R⟩:=a;have D:F=xs:=by rw [z4h f] at b;exact O2 b
   subst D;rcases zgi al with ⟨u,v,C,l,rfl,rfl,m,i⟩|⟨nl,nd⟩
   ·refine ⟨_,rfl,iteP (by simp) ?_⟩;obtain ⟨r,L⟩:=tag_D m;obtain ⟨K,J⟩:=tag_D i;have n:Flat H l:=λ M e=>by
     rcases tup_D i with ⟨_,g⟩|⟨es,ys,rfl,g,al2⟩
     ·rw [g] at e;cases e
     ·rw [g] at e;cases e;refine ⟨?_,λ y x=>?_⟩
      ·have c:(small1 u && (small1 (.tuple es) && true))=true:=c;rw [V3,V3] at c;rw [z03 al2];exact of_decide_eq_true c.2.1
      ·obtain ⟨d,_,a⟩:=zgx al2 x;exact tag_D a
    refine ⟨_,rfl,_,rfl,.inr (.inl ⟨p,_,0,C,rfl,rfl,SqT.of f,z06 (j:=0) rfl,?_⟩)⟩;refine ⟨_,rfl,.inr (.inl ⟨p,_,1,l,rfl,rfl,SqT.of f,z06 (j:=1) rfl,_,_,_,"str",r,K,rfl,rfl,L,J,n,λ N t=>?_⟩)⟩;rw [deed_D i,sc_f m (λ z=>deedP (.str "register") z v) (λ _ _=>rfl)];exact q _ t
   ·rw [zdy nd] at q;exact ⟨_,rfl,iteN (λ e=>nl (by have:=of_decide_eq_true e;omega)) (q _ (Same.refl _))⟩
theorem all_bl {cs:List V} {bs:List Bool} (h:All2 (λ (b:Bool) y=>y=V.bl b) bs cs):(∀y∈cs,∃b,y=V.bl b)/\(cs.all λ y=>decide (y=.bl true))=bs.all id:=by
 induction h with
 | nil=>exact ⟨(λ y a=>nomatch a),rfl⟩
 | cons e r ih=>
  subst e;refine ⟨λ y a=>?_,?_⟩
  ·rcases List.mem_cons.mp a with rfl|a
   ·exact ⟨_,rfl⟩
   ·exact ih.1 y a
  ·rw [Y5,Y5,ih.2];congr 1;simp
theorem zdg {bs:List Bool} {cs:List V} {n:Nat} (hb:bs.length=n) (h:All2 (λ i y=>∀b,bs[i]? = some b->y=V.bl b) (O0 n) cs):All2 (λ (b:Bool) y=>y=V.bl b) bs cs:=by
 have l:=z03 h;rw [W1] at l;have k :∀(bs:List Bool) (cs:List V),cs.length=bs.length->(∀(i:Nat) (y:V) (b:Bool),cs[i]? = some y->bs[i]? = some b->y=V.bl b)->All2 (λ (b:Bool) y=>y=V.bl b) bs cs:=by
  intro bs;induction bs with
  | nil=>intro cs a _;rw [List.length_eq_zero_iff.mp a];exact .nil
  | cons b bs ih=>
   intro cs a f;cases cs with
   | nil=>cases a
   | cons c cs=>exact .cons (f 0 c b rfl rfl) (ih cs (by simpa using a) λ i y b e d=>f (i + 1) y b (by simpa using e) (by simpa using d))
 refine k bs cs (by omega) λ i y b e d=>?_;obtain ⟨j,g,m⟩:=z0f h e;have o:i < n:=by have:=(List.getElem?_eq_some_iff.mp d).1;omega
 rw [a5 o] at g;cases g;exact m b d
theorem zjn {α β:Type} {R:α->β->Prop} {xs:List α} {ys:List β} {us:List α} {vs:List β} (h:All2 R xs ys) (k:All2 R us vs):All2 R (xs++us) (ys++vs):=by
 induction h with
 | nil=>exact k
 | cons a r ih=>exact .cons a ih
theorem z62 {H:Hp} :∀{rows:List PyData} {os:List V},All2 (HPd H) rows os->(rows.all λ r=>(listD r).isSome)=true->∃oss,All2 (LsAt H) oss os/\All2 (HPd H) (flatP rows) oss.flatten
 | _,_,.nil,_=>⟨[],.nil,.nil⟩
 | r :: rows,_,.cons a al,h=>by
  rw [Y5,V3] at h;obtain ⟨oss,c,e⟩:=z62 al h.2;cases r with
  | list ds=>obtain ⟨b,f,rfl,d,g⟩:=a;exact ⟨f :: oss,.cons ⟨b,rfl,d⟩ c,zjn g.all e⟩
  | _=>cases h.1
theorem zie {H:Hp} {d:PyData} {v:V} (h:HPd H d v) :∃T,TagOf H v T/\decide (T = "list")=(listD d).isSome:=by
 cases d with
 | none=>cases (show v=.non from h);exact ⟨_,rfl,rfl⟩
 | bool b=>cases (show v=.bl b from h);exact ⟨_,rfl,rfl⟩
 | int i=>cases (show v=.int i from h);exact ⟨_,rfl,rfl⟩
 | str z=>cases (show v=.str z from h);exact ⟨_,rfl,rfl⟩
 | list ds=>obtain ⟨a,c,rfl,e,_⟩:=h;exact ⟨_,.inl ⟨⟨_,e⟩,rfl⟩,rfl⟩
 | tuple ds=>obtain ⟨a,c,rfl,e,_⟩:=h;exact ⟨_,.inr (.inl ⟨⟨_,e⟩,rfl⟩),rfl⟩
 | dict ds=>obtain ⟨_,a,rfl,e⟩:=h;exact ⟨_,.inr (.inr ⟨⟨_,e⟩,rfl⟩),rfl⟩
def z9i:Sp:=λ vs H Q _=>∃x rows,vs=[.str "register",x,.int 6,.int 24]/\HPd H (.list rows) x/\PlOk rows/\∀H',Same H H'->Q (.bl (planB rows)) H'
theorem zed (T:TX (kx w) mg) (c0:Ca P w mg base "planned" ["plan"] 1 (z5y (kx w))) (c3:Ca P w mg base "is_planned" ["kind","deed"] 5 z51):Fo P w mg base CX0 6 186 y1q ["kind","plan","most_hands","most_deeds"] z9i:=by
 refine (z81 w.params).ok sc_is_plan (λ vs H Q E h=>?_) (λ a3 A a2 s H vs Q E V h=>?_)
 ·obtain ⟨x,j,rfl,_⟩:=h;rfl
 ·obtain ⟨x,j,rfl,⟨a,M,rfl,u,J⟩,B,q⟩:=h;refine ⟨_,(z02 (ps_if (PW.pt (pw_or (pt_not (pt_val (z08 z0l rfl (T.no (z0k _)) Y3 (z01 (pv 1) (z01 (z2f (v:=.ty "list") rfl (T.no (n_list _)) j2b rfl) pa_nil))) (λ _=>rfl))) (pw_or (z0b op_gt (z08 z0r rfl (T.no (n_len _)) X2 (z01 (pv 1) pa_nil)) (pv 2) (nomark _)) (pw_or1 (pt_not (pt_val (z08 (z30 rfl) rfl (T.no (n_all _)) j21 (z01 (pe_cg (xs:=["own"]) (g:=gName 0) (fr:=[]) (z1e (pv 1)) (λ _ _ _ _ _=>(pg_cn (N:=["own"]) 0)) (λ _ _ _ _ _=>pf_nil) (λ _ _ _ _ _=>(z08 z0l rfl (T.no (z0k _)) Y3 (z01 (pv 0) (z01 (z2f (v:=.ty "list") rfl (T.no (n_list _)) j2b rfl) pa_nil))))) pa_nil)) (λ _=>rfl)))))))
   (z05 (ps_ret pe_bl))
   z0j)
   (z02 (ps_set (i:=4) sc_is_plan.nd rfl (Z1 rfl) (pe_cal c0 (V.mono (by decide)) rfl (z01 (pv 1) pa_nil)))
   (z05 (ps_ret (pe_and (z33 op_le (z08 z0r rfl (T.no (n_len _)) X2 (z01 (pv 4) pa_nil)) (pv 3) (nomark _)) (pe_one (z08 (z30 rfl) rfl (T.no (n_all _)) j21 (z01 (pe_cg (xs:=["deed"]) (g:=gName 0) (fr:=[(0,"kind")]) (z1e (pv 4)) (λ _ _ _ _ _=>(pg_cn (N:=["deed","kind"]) 0)) (λ _ _ _ _ _=>pf_nil) (λ _ _ _ _ _=>(pe_cal c3 (V.mono (by decide)) rfl (z01 (pv 1) (z01 (pv 0) pa_nil))))) pa_nil)))))))),?_⟩
  have lo:=J.length;have ln:=B.n;refine sq_if (t_or ?_);refine ⟨_,rfl,_,_,"list",rfl,.inl ⟨⟨_,u⟩,rfl⟩,by decide,_,rfl,iteN (by decide) ?_⟩;refine t_or ?_;refine ⟨_,rfl,.inl ⟨a,_,rfl,.inl (SqL.of u),_,rfl,_,_,rfl,rfl,_,rfl,?_⟩⟩;by_cases l6:j.length<=6;rotate_left
  ·have e:planB j=false:=by unfold planB;rw [decide_eq_false l6];rfl
   rw [e] at q;exact iteP (decide_eq_true (by omega)) (iteP rfl (sq_ret (q _ (Same.refl _))))
  refine iteN (λ e=>absurd (of_decide_eq_true e) (by omega)) ?_;refine tB_not (e_cb1 ?_);refine z1v (K:=KX w.params) (a:=a) (xs:=M) (H1:=H) (λ _=>true) (λ i y _=>∀b,(j.map λ r=>(listD r).isSome)[i]? = some b->y=.bl b) (λ _ _ _ _ _ z=>z) (λ R h=>⟨_,rfl,h⟩) (SqL.of u) (L0 (m:=6) (by omega) (by decide)) ?_ ?_
  ·intro i hi v H1 F C KT KF I k2;obtain ⟨d,hd,t⟩:=z0f J.all C;obtain ⟨T1,t,e1⟩:=zie t;refine ⟨[some v],rfl,rfl,iteT ?_⟩;refine ⟨_,rfl,_,_,T1,rfl,t.same F,by decide,?_⟩;rw [z5x t (by decide)];refine I rfl _ _ (Same.refl _) λ b p=>?_;rw [K0,hd] at p;cases p;rw [e1]
  intro O H1 l F a1 U;rw [List.filter_eq_self.mpr (λ _ _=>rfl)] at U;obtain ⟨c1,c2⟩:=all_bl (zdg (by rw [B0];exact lo.symm) U);refine ⟨O,l,rfl,SqL.of z04,c1,?_⟩;rw [c2];have k:=F.trans (Same.upd (o:=.lst l) a1);generalize upd H1 O (.lst l)=H2 at k⊢;have em:((j.map λ r=>(listD r).isSome).all id)=j.all λ r=>(listD r).isSome:=by rw [Z8];rfl
  rw [em];cases eb:j.all λ r=>(listD r).isSome with
  | false=>
   have e:planB j=false:=by unfold planB;rw [eb];simp
   rw [e] at q;exact ⟨_,rfl,iteP rfl (sq_ret (q _ k))⟩
  | true=>
  refine ⟨_,rfl,iteN (by decide) ?_⟩;obtain ⟨Z,z,S⟩:=z62 J.all eb;have lf:=B.f;have lz:=z03 S;refine t_nx (z0e ?_);refine ⟨_,rfl,a,M,Z,rfl,k _ _ u,z00 (λ _ _ z=>LsAt.same k z) z,by omega,λ W H3 D L=>?_⟩;refine g_name ?_;refine sq_ret ?_;refine ⟨_,rfl,.inl ⟨W,_,rfl,.inl (SqL.of L),_,rfl,_,_,rfl,rfl,_,rfl,?_⟩⟩;have e0:planB j=(decide ((flatP j).length<=24) && (flatP j).all z1a):=by unfold planB;rw [eb,decide_eq_true l6];rfl
  rw [e0] at q;by_cases c6:(flatP j).length<=24
  ·rw [decide_eq_true c6,O6] at q;refine iteP (decide_eq_true (by omega)) ?_;refine e_cb1 ?_;refine z1v (K:=KX w.params) (a:=W) (xs:=Z.flatten) (H1:=H3) (λ _=>true) (λ i y _=>∀b,((flatP j).map z1a)[i]? = some b->y=.bl b) (λ _ _ _ _ _ z=>z) (λ R h=>⟨_,rfl,h⟩) (SqL.of L) (L0 (m:=100) (by omega) (by decide)) ?_ ?_
   ·intro i hi v H4 G C KT KF I k2;obtain ⟨c,X,ev⟩:=z0f S C;refine ⟨[some v],rfl,rfl,iteT ?_⟩;refine ⟨_,rfl,_,rfl,v,c,rfl,ev.same ((k.trans D).trans G),B.s c (O1 X),λ H5 s5=>I rfl _ _ s5 λ b p=>?_⟩;rw [K0,X] at p;cases p;rfl
   intro l4 H4 l G a0 Y;rw [List.filter_eq_self.mpr (λ _ _=>rfl)] at Y;obtain ⟨d1,d2⟩:=all_bl (zdg (by rw [B0];exact lz.symm) Y);refine ⟨l4,l,rfl,SqL.of z04,d1,?_⟩;rw [d2,Z8];exact q _ ((k.trans D).trans (G.trans (Same.upd a0)))
  ·rw [decide_eq_false c6,g8] at q;exact iteN (λ e=>c6 (by have:=of_decide_eq_true e;omega)) (q _ (k.trans D))
theorem zej {rows:List PyData} (h:planB rows=true):rows.length<=6/\(rows.all λ r=>(listD r).isSome)=true/\(flatP rows).length<=24/\∃os:List (Option Int),flatP rows=os.map ddP:=by
 unfold planB at h;rw [V3,V3,V3] at h;refine ⟨of_decide_eq_true h.1,h.2.1,of_decide_eq_true h.2.2.1,?_⟩;have b :∀a:List PyData,a.all z1a=true->∃os:List (Option Int),a=os.map ddP:=by
  intro a;induction a with
  | nil=>exact λ _=>⟨[],rfl⟩
  | cons d a ih=>intro h;rw [Y5,V3] at h;obtain ⟨o,rfl⟩:=zdk h.1;obtain ⟨os,rfl⟩:=ih h.2;exact ⟨o :: os,rfl⟩
 exact b _ h.2.2.2
theorem ws_dd (os:List (Option Int)):wsP (os.map ddP)=os.filterMap id:=by unfold wsP;rw [j06];congr 1;funext o;exact wr1_dd o
theorem zc0 {α β:Type} {R S:α->β->Prop} :∀{xs:List α} {ys:List β},(∀a b,a∈xs->R a b->S a b)->All2 R xs ys->All2 S xs ys
 | _,_,_,.nil=>.nil
 | _,_,h,.cons a r=>.cons (h _ _ (.head _) a) (zc0 (λ x y c=>h x y (.tail _ c)) r)
theorem ws_of {os:List (Option Int)} {zs ys:List V} (lz:zs.length=os.length) (h:All2 (λ (i:Nat) y=>∀k,os[i]? = some (some k)->y=V.int k) ((O0 zs.length).filter λ i=>(os[i]?.getD none).isSome) ys):ys=(os.filterMap id).map V.int:=by
 rw [lz] at h;clear lz zs;have e :∀(n:Nat) (os:List (Option Int)) (ys:List V),All2 (λ (i:Nat) y=>∀k,os[i - n]? = some (some k)->y=V.int k) ((j52 n os.length).filter λ i=>(os[i - n]?.getD none).isSome) ys->ys=(os.filterMap id).map V.int:=by
  intro n os;induction os generalizing n with
  | nil=>intro ys h;cases h;rfl
  | cons o os ih=>
   intro ys h;have f :∀(l:List Nat),(∀i∈l,n < i)->(l.filter λ i=>((o :: os)[i - n]?.getD none).isSome)=l.filter λ i=>(os[i - (n + 1)]?.getD none).isSome:=λ l j=>List.filter_congr λ i b=>by have:=j i b;rw [show i - n=(i - (n + 1)) + 1 by omega,Z2]
   have d :∀i∈j52 (n + 1) os.length,n < i:=λ i b=>by
    have:=(List.mem_range'.mp b)
    omega
   rw [X0,List.range'_succ,List.filter_cons,f _ d] at h;have c :∀ys,All2 (λ (i:Nat) y=>∀k,(o :: os)[i - n]? = some (some k)->y=V.int k) ((j52 (n + 1) os.length).filter λ i=>(os[i - (n + 1)]?.getD none).isSome) ys->ys=(os.filterMap id).map V.int:=λ ys h=>by refine ih (n + 1) ys (zc0 (λ i y b g k m=>g k ?_) h);have:=d i (List.mem_filter.mp b).1;rw [show i - n=(i - (n + 1)) + 1 by omega,Z2];exact m
   rw [Y7,E4] at h;cases o with
   | none=>rw [if_neg (show ¬ ((some (none:Option Int)).getD none).isSome=true from D1)] at h;exact c ys h
   | some k=>
    rw [if_pos (show ((some (some k)).getD none).isSome=true from rfl)] at h;cases h with
    | cons a r=>rw [a k (by rw [Y7];rfl),c _ r];rfl
 refine e 0 os ys ?_;rw [<-List.range_eq_range'];exact h
def z4u (K:j0):Sp:=λ vs H Q E=>∃(m:Int) (x:V) (rows:List PyData),vs=[.int m,x]/\HPd H (.list rows) x/\PlOk rows/\
 (∀H',Same H H'->(m=3\/m=5)->goodB rows=true->Q .non H')/\(∀H',Same H H'->(m=3\/m=5->goodB rows=false)->E (.ref 82) none H')
theorem in35 {m:Int}:inV (.int m) [.int 3,.int 5]=decide (m=3\/m=5):=by rw [show ([.int 3,.int 5]:List V)=([3,5]:List Int).map V.int from rfl,z7a];simp
theorem z8b (T:TX (kx w) mg) (c0:Ca P w mg base "is_whole" ["value"] 1 z2z) (c1:Ca P w mg base "is_plan" ["kind","plan","most_hands","most_deeds"] 6 z9i) (c2:Ca P w mg base "planned" ["plan"] 1 (z5y (kx w))):Fo P w mg base (CXE P w base) 7 382 y0q ["many","plan"] (z4u (kx w)):=by
 refine (z3n w.params).okE sc_check_plan (λ vs H Q E h=>?_) (λ a5 A a4 s H vs Q E Z h=>?_)
 ·obtain ⟨m,x,t,rfl,_⟩:=h;rfl
 ·obtain ⟨m,x,t,rfl,hx,pk,q,qe⟩:=h;refine ⟨_,(z02 (ps_if (PW.pt (pw_or (pt_not (pt_val (pe_cal c0 (Z.mono (by decide)) rfl (z01 (pv 0) pa_nil)) (λ _=>rfl))) (pw_or1 (z0b zal (pv 0) (pe_tup (z01 pe_int (z01 pe_int pa_nil))) (by with_unfolding_all rfl)))))
   (z05 (z7u j00 (T.of (zah _)) (za2 _) rfl (z01 pe_str pa_nil)))
   z0j)
   (z02 (ps_if (pt_not (pt_val (pe_cal c1 (Z.mono (by decide)) rfl (z01 pe_str (z01 (pv 1) (z01 (z1s (v:=.int (6)) rfl (T.of (z9p _)) ⟨_,rfl⟩) (z01 (z1s (v:=.int (24)) rfl (T.of (zap _)) ⟨_,rfl⟩) pa_nil))))) (λ _=>rfl)))
   (z05 (z7u j00 (T.of (zah _)) (za2 _) rfl (z01 pe_str pa_nil)))
   z0j)
   (z02 (zbg (i:=2) sc_check_plan.nd rfl (Z1 rfl) (xs:=["verb","worth"]) (g:=gTup (kx w) 2 (gCons (gName 0) (gCons (gName 1) gNil))) (fr:=[]) rfl (z1e (pe_cal c2 (Z.mono (by decide)) rfl (z01 (pv 1) pa_nil))) (λ _ z=>absurd z N0) (zh0 rfl) (λ _ z=>absurd z N0) (by decide +kernel) rfl (by decide +kernel) (λ _ _ _ _ _=>(pg_tup rfl (z12 (pg_cn (N:=["verb","worth"]) 0) (z12 (pg_cn (N:=["verb","worth"]) 1) z8x)))) (λ _ _ _ _ _=>(pf_one (z0b opEq (pv 0) pe_str (nomark _)))) (λ _ _ _ _ _=>(pv 1)))
   (z05 (ps_if (PW.pt (pw_or (z0b zb6 pe_int (pv 2) (by with_unfolding_all rfl)) (pw_or1 (z0b op_lt (zg6 rfl rfl (T.no (n_len _)) rfl (T.no (n_set _)) X2 boot_set (pv 2)) (z08 z0r rfl (T.no (n_len _)) X2 (z01 (pv 2) pa_nil)) (nomark _)))))
   (z05 (z7u j00 (T.of (zah _)) (za2 _) rfl (z01 pe_str pa_nil)))
   z0j))))),?_⟩
  have I :∀{B:Hp},Same H B->(m=3\/m=5->goodB t=false)->(1:Nat)<=sizeLine/\E (.ref 82) none B:=λ s' b=>⟨by decide,qe _ s' b⟩
  refine sq_if (t_or (tB_not ?_));refine ⟨_,rfl,_,"int",rfl,rfl,?_⟩;refine ⟨_,rfl,iteN (by decide) ?_⟩;refine ⟨_,rfl,w_2,λ p hp=>⟨p,_,rfl,.inr (SqT.of z04),rfl,rfl,_,rfl,?_⟩⟩;have F:=Same.upd (o:=.tup [.int 3,.int 5]) hp;generalize upd H p (.tup [.int 3,.int 5])=H1 at F⊢;rw [in35];by_cases m35:m=3\/m=5;rotate_left
  ·rw [decide_eq_false m35];exact iteP rfl (I F λ z=>absurd z m35)
  rw [decide_eq_true m35];refine iteN (by decide) ?_;refine t_nx (sq_if (tB_not ?_));refine ⟨_,rfl,x,t,rfl,hx.same F,pk,λ H2 s2=>?_⟩;have u:=F.trans s2;cases hb:planB t with
  | false=>exact ⟨_,rfl,iteP rfl (I u λ _=>by unfold goodB;rw [hb];rfl)⟩
  | true=>
  refine ⟨_,rfl,iteN (by decide) ?_⟩;obtain ⟨l6,al,D,c,a0⟩:=zej hb;have r:goodB t=(decide ((0:Int)∉c.filterMap id) && decide (c.filterMap id).Nodup):=by unfold goodB;rw [hb,a0,ws_dd];rfl
  obtain ⟨a,a2,rfl,ea,a3⟩:=hx;obtain ⟨a1,z,Y⟩:=z62 a3.all al;have C:=z03 Y;rw [a0] at Y C D;rw [B0] at C D;refine t_nx (z0e ?_);refine zig (K:=KX w.params) (λ l O B=>Same H2 B/\B l=some (.lst O)/\O=a1.flatten) (λ R h=>?_) (λ a' xs H1 z=>⟨SqL.of z.2.1,?_⟩) (λ i=>(c[i]?.getD none).isSome) (λ i y _=>∀k,c[i]? = some (some k)->y=V.int k) (λ _ _ _ _ _ z=>z) ?_ ?_
  ·exact ⟨_,rfl,a,a2,a1,rfl,u _ _ ea,z00 (λ _ _ z=>LsAt.same u z) z,by omega,λ l H3 n M=>h _ _ _ ⟨n,M,rfl⟩⟩
  ·rw [z.2.2,C];exact L0 (m:=24) D (by decide)
  ·rintro l xs H3 ⟨n,M,rfl⟩ i hi v H4 s4 hv KT KF h1 h2;obtain ⟨d,j,L⟩:=z0f Y hv;rw [K0] at j;cases ho:c[i]? with
   | none=>rw [ho] at j;cases j
   | some o=>
   rw [ho] at j;cases j;rw [ho] at h1 h2;have L:=L.same (u.trans (n.trans s4));cases o with
   | none=>obtain ⟨p,zs,rfl,S,U,r1,rfl,e1,x2,W,rfl,f,X⟩:=L;cases (show U=.str "read" from e1);cases (show x2=.non from f);cases (show W=[] from X);refine ⟨p,_,rfl,SqT.of S,rfl,_,_,rfl,_,_,rfl,rfl,[some (.str "read"),some .non],rfl,rfl,?_⟩;exact ⟨_,rfl,rfl,_,rfl,iteK (h2 rfl _ (Same.refl _))⟩
   | some k=>obtain ⟨p,zs,rfl,S,U,r1,rfl,e1,x2,W,rfl,f,X⟩:=L;cases (show U=.str "write" from e1);cases (show x2=.int k from f);cases (show W=[] from X);refine ⟨p,_,rfl,SqT.of S,rfl,_,_,rfl,_,_,rfl,rfl,[some (.str "write"),some (.int k)],rfl,rfl,?_⟩;exact ⟨_,rfl,rfl,_,rfl,iteP (by decide +kernel) ⟨_,rfl,h1 rfl _ _ (Same.refl _) λ k' e=>by cases e;rfl⟩⟩
  rintro l xs H3 ⟨n,M,rfl⟩ l1 H4 O s4 hl1 al1;have ey:=ws_of (by rw [C]) al1;subst ey;have lu:(c.filterMap id).length<=24:=L0 (j35 _ _) D;generalize c.filterMap id=us at lu r al1⊢;have s5:=Same.upd (o:=.lst (us.map V.int)) hl1;have G:upd H4 l1 (.lst (us.map V.int)) l1=some (.lst (us.map V.int)):=z04;have J:=u.trans (n.trans (s4.trans s5));generalize upd H4 l1 (.lst (us.map V.int))=H5 at s5 G J⊢;refine g_name ?_;refine z1y (t_or ?_);refine ⟨_,rfl,l1,_,rfl,.inl (SqL.of G),rfl,zb9 _,_,rfl,?_⟩;by_cases n0:(0:Int)∈us
  ·exact iteP (by show inV _ _=true;rw [z7a,decide_eq_true n0]) (iteP rfl (I J λ _=>by rw [r,decide_eq_false (λ h=>h n0)];rfl))
  refine iteN (by show ¬ inV _ _=true;rw [z7a,decide_eq_false n0];decide) ?_;refine ⟨_,rfl,l1,us,rfl,SqL.of G,by omega,_,rfl,.inl ⟨l1,_,rfl,.inl (SqL.of G),_,_,rfl,rfl,_,rfl,?_⟩⟩;rw [decide_eq_true n0,O6] at r;by_cases nd:us.Nodup;rotate_left
  ·refine iteP (decide_eq_true ?_) (I J λ _=>by rw [r,decide_eq_false nd]);rw [B0];rcases j15 (us.foldl addI []).length us.length with z|z
   ·omega
   ·exact absurd (zbk us [] (by rw [K4,V5];exact z)).1 nd
  ·refine iteN (λ e=>?_) (q _ J m35 (by rw [r,decide_eq_true nd]));have:=of_decide_eq_true e;have f:=z8e us [] nd (λ _ _ h=>by cases h);rw [B0] at this;rw [f,K4,V5] at this;omega
theorem z31 {K:j0} {ta tv:TE} {f:Str} {rest:TS} {D:Ends} {σ:L2.St} {H:Hp} (h:tv σ H λ y H1=>ta σ H1 λ x H2=>∃a C dx fs,x=.ref a/\H2 a=some (.ins C dx fs)/\Cls K C/\NoAttr K C f/\fs.length < 1000/\rest D σ (upd H2 a (.ins C dx (putF f y fs)))):tSeq (sFld K ta tv f) rest D σ H:=h
theorem zez {K:j0} {ta tv:TE} {f:Str} {D:Ends} {σ:L2.St} {H:Hp} (h:tv σ H λ y H1=>ta σ H1 λ x H2=>∃a C dx fs,x=.ref a/\H2 a=some (.ins C dx fs)/\Cls K C/\NoAttr K C f/\fs.length < 1000/\D.nx σ (upd H2 a (.ins C dx (putF f y fs)))):sFld K ta tv f D σ H:=h
theorem zds (f:Str) (v:V) :∀fs:List (Str×V),(putF f v fs).length<=fs.length + 1
 | []=>J0 _
 | (g,x) :: r=>by
  unfold putF;split
  ·simp
  ·have:=zds f v r;simp only [X0];omega
theorem z19 {K:j0} {x dx C:Addr} {H H1:Hp} {fs:List (Str×V)} {R:L2.St->Hp->Prop} {σ:L2.St} {f:Str} {y:V} {i n:Nat} (k:Kept x H H1) (e:H1 x=some (.ins C dx fs)) (hv:σ[i]? = some (some (.ref x))) (c:Cls K C) (na:NoAttr K C f) (l:fs.length<=n) (hn:n < 100)
  (q :∀H2,Kept x H H2->(∀b o,b≠x->H1 b=some o->H2 b=some o)->H2 x=some (.ins C dx (putF f y fs))->(putF f y fs).length<=n + 1->R σ H2) :
  tVar i σ H1 λ z H2=>∃a C dx fs,z=.ref a/\H2 a=some (.ins C dx fs)/\Cls K C/\NoAttr K C f/\fs.length < 1000/\R σ (upd H2 a (.ins C dx (putF f y fs))):=
 ⟨_,hv,x,C,dx,fs,rfl,e,c,na,by omega,q _ (k.trans .set) (λ b o d g=>by rw [upd_ne d];exact g) z04 (L0 (zds f y fs) (by omega))⟩
theorem Kept.upd {x p:Addr} {H:Hp} {o:HO} (h:H p=none):Kept x H (upd H p o):=(Same.upd h).kept
end
section
noncomputable def mixZ (c k:Int):Int:=((c + 15485867 * (k + 1)) % 2147483579 * ((c + 15485867 * (k + 1)) % 2147483579) % 2147483563) * (((c + 15485867 * (k + 1)) % 2147483579 * ((c + 15485867 * (k + 1)) % 2147483579) % 2147483563) + 9001 + 5 * k) % 2147483549 / 32
noncomputable def rowsP (pl:List (List (Option Int))):List PyData:=pl.map λ r=>.list (r.map ddP)
structure PlG (pl:List (List (Option Int))):Prop where
 n0:0 < pl.length
 n6:pl.length<=6
 f:pl.flatten.length<=24
 nd:(pl.flatten.filterMap id).Nodup
 nz:(0:Int)∉pl.flatten.filterMap id
 bd :∀i∈pl.flatten.filterMap id,-1000000000<=i/\i<=1000000000
theorem zf1 (L:List (List PyData)):flatP (L.map PyData.list)=L.flatten:=by
 unfold flatP;rw [V2];congr 1;induction L with
 | nil=>rfl
 | cons a r ih=>rw [L1,ih];rfl
theorem zik (pl:List (List (Option Int))):rowsP pl=(pl.map (List.map ddP)).map PyData.list:=by unfold rowsP;rw [V2];rfl
theorem z7w (pl:List (List (Option Int))):flatP (rowsP pl)=pl.flatten.map ddP:=by rw [zik,zf1,List.map_flatten]
theorem zac {i:Int} (h0:-1000000000<=i) (h1:i<=1000000000):z1a (ddP (some i))=true:=by show deedP (.str "register") (.str "write") (.int i)=true;unfold deedP;dsimp only;rw [if_neg (by decide +kernel),if_pos (by decide +kernel)];show z0h (.int i) 1000000000=true;unfold z0h;dsimp only;rw [decide_eq_true h0,decide_eq_true h1];rfl
theorem zab:z1a (ddP none)=true:=by decide +kernel
theorem zhh {pl:List (List (Option Int))} (h:PlG pl):goodB (rowsP pl)=true:=by
 unfold goodB planB;rw [z7w,ws_dd,B0,decide_eq_true h.f,decide_eq_true h.nz,decide_eq_true h.nd,decide_eq_true (show (rowsP pl).length<=6 by unfold rowsP;rw [B0];exact h.n6)];have a:((rowsP pl).all λ r=>(listD r).isSome)=true:=by unfold rowsP;rw [Z8];exact List.all_eq_true.mpr λ _ _=>rfl
 have c:((pl.flatten.map ddP).all z1a)=true:=by
  rw [Z8];refine List.all_eq_true.mpr λ o b=>?_;cases o with
  | none=>exact zab
  | some i=>have:=h.bd i (List.mem_filterMap.mpr ⟨_,b,rfl⟩);exact zac this.1 this.2
 rw [a,c];rfl
theorem zit (o:Option Int):smallB (ddP o)=true:=by cases o<;>rfl
theorem zki {pl:List (List (Option Int))} (h:PlG pl):PlOk (rowsP pl):=by have:=h.n6;have:=h.f;refine ⟨by unfold rowsP;rw [B0];omega,by rw [z7w,B0];omega,λ d a=>?_⟩;rw [z7w] at a;obtain ⟨o,_,rfl⟩:=List.mem_map.mp a;exact zit o
theorem zb1 {α:Type} :∀{L:List (List α)} {h:Nat} {own X:List α},L[h]? = some own->(L.set h X).flatten.Perm (X++(L.eraseIdx h).flatten)/\L.flatten.Perm (own++(L.eraseIdx h).flatten)
 | a :: L,0,own,X,e=>by cases (show some a=some own from e);exact ⟨.refl _,.refl _⟩
 | a :: L,h + 1,own,X,e=>by
  obtain ⟨d,c⟩:=zb1 (L:=L) (h:=h) (own:=own) (X:=X) (by simpa using e);have b :∀(Y:List α),(a++(Y++(L.eraseIdx h).flatten)).Perm (Y++(a++(L.eraseIdx h).flatten)):=λ Y=>by rw [<-T2,<-T2];exact List.perm_append_comm.append_right _
  exact ⟨(d.append_left a).trans (b X),(c.append_left a).trans (b own)⟩
end
section
variable {P:Program} {w:W0} {mg:Str->Option Value} {base:Heap}
def z37 (K:j0):Sp:=λ vs H Q _=>∃(a:Addr) (ns:List Int) (k:Nat),vs=[.ref a,.int (k:Nat)]/\SqL K H a (ns.map V.int)/\∀i,Q (.int i) H
theorem z6r (T:TX (kx w) mg):Fo P w mg base CX0 1 396 y0d ["script","k"] (z37 (kx w)):=by
 refine (z22 w.params).ok z6s (λ d H Q E h=>?_) (λ i A g s H d Q E f h=>?_)
 ·obtain ⟨a,b,k,rfl,_⟩:=h;rfl
 ·obtain ⟨a,b,k,rfl,c,q⟩:=h;refine ⟨_,(z02 (ps_if (z0b op_lt (pv 1) (z08 z0r rfl (T.no (n_len _)) X2 (z01 (pv 0) pa_nil)) (nomark _))
   (z05 (ps_ret (pe_ix ix_seq (pv 0) (pv 1) (λ _ _=>rfl))))
   z0j)
   (z05 (ps_ret pe_int))),?_⟩
  refine sq_if ?_;refine ⟨_,rfl,_,rfl,.inl ⟨a,_,rfl,.inl c,_,_,rfl,rfl,_,rfl,?_⟩⟩;by_cases z:k < b.length
  ·refine iteP (decide_eq_true (by rw [B0];omega)) ?_;refine ⟨_,rfl,_,rfl,.inl ⟨a,_,k,.int b[k],rfl,rfl,c,z06 (by rw [K0,v0 z];rfl),q _⟩⟩
  ·exact iteN (λ e=>z (by have:=of_decide_eq_true e;rw [B0] at this;omega)) (t_nx (sq_ret (q 0)))
def z76:Sp:=λ vs H Q _=>∃(c k:Int),vs=[.int c,.int k]/\0<=k/\k < 1000/\Q (.int (mixZ c k)) H
theorem zcy (T:TX (kx w) mg):Fo P w mg base CX0 1 403 y1g ["cell","k"] z76:=by
 refine (z5p w.params).ok sc__law_mix (λ d H Q E h=>?_) (λ j A g s H d Q E f h=>?_)
 ·obtain ⟨c,k,rfl,_⟩:=h;rfl
 ·obtain ⟨c,k,rfl,l,e,q⟩:=h;refine ⟨_,(z02 (ps_set (i:=2) sc__law_mix.nd rfl (Z1 rfl) (pe_op op_mod (pe_op opAdd (pv 0) (pe_op op_mul pe_int (pe_op opAdd (pv 1) pe_int))) pe_int))
   (z02 (ps_set (i:=2) sc__law_mix.nd rfl (Z1 rfl) (pe_op op_mod (pe_op op_mul (pv 2) (pv 2)) pe_int))
   (z05 (ps_ret (pe_op z63 (pe_op op_mod (pe_op op_mul (pv 2) (pe_op opAdd (pe_op opAdd (pv 2) pe_int) (pe_op op_mul pe_int (pv 1)))) pe_int) pe_int))))),?_⟩
  refine ⟨_,rfl,_,rfl,.inl ⟨_,_,rfl,rfl,_,_,rfl,rfl,.inl ⟨by decide,by decide⟩,.inl ⟨_,_,rfl,rfl,_,_,rfl,rfl,(show (0:Int) < 2147483579 by decide),?_⟩⟩⟩;have a :∀z:Int,-(2 ^ 64) < z % 2147483579/\z % 2147483579 < 2 ^ 64:=λ z=>⟨by omega,by omega⟩
  have b :∀z:Int,-(2 ^ 64) < z % 2147483563/\z % 2147483563 < 2 ^ 64:=λ z=>⟨by omega,by omega⟩
  refine ⟨_,rfl,_,rfl,_,_,rfl,rfl,.inl (a _),_,_,rfl,rfl,(show (0:Int) < 2147483563 by decide),?_⟩;exact ⟨_,rfl,_,rfl,.inl ⟨_,_,rfl,rfl,_,rfl,_,_,rfl,rfl,.inl ⟨by decide,by decide⟩,.inl ⟨_,_,rfl,rfl,_,_,rfl,rfl,.inl (b _),_,_,rfl,rfl,(show (0:Int) < 2147483549 by decide),_,_,rfl,rfl,⟨by decide,by decide⟩,q⟩⟩⟩
theorem p18c:CPow 10 18:=⟨by decide,by decide,by decide⟩
def z52:Sp:=λ vs H Q _=>∃(c:Int) (a:Addr) (ls:List Int),vs=[.int c,.ref a]/\H a=some (.lst (ls.map V.int))/\(∀l∈ls,0 < l/\l < 2 ^ 62)/\ls.length<=30/\
 ∀(b:Addr) (xs:List Int) H',Same H H'->H b=none->H' b=some (.lst (xs.map V.int))->xs.length=ls.length->(∀(j:Nat) x l,xs[j]? = some x->ls[j]? = some l->0<=x/\x < l)->Q (.ref b) H'
theorem z91 (T:TX (kx w) mg) (c0:Ca P w mg base "_law_mix" ["cell","k"] 1 z76):Fo P w mg base CX0 2 410 y0s ["cell","least"] z52:=by
 refine (z3k w.params).ok sc__law_parts (λ R H Q E h=>?_) (λ Y A U s H R Q E O h=>?_)
 ·obtain ⟨c,a,e,rfl,_⟩:=h;rfl
 ·obtain ⟨c,a,e,rfl,u,M,W,q⟩:=h;refine ⟨_,(z02 (ps_set (i:=2) sc__law_parts.nd rfl (Z1 rfl) (pe_lst pa_nil))
   (z02 (ps_set (i:=3) sc__law_parts.nd rfl (Z1 rfl) (pe_op op_sub (pv 0) (pe_op op_pow pe_int pe_int)))
   (z02 (ps_for w4 rfl (z1c rfl (T.no (z36 _)) (z01 (z08 z0r rfl (T.no (n_len _)) X2 (z01 (pv 1) pa_nil)) pa_nil)) (z0s (i:=4) sc__law_parts.nd rfl (Z1 rfl))
   (z05 (ps_if (z0b op_lt (pv 0) (pe_op op_pow pe_int pe_int) (nomark _))
   (z05 (z0d (z0v (pv 2) (z01 (pe_op op_mod (pe_op op_mul (pe_cal c0 (O.mono (by decide)) rfl (z01 (pv 0) (z01 (pv 4) pa_nil))) pe_int) (pe_ix ix_seq (pv 1) (pv 4) (λ _ _=>rfl))) pa_nil))))
   (z02 (z0d (z0v (pv 2) (z01 (pe_op op_mod (pv 3) (pe_ix ix_seq (pv 1) (pv 4) (λ _ _=>rfl))) pa_nil)))
   (z05 (ps_set (i:=3) sc__law_parts.nd rfl (Z1 rfl) (pe_op z63 (pv 3) (pe_ix ix_seq (pv 1) (pv 4) (λ _ _=>rfl)))))))))
   (z05 (ps_ret (pv 2)))))),?_⟩
  refine zhu ?_;refine ⟨w_0,λ b p=>?_⟩;refine g_name ?_;obtain ⟨X,N,J,d⟩:=newA (.lst []) p;rw [<-N];refine z0e ⟨_,rfl,_,_,rfl,rfl,p18c,_,_,rfl,rfl,g_name ?_⟩;refine ⟨_,rfl,.inl ⟨a,_,rfl,.inl (SqL.of (J _ _ u)),_,rfl,by omega,by rw [B0];omega,?_⟩⟩;rw [a7,B0];have L:a≠b:=λ z=>by rw [z,p] at u;cases u
  refine z44 (lo:=0) (n:=e.length) (λ i σ K=>∃xs r x4,Same H K/\K b=some (.lst (xs.map V.int))/\xs.length=i/\(∀(j:Nat) x l,xs[j]? = some x->e[j]? = some l->0<=x/\x < l)/\σ=[some (.int c),some (.ref a),some (.ref b),some (.int r),x4]) ⟨[],_,_,J,d,rfl,(λ j x l h=>by simp at h),rfl⟩ ?_ ?_
  ·rintro j σ F I ⟨xs,r,x4,s2,eb,lx,bd,rfl⟩;rw [g9];refine g_name ?_;have D:e[j]? = some e[j]:=v0 I;have f:=M _ (J3 I);generalize e[j]=l at D f;have C:atI (e.map V.int) (j:Nat)=some (.int l):=z06 (by rw [K0,D];rfl);have B:=s2 _ _ u;have snoc :∀y,0<=y->y < l->∀(i:Nat) x t,(xs++[y])[i]? = some x->e[i]? = some t->0<=x/\x < t:=λ y o g i x t d v=>by
    by_cases z:i < xs.length
    ·rw [K1 z] at d;exact bd i x t d v
    ·rw [A1 (by omega)] at d;have S:i - xs.length=0:=by have:=(List.getElem?_eq_some_iff.mp d).1;simp only [A4] at this;omega
     rw [S] at d;cases d;have:i=j:=by omega
     rw [this,D] at v;cases v;exact ⟨o,g⟩
   have G:(xs.map V.int).length < sizeLine:=by rw [B0];exact Y0 (m:=30) (by omega) (by decide)
   refine z1y ?_;refine ⟨_,rfl,_,_,rfl,rfl,p18c,_,_,rfl,rfl,_,rfl,?_⟩;refine ite2 (λ _=>?_) λ _=>?_
   ·refine ⟨_,rfl,.inl ⟨rfl,_,SqL.of eb⟩,_,rfl,_,rfl,c,j,rfl,by omega,by omega,?_⟩;refine ⟨_,_,rfl,rfl,.inr ⟨by decide,by decide⟩,_,rfl,_,rfl,.inl ⟨a,_,_,.int l,rfl,rfl,SqL.of B,C,_,_,rfl,rfl,f.1,?_⟩⟩;have o:=p9 (mixZ c j * 1009) (show l≠0 by omega);have g:=u8 (mixZ c j * 1009) f.1;refine ⟨b,_,_,rfl,rfl,eb,G,xs++[mixZ c j * 1009 % l],_,_,Same.keep s2 p,?_,by rw [I0,lx];rfl,snoc _ o g,rfl⟩;rw [P1];exact z04
   ·refine ⟨_,rfl,.inl ⟨rfl,_,SqL.of eb⟩,_,rfl,_,rfl,_,rfl,.inl ⟨a,_,_,.int l,rfl,rfl,SqL.of B,C,_,_,rfl,rfl,f.1,?_⟩⟩;have o:=p9 r (show l≠0 by omega);have g:=u8 r f.1;refine ⟨b,_,_,rfl,rfl,eb,G,?_⟩;refine ⟨_,rfl,_,rfl,_,rfl,.inl ⟨a,_,_,.int l,rfl,rfl,SqL.of (by rw [upd_ne L];exact B),C,_,_,rfl,rfl,⟨f.1,by omega⟩,?_⟩⟩;refine ⟨xs++[r % l],_,_,Same.keep s2 p,?_,by rw [I0,lx];rfl,snoc _ o g,rfl⟩;rw [P1];exact z04
  ·rintro σ F ⟨xs,r,x4,s2,eb,lx,bd,rfl⟩;exact ⟨_,rfl,q b xs F s2 p eb lx bd⟩
theorem dd_tk {H H':Hp} {o:Option Int} {y:V} (ht :∀p xs,H p=some (.tup xs)->H' p=some (.tup xs)) (h:HPd H (ddP o) y):HPd H' (ddP o) y:=by
 cases o with
 | none=>obtain ⟨p,xs,rfl,e,r⟩:=h;exact ⟨p,xs,rfl,ht _ _ e,r⟩
 | some i=>obtain ⟨p,xs,rfl,e,r⟩:=h;exact ⟨p,xs,rfl,ht _ _ e,r⟩
structure PlJ (H0 H:Hp) (a:Addr) (bs:List Addr) (pl:List (List (Option Int))):Prop where
 l:H a=some (.lst (bs.map V.ref))
 nd:bs.Nodup
 fr :∀b∈bs,H0 b=none/\b≠a
 ln:bs.length=pl.length
 ow :∀(j:Nat) (own:List (Option Int)) (b:Addr),pl[j]? = some own->bs[j]? = some b->∃ys,H b=some (.lst ys)/\All2 (λ o y=>HPd H (ddP o) y) own ys
theorem z9j {H:Hp} {α:Type} {f:α->PyData} :∀{xs:List α} {ys:List V},All2 (λ o y=>HPd H (f o) y) xs ys->HPds H (xs.map f) ys
 | _,_,.nil=>(rfl:([]:List V)=[])
 | _,_,.cons a r=>⟨_,_,rfl,a,z9j r⟩
theorem z85 {H:Hp} {α:Type} {f:α->PyData} :∀{xs:List α} {ys:List V},HPds H (xs.map f) ys->All2 (λ o y=>HPd H (f o) y) xs ys
 | [],_,h=>by cases (show _=[] from h);exact .nil
 | x :: xs,_,h=>by obtain ⟨y,r,rfl,a,b⟩:=h;exact .cons a (z85 b)
noncomputable def wrF (sg st sp:Int) (k:Nat):Int:=(1 - 2 * sg) * (1 + st + k * (1 + sp))
structure PlK (sg st sp:Int) (n:Nat) (pl:List (List (Option Int))):Prop where
 f:pl.flatten.length=n
 nd:(pl.flatten.filterMap id).Nodup
 by_ :∀i∈pl.flatten.filterMap id,∃k:Nat,k < n/\i=wrF sg st sp k
theorem zls {H:Hp} {pl:List (List (Option Int))} {os:List V} (h:HPds H (rowsP pl) os) {i:Nat} {v:V} (hv:os[i]? = some v) :∃own b zs,pl[i]? = some own/\v=.ref b/\H b=some (.lst zs)/\All2 (λ o y=>HPd H (ddP o) y) own zs:=by have a:=z85 (f:=λ (r:List (Option Int))=>PyData.list (r.map ddP)) h;obtain ⟨own,e,b,zs,rfl,d,c⟩:=z0f a hv;exact ⟨own,b,zs,e,rfl,d,z85 c⟩
theorem zca {K:j0} {tl:TE} {σ:L2.St} {H:Hp} {Q:VK} {a:Addr} {pl:List (List (Option Int))} {os:List V} (htl :∀R:VK,R (.ref a) H->tl σ H R) (ea:H a=some (.lst os)) (hos:HPds H (rowsP pl) os) (l6:pl.length<=6) (q :∀(a':Addr) (bs:List Addr) H',Same H H'->H a'=none->PlJ H H' a' bs pl->Q (.ref a') H') :
  tCompG (iList K tl) 1 [] (gName 0) (λ _ H Q=>Q true H) (tCB (λ xs H Q=>∃p ys,xs=[.ref p]/\(SqL K H p ys\/SqT K H p ys)/\∀l,H l=none->Q (.ref l) (upd H l (.lst ys))) (tCons (tVar 0) tNil)) σ H Q:=by
 have N:os.length=pl.length:=by have:=hos.length;unfold rowsP at this;rw [B0] at this;exact this
 refine htl _ ⟨a,rfl,⟨os,SqL.of ea⟩,?_⟩;refine ⟨λ i m ys H'=>m=pl.length - i/\i<=pl.length/\Same H H'/\∃bs:List Addr,ys=bs.map V.ref/\bs.length=i/\bs.Nodup/\(∀b∈bs,H b=none/\H' b≠none)/\(∀(j:Nat) (own:List (Option Int)) (b:Addr),pl[j]? = some own->bs[j]? = some b->∃f,H' b=some (.lst f)/\All2 (λ o y=>HPd H' (ddP o) y) own f),⟨pl.length,rfl,E2 _,Same.refl _,[],rfl,rfl,.nil,(λ b k=>by cases k),λ j own b _ h=>by simp at h⟩,?_⟩;rintro i m ys P ⟨rfl,hi,s3,bs,rfl,lb,nd,fb,ow⟩;by_cases hlt:i < pl.length
 ·have s:os[i]? = some os[i]:=v0 (by omega);generalize os[i]=v at s;refine .inr ⟨⟨os,v,SqL.of (s3 _ _ ea),s⟩,by rw [B0,lb];exact L0 (m:=6) (by omega) (by decide),λ O I y=>?_⟩;obtain ⟨rfl,y⟩:=y;have y:=y os (SqL.of (s3 _ _ ea));rw [s] at y;cases y;obtain ⟨own,c,f,E,rfl,F,J⟩:=zls hos s;refine ⟨[some (.ref c)],rfl,rfl,iteT ?_⟩;refine ⟨_,rfl,c,f,rfl,.inl (SqL.of (s3 _ _ F)),λ b k=>?_⟩;have d:=Same.upd (o:=.lst f) k;refine ⟨pl.length - (i + 1),by omega,rfl,hlt,s3.trans d,bs++[b],by rw [P1];rfl,by rw [I0,lb];rfl,?_,λ c n=>?_,λ j G B r g=>?_⟩
  ·rw [j0f];refine ⟨nd,List.nodup_cons.mpr ⟨N0,.nil⟩,λ x A y D e=>?_⟩;rw [List.mem_singleton.mp D] at e;rw [e] at A;exact (fb b A).2 k
  ·rcases List.mem_append.mp n with n|n
   ·refine ⟨(fb c n).1,?_⟩;cases z:I c with
    | none=>exact absurd z (fb c n).2
    | some o=>rw [d _ _ z];exact j4c o
   ·rw [List.mem_singleton.mp n];exact ⟨s3.free k,by rw [z04];exact j4c _⟩
  ·by_cases z:j < bs.length
   ·rw [K1 z] at g;obtain ⟨C,u,w⟩:=ow j G B r g;exact ⟨C,d _ _ u,z00 (λ _ _ z=>z.same d) w⟩
   ·rw [A1 (by omega)] at g;have M:j - bs.length=0:=by have:=(List.getElem?_eq_some_iff.mp g).1;simp only [A4] at this;omega
    rw [M] at g;cases g;have:j=i:=by omega
    rw [this,E] at r;cases r;exact ⟨f,z04,z00 (λ _ _ z=>z.same (s3.trans d)) J⟩
 have L:i=pl.length:=by omega
 subst L;refine .inl ⟨⟨os,SqL.of (s3 _ _ ea),by omega⟩,by rw [B0,lb];exact L0 (m:=6) l6 (by decide),λ p t=>?_⟩;have d:=Same.upd (o:=.lst (bs.map V.ref)) t;refine q p bs _ (s3.trans d) (s3.free t) ⟨z04,nd,λ b k=>⟨(fb b k).1,λ z=>(fb b k).2 (by rw [z];exact t)⟩,lb,λ j own b r g=>?_⟩;obtain ⟨f,u,w⟩:=ow j own b r g;exact ⟨f,d _ _ u,z00 (λ _ _ z=>z.same d) w⟩
end
section
theorem zlk {X:Cx} {K:j0} (hK:X.K=K) {e:Expr} {f:Str} {pos:Pos} {ta:TE} (he:PE X e ta) (hb:E5 e f X.env (Z3 e X.env)=Z3 e X.env):PE X (.Attribute e f pos) (tFld K ta f):=hK ▸ pe_fld he hb
noncomputable abbrev Hd:=(Int×Int)×Int
structure Er where
 hand:Nat
 deed:Option Int
 kept:Option Hd
 heard:List Hd
structure Lt where
 e:Nat
 num:Nat
 held:Option Hd
inductive CEv
 | beg (h:Nat) (d:Option Int)
 | fin (h:Nat) (a:Option Int)
structure CM where
 stock:List Hd
 back:Bool
 left:List (List (Option Int))
 idle:List Bool
 letters:List Lt
 ers:List Er
 events:List CEv
noncomputable def maxHd:List Hd->Hd
 | []=>((0,0),0)
 | x :: r=>r.foldl (λ m y=>if gtN y m=true then y else m) x
noncomputable def CM.send (M:CM) (e:Nat):CM:={ M with letters:=M.letters++(O0 M.stock.length).map λ k=>⟨e,k,none⟩ }
noncomputable def CM.make (M:CM) (er:Er):CM:={ M with ers:=M.ers++[er] }
noncomputable def CM.start (M:CM) (h:Nat) (d:Option Int) (rest:List (Option Int)):CM:=
 CM.send (CM.make { M with left:=M.left.set h rest,idle:=M.idle.set h false,events:=M.events++[.beg h d] } ⟨h,d,none,[]⟩) M.ers.length
noncomputable def ansC (d:Option Int) (w:Int):Option Int:=match d with
 | some _=>none
 | none=>some w
noncomputable def CM.stop (M:CM) (er:Er) (w:Int):CM:={ M with idle:=M.idle.set er.hand true,events:=M.events++[.fin er.hand (ansC er.deed w)] }
noncomputable def CM.ask (M:CM) (er:Er):CM:=match er.deed with
 | some w0=>(M.make ⟨er.hand,er.deed,some (((maxHd er.heard).1.1 + 1,er.hand),w0),[]⟩).send M.ers.length
 | none=>if M.back=true then (M.make ⟨er.hand,er.deed,some (maxHd er.heard),[]⟩).send M.ers.length else M.stop er (maxHd er.heard).2
noncomputable def Er.hear (er:Er) (x:Hd):Er:={ er with heard:=er.heard++[x] }
noncomputable def CM.comeBack (M:CM) (e:Nat) (er:Er) (x:Hd):CM:=
 if (er.hear x).heard.length≠M.stock.length / 2 + 1 then { M with ers:=M.ers.set e (er.hear x) }
 else match er.kept with
  | some k=>CM.stop { M with ers:=M.ers.set e (er.hear x) } (er.hear x) k.2
  | none=>CM.ask { M with ers:=M.ers.set e (er.hear x) } (er.hear x)
noncomputable def keepH (k:Option Hd) (s:Hd):Hd:=match k with
 | some k=>if gtI k.1 s.1=true then k else s
 | none=>s
noncomputable def CM.comeTo (M:CM) (e:Nat) (er:Er) (n:Nat) (s:Hd):CM:={ M with stock:=M.stock.set n (keepH er.kept s),letters:=M.letters++[⟨e,n,some (keepH er.kept s)⟩] }
noncomputable def CM.come (M:CM) (L:Lt):CM:=match M.ers[L.e]?,L.held,M.stock[L.num]? with
 | some er,some x,_=>M.comeBack L.e er x
 | some er,none,some s=>M.comeTo L.e er L.num s
 | _,_,_=>M
noncomputable def CM.rdy (M:CM) (h:Nat):Bool:=!(M.left[h]?.getD []).isEmpty && M.idle[h]?.getD false
noncomputable def CM.ready (M:CM):List Nat:=(O0 M.left.length).filter M.rdy
noncomputable def CM.go (M:CM) (c:Int):CM:=
 if M.ready.length + M.letters.length=0 then M else
 let ch:=(c % ((M.ready.length:Int) + 2 * (M.letters.length:Int))).toNat
 if ch < M.ready.length then
  (match M.left[M.ready[ch]?.getD 0]? with
   | some (d :: rest)=>M.start (M.ready[ch]?.getD 0) d rest
   | _=>M)
 else
  (match M.letters[(ch - M.ready.length) % M.letters.length]? with
   | some L=>if ch < M.ready.length + M.letters.length then CM.come { M with letters:=M.letters.eraseIdx ((ch - M.ready.length) % M.letters.length) } L else { M with letters:=M.letters.eraseIdx ((ch - M.ready.length) % M.letters.length) }
   | none=>M)
theorem zfe {l:List Hd} {b:Hd} (hb:b∈l) (h :∀x∈l,gtN x b=false):maxHd l=b:=by
 have f :∀(r:List Hd) (m:Hd),(r.foldl (λ m y=>if gtN y m=true then y else m) m)∈m :: r/\∀x∈m :: r,gtN x (r.foldl (λ m y=>if gtN y m=true then y else m) m)=false:=by
  intro r;induction r with
  | nil=>exact λ m=>⟨.head _,λ x a=>by rw [List.mem_singleton.mp a];exact zhp _⟩
  | cons y r ih=>
   intro m;rw [W2];by_cases z:gtN y m=true
   ·rw [if_pos z];obtain ⟨d,c⟩:=ih y;refine ⟨.tail _ d,λ x a=>?_⟩;rcases List.mem_cons.mp a with e|a
    ·rw [e];exact gtN_tr (zi3 z) (c y (.head _))
    ·exact c x a
   ·rw [if_neg z];obtain ⟨d,c⟩:=ih m;refine ⟨?_,λ x a=>?_⟩
    ·rcases List.mem_cons.mp d with e|e
     ·rw [e];exact .head _
     ·exact .tail _ (.tail _ e)
    ·rcases List.mem_cons.mp a with e|a
     ·rw [e];exact c m (.head _)
     ·rcases List.mem_cons.mp a with e|a
      ·rw [e];exact gtN_tr (Bool.eq_false_iff.mpr z) (c m (.head _))
      ·exact c x (.tail _ a)
 cases l with
 | nil=>cases hb
 | cons x r=>obtain ⟨d,c⟩:=f r x;exact (zl6 (c b hb) (h _ d)).symm
structure WfM (M:CM) (n:Nat):Prop where
 il:M.idle.length=M.left.length
 st:0 < M.stock.length/\M.stock.length<=5
 le :∀L∈M.letters,L.e < M.ers.length/\L.num < M.stock.length
 eh :∀er∈M.ers,er.hand < M.idle.length
 hn :∀er∈M.ers,er.heard.length<=n
 ln:M.letters.length<=6 * n
 vn:M.events.length<=n
 l6:M.left.length<=6
 lw :∀own∈M.left,own.length<=24
structure Imm (H H':Hp):Prop where
 t :∀p xs,H p=some (.tup xs)->H' p=some (.tup xs)
 i :∀p C dx fs,H p=some (.ins C dx fs)->H' p=some (.ins C dx fs)
 f :∀p o u,H p=some (.frz o u)->H' p=some (.frz o u)
theorem Imm.of {H H':Hp} (s:Same H H'):Imm H H':=⟨λ _ _ e=>s _ _ e,λ _ _ _ _ e=>s _ _ e,λ _ _ _ e=>s _ _ e⟩
theorem Imm.lst {H:Hp} {l:Addr} {o:HO} {xs:List V} (e:H l=some (.lst xs)):Imm H (upd H l o):=
 ⟨λ p a q=>by rw [upd_ne (λ z=>by rw [z,e] at q;cases q)];exact q,λ p C b fs q=>by rw [upd_ne (λ z=>by rw [z,e] at q;cases q)];exact q,λ p o u q=>by rw [upd_ne (λ z=>by rw [z,e] at q;cases q)];exact q⟩
theorem Imm.trans {H H1 H2:Hp} (a:Imm H H1) (b:Imm H1 H2):Imm H H2:=⟨λ _ _ e=>b.t _ _ (a.t _ _ e),λ _ _ _ _ e=>b.i _ _ _ _ (a.i _ _ _ _ e),λ _ _ _ e=>b.f _ _ _ (a.f _ _ _ e)⟩
theorem Imm.seqT {K:j0} {H H':Hp} {p:Addr} {xs:List V} (m:Imm H H') (h:SqT K H p xs):SqT K H' p xs:=by
 rcases h with h|h
 ·rcases h with h|⟨o,h⟩
  ·exact .inl (.inl (m.t _ _ h))
  ·exact .inl (.inr ⟨o,m.f _ _ _ h⟩)
 ·exact .inr h
def HdAt (K:j0) (H:Hp) (x:Hd) (v:V):Prop:=∃p q,v=.ref p/\SqT K H p [.ref q,.int x.2]/\SqT K H q [.int x.1.1,.int x.1.2]
theorem HdAt.imm {K:j0} {H H':Hp} {x:Hd} {v:V} (m:Imm H H') (h:HdAt K H x v):HdAt K H' x v:=by obtain ⟨p,q,e,a,b⟩:=h;exact ⟨p,q,e,m.seqT a,m.seqT b⟩
noncomputable def OptHd (K:j0) (H:Hp):Option Hd->V->Prop
 | none,v=>v=.non
 | some x,v=>HdAt K H x v
theorem OptHd.imm {K:j0} {H H':Hp} {x:Option Hd} {v:V} (m:Imm H H') (h:OptHd K H x v):OptHd K H' x v:=by
 cases x with
 | none=>exact h
 | some x=>exact HdAt.imm m h
noncomputable def vbD:Option Int->Str
 | none=>"read"
 | some _=>"write"
noncomputable def wvD:Option Int->V
 | none=>.non
 | some i=>.int i
def DdV (H:Hp) (d:Option Int) (y:V):Prop:=∃p,y=.ref p/\H p=some (.tup [.str (vbD d),wvD d])
theorem DdV.imm {H H':Hp} {d:Option Int} {y:V} (m:Imm H H') (h:DdV H d y):DdV H' d y:=h.elim λ p z=>⟨p,z.1,m.t _ _ z.2⟩
noncomputable def avD:Option Int->V
 | none=>.str "ok"
 | some i=>.int i
noncomputable def EvV (H:Hp):CEv->V->Prop
 | .beg h d,y=>∃p,y=.ref p/\H p=some (.tup [.str "begin",.int h,.str "r",.str (vbD d),wvD d])
 | .fin h a,y=>∃p,y=.ref p/\H p=some (.tup [.str "end",.int h,avD a])
theorem EvV.imm {H H':Hp} {e:CEv} {y:V} (m:Imm H H') (h:EvV H e y):EvV H' e y:=by
 cases e with
 | beg h d=>exact h.elim λ p z=>⟨p,z.1,m.t _ _ z.2⟩
 | fin h a=>exact h.elim λ p z=>⟨p,z.1,m.t _ _ z.2⟩
def LtAt (K:j0) (H:Hp) (es:List Addr) (L:Lt) (v:V):Prop:=∃x dx fs ea hv,v=.ref x/\H x=some (.ins 300 dx fs)/\es[L.e]? = some ea/\fs.lookup ("errand" : Str)=some (V.ref ea)/\fs.lookup ("number" : Str)=some (V.int L.num)/\fs.lookup ("held" : Str)=some hv/\OptHd K H L.held hv
theorem LtAt.imm {K:j0} {H H':Hp} {es:List Addr} {L:Lt} {v:V} (m:Imm H H') (h:LtAt K H es L v):LtAt K H' es L v:=by obtain ⟨x,g,fs,j,a,e,b,d,l,k,f,c⟩:=h;exact ⟨x,g,fs,j,a,e,m.i _ _ _ _ b,d,l,k,f,c.imm m⟩
theorem LtAt.more {K:j0} {H:Hp} {es:List Addr} {L:Lt} {v:V} (e:Addr) (h:LtAt K H es L v):LtAt K H (es++[e]) L v:=by obtain ⟨x,d,fs,f,b,e,c,a,g⟩:=h;exact ⟨x,d,fs,f,b,e,c,by rw [K1 (List.getElem?_eq_some_iff.mp a).1];exact a,g⟩
def ErAt (K:j0) (H:Hp) (er:Er) (e hl:Addr):Prop:=∃dx fs dv kv,H e=some (.ins 279 dx fs)/\fs.lookup ("hand" : Str)=some (V.int er.hand)/\fs.lookup ("deed" : Str)=some dv/\DdV H er.deed dv/\fs.lookup ("kept" : Str)=some kv/\OptHd K H er.kept kv/\fs.lookup ("heard" : Str)=some (V.ref hl)
theorem ErAt.imm {K:j0} {H H':Hp} {er:Er} {e hl:Addr} (m:Imm H H') (h:ErAt K H er e hl):ErAt K H' er e hl:=by obtain ⟨j,fs,f,k,b,d,n,l,g,c,a⟩:=h;exact ⟨j,fs,f,k,m.i _ _ _ _ b,d,n,l.imm m,g,c.imm m,a⟩
structure Ls (B H:Hp) (ms:List Addr) (cs:List (List V)):Prop where
 c:All2 (λ m c=>H m=some (.lst c)) ms cs
 nd:ms.Nodup
 fr :∀m∈ms,B m=none
theorem Ls.same {B H H':Hp} {ms:List Addr} {cs:List (List V)} (h:Ls B H ms cs) (s:Same H H'):Ls B H' ms cs:=⟨z00 (λ _ _ z=>s _ _ z) h.c,h.nd,h.fr⟩
theorem Ls.at {B H:Hp} {ms:List Addr} {cs:List (List V)} {i:Nat} {m:Addr} {c:List V} (h:Ls B H ms cs) (hm:ms[i]? = some m) (hc:cs[i]? = some c):H m=some (.lst c):=by obtain ⟨d,a,b⟩:=z0o h.c hm;rw [hc] at a;cases a;exact b
theorem Ls.set {B H:Hp} {ms:List Addr} {cs:List (List V)} {i:Nat} {m:Addr} {c:List V} (h:Ls B H ms cs) (hm:ms[i]? = some m):Ls B (upd H m (.lst c)) ms (cs.set i c):=by
 refine ⟨z1j (by rw [U0];exact z03 h.c) λ k a b f d=>?_,h.nd,h.fr⟩;by_cases z:k=i
 ·subst z;rw [hm] at f;cases f;have l:k < cs.length:=by have:=(List.getElem?_eq_some_iff.mp d).1;rw [U0] at this;exact this
  rw [Q0 l] at d;cases d;exact z04
 ·rw [D2 (A2 z)] at d;have n:a≠m:=λ e=>by subst e;exact z ((List.getElem?_inj (List.getElem?_eq_some_iff.mp hm).1 h.nd).mp (hm.trans f.symm)).symm
  rw [upd_ne n];obtain ⟨o,g,j⟩:=z0o h.c f;rw [d] at g;cases g;exact j
theorem Ls.snoc {B H:Hp} {ms:List Addr} {cs:List (List V)} {m:Addr} {c:List V} (h:Ls B H ms cs) (hm:H m=some (.lst c)) (nm:m∉ms) (fm:B m=none):Ls B H (ms++[m]) (cs++[c]):=by
 refine ⟨z1q h.c hm,?_,λ x a=>?_⟩
 ·rw [j0f];refine ⟨h.nd,List.nodup_cons.mpr ⟨N0,.nil⟩,λ x a y b e=>?_⟩;rw [List.mem_singleton.mp b] at e;exact nm (e ▸ a)
 ·rcases List.mem_append.mp a with a|a
  ·exact h.fr x a
  ·rw [List.mem_singleton.mp a];exact fm
theorem Ls.not {B H:Hp} {ms:List Addr} {cs:List (List V)} {m:Addr} (h:Ls B H ms cs) (e:H m=none):m∉ms:=λ z=>by obtain ⟨i,d,b⟩:=Q7 z;obtain ⟨c,_,a⟩:=z0o h.c (v0 d);rw [b,e] at a;cases a
end
section
variable {P:Program} {w:W0} {mg:Str->Option Value} {base:Heap}
noncomputable def fldC:List Str:=["stock","back","left","idle","letters","events"]
structure Cp (K:j0) (B H:Hp) (cx st lf id lt ev:Addr) (bs es hls:List Addr) (M:CM):Prop where
 ins :∃dx fs,H cx=some (.ins 373 dx fs)/\fs.lookup ("stock" : Str)=some (V.ref st)/\fs.lookup ("back" : Str)=some (V.bl M.back)/\fs.lookup ("left" : Str)=some (V.ref lf)/\fs.lookup ("idle" : Str)=some (V.ref id)/\fs.lookup ("letters" : Str)=some (V.ref lt)/\fs.lookup ("events" : Str)=some (V.ref ev)/\∀m:Str,m∉fldC->fs.lookup m=none
 ct :∃sv lv vv lefts heards,Ls B H (st :: lf :: id :: lt :: ev :: (bs++hls)) (sv :: bs.map V.ref :: M.idle.map V.bl :: lv :: vv :: (lefts++heards))/\lefts.length=bs.length/\All2 (HdAt K H) M.stock sv/\All2 (LtAt K H es) M.letters lv/\All2 (EvV H) M.events vv/\All2 (λ own ys=>All2 (DdV H) own ys) M.left lefts/\All2 (λ (er:Er) hs=>All2 (HdAt K H) er.heard hs) M.ers heards
 er :∀(k:Nat) r,M.ers[k]? = some r->∃e hl,es[k]? = some e/\hls[k]? = some hl/\ErAt K H r e hl
 el:es.length=M.ers.length/\hls.length=M.ers.length/\bs.length=M.left.length
theorem Cp.same {K:j0} {B H H':Hp} {cx st lf id lt ev:Addr} {bs es hls:List Addr} {M:CM} (h:Cp K B H cx st lf id lt ev bs es hls M) (s:Same H H'):Cp K B H' cx st lf id lt ev bs es hls M:=by obtain ⟨i,fs,A,g⟩:=h.ins;obtain ⟨p,n,q,o,l,x,u,j,b,d,v,a⟩:=h.ct;have m:=Imm.of s;refine ⟨⟨i,fs,s _ _ A,g⟩,⟨p,n,q,o,l,x.same s,u,z00 (λ _ _ z=>z.imm m) j,z00 (λ _ _ z=>z.imm m) b,z00 (λ _ _ z=>z.imm m) d,z00 (λ _ _ z=>z00 (λ _ _ z=>z.imm m) z) v,z00 (λ _ _ z=>z00 (λ _ _ z=>z.imm m) z) a⟩,λ k r e=>?_,h.el⟩;obtain ⟨t,y,w,c,f⟩:=h.er k r e;exact ⟨t,y,w,c,f.imm m⟩
theorem z6w {H H':Hp} {cx:Addr} {R:Addr->List (Str×V)->Prop} (m:Imm H H') (h :∃dx fs,H cx=some (.ins 373 dx fs)/\R dx fs) :∃dx fs,H' cx=some (.ins 373 dx fs)/\R dx fs:=by obtain ⟨dx,fs,b,a⟩:=h;exact ⟨dx,fs,m.i _ _ _ _ b,a⟩
theorem Cp.setL {K:j0} {B H:Hp} {cx st lf id lt ev:Addr} {bs es hls:List Addr} {M:CM} {Ls':List Lt} {lv':List V} (h:Cp K B H cx st lf id lt ev bs es hls M) (a :∀H',Imm H H'->All2 (LtAt K H' es) Ls' lv'):Cp K B (upd H lt (.lst lv')) cx st lf id lt ev bs es hls { M with letters:=Ls' }:=by obtain ⟨s,p,t,q,o,b,v,n,A,j,w,d⟩:=h.ct;have f:H lt=some (.lst p):=b.at (i:=3) rfl rfl;have m:Imm H (upd H lt (.lst lv')):=Imm.lst f;refine ⟨z6w m h.ins,⟨s,lv',t,q,o,b.set (i:=3) (c:=lv') rfl,v,z00 (λ _ _ z=>z.imm m) n,a _ m,z00 (λ _ _ z=>z.imm m) j,z00 (λ _ _ z=>z00 (λ _ _ z=>z.imm m) z) w,z00 (λ _ _ z=>z00 (λ _ _ z=>z.imm m) z) d⟩,λ k r e=>?_,h.el⟩;obtain ⟨u,y,x,g,l⟩:=h.er k r e;exact ⟨u,y,x,g,l.imm m⟩
theorem Cp.setS {K:j0} {B H:Hp} {cx st lf id lt ev:Addr} {bs es hls:List Addr} {M:CM} {S':List Hd} {sv':List V} (h:Cp K B H cx st lf id lt ev bs es hls M) (a :∀H',Imm H H'->All2 (HdAt K H') S' sv'):Cp K B (upd H st (.lst sv')) cx st lf id lt ev bs es hls { M with stock:=S' }:=by obtain ⟨s,p,t,q,o,b,v,A,g,l,w,d⟩:=h.ct;have f:H st=some (.lst s):=b.at (i:=0) rfl rfl;have m:Imm H (upd H st (.lst sv')):=Imm.lst f;refine ⟨z6w m h.ins,⟨sv',p,t,q,o,b.set (i:=0) (c:=sv') rfl,v,a _ m,z00 (λ _ _ z=>z.imm m) g,z00 (λ _ _ z=>z.imm m) l,z00 (λ _ _ z=>z00 (λ _ _ z=>z.imm m) z) w,z00 (λ _ _ z=>z00 (λ _ _ z=>z.imm m) z) d⟩,λ k r e=>?_,h.el⟩;obtain ⟨u,y,x,j,n⟩:=h.er k r e;exact ⟨u,y,x,j,n.imm m⟩
theorem Cp.setI {K:j0} {B H:Hp} {cx st lf id lt ev:Addr} {bs es hls:List Addr} {M:CM} {I':List Bool} {iv:List V} (h:Cp K B H cx st lf id lt ev bs es hls M) (a:iv=I'.map V.bl):Cp K B (upd H id (.lst iv)) cx st lf id lt ev bs es hls { M with idle:=I' }:=by subst a;obtain ⟨t,q,u,s,p,b,w,o,g,l,x,d⟩:=h.ct;have f:H id=some (.lst (M.idle.map V.bl)):=b.at (i:=2) rfl rfl;have m:Imm H (upd H id (.lst (I'.map V.bl))):=Imm.lst f;refine ⟨z6w m h.ins,⟨t,q,u,s,p,b.set (i:=2) (c:=I'.map V.bl) rfl,w,z00 (λ _ _ z=>z.imm m) o,z00 (λ _ _ z=>z.imm m) g,z00 (λ _ _ z=>z.imm m) l,z00 (λ _ _ z=>z00 (λ _ _ z=>z.imm m) z) x,z00 (λ _ _ z=>z00 (λ _ _ z=>z.imm m) z) d⟩,λ k r e=>?_,h.el⟩;obtain ⟨v,A,y,j,n⟩:=h.er k r e;exact ⟨v,A,y,j,n.imm m⟩
theorem Cp.setV {K:j0} {B H:Hp} {cx st lf id lt ev:Addr} {bs es hls:List Addr} {M:CM} {E':List CEv} {vv':List V} (h:Cp K B H cx st lf id lt ev bs es hls M) (a :∀H',Imm H H'->All2 (EvV H') E' vv'):Cp K B (upd H ev (.lst vv')) cx st lf id lt ev bs es hls { M with events:=E' }:=by obtain ⟨s,p,t,q,o,b,v,n,g,A,w,d⟩:=h.ct;have f:H ev=some (.lst t):=b.at (i:=4) rfl rfl;have m:Imm H (upd H ev (.lst vv')):=Imm.lst f;refine ⟨z6w m h.ins,⟨s,p,vv',q,o,b.set (i:=4) (c:=vv') rfl,v,z00 (λ _ _ z=>z.imm m) n,z00 (λ _ _ z=>z.imm m) g,a _ m,z00 (λ _ _ z=>z00 (λ _ _ z=>z.imm m) z) w,z00 (λ _ _ z=>z00 (λ _ _ z=>z.imm m) z) d⟩,λ k r e=>?_,h.el⟩;obtain ⟨u,y,x,j,l⟩:=h.er k r e;exact ⟨u,y,x,j,l.imm m⟩
theorem Cp.setW {K:j0} {B H:Hp} {cx st lf id lt ev b:Addr} {bs es hls:List Addr} {M:CM} {k:Nat} {own:List (Option Int)} {ys:List V} (h:Cp K B H cx st lf id lt ev bs es hls M) (hb:bs[k]? = some b) (a :∀H',Imm H H'->All2 (DdV H') own ys):Cp K B (upd H b (.lst ys)) cx st lf id lt ev bs es hls { M with left:=M.left.set k own }:=by
 obtain ⟨n,l,o,i,g,u,G,E,w,C,t,v⟩:=h.ct;have N:k < bs.length:=(List.getElem?_eq_some_iff.mp hb).1;have q:(st :: lf :: id :: lt :: ev :: (bs++hls))[k + 5]? = some b:=by show (bs++hls)[k]? = some b;rw [K1 N];exact hb
 obtain ⟨O,Q,d⟩:=z0o u.c q;have m:Imm H (upd H b (.lst ys)):=Imm.lst d;have p:=u.set (c:=ys) q;have F:(n :: bs.map V.ref :: M.idle.map V.bl :: l :: o :: (i++g)).set (k + 5) ys=n :: bs.map V.ref :: M.idle.map V.bl :: l :: o :: (i.set k ys++g):=by show n :: bs.map V.ref :: M.idle.map V.bl :: l :: o :: (i++g).set k ys=_;rw [List.set_append_left _ _ (by omega)]
 rw [F] at p;refine ⟨z6w m h.ins,⟨n,l,o,i.set k ys,g,p,by rw [U0];exact G,z00 (λ _ _ z=>z.imm m) E,z00 (λ _ _ z=>z.imm m) w,z00 (λ _ _ z=>z.imm m) C,?_,z00 (λ _ _ z=>z00 (λ _ _ z=>z.imm m) z) v⟩,λ k r e=>?_,h.el.1,h.el.2.1,by rw [U0];exact h.el.2.2⟩
 ·have A:=z00 (λ _ _ z=>z00 (λ _ _ z=>DdV.imm m z) z) t;refine z1j (by rw [U0,U0];exact z03 t) λ j x y d f=>?_;by_cases z:j=k
  ·subst z;rw [Q0 (by have:=(List.getElem?_eq_some_iff.mp d).1;rw [U0] at this;exact this)] at d;rw [Q0 (by have:=(List.getElem?_eq_some_iff.mp f).1;rw [U0] at this;exact this)] at f;cases d;cases f;exact a _ m
  ·rw [D2 (A2 z)] at d f;obtain ⟨P,s,J⟩:=z0o A d;rw [f] at s;cases s;exact J
 ·obtain ⟨I,L,d,f,D⟩:=h.er k r e;exact ⟨I,L,d,f,D.imm m⟩
theorem Cp.setH {K:j0} {B H:Hp} {cx st lf id lt ev b:Addr} {bs es hls:List Addr} {M:CM} {k:Nat} {er:Er} {hd:List Hd} {ys:List V} (h:Cp K B H cx st lf id lt ev bs es hls M) (hk:M.ers[k]? = some er) (hb:hls[k]? = some b) (a :∀H',Imm H H'->All2 (HdAt K H') hd ys):Cp K B (upd H b (.lst ys)) cx st lf id lt ev bs es hls { M with ers:=M.ers.set k { er with heard:=hd } }:=by
 obtain ⟨n,l,o,i,g,D,A,G,E,F,L,t⟩:=h.ct;have w:(st :: lf :: id :: lt :: ev :: (bs++hls))[bs.length + k + 5]? = some b:=by show (bs++hls)[bs.length + k]? = some b;rw [A1 (by omega),Y4];exact hb
 obtain ⟨O,Q,d⟩:=z0o D.c w;have m:Imm H (upd H b (.lst ys)):=Imm.lst d;have v:=D.set (c:=ys) w;have I:(n :: bs.map V.ref :: M.idle.map V.bl :: l :: o :: (i++g)).set (bs.length + k + 5) ys=n :: bs.map V.ref :: M.idle.map V.bl :: l :: o :: (i++g.set k ys):=by show n :: bs.map V.ref :: M.idle.map V.bl :: l :: o :: (i++g).set (bs.length + k) ys=_;rw [List.set_append_right _ _ (by omega),A,Y4]
 rw [I] at v;have u:k < M.ers.length:=(List.getElem?_eq_some_iff.mp hk).1;refine ⟨z6w m h.ins,⟨n,l,o,i,g.set k ys,v,A,z00 (λ _ _ z=>z.imm m) G,z00 (λ _ _ z=>z.imm m) E,z00 (λ _ _ z=>z.imm m) F,z00 (λ _ _ z=>z00 (λ _ _ z=>z.imm m) z) L,?_⟩,λ j r e=>?_,by rw [U0];exact h.el.1,by rw [U0];exact h.el.2.1,h.el.2.2⟩
 ·have J:=z00 (λ _ _ z=>z00 (λ _ _ z=>HdAt.imm m z) z) t;refine z1j (by rw [U0,U0];exact z03 t) λ j x y d f=>?_;by_cases z:j=k
  ·subst z;rw [Q0 u] at d;rw [Q0 (by have:=(List.getElem?_eq_some_iff.mp f).1;rw [U0] at this;exact this)] at f;cases d;cases f;exact a _ m
  ·rw [D2 (A2 z)] at d f;obtain ⟨P,C,N⟩:=z0o J d;rw [f] at C;cases C;exact N
 ·by_cases z:j=k
  ·subst z;rw [Q0 u] at e;cases e;obtain ⟨q,s,d,f,p⟩:=h.er j er hk;exact ⟨q,s,d,f,p.imm m⟩
  ·rw [D2 (A2 z)] at e;obtain ⟨q,s,d,f,p⟩:=h.er j r e;exact ⟨q,s,d,f,p.imm m⟩
theorem Cp.make {K:j0} {B H:Hp} {cx st lf id lt ev e hl:Addr} {bs es hls:List Addr} {M:CM} {er:Er} (h:Cp K B H cx st lf id lt ev bs es hls M) (he:ErAt K H er e hl) (hh:er.heard=[]) (el:H hl=some (.lst [])) (nl:hl∉st :: lf :: id :: lt :: ev :: (bs++hls)) (fl:B hl=none):Cp K B H cx st lf id lt ev bs (es++[e]) (hls++[hl]) (M.make er):=by
 obtain ⟨q,n,s,o,l,x,u,j,d,g,v,c⟩:=h.ct;have m:=x.snoc el nl fl;refine ⟨h.ins,⟨q,n,s,o,l++[[]],?_,u,j,z00 (λ _ _ z=>z.more e) d,g,v,z1q c (by rw [hh];exact .nil)⟩,λ k r a=>?_,?_⟩
 ·rw [<-T2,<-T2];exact m
 ·have a:(M.ers++[er])[k]? = some r:=a;by_cases z:k < M.ers.length
  ·rw [K1 z] at a;obtain ⟨t,p,w,f,i⟩:=h.er k r a;exact ⟨t,p,by rw [K1 (by rw [h.el.1];exact z)];exact w,by rw [K1 (by rw [h.el.2.1];exact z)];exact f,i⟩
  ·rw [A1 (by omega)] at a;have b:k - M.ers.length=0:=by have:=(List.getElem?_eq_some_iff.mp a).1;simp only [A4] at this;omega
   rw [b] at a;cases a;exact ⟨e,hl,by rw [A1 (by rw [h.el.1];omega),h.el.1,b];rfl,by rw [A1 (by rw [h.el.2.1];omega),h.el.2.1,b];rfl,he⟩
 ·refine ⟨?_,?_,h.el.2.2⟩
  ·show (es++[e]).length=(M.ers++[er]).length;rw [I0,I0,h.el.1];rfl
  ·show (hls++[hl]).length=(M.ers++[er]).length;rw [I0,I0,h.el.2.1];rfl
theorem lk_eq {f:Str} {v:V} {fs:List (Str×V)}:(putF f v fs).lookup f=some v:=by rw [z2y,if_pos rfl]
theorem lk_ne {f g:Str} {v:V} {fs:List (Str×V)} (h:g≠f):(putF f v fs).lookup g=fs.lookup g:=by rw [z2y,if_neg h]
theorem lk_n {f g:Str} {v:V} {fs:List (Str×V)} {o:Option V} (e:fs.lookup g=o) (h:g≠f:=by decide +kernel):(putF f v fs).lookup g=o:=(lk_ne h).trans e
theorem z5g {x dx:Addr} {o1 o2:HO} {H H':Hp} (hx:H x=none) (hd:H dx=none) (k:Kept x (upd (upd H dx o1) x o2) H'):Same H H':=λ p o e=>by
 have a:p≠x:=λ z=>by rw [z,hx] at e;cases e
 have b:p≠dx:=λ z=>by rw [z,hd] at e;cases e
 exact k p o a (by rw [upd_ne a,upd_ne b];exact e)
def z17:Sp:=λ vs H Q _=>∃(x dx:Addr) (hv dv kv:V),vs=[.ref x,hv,dv,kv]/\H x=some (.ins 279 dx [])/\∀hl fs H',Kept x H H'->H hl=none->H' hl=some (.lst [])->H' x=some (.ins 279 dx fs)->fs.lookup ("hand" : Str)=some hv->fs.lookup ("deed" : Str)=some dv->fs.lookup ("kept" : Str)=some kv->fs.lookup ("heard" : Str)=some (V.ref hl)->Q .non H'
theorem zgu (T:TX (kx w) mg):Fo P w mg base (CXE P w base) 1 276 y02 ["self","hand","deed","kept"] z17:=by
 refine (z2d w.params).okE z4g (λ C H Q E h=>?_) (λ N A K s H C Q E L h=>?_)
 ·obtain ⟨x,t,m,D,I,rfl,_⟩:=h;rfl
 ·obtain ⟨x,t,m,D,I,rfl,F,q⟩:=h;refine ⟨_,(z02 (ps_fld (pv 0) (pv 1) rfl)
   (z02 (ps_fld (pv 0) (pv 2) rfl)
   (z02 (ps_fld (pv 0) (pv 3) rfl)
   (z05 (ps_fld (pv 0) (pe_lst pa_nil) rfl))))),?_⟩
  refine z31 ⟨_,rfl,z19 Kept.refl F rfl (z0g _) (z0u _) (n:=0) (J0 _) (by decide) λ M B _ G a=>?_⟩;refine z31 ⟨_,rfl,z19 B G rfl (z0g _) (z0t _) a (by decide) λ J u _ k a=>?_⟩;refine z31 ⟨_,rfl,z19 u k rfl (z0g _) (z0x _) a (by decide) λ j f _ g a=>?_⟩;refine zez ⟨w_0,λ b c=>?_⟩;have d:=Same.upd (o:=.lst []) c;have i:upd j b (.lst []) b=some (.lst []):=z04;have e:b≠x:=λ z=>by rw [z,g] at c;cases c
  have l:H b=none:=by
   cases z:H b with
   | none=>rfl
   | some o=>rw [f b o e z] at c;cases c
  generalize upd j b (.lst [])=H4 at d i⊢;refine z19 (f.trans d.kept) (d _ _ g) rfl (z0g _) (z1b _) a (by decide) λ p r y v a=>?_;exact q b _ p r l (y _ _ e i) v (lk_n (lk_n (lk_n lk_eq))) (lk_n (lk_n lk_eq)) (lk_n lk_eq) lk_eq
def z18:Sp:=λ vs H Q _=>∃(x dx:Addr) (ev nv hv:V),vs=[.ref x,ev,nv,hv]/\H x=some (.ins 300 dx [])/\∀fs H',Kept x H H'->H' x=some (.ins 300 dx fs)->fs.lookup ("errand" : Str)=some ev->fs.lookup ("number" : Str)=some nv->fs.lookup ("held" : Str)=some hv->Q .non H'
theorem zhd (T:TX (kx w) mg):Fo P w mg base (CXE P w base) 1 297 y03 ["self","errand","number","held"] z18:=by
 refine (z2e w.params).okE z4p (λ j H Q E h=>?_) (λ y A t s H j Q E u h=>?_)
 ·obtain ⟨x,f,c,k,p,rfl,_⟩:=h;rfl
 ·obtain ⟨x,f,c,k,p,rfl,l,q⟩:=h;refine ⟨_,(z02 (ps_fld (pv 0) (pv 1) rfl)
   (z02 (ps_fld (pv 0) (pv 2) rfl)
   (z05 (ps_fld (pv 0) (pv 3) rfl)))),?_⟩
  refine z31 ⟨_,rfl,z19 Kept.refl l rfl (z1r _) (z1l _) (n:=0) (J0 _) (by decide) λ v i _ o a=>?_⟩;refine z31 ⟨_,rfl,z19 i o rfl (z1r _) (z2l _) a (by decide) λ r g _ b a=>?_⟩;refine zez ⟨_,rfl,z19 g b rfl (z1r _) (z21 _) a (by decide) λ m d _ e a=>?_⟩;exact q _ m d e (lk_n (lk_n lk_eq)) (lk_n lk_eq) lk_eq
def z1h (K:j0):Sp:=λ vs H Q _=>∃(cx ea:Addr) (B:Hp) (st lf id lt ev:Addr) (bs es hls:List Addr) (M:CM) (e:Nat),vs=[.ref cx,.ref ea]/\Cp K B H cx st lf id lt ev bs es hls M/\es[e]? = some ea/\Same B H/\M.stock.length<=5/\M.letters.length<=10000/\
 ∀H',Same B H'->Cp K B H' cx st lf id lt ev bs es hls (M.send e)->Q .non H'
theorem z7y (T:TX (kx w) mg) (c0:Fo P w mg base (CXE P w base) 1 297 y03 ["self","errand","number","held"] z18):Fo P w mg base CX0 3 335 y08 ["self","errand"] (z1h (kx w)):=by
 refine (z56 w.params).ok sc_Copies_send (λ vs H Q E h=>?_) (λ a5 A a4 s H vs Q E hr h=>?_)
 ·obtain ⟨b,p,B,r,K,id,lt,v,bs,D,C,M,e,rfl,_⟩:=h;rfl
 ·obtain ⟨b,p,B,r,K,id,lt,v,bs,D,C,M,e,rfl,o,he,sB,n5,n4,q⟩:=h;refine ⟨_,(z05 (ps_for w4 rfl (z1c rfl (T.no (z36 _)) (z01 (z08 z0r rfl (T.no (n_len _)) X2 (z01 (pe_fld (pv 0) rfl) pa_nil)) pa_nil)) (z0s (i:=2) sc_Copies_send.nd rfl (Z1 rfl))
   (z05 (z0d (z0v (pe_fld (pv 0) rfl) (z01 (z72 (zbo _) c0 (hr.mono (by decide)) rfl (T.of (zem _)) (z2g _) .nil passN (z01 (pv 1) (z01 (pv 2) (z01 pe_non pa_nil)))) pa_nil)))))),?_⟩
  obtain ⟨j,fs,u,G,L,i4,S,F,R,i8⟩:=o.ins;obtain ⟨l,a,vv,a2,a0,f,c2,I,g,U,c6,N⟩:=o.ct;have a1:l.length=M.stock.length:=z03 I;refine ⟨_,rfl,b,_,j,fs,_,rfl,u,z09 _,z0q _,G,.inl ⟨r,l,rfl,.inl (SqL.of (f.at (i:=0) rfl rfl)),_,rfl,by omega,by omega,?_⟩⟩;rw [a7,a1];refine z44 (lo:=0) (n:=M.stock.length) (λ i σ t=>∃x2,Same B t/\Cp (kx w) B t b r K id lt v bs D C { M with letters:=M.letters++(O0 i).map λ k=>⟨e,k,none⟩ }/\σ=[some (.ref b),some (.ref p),x2]) ⟨_,sB,?_,rfl⟩ ?_ ?_
  ·have em:({ M with letters:=M.letters++(O0 0).map λ k=>(⟨e,k,none⟩:Lt) }:CM)=M:=by rw [List.range_zero,w5,C3]
   rw [em];exact o
  ·rintro i σ c hi ⟨x2,s2,cp2,rfl⟩;rw [g9];refine g_name ?_;obtain ⟨j,fs,u,G,L,i4,S,F,R,i8⟩:=cp2.ins;obtain ⟨l,a,vv,a2,a0,f,c2,I,g,U,c6,N⟩:=cp2.ct;have y:c lt=some (.lst a):=f.at (i:=3) rfl rfl;have W:a.length<=10005:=by have:=z03 g;rw [this,I0,B0,W1];omega
   refine ⟨_,rfl,b,_,j,fs,_,rfl,u,z09 _,z0p _,F,.inl ⟨rfl,a,SqL.of y⟩,_,rfl,_,rfl,λ x J hx O ne=>?_⟩;refine ⟨x,J,_,_,_,rfl,z04,λ a3 H3 V X Y f2 f3=>⟨rfl,?_⟩⟩;have d:Same c H3:=z5g hx O V;have Z:=cp2.same d;refine ⟨lt,a,_,rfl,rfl,d _ _ y,Y0 W (by decide),?_⟩;refine ⟨_,Same.keep (s2.trans d) (f.fr lt (by simp)),?_,rfl⟩;have:=Z.setL (Ls':=M.letters++(O0 (i + 1)).map λ k=>⟨e,k,none⟩) (lv':=a++[.ref x]) λ t m=>?_
   ·exact this
   ·rw [K7,P1,<-T2];exact z1q (z00 (λ _ _ z=>(z.imm (Imm.of d)).imm m) g) ⟨x,J,a3,p,.non,rfl,m.i _ _ _ _ X,he,Y,f2,f3,rfl⟩
  ·rintro σ c ⟨x2,s2,cp2,rfl⟩;exact q c s2 cp2
def z14 (K:j0):Sp:=λ vs H Q _=>∃(cx ea:Addr) (wd:Int) (B:Hp) (st lf id lt ev:Addr) (bs es hls:List Addr) (M:CM) (e:Nat) (er:Er),vs=[.ref cx,.ref ea,.int wd]/\Cp K B H cx st lf id lt ev bs es hls M/\es[e]? = some ea/\M.ers[e]? = some er/\er.hand < M.idle.length/\Same B H/\M.events.length<=10000/\
 ∀H',Same B H'->Cp K B H' cx st lf id lt ev bs es hls (M.stop er wd)->Q .non H'
theorem z4r (T:TX (kx w) mg):Fo P w mg base CX0 1 370 y04 ["self","errand","worth"] (z14 (kx w)):=by
 refine (z2c w.params).ok z4m (λ vs H Q E h=>?_) (λ a4 A a5 s H vs Q E hr h=>?_)
 ·obtain ⟨F,x,n,B,st,lf,id,lt,l,bs,es,a1,M,e,b,rfl,_⟩:=h;rfl
 ·obtain ⟨F,x,n,B,st,lf,id,lt,l,bs,es,a1,M,e,b,rfl,r,he,Z,hh,sB,n4,q⟩:=h;refine ⟨_,(z02 (ps_asg pe_bl (pg_sub (pe_fld (pv 0) rfl) (pe_fld (pv 1) rfl) z3i))
   (z05 (z0d (z0v (pe_fld (pv 0) rfl) (z01 (pe_tup (z01 pe_str (z01 (pe_fld (pv 1) rfl) (z01 (zjo (z0b opEq (pe_ix ix_seq (pe_fld (pv 1) rfl) pe_int (λ _ _=>rfl)) pe_str (nomark _)) pe_str (pv 2)) pa_nil)))) pa_nil))))),?_⟩
  obtain ⟨W,fs,N,i2,i3,i4,Y,i6,i7,i8⟩:=r.ins;obtain ⟨L,hl,K,e2,C,G,dv,kv,y,X,j3,j4,j5,j6,j7⟩:=r.er e b Z;rw [he] at K;cases K;obtain ⟨sv,lv,g,a2,a3,u,c2,c3,c4,S,c6,c7⟩:=r.ct;have R:H id=some (.lst (M.idle.map V.bl)):=u.at (i:=2) rfl rfl;refine ⟨_,rfl,F,_,W,fs,_,rfl,N,z09 _,z1g _,Y,_,rfl,x,_,C,G,_,rfl,y,z0g _,z0u _,X,id,_,_,b.hand,rfl,rfl,R,z69 (by rw [B0];exact hh),?_⟩;have J:=r.setI (I':=M.idle.set b.hand true) (iv:=(M.idle.map V.bl).set b.hand (.bl true)) (by rw [U5]);have k:Imm H (upd H id (.lst ((M.idle.map V.bl).set b.hand (.bl true)))):=Imm.lst R;have U:Same B (upd H id (.lst ((M.idle.map V.bl).set b.hand (.bl true)))):=Same.keep sB (u.fr id (by simp));have v:=(u.set (i:=2) (c:=(M.idle.map V.bl).set b.hand (.bl true)) rfl).at (i:=4) rfl rfl;generalize upd H id (.lst ((M.idle.map V.bl).set b.hand (.bl true)))=H1 at J k U v⊢;refine t_nx ?_;have O:g.length<=10000:=by rw [z03 S];exact n4
  obtain ⟨p,rfl,ep⟩:=j4;refine ⟨_,rfl,F,_,W,fs,_,rfl,k.i _ _ _ _ N,z09 _,z10 _,i7,.inl ⟨rfl,g,SqL.of v⟩,_,rfl,x,_,C,G,_,rfl,k.i _ _ _ _ y,z0g _,z0u _,X,?_⟩;refine ⟨_,rfl,x,_,C,G,_,rfl,k.i _ _ _ _ y,z0g _,z0t _,j3,.inr (.inl ⟨p,_,0,.str (vbD b.deed),rfl,rfl,SqT.of (k.t _ _ ep),z06 (j:=0) rfl,rfl,_,rfl,?_⟩)⟩;have I :∀(a:V),a=avD (ansC b.deed n)->∀d,H1 d=none->Q .non (upd (upd H1 d (.tup [.str "end",.int b.hand,a])) l (.lst (g++[.ref d]))):=λ a L d f=>by subst L;have D:=Same.upd (o:=.tup [.str "end",.int b.hand,avD (ansC b.deed n)]) f;have a0:=J.same D;refine q _ (Same.keep (U.trans D) (u.fr l (by simp))) (a0.setV (E':=M.events++[.fin b.hand (ansC b.deed n)]) (vv':=g++[.ref d]) λ H' m=>?_);exact z1q (z00 (λ _ _ z=>z.imm (k.trans ((Imm.of D).trans m))) S) ⟨d,rfl,m.t _ _ z04⟩
  cases hd:b.deed with
  | none=>refine iteK ⟨_,rfl,w_3,λ d f=>?_⟩;refine ⟨l,g,_,rfl,rfl,(Same.upd f) _ _ v,Y0 O (by decide),I _ (by rw [hd];rfl) d f⟩
  | some i=>refine iteP (show decide (V.str "write" = V.str "write")=true by decide +kernel) ⟨w_3,λ d f=>?_⟩;refine ⟨l,g,_,rfl,rfl,(Same.upd f) _ _ v,Y0 O (by decide),I _ (by rw [hd];rfl) d f⟩
theorem z82 {H:Hp} {a b:Addr} {o:HO} (h:upd H a o b=none):b≠a/\H b=none:=by
 have n:b≠a:=λ z=>by rw [z,z04] at h;cases h
 rw [upd_ne n] at h;exact ⟨n,h⟩
theorem z4l {K:j0} {H:Hp} :∀{hs:List Hd} {vs:List V},All2 (HdAt K H) hs vs->∃ps:List (Addr×Hd),vs=ps.map (λ x=>V.ref x.1)/\ps.map (·.2)=hs/\∀x∈ps,∃q,SqT K H x.1 [.ref q,.int x.2.2]/\SqT K H q [.int x.2.1.1,.int x.2.1.2]
 | _,_,.nil=>⟨[],rfl,rfl,λ _ h=>nomatch h⟩
 | x :: _,_,.cons a r=>by
  obtain ⟨ps,c,d,g⟩:=z4l r;obtain ⟨p,q,rfl,f,e⟩:=a;refine ⟨(p,x) :: ps,by rw [c];rfl,by rw [L1,d],λ y b=>?_⟩;rcases List.mem_cons.mp b with rfl|b
  ·exact ⟨q,f,e⟩
  ·exact g y b
theorem zj3 {d:Option Int}:decide (V.str (vbD d)=V.str "write")=d.isSome:=by
 cases d with
 | none=>decide +kernel
 | some i=>exact (show decide (V.str "write" = V.str "write")=true by decide +kernel)
def z0y (K:j0):Sp:=λ vs H Q _=>∃(cx ea:Addr) (B:Hp) (st lf id lt ev:Addr) (bs es hls:List Addr) (M:CM) (e:Nat) (er:Er),vs=[.ref cx,.ref ea]/\Cp K B H cx st lf id lt ev bs es hls M/\es[e]? = some ea/\M.ers[e]? = some er/\er.heard≠[]/\er.hand < M.idle.length/\Same B H/\M.stock.length<=5/\M.letters.length<=10000/\M.events.length<=10000/\
 ∀es' hls' H',Same B H'->Cp K B H' cx st lf id lt ev bs es' hls' (M.ask er)->(∀(k:Nat) a,es[k]? = some a->es'[k]? = some a)->Q .non H'
theorem z1o (T:TX (kx w) mg) (c0:Fo P w mg base (CXE P w base) 1 276 y02 ["self","hand","deed","kept"] z17) (c8:Fo P w mg base CX0 3 335 y08 ["self","errand"] (z1h (kx w))) (c9:Fo P w mg base CX0 1 370 y04 ["self","errand","worth"] (z14 (kx w))):Fo P w mg base CX0 4 363 y00 ["self","errand"] (z0y (kx w)):=by
 refine (z0z w.params).ok sc_Copies_go_on_from_asking (λ vs H Q E h=>?_) (λ b9 A d0 s H vs Q E G h=>?_)
 ·obtain ⟨v,l,B,st,lf,id,lt,Y,bs,es,U,M,e,er,rfl,_⟩:=h;rfl
 ·obtain ⟨v,l,B,st,lf,id,lt,Y,bs,es,U,M,e,er,rfl,F,he,a3,b2,hh,sB,n5,nl,nv,q⟩:=h;refine ⟨_,(z02 (ps_set (i:=2) sc_Copies_go_on_from_asking.nd rfl (Z1 rfl) (z08 (zby rfl G) rfl (T.no (n_max _)) boot_max (z01 (pe_fld (pv 1) rfl) pa_nil)))
   (z05 (ps_if (z0b opEq (pe_ix ix_seq (pe_fld (pv 1) rfl) pe_int (λ _ _=>rfl)) pe_str (nomark _))
   (z05 (z0d (z2m (pv 0) (z09 _) (z29 _) c8 (G.mono (by decide)) (z2u _) .nil pass0 (z01 (z72 (z7k _) c0 (G.mono (by decide)) rfl (T.of (za1 _)) (z1f _) .nil passN (z01 (pe_fld (pv 1) rfl) (z01 (pe_fld (pv 1) rfl) (z01 (pe_tup (z01 (pe_tup (z01 (pe_op opAdd (pe_ix ix_seq (pe_ix ix_seq (pv 2) pe_int (λ _ _=>rfl)) pe_int (λ _ _=>rfl)) pe_int) (z01 (pe_fld (pv 1) rfl) pa_nil))) (z01 (pe_ix ix_seq (pe_fld (pv 1) rfl) pe_int (λ _ _=>rfl)) pa_nil))) pa_nil)))) pa_nil))))
   (z05 (ps_if (pt_val (pe_fld (pv 0) rfl) (λ _=>rfl))
   (z05 (z0d (z2m (pv 0) (z09 _) (z29 _) c8 (G.mono (by decide)) (z2u _) .nil pass0 (z01 (z72 (z7k _) c0 (G.mono (by decide)) rfl (T.of (za1 _)) (z1f _) .nil passN (z01 (pe_fld (pv 1) rfl) (z01 (pe_fld (pv 1) rfl) (z01 (pv 2) pa_nil)))) pa_nil))))
   (z05 (z0d (z2m (pv 0) (z09 _) (z1x _) c9 (G.mono (by decide)) (z2a _) .nil pass0 (z01 (pv 1) (z01 (pe_ix ix_seq (pv 2) pe_int (λ _ _=>rfl)) pa_nil)))))))))),?_⟩
  obtain ⟨dx,fs,i1,i2,i3,i4,i5,i6,i7,i8⟩:=F.ins;obtain ⟨b8,hl,e1,e2,u,C,dv,kv,t,j2,j3,j4,j5,j6,j7⟩:=F.er e er a3;rw [he] at e1;cases e1;obtain ⟨sv,lv,vv,a9,b4,c1,c2,c3,c4,c5,c6,c7⟩:=F.ct;obtain ⟨hs,b6,ah⟩:=z0o c7 a3;have b0:H hl=some (.lst hs):=by
   refine c1.at (i:=bs.length + e + 5) ?_ ?_
   ·show (bs++U)[bs.length + e]? = some hl;rw [A1 (by omega),Y4];exact e2
   ·show (a9++b4)[bs.length + e]? = some hs;rw [A1 (by omega),c2,Y4];exact b6
  obtain ⟨ps,rfl,a1,a6⟩:=z4l ah;cases ps with
  | nil=>exact absurd a1.symm b2
  | cons m r=>
  refine z0e ⟨_,rfl,l,_,u,C,_,rfl,t,z0g _,z1b _,j7,hl,m,r,rfl,SqL.of b0,a6,λ b hb hg=>g_name ?_⟩;have a2:maxHd er.heard=b.2:=by rw [<-a1];refine zfe (P7 hb) λ x D=>?_;obtain ⟨y,hy,rfl⟩:=List.mem_map.mp D;exact hg y hy
  obtain ⟨bq,a4,a7⟩:=a6 b hb;obtain ⟨p,rfl,ep⟩:=j4;have b3 :∀{c:Addr},H c=none->c∉st :: lf :: id :: lt :: Y :: (bs++U):=λ z=>c1.not z;have go :∀(a0:V) (k':Hd) (n:Hp),Same H n->HdAt (kx w) n k' a0->M.ask er=(M.make ⟨er.hand,er.deed,some k',[]⟩).send M.ers.length->∀(x d:Addr),n x=none->n d=none->∀(c:Addr) (f:List (Str×V)) (g:Hp),Kept x (upd (upd n d (.own x)) x (.ins 279 d [])) g->upd (upd n d (.own x)) x (.ins 279 d []) c=none->g c=some (.lst [])->g x=some (.ins 279 d f)->f.lookup ("hand" : Str)=some (V.int er.hand)->f.lookup ("deed" : Str)=some (V.ref p)->f.lookup ("kept" : Str)=some a0->f.lookup ("heard" : Str)=some (V.ref c)->z1h (kx w) [.ref v,.ref x] g Q E0:=by intro a0 k' n s1 b1 ask x d D K c f g O X W L R N I S;have s3:Same n g:=z5g D K O;have b5:n c=none:=(z82 (z82 X).2).2;have fh:H c=none:=s1.free b5;have a5:=s1.trans s3;have b7:=(F.same a5).make (er:=⟨er.hand,er.deed,some k',[]⟩) (e:=x) (hl:=c) ⟨d,f,_,a0,L,R,N,⟨p,rfl,a5 _ _ ep⟩,I,b1.imm (Imm.of s3),S⟩ rfl W (b3 fh) (sB.free fh);refine ⟨v,x,B,st,lf,id,lt,Y,bs,es++[x],U++[c],_,M.ers.length,rfl,b7,by rw [A1 (by rw [F.el.1];exact J0 _),F.el.1,Y7];rfl,sB.trans a5,n5,nl,λ H' s' J=>?_⟩;rw [<-ask] at J;exact q _ _ H' s' J λ k a Z=>by rw [K1 (List.getElem?_eq_some_iff.mp Z).1];exact Z
  refine z1y ⟨_,rfl,l,_,u,C,_,rfl,t,z0g _,z0t _,j3,.inr (.inl ⟨p,_,0,.str (vbD er.deed),rfl,rfl,SqT.of ep,z06 (j:=0) rfl,rfl,_,rfl,?_⟩)⟩;rw [zj3];cases hd:er.deed with
  | some w0=>
   refine iteP rfl ?_;have ask:M.ask er=(M.make ⟨er.hand,er.deed,some (((maxHd er.heard).1.1 + 1,er.hand),w0),[]⟩).send M.ers.length:=by unfold CM.ask;rw [hd]
   rw [hd] at ep;refine ⟨_,rfl,v,dx,fs,rfl,i1,i8 _ (by decide +kernel),?_⟩;refine ⟨_,rfl,l,_,u,C,_,rfl,t,z0g _,z0u _,j2,_,rfl,l,_,u,C,_,rfl,t,z0g _,z0t _,j3,?_⟩;refine ⟨_,rfl,.inr (.inl ⟨b.1,_,0,.ref bq,rfl,rfl,a4,z06 (j:=0) rfl,.inr (.inl ⟨bq,_,0,.int b.2.1.1,rfl,rfl,a7,z06 (j:=0) rfl,.inl ⟨_,_,rfl,rfl,?_⟩⟩)⟩)⟩;refine ⟨_,rfl,l,_,u,C,_,rfl,t,z0g _,z0u _,j2,w_2,λ p1 a8=>?_⟩;have u1:=Same.upd (o:=.tup [.int (b.2.1.1 + 1),.int er.hand]) a8;refine ⟨_,rfl,l,_,u,C,_,rfl,u1 _ _ t,z0g _,z0t _,j3,.inr (.inl ⟨p,_,1,.int w0,rfl,rfl,SqT.of (u1 _ _ ep),z06 (j:=1) rfl,w_2,λ p2 a1=>?_⟩)⟩;have u2:=Same.upd (o:=.tup [.ref p1,.int w0]) a1;have Z:HdAt (kx w) (upd (upd H p1 (.tup [.int (b.2.1.1 + 1),.int er.hand])) p2 (.tup [.ref p1,.int w0])) (((maxHd er.heard).1.1 + 1,(er.hand:Int)),w0) (.ref p2):=⟨p2,p1,rfl,SqT.of z04,by rw [a2];exact SqT.of (u2 _ _ z04)⟩
   refine λ x d D K ne=>⟨x,d,_,_,_,rfl,z04,λ c f g O X W L R N I S=>⟨rfl,?_⟩⟩
   exact go _ _ _ (u1.trans u2) Z ask x d D K c f g O X W L R N I S
  | none=>
   refine iteN (by decide) ?_;refine z1y ⟨_,rfl,v,_,dx,fs,_,rfl,i1,z09 _,z46 _,i3,_,rfl,?_⟩;by_cases bk:M.back=true
   ·refine iteP bk ?_;have ask:M.ask er=(M.make ⟨er.hand,er.deed,some (maxHd er.heard),[]⟩).send M.ers.length:=by unfold CM.ask;rw [hd];exact if_pos bk
    refine ⟨_,rfl,v,dx,fs,rfl,i1,i8 _ (by decide +kernel),?_⟩;refine ⟨_,rfl,l,_,u,C,_,rfl,t,z0g _,z0u _,j2,_,rfl,l,_,u,C,_,rfl,t,z0g _,z0t _,j3,_,rfl,?_⟩;refine λ x d D K ne=>⟨x,d,_,_,_,rfl,z04,λ c f g O X W L R N I S=>⟨rfl,?_⟩⟩
    exact go _ _ _ (Same.refl _) ⟨b.1,bq,rfl,by rw [a2];exact a4,by rw [a2];exact a7⟩ ask x d D K c f g O X W L R N I S
   ·refine iteN bk ?_;have ask:M.ask er=M.stop er (maxHd er.heard).2:=by unfold CM.ask;rw [hd];exact if_neg bk
    refine ⟨_,rfl,v,dx,fs,rfl,i1,i8 _ (by decide +kernel),_,rfl,_,rfl,.inr (.inl ⟨b.1,_,1,.int b.2.2,rfl,rfl,a4,z06 (j:=1) rfl,?_⟩)⟩;refine ⟨v,l,b.2.2,B,st,lf,id,lt,Y,bs,es,U,M,e,er,rfl,F,he,a3,hh,sB,nv,λ H' s' J=>?_⟩;rw [<-a2,<-ask] at J;exact q _ _ H' s' J λ _ _ z=>z
theorem Cp.heard {K:j0} {B H:Hp} {cx st lf id lt ev:Addr} {bs es hls:List Addr} {M:CM} {e:Nat} {er:Er} {ea:Addr} (cp:Cp K B H cx st lf id lt ev bs es hls M) (he:es[e]? = some ea) (her:M.ers[e]? = some er) :∃hl hs,hls[e]? = some hl/\H hl=some (.lst hs)/\All2 (HdAt K H) er.heard hs/\ErAt K H er ea hl/\hl∈st :: lf :: id :: lt :: ev :: (bs++hls):=by
 obtain ⟨p,hl,c,a,i⟩:=cp.er e er her;rw [he] at c;cases c;obtain ⟨r,q,s,h,g,l,k,o,m,n,t,f⟩:=cp.ct;obtain ⟨hs,j,d⟩:=z0o f her;have b:(st :: lf :: id :: lt :: ev :: (bs++hls))[bs.length + e + 5]? = some hl:=by show (bs++hls)[bs.length + e]? = some hl;rw [A1 (by omega),Y4];exact a
 refine ⟨hl,hs,a,l.at b ?_,d,i,O1 b⟩;show (h++g)[bs.length + e]? = some hs;rw [A1 (by omega),k,Y4];exact j
theorem Cp.fr {K:j0} {B H:Hp} {cx st lf id lt ev:Addr} {bs es hls:List Addr} {M:CM} (cp:Cp K B H cx st lf id lt ev bs es hls M) {m:Addr} (hm:m∈st :: lf :: id :: lt :: ev :: (bs++hls)):B m=none:=by obtain ⟨d,b,e,c,f,a,_⟩:=cp.ct;exact a.fr m hm
def z1m (K:j0):Sp:=λ vs H Q _=>∃(cx ea:Addr) (hv:V) (B:Hp) (st lf id lt ev:Addr) (bs es hls:List Addr) (M:CM) (e:Nat) (er:Er) (x:Hd),vs=[.ref cx,.ref ea,hv]/\Cp K B H cx st lf id lt ev bs es hls M/\es[e]? = some ea/\M.ers[e]? = some er/\HdAt K H x hv/\er.hand < M.idle.length/\Same B H/\M.stock.length<=5/\M.letters.length<=10000/\M.events.length<=10000/\er.heard.length<=10000/\
 ∀es' hls' H',Same B H'->Cp K B H' cx st lf id lt ev bs es' hls' (M.comeBack e er x)->Q .non H'
theorem z3l (T:TX (kx w) mg) (c0:Fo P w mg base CX0 1 370 y04 ["self","errand","worth"] (z14 (kx w))) (c8:Fo P w mg base CX0 4 363 y00 ["self","errand"] (z0y (kx w))):Fo P w mg base CX0 5 356 y06 ["self","errand","held"] (z1m (kx w)):=by
 refine (z1p w.params).ok z3f (λ vs H Q E h=>?_) (λ a7 A a8 s H vs Q E hr h=>?_)
 ·obtain ⟨g,l,d,B,p,C,id,lt,t,bs,n,o,M,e,b,x,rfl,_⟩:=h;rfl
 ·obtain ⟨g,l,d,B,p,C,id,lt,t,bs,n,o,M,e,b,x,rfl,N,S,I,hx,Z,sB,n5,nl,Y,nh,q⟩:=h;refine ⟨_,(z02 (z0d (z0v (pe_fld (pv 1) rfl) (z01 (pv 2) pa_nil)))
   (z02 (ps_if (z0b opNe (z08 z0r rfl (T.no (n_len _)) X2 (z01 (pe_fld (pv 1) rfl) pa_nil)) (pe_op opAdd (pe_op z63 (z08 z0r rfl (T.no (n_len _)) X2 (z01 (pe_fld (pv 0) rfl) pa_nil)) pe_int) pe_int) (nomark _))
   (z05 z74)
   z0j)
   (z05 (ps_if (z0b z66 (pe_fld (pv 1) rfl) pe_non (nomark _))
   (z05 (z0d (z2m (pv 0) (z09 _) (z1x _) c0 (hr.mono (by decide)) (z2a _) .nil pass0 (z01 (pv 1) (z01 (pe_ix ix_seq (pe_fld (pv 1) rfl) pe_int (λ _ _=>rfl)) pa_nil)))))
   (z05 (z0d (z2m (pv 0) (z09 _) (z1n _) c8 (hr.mono (by decide)) (z1u _) .nil pass0 (z01 (pv 1) pa_nil)))))))),?_⟩
  obtain ⟨f,a,e2,K,ah,⟨y,G,dv,kv,v,j2,j3,j4,j5,u,j7⟩,mh⟩:=N.heard S I;have a1:a.length=b.heard.length:=z03 ah;refine ⟨_,rfl,l,_,y,G,_,rfl,v,z0g _,z1b _,j7,.inl ⟨rfl,a,SqL.of K⟩,_,rfl,f,a,_,rfl,rfl,K,Y0 (m:=10000) (by omega) (by decide),?_⟩;have r:Imm H (upd H f (.lst (a++[d]))):=Imm.lst K;have c:=N.setH (hd:=b.heard++[x]) (ys:=a++[d]) I e2 λ D m=>z1q (z00 (λ _ _ z=>z.imm m) ah) (hx.imm m);have F:Same B (upd H f (.lst (a++[d]))):=Same.keep sB (N.fr mh);have X:upd H f (.lst (a++[d])) f=some (.lst (a++[d])):=z04;generalize upd H f (.lst (a++[d]))=H1 at r c F X⊢;have c:Cp (kx w) B H1 g p C id lt t bs n o { M with ers:=M.ers.set e (b.hear x) }:=c;have kl:e < M.ers.length:=(List.getElem?_eq_some_iff.mp I).1;have a0:({ M with ers:=M.ers.set e (b.hear x) }:CM).ers[e]? = some (b.hear x):=Q0 kl;obtain ⟨R,fs,O,i2,i3,i4,i5,i6,i7,W⟩:=c.ins;obtain ⟨sv,lv,vv,a5,a6,c1,c2,c3,c4,c5,c6,c7⟩:=c.ct;have a4:sv.length=M.stock.length:=z03 c3;refine t_nx (sq_if ?_);refine ⟨_,rfl,l,_,y,G,_,rfl,r.i _ _ _ _ v,z0g _,z1b _,j7,.inl ⟨f,_,rfl,.inl (SqL.of X),?_⟩⟩;refine ⟨_,rfl,g,_,R,fs,_,rfl,O,z09 _,z0q _,i2,.inl ⟨p,sv,rfl,.inl (SqL.of (c1.at (i:=0) rfl rfl)),_,_,rfl,rfl,⟨by decide,by decide⟩,.inl ⟨_,_,rfl,rfl,rfl,_,rfl,?_⟩⟩⟩;have U:(b.hear x).heard.length=a.length + 1:=by show (b.heard++[x]).length=_;rw [I0,a1];rfl
  have ll:(a++[d]).length=a.length + 1:=by rw [I0];rfl
  rw [ll,a4];unfold CM.comeBack at q;by_cases ne:(b.hear x).heard.length≠M.stock.length / 2 + 1
  ·rw [if_pos ne] at q;refine iteP ?_ (q n o H1 F c);have:V.int ((a.length + 1:Nat):Int)≠V.int ((M.stock.length:Int) / 2 + 1):=λ z=>by injection z with z;rw [U] at ne;omega
   simpa using this
  rw [if_neg ne] at q;refine iteN ?_ (t_nx ?_)
  ·have:V.int ((a.length + 1:Nat):Int)=V.int ((M.stock.length:Int) / 2 + 1):=by congr 1;rw [U] at ne;omega
   simpa using this
  refine z1y ⟨_,rfl,l,_,y,G,_,rfl,r.i _ _ _ _ v,z0g _,z0x _,j5,rfl,_,rfl,?_⟩;cases hk:b.kept with
  | some k=>
   rw [hk] at q u;obtain ⟨kp,kq,rfl,k1,k2⟩:=(show HdAt (kx w) H k kv from u)
   refine iteP (by simp) ?_;refine ⟨_,rfl,g,R,fs,rfl,O,W _ (by decide +kernel),_,rfl,_,rfl,l,_,y,G,_,rfl,r.i _ _ _ _ v,z0g _,z0x _,j5,.inr (.inl ⟨kp,_,1,.int k.2,rfl,rfl,r.seqT k1,z06 (j:=1) rfl,?_⟩)⟩;exact ⟨g,l,k.2,B,p,C,id,lt,t,bs,n,o,_,e,_,rfl,c,S,a0,Z,F,Y,λ D L J=>q n o D L J⟩
  | none=>rw [hk] at q u;cases (show kv=.non from u);refine iteN (by simp) ?_;refine ⟨_,rfl,g,R,fs,rfl,O,W _ (by decide +kernel),_,rfl,?_⟩;exact ⟨g,l,B,p,C,id,lt,t,bs,n,o,_,e,_,rfl,c,S,a0,(by show b.heard++[x]≠[];simp),Z,F,n5,nl,Y,λ a3 a2 D L J _=>q a3 a2 D L J⟩
theorem zg9 {α:Type} {R:α->V->Prop} {xs:List α} {ys:List V} {n:Nat} {x:α} {y:V} (h:All2 R xs ys) (r:R x y):All2 R (xs.set n x) (ys.set n y):=by
 induction h generalizing n with
 | nil=>exact .nil
 | cons a t ih=>
  cases n with
  | zero=>exact .cons r t
  | succ n=>exact .cons a ih
def z13 (K:j0):Sp:=λ vs H Q _=>∃(cx ea:Addr) (n:Nat) (B:Hp) (st lf id lt ev:Addr) (bs es hls:List Addr) (M:CM) (e:Nat) (er:Er) (x:Hd),vs=[.ref cx,.ref ea,.int n]/\Cp K B H cx st lf id lt ev bs es hls M/\es[e]? = some ea/\M.ers[e]? = some er/\M.stock[n]? = some x/\Same B H/\M.letters.length<=10000/\
 ∀H',Same B H'->Cp K B H' cx st lf id lt ev bs es hls (M.comeTo e er n x)->Q .non H'
theorem z2i (T:TX (kx w) mg) (c0:Fo P w mg base (CXE P w base) 1 297 y03 ["self","errand","number","held"] z18):Fo P w mg base CX0 3 349 y01 ["self","errand","number"] (z13 (kx w)):=by
 refine (z1d w.params).ok z2j (λ vs H Q E h=>?_) (λ b7 A b9 s H vs Q E hr h=>?_)
 ·obtain ⟨b,d,n,B,c,K,id,lt,D,bs,N,S,M,e,a,x,rfl,_⟩:=h;rfl
 ·obtain ⟨b,d,n,B,c,K,id,lt,D,bs,N,S,M,e,a,x,rfl,p,he,a2,y,sB,nl,q⟩:=h;refine ⟨_,(z02 (ps_if (PW.pt (pw_and (z0b z66 (pe_fld (pv 1) rfl) pe_non (nomark _)) (z4z (z0b (op_gtT hr) (pe_ix ix_seq (pe_fld (pv 1) rfl) pe_int (λ _ _=>rfl)) (pe_ix ix_seq (pe_ix ix_seq (pe_fld (pv 0) rfl) (pv 2) (λ _ _=>rfl)) pe_int (λ _ _=>rfl)) (nomark _)))))
   (z05 (ps_asg (pe_fld (pv 1) rfl) (pg_sub (pe_fld (pv 0) rfl) (pv 2) z3i)))
   z0j)
   (z05 (z0d (z0v (pe_fld (pv 0) rfl) (z01 (z72 (zbo _) c0 (hr.mono (by decide)) rfl (T.of (zem _)) (z2g _) .nil passN (z01 (pv 1) (z01 (pv 2) (z01 (pe_ix ix_seq (pe_fld (pv 0) rfl) (pv 2) (λ _ _=>rfl)) pa_nil)))) pa_nil))))),?_⟩
  obtain ⟨hl,hs,e2,b4,ah,⟨J,W,dv,kv,I,j2,j3,j4,L,v,j7⟩,mh⟩:=p.heard he a2;obtain ⟨t,fs,r,C,i3,i4,i5,i6,i7,i8⟩:=p.ins;obtain ⟨u,lv,vv,b3,b6,c1,c2,c3,c4,c5,c6,c7⟩:=p.ct;have Z:H c=some (.lst u):=c1.at (i:=0) rfl rfl;obtain ⟨sx,a0,G,xq,rfl,x1,x2⟩:=z0o c3 y;have a5:atI u (n:Nat)=some (.ref G):=z06 a0;have hn:n < u.length:=(List.getElem?_eq_some_iff.mp a0).1;refine zdw (λ f g=>Same B g/\Cp (kx w) B g b c K id lt D bs N S { M with stock:=M.stock.set n (keepH a.kept x) }/\Imm H g/\f=[some (.ref b),some (.ref d),some (.int n)]) ?_ (λ U=>?_)
  ·rintro f g ⟨s1,cp1,m1,rfl⟩;obtain ⟨t,fs,r,C,i3,i4,i5,i6,i7,i8⟩:=cp1.ins;obtain ⟨b0,o,b8,b2,b5,X,d2,d3,d4,d5,d6,d7⟩:=cp1.ct;have b1:(M.stock.set n (keepH a.kept x))[n]? = some (keepH a.kept x):=Q0 (List.getElem?_eq_some_iff.mp y).1;obtain ⟨Y,a8,hy⟩:=z0o d3 b1;have el:g lt=some (.lst o):=X.at (i:=3) rfl rfl;have ll:o.length<=10000:=by rw [z03 d4];exact nl
   refine ⟨_,rfl,b,_,t,fs,_,rfl,r,z09 _,z0p _,i6,.inl ⟨rfl,o,SqL.of el⟩,_,rfl,_,rfl,_,rfl,b,_,t,fs,_,rfl,r,z09 _,z0q _,C,_,rfl,.inl ⟨c,b0,_,Y,rfl,rfl,SqL.of (X.at (i:=0) rfl rfl),z06 a8,λ R a1 a3 a4 ne=>?_⟩⟩;refine ⟨R,a1,_,_,_,rfl,z04,λ a6 H3 k3 e3 f1 f2 f3=>⟨rfl,?_⟩⟩;have l:Same g H3:=z5g a3 a4 k3;have a9:=cp1.same l;refine ⟨lt,o,_,rfl,rfl,l _ _ el,Y0 ll (by decide),?_⟩;refine q _ (Same.keep (s1.trans l) (X.fr lt (by simp))) ?_;exact a9.setL (Ls':=M.letters++[⟨e,n,some (keepH a.kept x)⟩]) (lv':=o++[.ref R]) λ H' m=>z1q (x:=(⟨e,n,some (keepH a.kept x)⟩:Lt)) (z00 (λ _ _ z=>(z.imm (Imm.of l)).imm m) d4) ⟨R,a1,a6,d,Y,rfl,m.i _ _ _ _ e3,he,f1,f2,f3,(show OptHd (kx w) H' (some (keepH a.kept x)) Y from (hy.imm (Imm.of l)).imm m)⟩
  ·have same:keepH a.kept x=x->∀f,f=[some (V.ref b),some (V.ref d),some (V.int n)]->Same B H/\Cp (kx w) B H b c K id lt D bs N S { M with stock:=M.stock.set n (keepH a.kept x) }/\Imm H H/\f=[some (V.ref b),some (V.ref d),some (V.int n)]:=λ F f a7=>by
    have e0:M.stock.set n (keepH a.kept x)=M.stock:=by
     rw [F];apply List.ext_getElem?;intro j;by_cases z:j=n
     ·subst z;rw [Q0 (List.getElem?_eq_some_iff.mp y).1,y]
     ·rw [D2 (A2 z)]
    refine ⟨sB,?_,Imm.of (Same.refl _),a7⟩;rw [e0];exact p
   refine z1y ⟨_,rfl,d,_,J,W,_,rfl,I,z0g _,z0x _,L,rfl,_,rfl,?_⟩;cases hk:a.kept with
   | none=>rw [hk] at v;cases (show kv=.non from v);exact iteN (by simp) (U _ _ (same (by rw [hk];rfl) _ rfl))
   | some k=>
    rw [hk] at v;obtain ⟨kp,O,rfl,k1,k2⟩:=(show HdAt (kx w) H k kv from v)
    refine iteP (by simp) ?_;refine ⟨_,rfl,d,_,J,W,_,rfl,I,z0g _,z0x _,L,.inr (.inl ⟨kp,_,0,.ref O,rfl,rfl,k1,z06 (j:=0) rfl,?_⟩)⟩;refine ⟨_,rfl,b,_,t,fs,_,rfl,r,z09 _,z0q _,C,_,rfl,.inl ⟨c,u,_,.ref G,rfl,rfl,SqL.of Z,a5,.inr (.inl ⟨G,_,0,.ref xq,rfl,rfl,x1,z06 (j:=0) rfl,?_⟩)⟩⟩;refine ⟨O,xq,k.1,x.1,rfl,rfl,k2,x2,_,rfl,?_⟩;by_cases gt:gtI k.1 x.1=true
    ·refine iteP gt ?_;refine ⟨_,rfl,d,_,J,W,_,rfl,I,z0g _,z0x _,L,_,rfl,b,_,t,fs,_,rfl,r,z09 _,z0q _,C,_,rfl,c,u,_,n,rfl,rfl,Z,z69 hn,?_⟩;refine U _ _ ⟨Same.keep sB (c1.fr c (by simp)),p.setS λ H' m=>?_,Imm.lst Z,rfl⟩;have F:keepH a.kept x=k:=by rw [hk];exact if_pos gt
     rw [F];exact zg9 (z00 (λ _ _ z=>z.imm m) c3) ⟨kp,O,rfl,m.seqT k1,m.seqT k2⟩
    ·exact iteN gt (U _ _ (same (by rw [hk];exact if_neg gt) _ rfl))
theorem z25 {X:Cx} {K:j0} (hK:X.K=K):CallR X (.builtin "len") (λ xs H Q=>(∃p ys,xs=[.ref p]/\(SqL K H p ys\/SqT K H p ys)/\Q (.int ys.length) H)\/∃z,xs=[.str z]/\z.length<=sizeLine/\Q (.int z.length) H):=hK ▸ z0r
theorem z7v {j n:Nat} (h:j < n):PySem.seqIndex? (j:Int) n=some j:=by
 unfold PySem.seqIndex?;have:¬ ((j:Int) < 0):=by omega
 simp only [if_neg this];rw [if_pos (by simp [h])];rfl
def z34 (K:j0):Sp:=λ vs H Q _=>∃(cx:Addr) (v:V) (B:Hp) (st lf id lt ev:Addr) (bs es hls:List Addr) (M:CM) (L:Lt) (er:Er) (x:Hd),vs=[.ref cx,v]/\Cp K B H cx st lf id lt ev bs es hls M/\LtAt K H es L v/\M.ers[L.e]? = some er/\M.stock[L.num]? = some x/\er.hand < M.idle.length/\Same B H/\M.stock.length<=5/\M.letters.length<=10000/\M.events.length<=10000/\er.heard.length<=10000/\
 ∀es' hls' H',Same B H'->Cp K B H' cx st lf id lt ev bs es' hls' (M.come L)->Q .non H'
theorem z6m (T:TX (kx w) mg) (c0:Fo P w mg base CX0 3 349 y01 ["self","errand","number"] (z13 (kx w))) (c1:Fo P w mg base CX0 5 356 y06 ["self","errand","held"] (z1m (kx w))):Fo P w mg base CX0 6 342 y0b ["self","letter"] (z34 (kx w)):=by
 refine (z42 w.params).ok z6o (λ vs H Q E h=>?_) (λ a2 A a1 s H vs Q E J h=>?_)
 ·obtain ⟨g,v,B,t,o,id,lt,l,bs,j,i,M,L,p,x,rfl,_⟩:=h;rfl
 ·obtain ⟨g,v,B,t,o,id,lt,l,bs,j,i,M,L,p,x,rfl,r,⟨f,c,d,O,k,rfl,b,D,S,V,N,a⟩,m,G,hh,R,n5,K,Z,X,q⟩:=h;refine ⟨_,(z05 (ps_if (z0b op_isN (pe_fld (pv 1) rfl) pe_non (nomark _))
   (z05 (z0d (z2m (pv 0) (z09 _) (z2k _) c0 (J.mono (by decide)) (z2w _) .nil pass0 (z01 (pe_fld (pv 1) rfl) (z01 (pe_fld (pv 1) rfl) pa_nil)))))
   (z05 (z0d (z2m (pv 0) (z09 _) (z3j _) c1 (J.mono (by decide)) (z3u _) .nil pass0 (z01 (pe_fld (pv 1) rfl) (z01 (pe_fld (pv 1) rfl) pa_nil))))))),?_⟩
  obtain ⟨F,fs,U,i2,i3,i4,i5,i6,i7,I⟩:=r.ins;refine z1y ⟨_,rfl,f,_,c,d,_,rfl,b,z1r _,z21 _,N,rfl,_,rfl,?_⟩;unfold CM.come at q;rw [m,G] at q;cases hk:L.held with
  | none=>rw [hk] at q a;cases (show k=.non from a);refine iteP (by simp) ?_;refine ⟨_,rfl,g,F,fs,rfl,U,I _ (by decide +kernel),_,rfl,f,_,c,d,_,rfl,b,z1r _,z1l _,S,_,rfl,f,_,c,d,_,rfl,b,z1r _,z2l _,V,?_⟩;exact ⟨g,O,L.num,B,t,o,id,lt,l,bs,j,i,M,L.e,p,x,rfl,r,D,m,G,R,K,λ u C n=>q j i u C n⟩
  | some y=>
   rw [hk] at q a;have a:HdAt (kx w) H y k:=a;have W:k≠.non:=λ z=>by obtain ⟨_,_,e,_⟩:=a;rw [z] at e;cases e
   refine iteN (by simpa using W) ?_;refine ⟨_,rfl,g,F,fs,rfl,U,I _ (by decide +kernel),_,rfl,f,_,c,d,_,rfl,b,z1r _,z1l _,S,_,rfl,f,_,c,d,_,rfl,b,z1r _,z21 _,N,?_⟩;exact ⟨g,O,k,B,t,o,id,lt,l,bs,j,i,M,L.e,p,y,rfl,r,D,m,a,hh,R,n5,K,Z,X,λ a0 Y u C n=>q a0 Y u C n⟩
theorem Cp.own {K:j0} {B H:Hp} {cx st lf id lt ev:Addr} {bs es hls:List Addr} {M:CM} {h:Nat} {own:List (Option Int)} (cp:Cp K B H cx st lf id lt ev bs es hls M) (ho:M.left[h]? = some own) :∃b ys,bs[h]? = some b/\H b=some (.lst ys)/\All2 (DdV H) own ys/\b∈st :: lf :: id :: lt :: ev :: (bs++hls):=by
 obtain ⟨n,m,p,d,j,g,s,q,o,r,e,l⟩:=cp.ct;have i:h < M.left.length:=(List.getElem?_eq_some_iff.mp ho).1;have a:h < bs.length:=by rw [cp.el.2.2];exact i
 obtain ⟨ys,k,f⟩:=z0o e ho;have c:(st :: lf :: id :: lt :: ev :: (bs++hls))[h + 5]? = some bs[h]:=by show (bs++hls)[h]? = some bs[h];rw [K1 a];exact v0 a
 refine ⟨bs[h],ys,v0 a,g.at c ?_,f,O1 c⟩;show (d++j)[h]? = some ys;rw [K1 (by omega)];exact k
def z1k (K:j0):Sp:=λ vs H Q _=>∃(cx:Addr) (h:Nat) (B:Hp) (st lf id lt ev:Addr) (bs es hls:List Addr) (M:CM) (d:Option Int) (rest:List (Option Int)),vs=[.ref cx,.int h]/\Cp K B H cx st lf id lt ev bs es hls M/\M.left[h]? = some (d :: rest)/\h < M.idle.length/\Same B H/\M.stock.length<=5/\M.letters.length<=10000/\M.events.length<=10000/\
 ∀es' hls' H',Same B H'->Cp K B H' cx st lf id lt ev bs es' hls' (M.start h d rest)->Q .non H'
theorem z3r (T:TX (kx w) mg) (c0:Fo P w mg base (CXE P w base) 1 276 y02 ["self","hand","deed","kept"] z17) (c8:Fo P w mg base CX0 3 335 y08 ["self","errand"] (z1h (kx w))):Fo P w mg base CX0 4 328 y05 ["self","hand"] (z1k (kx w)):=by
 refine (z1t w.params).ok sc_Copies_begin_deed (λ vs H Q E h=>?_) (λ c9 A d0 s H vs Q E hr h=>?_)
 ·obtain ⟨v,h,B,st,lf,id,lt,f,bs,es,a7,M,d,rest,rfl,_⟩:=h;rfl
 ·obtain ⟨v,h,B,st,lf,id,lt,f,bs,es,a7,M,d,rest,rfl,k,ho,hi,sB,n5,nl,nv,q⟩:=h;refine ⟨_,(z02 (ps_set (i:=2) sc_Copies_begin_deed.nd rfl (Z1 rfl) (zf6 (pe_ix ix_seq (pe_fld (pv 0) rfl) (pv 1) (λ _ _=>rfl)) (z01 pe_int pa_nil)))
   (z02 (ps_asg pe_bl (pg_sub (pe_fld (pv 0) rfl) (pv 1) z3i))
   (z02 (z0d (z0v (pe_fld (pv 0) rfl) (z01 (pe_op opAdd (pe_tup (z01 pe_str (z01 (pv 1) (z01 pe_str pa_nil)))) (pv 2)) pa_nil)))
   (z05 (z0d (z2m (pv 0) (z09 _) (z29 _) c8 (hr.mono (by decide)) (z2u _) .nil pass0 (z01 (z72 (z7k _) c0 (hr.mono (by decide)) rfl (T.of (za1 _)) (z1f _) .nil passN (z01 (pv 1) (z01 (pv 2) (z01 pe_non pa_nil)))) pa_nil))))))),?_⟩
  obtain ⟨u,fs,n,i2,X,I,F,O,K,G⟩:=k.ins;obtain ⟨b,ys,hb,eb,ay,mb⟩:=k.own ho;obtain ⟨sv,Z,a,U,a4,c,W,S,Y,C,c6,c7⟩:=k.ct;cases ay with
  | cons a0 ar=>
  rename_i y zs;have b3:atI (bs.map V.ref) (h:Nat)=some (.ref b):=z06 (by rw [K0,hb];rfl);refine z0e ⟨_,rfl,v,_,u,fs,_,rfl,n,z09 _,z24 _,I,_,rfl,.inl ⟨lf,_,_,.ref b,rfl,rfl,SqL.of (c.at (i:=1) rfl rfl),b3,.inl ⟨rfl,_,SqL.of eb⟩,b,_,0,0,y,rfl,rfl,eb,by decide,by decide,z7v (j:=0) (Nat.succ_pos _),rfl,?_⟩⟩;have m1:Imm H (upd H b (.lst zs)):=Imm.lst eb;have D:=k.setW (own:=rest) (ys:=zs) hb λ H' m=>z00 (λ _ _ z=>z.imm m) ar;have s1:Same B (upd H b (.lst zs)):=Same.keep sB (k.fr mb);refine g_name ?_;have a1:=a0.imm m1;show tSeq _ _ _ _ (upd H b (.lst zs));generalize upd H b (.lst zs)=H1 at m1 D s1 a1⊢;obtain ⟨u,fs,n,i2,X,I,F,O,K,G⟩:=D.ins;obtain ⟨sv,Z,a,U,a4,c,W,S,Y,C,c6,c7⟩:=D.ct;have ei:H1 id=some (.lst (M.idle.map V.bl)):=c.at (i:=2) rfl rfl;refine ⟨_,rfl,v,_,u,fs,_,rfl,n,z09 _,z1g _,F,_,rfl,id,_,_,h,rfl,rfl,ei,z69 (by rw [B0];exact hi),?_⟩;have J:=D.setI (I':=M.idle.set h false) (iv:=(M.idle.map V.bl).set h (.bl false)) (by rw [U5]);have m2:Imm H1 (upd H1 id (.lst ((M.idle.map V.bl).set h (.bl false)))):=Imm.lst ei;have s2:Same B (upd H1 id (.lst ((M.idle.map V.bl).set h (.bl false)))):=Same.keep s1 (c.fr id (by simp));have a2:=a1.imm m2;generalize upd H1 id (.lst ((M.idle.map V.bl).set h (.bl false)))=H2 at J m2 s2 a2⊢;refine t_nx ?_;obtain ⟨u,fs,n,i2,X,I,F,O,K,G⟩:=J.ins;obtain ⟨sv,Z,a,U,a4,c,W,S,Y,C,c6,c7⟩:=J.ct;have b5:a.length<=10000:=by rw [z03 C];exact nv
  have a3:H2 f=some (.lst a):=c.at (i:=4) rfl rfl;obtain ⟨p,rfl,ep⟩:=a2;refine ⟨_,rfl,v,_,u,fs,_,rfl,n,z09 _,z10 _,K,.inl ⟨rfl,a,SqL.of a3⟩,_,rfl,w_3,λ p1 a9=>?_⟩;have u1:=Same.upd (o:=.tup [.str "begin",.int h,.str "r"]) a9;refine ⟨_,rfl,.inr (.inr (.inr ⟨p1,p,_,_,rfl,rfl,SqT.of z04,SqT.of (u1 _ _ ep),List.cons_ne_nil _ _,(show 3 + 2<=sizeLine by decide),(λ z=>nomatch z),λ _ g b6=>?_⟩))⟩;have l:=u1.trans (Same.upd (o:=.tup ([.str "begin",.int h,.str "r"]++[.str (vbD d),wvD d])) b6);have e2:upd (upd H2 p1 (.tup [.str "begin",.int h,.str "r"])) g (.tup ([.str "begin",.int h,.str "r"]++[.str (vbD d),wvD d])) g=some (.tup [.str "begin",.int h,.str "r",.str (vbD d),wvD d]):=z04;generalize upd (upd H2 p1 (.tup [.str "begin",.int h,.str "r"])) g (.tup ([.str "begin",.int h,.str "r"]++[.str (vbD d),wvD d]))=H3 at l e2⊢;have b7:=J.same l;refine ⟨f,a,_,rfl,rfl,l _ _ a3,Y0 b5 (by decide),?_⟩;have m4:Imm H3 (upd H3 f (.lst (a++[.ref g]))):=Imm.lst (l _ _ a3);have L:=b7.setV (E':=M.events++[.beg h d]) (vv':=a++[.ref g]) λ H' m=>z1q (z00 (λ _ _ z=>z.imm ((Imm.of l).trans m)) C) (x:=CEv.beg h d) ⟨g,rfl,m.t _ _ e2⟩;have R:Same B (upd H3 f (.lst (a++[.ref g]))):=Same.keep (s2.trans l) (c.fr f (by simp));have a6:=m4.t _ _ (l _ _ ep);generalize upd H3 f (.lst (a++[.ref g]))=H4 at m4 L R a6⊢;refine t_nx ?_;obtain ⟨u,fs,n,i2,X,I,F,O,K,G⟩:=L.ins;obtain ⟨sv,Z,a,U,a4,c,W,S,Y,C,c6,c7⟩:=L.ct;refine ⟨_,rfl,v,u,fs,rfl,n,G _ (by decide +kernel),_,rfl,_,rfl,λ x a8 hx b2 ne=>?_⟩;refine ⟨x,a8,_,_,_,rfl,z04,λ a5 b4 H5 k5 b9 b8 e5 f1 f2 f3 f4=>⟨rfl,?_⟩⟩;have N:Same H4 H5:=z5g hx b2 k5;have fh:H4 a5=none:=(z82 (z82 b9).2).2;have b1:=(L.same N).make (er:=⟨h,d,none,[]⟩) (e:=x) (hl:=a5) ⟨a8,b4,_,.non,e5,f1,f2,⟨p,rfl,N _ _ a6⟩,f3,rfl,f4⟩ rfl b8 (c.not fh) (R.free fh);refine ⟨v,x,B,st,lf,id,lt,f,bs,es++[x],a7++[a5],_,M.ers.length,rfl,b1,by rw [A1 (by rw [k.el.1];exact J0 _),k.el.1,Y7];rfl,R.trans N,n5,nl,λ H' s' b0=>q _ _ H' s' b0⟩
theorem zlb {p:Nat->Bool} {n:Nat} {ys:List V} (h:All2 (λ (i:Nat) y=>y=V.int (i:Int)) ((O0 n).filter p) ys):ys=((O0 n).filter p).map λ i=>V.int ((i:Nat):Int):=z1i h
def z32 (K:j0):Sp:=λ vs H Q _=>∃(cx:Addr) (c:Int) (B:Hp) (st lf id lt ev:Addr) (bs es hls:List Addr) (M:CM) (n:Nat),vs=[.ref cx,.int c]/\Cp K B H cx st lf id lt ev bs es hls M/\WfM M n/\n<=1000/\Same B H/\
 ∀es' hls' H',Same B H'->Cp K B H' cx st lf id lt ev bs es' hls' (M.go c)->Q .non H'
theorem z6t (T:TX (kx w) mg) (c8:Fo P w mg base CX0 4 328 y05 ["self","hand"] (z1k (kx w))) (c10:Fo P w mg base CX0 6 342 y0b ["self","letter"] (z34 (kx w))):Fo P w mg base CX0 7 321 y0a ["self","choice"] (z32 (kx w)):=by
 refine (z40 w.params).ok sc_Copies_go_on (λ vs H Q E h=>?_) (λ d6 A d7 s H vs Q E hr h=>?_)
 ·obtain ⟨u,c,B,st,U,id,lt,Z,bs,es,a0,M,n,rfl,_⟩:=h;rfl
 ·obtain ⟨u,c,B,st,U,id,lt,Z,bs,es,a0,M,n,rfl,cp,D,n1,sB,q⟩:=h;refine ⟨_,(z02 (zbg (i:=2) sc_Copies_go_on.nd rfl (Z1 rfl) (xs:=["hand","own"]) (g:=gTup (kx w) 2 (gCons (gName 0) (gCons (gName 1) gNil))) (fr:=[(0,"self")]) rfl (zic rfl (T.no (zcz _)) (z01 (pe_fld (pv 0) rfl) pa_nil)) (by intro p hp;obtain rfl:=List.mem_singleton.mp hp;first|exact ⟨rfl,.inl rfl⟩|exact ⟨rfl,.inr rfl⟩) (ze1 (n:="self") (by decide +kernel) (λ _=>by first|exact .inl rfl|exact .inr rfl)) (by intro p hp;obtain rfl:=List.mem_singleton.mp hp;exact ⟨by decide +kernel,by first|exact .inl rfl|exact .inr rfl⟩) (by decide +kernel) rfl (by decide +kernel) (λ _ _ _ _ _=>(pg_tup rfl (z12 (pg_cn (N:=["hand","own","self"]) 0) (z12 (pg_cn (N:=["hand","own","self"]) 1) z8x)))) (λ _ _ _ _ _=>(pf_one (PW.pt (pw_and (z0b op_gt (z08 (z25 (K:=KX w.params) rfl) rfl (T.no (n_len _)) X2 (z01 (pv 1) pa_nil)) pe_int (nomark _)) (z4z (pt_val (pe_ix (z2n (K:=KX w.params) rfl) (zlk (K:=KX w.params) rfl (pv 2) rfl) (pv 0) (λ _ _=>rfl)) (λ _=>rfl))))))) (λ _ _ _ _ _=>(pv 0)))
   (z02 (ps_set (i:=3) sc_Copies_go_on.nd rfl (Z1 rfl) (z08 (z25 (K:=KX w.params) rfl) rfl (T.no (n_len _)) X2 (z01 (pe_fld (pv 0) rfl) pa_nil)))
   (z02 (ps_if (z0b opEq (pe_op opAdd (z08 (z25 (K:=KX w.params) rfl) rfl (T.no (n_len _)) X2 (z01 (pv 2) pa_nil)) (pv 3)) pe_int (nomark _))
   (z05 z74)
   z0j)
   (z02 (ps_set (i:=4) sc_Copies_go_on.nd rfl (Z1 rfl) (pe_op op_mod (pv 1) (pe_op opAdd (z08 (z25 (K:=KX w.params) rfl) rfl (T.no (n_len _)) X2 (z01 (pv 2) pa_nil)) (pe_op op_mul pe_int (pv 3)))))
   (z02 (ps_if (z0b op_lt (pv 4) (z08 (z25 (K:=KX w.params) rfl) rfl (T.no (n_len _)) X2 (z01 (pv 2) pa_nil)) (nomark _))
   (z02 (z0d (z2m (pv 0) (z09 _) (z3b _) c8 (hr.mono (by decide)) (z45 _) .nil pass0 (z01 (pe_ix ix_seq (pv 2) (pv 4) (λ _ _=>rfl)) pa_nil)))
   (z05 z74))
   z0j)
   (z02 (ps_set (i:=5) sc_Copies_go_on.nd rfl (Z1 rfl) (zf6 (pe_fld (pv 0) rfl) (z01 (pe_op op_mod (pe_op op_sub (pv 4) (z08 (z25 (K:=KX w.params) rfl) rfl (T.no (n_len _)) X2 (z01 (pv 2) pa_nil))) (pv 3)) pa_nil)))
   (z05 (ps_if (z0b op_lt (pv 4) (pe_op opAdd (z08 (z25 (K:=KX w.params) rfl) rfl (T.no (n_len _)) X2 (z01 (pv 2) pa_nil)) (pv 3)) (nomark _))
   (z05 (z0d (z2m (pv 0) (z09 _) (z6j _) c10 (hr.mono (by decide)) (z7c _) .nil pass0 (z01 (pv 5) pa_nil))))
   z0j)))))))),?_⟩
  obtain ⟨X,fs,G,i2,i3,i4,i5,i6,i7,i8⟩:=cp.ins;obtain ⟨sv,l,vv,d2,d5,c1,c2,c3,c4,c5,c6,c7⟩:=cp.ct;have lb:=cp.el.2.2;have l6:=D.l6;have il:=D.il;have ll:=z03 c4;have d3:=D.ln;have d4:=D.vn;have W:H lt=some (.lst l):=c1.at (i:=3) rfl rfl;have b6:H id=some (.lst (M.idle.map V.bl)):=c1.at (i:=2) rfl rfl;refine z0e ?_;refine zga (K:=KX w.params) (a:=U) (xs:=bs.map V.ref) (H1:=H) (λ i=>M.rdy i) (λ i y _=>y=V.int (i:Int)) (λ _ _ _ _ _ z=>z) (λ T h=>⟨_,rfl,u,_,X,fs,_,rfl,G,z09 _,z24 _,i4,h⟩) (SqL.of (c1.at (i:=1) rfl rfl)) (by rw [B0];exact L0 (m:=6) (by omega) (by decide)) ?_ ?_
  ·intro i hi v I r hv KT KF k1 k2;obtain ⟨x,p,hx,rfl,ep⟩:=hv;have b9:i < M.left.length:=by rw [B0] at hi;omega
   have F:M.left[i]? = some M.left[i]:=v0 b9;generalize M.left[i]=own at F;obtain ⟨b,ys,hb,eb,ay,mb⟩:=cp.own F;rw [K0,hb] at hx;cases hx;have ly:=z03 ay;have a8:M.idle[i]? = some M.idle[i]:=v0 (by omega);generalize M.idle[i]=bi at a8;have er:M.rdy i=(!own.isEmpty && bi):=by unfold CM.rdy;rw [F,a8];rfl
   rw [er] at k1 k2;refine ⟨p,_,rfl,SqT.of ep,rfl,_,_,rfl,_,_,rfl,rfl,[some (.int (i:Int)),some (.ref b)],rfl,rfl,?_⟩;refine ⟨_,rfl,.inl ⟨b,ys,rfl,.inl (SqL.of (r _ _ eb)),_,_,rfl,rfl,_,rfl,?_⟩⟩;cases own with
   | nil=>refine iteN (λ e=>absurd (of_decide_eq_true e) (by rw [ly];decide)) ?_;exact iteN (by decide) (k2 rfl _ (Same.refl _))
   | cons o1 o2=>
    refine iteP (decide_eq_true (by rw [ly,X0];omega)) ?_;refine ⟨_,rfl,u,_,X,fs,_,rfl,r _ _ G,z09 _,z1g _,i5,_,rfl,.inl ⟨id,_,_,.bl bi,rfl,rfl,SqL.of (r _ _ b6),z06 (by rw [K0,a8];rfl),_,rfl,?_⟩⟩;cases bi with
    | true=>exact iteP rfl ⟨_,rfl,k1 rfl _ _ (Same.refl _) rfl⟩
    | false=>exact iteN (by decide) (k2 rfl _ (Same.refl _))
  intro C H1 ys s1 b3 b4;rw [B0,lb] at b4;have ey:=zlb b4;have ey:ys=M.ready.map λ i=>V.int ((i:Nat):Int):=ey;subst ey;have r:=s1.trans (Same.upd (o:=.lst (M.ready.map λ i=>V.int ((i:Nat):Int))) b3);have S:upd H1 C (.lst (M.ready.map λ i=>V.int ((i:Nat):Int))) C=some (.lst (M.ready.map λ i=>V.int ((i:Nat):Int))):=z04;generalize upd H1 C (.lst (M.ready.map λ i=>V.int ((i:Nat):Int)))=I at r S⊢;have a3:=cp.same r;have a5:=sB.trans r;have G:=r _ _ G;have W:=r _ _ W;refine g_name ?_;refine z0e ⟨_,rfl,u,_,X,fs,_,rfl,G,z09 _,z0p _,i6,.inl ⟨lt,l,rfl,.inl (SqL.of W),g_name ?_⟩⟩;have Y:(M.ready.map λ i=>V.int ((i:Nat):Int)).length=M.ready.length:=B0 _;have r6:M.ready.length<=6:=by have:=p7 M.rdy (O0 M.left.length);rw [W1] at this;exact L0 this l6
  refine sq_if ⟨_,rfl,.inl ⟨C,_,rfl,.inl (SqL.of S),_,rfl,.inl ⟨_,_,rfl,rfl,rfl,_,rfl,?_⟩⟩⟩;rw [Y,ll];unfold CM.go at q;by_cases z0:M.ready.length + M.letters.length=0
  ·rw [if_pos z0] at q;exact iteP (decide_eq_true (by congr 1;omega)) (q es a0 I a5 a3)
  rw [if_neg z0] at q;refine iteN (λ e=>z0 (by have:=of_decide_eq_true e;injection this;omega)) (t_nx ?_);refine z0e ⟨_,rfl,_,rfl,.inl ⟨C,_,rfl,.inl (SqL.of S),_,rfl,_,_,rfl,rfl,.inl ⟨by decide,by decide⟩,.inl ⟨_,_,rfl,rfl,_,_,rfl,rfl,(by show (0:Int) < _;rw [Y];omega),?_⟩⟩⟩;rw [Y];have c0:=p9 c (show ((M.ready.length:Int) + 2 * (M.letters.length:Int))≠0 by omega);have c9:=u8 c (show 0 < ((M.ready.length:Int) + 2 * (M.letters.length:Int)) by omega);obtain ⟨f,a4⟩ :∃f:Nat,c % ((M.ready.length:Int) + 2 * (M.letters.length:Int))=(f:Int):=⟨_,(Int.toNat_of_nonneg c0).symm⟩
  rw [a4,a7] at q;rw [a4] at c9;show gName 4 (V.int (c % ((M.ready.length:Int) + 2 * (M.letters.length:Int)))) _ _ _;rw [a4];refine g_name ?_;refine sq_if ⟨_,rfl,_,rfl,.inl ⟨C,_,rfl,.inl (SqL.of S),_,_,rfl,rfl,_,rfl,?_⟩⟩;rw [Y];dsimp only at q;by_cases lt1:f < M.ready.length
  ·rw [if_pos lt1] at q;refine iteP (decide_eq_true (by omega)) ?_;have b0:M.ready[f]? = some M.ready[f]:=v0 lt1;have a1:M.ready[f]∈M.ready:=J3 lt1;generalize M.ready[f]=h at b0 a1;rw [b0] at q;have a1:h∈(O0 M.left.length).filter M.rdy:=a1;obtain ⟨m1,m2⟩:=List.mem_filter.mp a1;have hl:h < M.left.length:=List.mem_range.mp m1;have F:M.left[h]? = some M.left[h]:=v0 hl;generalize M.left[h]=own at F;have q :∀O J j,Same B j->Cp (kx w) B j u st U id lt Z bs O J (match M.left[h]? with|some (d :: rest)=>M.start h d rest|_=>M)->Q .non j:=q;rw [F] at q;have m2:(!(M.left[h]?.getD []).isEmpty && M.idle[h]?.getD false)=true:=m2;rw [F] at m2;cases own with
   | nil=>cases m2
   | cons d rest=>
   refine ⟨_,rfl,u,X,fs,rfl,G,i8 _ (by decide +kernel),_,rfl,_,rfl,.inl ⟨C,_,_,.int (h:Nat),rfl,rfl,SqL.of S,z06 (by rw [K0,b0];rfl),?_⟩⟩;exact ⟨u,h,B,st,U,id,lt,Z,bs,es,a0,M,d,rest,rfl,a3,F,by omega,a5,D.st.2,by omega,by omega,λ O J j s' a2=>q O J j s' a2⟩
  rw [if_neg lt1] at q;refine iteN (λ e=>lt1 (by have:=of_decide_eq_true e;omega)) (t_nx ?_);have d0:0 < M.letters.length:=by omega
  obtain ⟨k,hk⟩ :∃k:Nat,(f - M.ready.length) % M.letters.length=k/\k < M.letters.length:=⟨_,rfl,j0c _ d0⟩
  rw [hk.1] at q;have b1:((f:Int) - (M.ready.length:Int)) % (M.letters.length:Int)=(k:Int):=by rw [<-hk.1,show (f:Int) - (M.ready.length:Int)=((f - M.ready.length:Nat):Int) by omega];rfl
  have hL:M.letters[k]? = some M.letters[k]:=v0 hk.2;have mL:M.letters[k]∈M.letters:=J3 hk.2;generalize M.letters[k]=L at hL mL;rw [hL] at q;obtain ⟨v,hv,aL⟩:=z0o c4 hL;refine z0e ⟨_,rfl,u,_,X,fs,_,rfl,G,z09 _,z0p _,i6,.inl ⟨rfl,l,SqL.of W⟩,_,rfl,_,rfl,.inl ⟨C,_,rfl,.inl (SqL.of S),_,_,rfl,rfl,_,rfl,_,_,rfl,rfl,(by show (0:Int) < (M.letters.length:Int);omega),?_⟩⟩;rw [Y];refine ⟨lt,l,_,k,v,rfl,rfl,W,?_,?_,?_,hv,?_⟩
  ·rw [b1];omega
  ·rw [b1];omega
  ·rw [b1];exact z7v (by rw [ll];exact hk.2)
  have b8 :∀{α:Type} {R:α->V->Prop} {xs:List α} {zs:List V} (n:Nat),All2 R xs zs->All2 R (xs.eraseIdx n) (zs.eraseIdx n):=by
   intro α R xs zs n h;induction h generalizing n with
   | nil=>exact .nil
   | cons a t ih=>
    cases n with
    | zero=>exact t
    | succ n=>exact .cons a (ih n)
  have m3:Imm I (upd I lt (.lst (l.eraseIdx k))):=Imm.lst W;have a9:=a3.setL (Ls':=M.letters.eraseIdx k) (lv':=l.eraseIdx k) λ j m=>b8 k (z00 (λ _ _ z=>(z.imm (Imm.of r)).imm m) c4);have s3:Same B (upd I lt (.lst (l.eraseIdx k))):=Same.keep a5 (c1.fr lt (by simp));have b5:=(aL.imm (Imm.of r)).imm m3;have e3:upd I lt (.lst (l.eraseIdx k)) C=some (.lst (M.ready.map λ i=>V.int ((i:Nat):Int))):=by
   rw [upd_ne (λ z=>by have h0:=s1.free b3;have h1:=c1.at (i:=3) (m:=lt) (c:=l) rfl rfl;rw [z,h1] at h0;cases h0)];exact S
  refine g_name ?_;show tIfS _ _ _ _ _ (upd I lt (.lst (l.eraseIdx k)));generalize upd I lt (.lst (l.eraseIdx k))=H3 at m3 a9 s3 b5 e3⊢;refine z1y ⟨_,rfl,_,rfl,.inl ⟨C,_,rfl,.inl (SqL.of e3),_,rfl,.inl ⟨_,_,rfl,rfl,_,_,rfl,rfl,_,rfl,?_⟩⟩⟩;rw [Y];have q :∀O J j,Same B j->Cp (kx w) B j u st U id lt Z bs O J (if f < M.ready.length + M.letters.length then CM.come { M with letters:=M.letters.eraseIdx k } L else { M with letters:=M.letters.eraseIdx k })->Q .non j:=q;by_cases lt2:f < M.ready.length + M.letters.length
  ·rw [if_pos lt2] at q;refine iteP (decide_eq_true (by omega)) ?_;obtain ⟨w1,w2⟩:=D.le L mL;have b2:M.ers[L.e]? = some M.ers[L.e]:=v0 w1;have a6:M.ers[L.e]∈M.ers:=J3 w1;generalize M.ers[L.e]=er at b2 a6;have d1:M.stock[L.num]? = some M.stock[L.num]:=v0 w2;have hn:=D.hn er a6;have b7:(M.letters.eraseIdx k).length<=10000:=L0 (L8 _ _) (by omega);refine ⟨_,rfl,u,X,fs,rfl,m3.i _ _ _ _ G,i8 _ (by decide +kernel),_,rfl,?_⟩;exact ⟨u,v,B,st,U,id,lt,Z,bs,es,a0,_,L,er,_,rfl,a9,b5,b2,d1,D.eh er a6,s3,D.st.2,b7,(show M.events.length<=10000 by omega),by omega,λ O J j s' a2=>q O J j s' a2⟩
  ·rw [if_neg lt2] at q;exact iteN (λ e=>lt2 (by have:=of_decide_eq_true e;omega)) (q es a0 H3 s3 a9)
end
section
noncomputable def evO:CEv->Ev
 | .beg h d=>.beg (h:Nat) (.str "r") (.str (vbD d)) (wvD d)
 | .fin h a=>.fin (h:Nat) (avD a)
def okW (w:Int):Prop:=-1000000000<=w/\w<=1000000000
def okD (d:Option Int):Prop:=∀w,d=some w->okW w
noncomputable def okE (n:Nat):CEv->Prop
 | .beg h d=>h < n/\okD d
 | .fin h a=>h < n/\okD a
noncomputable def CM.maj (M:CM):Nat:=M.stock.length / 2 + 1
noncomputable def CM.opens (M:CM):List Int:=(M.events.map evO).foldl oStep []
def Lv (M:CM):Prop:=∀(e:Nat) er,M.ers[e]? = some er->er.heard.length < M.maj->M.idle[er.hand]? = some false/\∀(e':Nat) er',M.ers[e']? = some er'->er'.heard.length < M.maj->er'.hand=er.hand->e'=e
structure WfC (M:CM) (T n:Nat):Prop where
 m:WfM M n
 bl :∀own∈M.left,∀d∈own,okD d
 be :∀er∈M.ers,okD er.deed/\(∀k,er.kept=some k->okW k.2)/\∀x∈er.heard,okW x.2
 bs :∀x∈M.stock,okW x.2
 bL :∀L∈M.letters,∀x,L.held=some x->okW x.2
 bv :∀e∈M.events,okE M.left.length e
 lv:Lv M
 op :∀h:Nat,((h:Int)∈M.opens)↔M.idle[h]? = some false
 ew:EWf [] (M.events.map evO)
 tt:((M.events.map evO).filter isBeg).length + M.left.flatten.length=T
theorem WfM.le1 {M:CM} {n k:Nat} (h:WfM M n) (l:n<=k):WfM M k:=⟨h.il,h.st,h.le,h.eh,λ a b=>L0 (h.hn a b) l,L0 h.ln (by omega),L0 h.vn l,h.l6,h.lw⟩
theorem WfC.le1 {M:CM} {T n k:Nat} (h:WfC M T n) (l:n<=k):WfC M T k:=⟨h.m.le1 l,h.bl,h.be,h.bs,h.bL,h.bv,h.lv,h.op,h.ew,h.tt⟩
theorem zhj {l:List Hd} (h:l≠[]):maxHd l∈l:=by
 cases l with
 | nil=>exact absurd rfl h
 | cons x r=>
  show r.foldl (λ m y=>if gtN y m=true then y else m) x∈x :: r;clear h;induction r generalizing x with
  | nil=>exact .head _
  | cons y r ih=>
   rw [W2];by_cases z:gtN y x=true
   ·rw [if_pos z];exact .tail _ (ih y)
   ·rw [if_neg z];rcases List.mem_cons.mp (ih x) with e|e
    ·rw [e];exact .head _
    ·exact .tail _ (.tail _ e)
theorem z55 {α:Type} {l:List α} {k:Nat} {x:α} (h:x∈l.eraseIdx k):x∈l:=(List.eraseIdx_sublist l k).mem h
theorem WfC.erase {M:CM} {T n:Nat} (h:WfC M T n) (k:Nat):WfC { M with letters:=M.letters.eraseIdx k } T n:=
 ⟨⟨h.m.il,h.m.st,λ L a=>h.m.le L (z55 a),h.m.eh,h.m.hn,L0 (L8 _ _) h.m.ln,h.m.vn,h.m.l6,h.m.lw⟩,h.bl,h.be,h.bs,λ L a=>h.bL L (z55 a),h.bv,h.lv,h.op,h.ew,h.tt⟩
theorem WfC.comeTo {M:CM} {T n e k:Nat} {er:Er} {s:Hd} (h:WfC M T n) (he:M.ers[e]? = some er) (hs:M.stock[k]? = some s):WfC (M.comeTo e er k s) T (n + 1):=by
 have f:=O1 he;have c:okW (keepH er.kept s).2:=by
  unfold keepH;cases hk:er.kept with
  | none=>exact h.bs s (O1 hs)
  | some k=>
   dsimp only;split
   ·exact (h.be er f).2.1 k hk
   ·exact h.bs s (O1 hs)
 have l:k < M.stock.length:=(List.getElem?_eq_some_iff.mp hs).1;have m:=h.m;refine ⟨⟨m.il,?_,λ L a=>?_,m.eh,λ er he=>L0 (m.hn er he) (K3 n),?_,L0 m.vn (K3 n),m.l6,m.lw⟩,h.bl,h.be,λ x b=>?_,λ L a x b=>?_,h.bv,?_,h.op,h.ew,h.tt⟩
 ·show 0 < (M.stock.set k _).length/\(M.stock.set k _).length<=5;rw [U0];exact m.st
 ·show L.e < M.ers.length/\L.num < (M.stock.set k _).length;rw [U0];rcases List.mem_append.mp a with a|a
  ·exact m.le L a
  ·rw [List.mem_singleton.mp a];exact ⟨(List.getElem?_eq_some_iff.mp he).1,l⟩
 ·show (M.letters++[_]).length<=_;rw [I0,A4];have:=m.ln;omega
 ·rcases K6 b with b|rfl
  ·exact h.bs x b
  ·exact c
 ·rcases List.mem_append.mp a with a|a
  ·exact h.bL L a x b
  ·rw [List.mem_singleton.mp a] at b;cases b;exact c
 ·have o:(M.comeTo e er k s).maj=M.maj:=by show (M.stock.set k _).length / 2 + 1=_;rw [U0];rfl
  intro j i g d;rw [o] at d⊢;exact h.lv j i g d
theorem z8d {M:CM} {e:CEv}:({ M with events:=M.events++[e] }:CM).opens=oStep M.opens (evO e):=by unfold CM.opens;dsimp only;rw [P1,j0g];rfl
theorem zi4 {M:CM} {T n e:Nat} (h:WfC M T n) (he:e < M.ers.length) (ln:M.letters.length + 5<=6 * n):WfC (M.send e) T n:=by
 have m:=h.m;have d:=m.st;refine ⟨⟨m.il,m.st,λ L a=>?_,m.eh,m.hn,?_,m.vn,m.l6,m.lw⟩,h.bl,h.be,h.bs,λ L a x c=>?_,h.bv,h.lv,h.op,h.ew,h.tt⟩
 ·rcases List.mem_append.mp a with a|a
  ·exact m.le L a
  ·obtain ⟨k,b,rfl⟩:=List.mem_map.mp a;exact ⟨he,List.mem_range.mp b⟩
 ·show (M.letters++(O0 M.stock.length).map _).length<=_;rw [I0,B0,W1];omega
 ·rcases List.mem_append.mp a with a|a
  ·exact h.bL L a x c
  ·obtain ⟨k,b,rfl⟩:=List.mem_map.mp a;cases c
theorem zhl {M:CM} {T n:Nat} {er:Er} (h:WfC M T n) (hi:M.idle[er.hand]? = some false) (no :∀(e:Nat) er',M.ers[e]? = some er'->er'.heard.length < M.maj->er'.hand≠er.hand) (h0:er.heard=[]) (od:okD er.deed) (ok :∀k,er.kept=some k->okW k.2):WfC (M.make er) T n:=by
 have m:=h.m;refine ⟨⟨m.il,m.st,λ L w=>?_,λ e c=>?_,λ e c=>?_,m.ln,m.vn,m.l6,m.lw⟩,h.bl,λ e c=>?_,h.bs,h.bL,h.bv,?_,h.op,h.ew,h.tt⟩
 ·have:=m.le L w;refine ⟨?_,this.2⟩;show L.e < (M.ers++[er]).length;rw [I0];omega
 ·rcases List.mem_append.mp c with c|c
  ·exact m.eh e c
  ·rw [List.mem_singleton.mp c];exact (List.getElem?_eq_some_iff.mp hi).1
 ·rcases List.mem_append.mp c with c|c
  ·exact m.hn e c
  ·rw [List.mem_singleton.mp c,h0];exact E2 _
 ·rcases List.mem_append.mp c with c|c
  ·exact h.be e c
  ·rw [List.mem_singleton.mp c];exact ⟨od,ok,λ x r=>by rw [h0] at r;cases r⟩
 ·have o :∀(k:Nat) d,(M.ers++[er])[k]? = some d->(k < M.ers.length/\M.ers[k]? = some d)\/(k=M.ers.length/\d=er):=λ k d f=>by
   by_cases z:k < M.ers.length
   ·rw [K1 z] at f;exact .inl ⟨z,f⟩
   ·rw [A1 (by omega)] at f;have:=(List.getElem?_eq_some_iff.mp f).1;simp only [A4] at this;have u:k - M.ers.length=0:=by omega
    rw [u] at f;cases f;exact .inr ⟨by omega,rfl⟩
  intro k d v t;rcases o k d v with ⟨z,s⟩|⟨z,rfl⟩
  ·obtain ⟨a,b⟩:=h.lv k d s t;refine ⟨a,λ i g p q j=>?_⟩;rcases o i g p with ⟨_,l⟩|⟨_,ee⟩
   ·exact b i g l q j
   ·exact absurd (by rw [<-j,ee]) (no k d s t)
  ·refine ⟨hi,λ i g p q j=>?_⟩;rcases o i g p with ⟨_,l⟩|⟨z',_⟩
   ·exact absurd j (no i g l q)
   ·omega
theorem zhs {M:CM} {T n:Nat} {er:Er} {w:Int} (h:WfC M T n) (hi:M.idle[er.hand]? = some false) (no :∀(e:Nat) er',M.ers[e]? = some er'->er'.heard.length < M.maj->er'.hand≠er.hand) (ow:okW w):WfC (M.stop er w) T (n + 1):=by
 have m:=h.m;have i:er.hand < M.idle.length:=(List.getElem?_eq_some_iff.mp hi).1;have p:okD (ansC er.deed w):=by
  intro v f;unfold ansC at f;cases hd:er.deed with
  | none=>rw [hd] at f;cases f;exact ow
  | some d=>rw [hd] at f;cases f
 have o:(M.stop er w).opens=M.opens.filter λ k=>decide (k≠((er.hand:Nat):Int)):=z8d (M:={ M with idle:=M.idle.set er.hand true });refine ⟨⟨?_,m.st,m.le,λ e c=>?_,λ e c=>L0 (m.hn e c) (K3 n),L0 m.ln (by omega),?_,m.l6,m.lw⟩,h.bl,h.be,h.bs,h.bL,λ e c=>?_,?_,λ k=>?_,?_,?_⟩
 ·show (M.idle.set er.hand true).length=_;rw [U0];exact m.il
 ·show e.hand < (M.idle.set er.hand true).length;rw [U0];exact m.eh e c
 ·show (M.events++[_]).length<=_;rw [I0,A4];have:=m.vn;omega
 ·rcases List.mem_append.mp c with c|c
  ·exact h.bv e c
  ·rw [List.mem_singleton.mp c];exact ⟨by show er.hand < M.left.length;rw [<-m.il];exact i,p⟩
 ·intro k g j l;obtain ⟨a,b⟩:=h.lv k g j l;refine ⟨?_,b⟩;show (M.idle.set er.hand true)[g.hand]? = some false;rw [D2 (A2 (no k g j l))];exact a
 ·rw [o,List.mem_filter,h.op k];show _↔(M.idle.set er.hand true)[k]? = some false;by_cases z:k=er.hand
  ·subst z;rw [Q0 i];constructor
   ·rintro ⟨_,z⟩;exact absurd rfl (of_decide_eq_true z)
   ·exact λ z=>by cases z
  ·rw [D2 (A2 z)];exact ⟨λ a=>a.1,λ a=>⟨a,decide_eq_true (λ e=>z (by omega))⟩⟩
 ·show EWf [] ((M.events++[_]).map evO);rw [P1];exact h.ew.snoc ((h.op er.hand).mpr hi)
 ·show (((M.events++[_]).map evO).filter isBeg).length + _=T;rw [P1,j05];show ((((M.events.map evO).filter isBeg)++[])).length + _=T;rw [C3];exact h.tt
theorem zk8 {M:CM} {T n e:Nat} {er:Er} {x:Hd} (h:WfC M T n) (he:M.ers[e]? = some er) (ox:okW x.2):WfC { M with ers:=M.ers.set e (er.hear x) } T (n + 1)/\(er.heard.length < M.maj->(er.hear x).heard.length=M.maj->M.idle[er.hand]? = some false/\∀(e':Nat) er',(M.ers.set e (er.hear x))[e']? = some er'->er'.heard.length < M.maj->er'.hand≠er.hand):=by
 have m:=h.m;have o:=O1 he;have u:e < M.ers.length:=(List.getElem?_eq_some_iff.mp he).1;have C:(er.hear x).heard.length=er.heard.length + 1:=by show (er.heard++[x]).length=_;rw [I0];rfl
 have p :∀(k:Nat) d,(M.ers.set e (er.hear x))[k]? = some d->∃g,M.ers[k]? = some g/\g.hand=d.hand/\g.heard.length<=d.heard.length/\(k≠e->g=d):=λ k d l=>by
  by_cases z:k=e
  ·subst z;rw [Q0 u] at l;cases l;exact ⟨er,he,rfl,by omega,λ z=>absurd rfl z⟩
  ·rw [D2 (A2 z)] at l;exact ⟨d,l,rfl,J0 _,λ _=>rfl⟩
 have r :∀d∈M.ers.set e (er.hear x),d∈M.ers\/d=er.hear x:=λ d f=>K6 f;refine ⟨⟨⟨m.il,m.st,λ L J=>?_,λ d f=>?_,λ d f=>?_,L0 m.ln (by omega),L0 m.vn (K3 n),m.l6,m.lw⟩,h.bl,λ d f=>?_,h.bs,h.bL,h.bv,λ k d f t=>?_,h.op,h.ew,h.tt⟩,λ B N=>?_⟩
 ·show L.e < (M.ers.set e _).length/\_;rw [U0];exact m.le L J
 ·rcases r d f with f|rfl
  ·exact m.eh d f
  ·exact m.eh er o
 ·rcases r d f with f|rfl
  ·exact L0 (m.hn d f) (K3 n)
  ·rw [C];have:=m.hn er o;omega
 ·rcases r d f with f|rfl
  ·exact h.be d f
  ·obtain ⟨a,b,c⟩:=h.be er o;refine ⟨a,b,λ y i=>?_⟩;rcases List.mem_append.mp i with i|i
   ·exact c y i
   ·rw [List.mem_singleton.mp i];exact ox
 ·obtain ⟨g,s,j,q,_⟩:=p k d f;obtain ⟨a,b⟩:=h.lv k g s (Y0 q t);refine ⟨by rw [<-j];exact a,λ v e' H K I=>?_⟩;obtain ⟨D,w,A,G,_⟩:=p v e' H;exact b v D w (Y0 G K) (by rw [A,I,j])
 ·obtain ⟨a,b⟩:=h.lv e er he B;refine ⟨a,λ k d f t F=>?_⟩;obtain ⟨g,s,j,q,O⟩:=p k d f;have E:=b k g s (Y0 q t) (by rw [j,F]);subst E;rw [Q0 u] at f;cases f;omega
theorem WfC.comeBack {M:CM} {T n e:Nat} {er:Er} {x:Hd} (h:WfC M T n) (he:M.ers[e]? = some er) (ox:okW x.2) (ln:M.letters.length + 1<=6 * n):WfC (M.comeBack e er x) T (n + 2):=by
 obtain ⟨a,p⟩:=zk8 h he ox;have j:=O1 he;have t:(er.hear x).heard.length=er.heard.length + 1:=by show (er.heard++[x]).length=_;rw [I0];rfl
 obtain ⟨f,ok,i⟩:=h.be er j;unfold CM.comeBack;by_cases ne:(er.hear x).heard.length≠M.stock.length / 2 + 1
 ·rw [if_pos ne];exact a.le1 (K3 _)
 rw [if_neg ne];have o:(er.hear x).heard.length=M.maj:=Decidable.not_not.mp ne;obtain ⟨d,c⟩:=p (by omega) o;cases hk:er.kept with
 | some k=>exact zhs (er:=er.hear x) a d c (ok k hk)
 | none=>
  have r:(er.hear x).heard≠[]:=by show er.heard++[x]≠[];simp
  have m:=zhj r;have g:okW (maxHd (er.hear x).heard).2:=by
   rcases List.mem_append.mp (show maxHd (er.hear x).heard∈er.heard++[x] from m) with z|z
   ·exact i _ z
   ·rw [List.mem_singleton.mp z];exact ox
  have more :∀b,okW b.2->WfC ((CM.make { M with ers:=M.ers.set e (er.hear x) } ⟨(er.hear x).hand,(er.hear x).deed,some b,[]⟩).send ({ M with ers:=M.ers.set e (er.hear x) }:CM).ers.length) T (n + 2):=λ b l=>by
   have s:=zhl (er:=⟨(er.hear x).hand,(er.hear x).deed,some b,[]⟩) a d c rfl f λ k q=>by cases q;exact l
   refine zi4 (s.le1 (K3 _)) ?_ ?_
   ·show _ < (_++[_]).length;rw [I0];exact O3 _
   ·show M.letters.length + 5<=_;omega
  unfold CM.ask;cases hd:(er.hear x).deed with
  | some w0=>dsimp only;rw [<-hd];exact more _ (f w0 hd)
  | none=>
   dsimp only;split
   ·rw [<-hd];exact more _ g
   ·exact zhs (er:=er.hear x) a d c g
theorem z9k {pl:List (List (Option Int))} {h:Nat} {d:Option Int} {rest:List (Option Int)} (e:pl[h]? = some (d :: rest)):(pl.set h rest).flatten.length + 1=pl.flatten.length:=by obtain ⟨f,c⟩:=zb1 (X:=rest) e;have b:=f.length_eq;have a:=c.length_eq;rw [I0] at b a;rw [X0] at a;omega
theorem WfC.start {M:CM} {T n h:Nat} {d:Option Int} {rest:List (Option Int)} (w:WfC M T n) (hl:M.left[h]? = some (d :: rest)) (hi:M.idle[h]? = some true):WfC (M.start h d rest) T (n + 1):=by
 have m:=w.m;have o:h < M.idle.length:=(List.getElem?_eq_some_iff.mp hi).1;have j:=O1 hl;have p :∀(e:Nat) er,M.ers[e]? = some er->er.heard.length < M.maj->er.hand≠h:=λ e er g i z=>by have:=(w.lv e er g i).1;rw [z,hi] at this;cases this
 have v:WfC { M with left:=M.left.set h rest,idle:=M.idle.set h false,events:=M.events++[.beg h d] } T (n + 1):=by
  have t:({ M with left:=M.left.set h rest,idle:=M.idle.set h false,events:=M.events++[.beg h d] }:CM).opens=M.opens++[((h:Nat):Int)]:=z8d (M:={ M with left:=M.left.set h rest,idle:=M.idle.set h false });refine ⟨⟨?_,m.st,m.le,λ e c=>?_,λ e c=>L0 (m.hn e c) (K3 n),L0 m.ln (by omega),?_,?_,λ own f=>?_⟩,λ own f r q=>?_,w.be,w.bs,w.bL,λ e c=>?_,λ k l g i=>?_,λ k=>?_,?_,?_⟩
  ·show (M.idle.set h false).length=(M.left.set h rest).length;rw [U0,U0];exact m.il
  ·show e.hand < (M.idle.set h false).length;rw [U0];exact m.eh e c
  ·show (M.events++[_]).length<=_;rw [I0,A4];have:=m.vn;omega
  ·show (M.left.set h rest).length<=6;rw [U0];exact m.l6
  ·rcases K6 f with f|rfl
   ·exact m.lw own f
   ·have:=m.lw _ j;rw [X0] at this;omega
  ·rcases K6 f with f|rfl
   ·exact w.bl own f r q
   ·exact w.bl _ j r (.tail _ q)
  ·show okE (M.left.set h rest).length e;rw [U0];rcases List.mem_append.mp c with c|c
   ·exact w.bv e c
   ·rw [List.mem_singleton.mp c];exact ⟨by rw [<-m.il];exact o,w.bl _ j d (.head _)⟩
  ·obtain ⟨a,b⟩:=w.lv k l g i;refine ⟨?_,b⟩;show (M.idle.set h false)[l.hand]? = some false;rw [D2 (A2 (p k l g i))];exact a
  ·rw [t,List.mem_append,w.op k,List.mem_singleton];show _↔(M.idle.set h false)[k]? = some false;by_cases z:k=h
   ·subst z;rw [Q0 o];exact ⟨λ _=>rfl,λ _=>.inr rfl⟩
   ·rw [D2 (A2 z)];exact ⟨λ a=>a.elim id λ e=>absurd (by omega) z,.inl⟩
  ·show EWf [] ((M.events++[_]).map evO);rw [P1];refine w.ew.snoc λ z=>?_;have:=(w.op h).mp z;rw [hi] at this;cases this
  ·show (((M.events++[_]).map evO).filter isBeg).length + (M.left.set h rest).flatten.length=T;rw [P1,j05,I0];have l:=z9k hl;have x:=w.tt;show ((M.events.map evO).filter isBeg).length + 1 + _=T;omega
 have u:=zhl (er:=⟨h,d,none,[]⟩) v (show (M.idle.set h false)[h]? = some false from Q0 o) (λ e er g i=>p e er g i) rfl (w.bl _ j d (.head _)) λ k s=>by cases s
 refine zi4 u ?_ ?_
 ·show _ < (_++[_]).length;rw [I0];exact O3 _
 ·show M.letters.length + 5<=_;have:=m.ln;omega
theorem go_wf {M:CM} {T n:Nat} (w:WfC M T n) (c:Int):WfC (M.go c) T (n + 2):=by
 unfold CM.go;by_cases z0:M.ready.length + M.letters.length=0
 ·rw [if_pos z0];exact w.le1 (by omega)
 rw [if_neg z0];dsimp only;have v:=p9 c (show ((M.ready.length:Int) + 2 * (M.letters.length:Int))≠0 by omega);have D:=u8 c (show 0 < ((M.ready.length:Int) + 2 * (M.letters.length:Int)) by omega);have A:(c % ((M.ready.length:Int) + 2 * (M.letters.length:Int))).toNat < M.ready.length + 2 * M.letters.length:=by omega
 clear v D;generalize (c % ((M.ready.length:Int) + 2 * (M.letters.length:Int))).toNat=ch at A⊢;by_cases lt1:ch < M.ready.length
 ·rw [if_pos lt1];have p:M.ready[ch]? = some M.ready[ch]:=v0 lt1;have g:M.ready[ch]∈M.ready:=J3 lt1;generalize M.ready[ch]=h at p g;rw [p];show WfC (match M.left[h]? with|some (d :: rest)=>M.start h d rest|_=>M) T (n + 2);have g:h∈(O0 M.left.length).filter M.rdy:=g;obtain ⟨E,a⟩:=List.mem_filter.mp g;have t:h < M.left.length:=List.mem_range.mp E;have i:M.left[h]? = some M.left[h]:=v0 t;generalize M.left[h]=own at i;obtain ⟨C,r⟩ :∃b,M.idle[h]? = some b:=⟨_,v0 (by rw [w.m.il];exact t)⟩
  have a:(!(M.left[h]?.getD []).isEmpty && M.idle[h]?.getD false)=true:=a;rw [i,r] at a;rw [i];cases own with
  | nil=>cases a
  | cons d rest=>
   cases C with
   | true=>exact (w.start i r).le1 (K3 _)
   | false=>cases a
 rw [if_neg lt1];have y:0 < M.letters.length:=by omega
 generalize hk:(ch - M.ready.length) % M.letters.length=k;have j:k < M.letters.length:=by rw [<-hk];exact j0c _ y
 have u:M.letters[k]? = some M.letters[k]:=v0 j;have l:M.letters[k]∈M.letters:=J3 j;generalize M.letters[k]=L at u l;rw [u];dsimp only;split
 ·obtain ⟨B,z⟩:=w.m.le L l;have f:M.ers[L.e]? = some M.ers[L.e]:=v0 B;generalize M.ers[L.e]=er at f;have o:M.stock[L.num]? = some M.stock[L.num]:=v0 z;generalize M.stock[L.num]=s at o;have q:=w.erase k;have le1:(M.letters.eraseIdx k).length + 1=M.letters.length:=by rw [j54];rw [if_pos j];omega
  have F:=w.m.ln;unfold CM.come;show WfC (match M.ers[L.e]?,L.held,M.stock[L.num]? with
   | some er,some x,_=>CM.comeBack { M with letters:=M.letters.eraseIdx k } L.e er x
   | some er,none,some s=>CM.comeTo { M with letters:=M.letters.eraseIdx k } L.e er L.num s
   | _,_,_=>{ M with letters:=M.letters.eraseIdx k }) T (n + 2)
  rw [f,o];cases hh:L.held with
  | some x=>exact q.comeBack f (w.bL L l x hh) (by show (M.letters.eraseIdx k).length + 1<=_;omega)
  | none=>exact (q.comeTo f o).le1 (K3 _)
 ·exact (w.erase k).le1 (by omega)
noncomputable def CM.init (m:Nat) (bk:Bool) (pl:List (List (Option Int))):CM:=⟨F1 m ((0,-1),0),bk,pl,pl.map λ _=>true,[],[],[]⟩
theorem zdv {m:Nat} {bk:Bool} {pl:List (List (Option Int))} (g:PlG pl) (h0:0 < m) (h5:m<=5):WfC (CM.init m bk pl) pl.flatten.length 0:=by
 refine ⟨⟨B0 _,?_,(λ L c=>by cases c),(λ e a=>by cases a),(λ e a=>by cases a),E2 _,E2 _,g.n6,λ own b=>?_⟩,λ own b d k w j=>?_,(λ e a=>by cases a),λ x p=>?_,(λ L c=>by cases c),(λ e a=>by cases a),λ e n a=>?_,λ h=>?_,trivial,V5 _⟩
 ·show 0 < (F1 m _).length/\(F1 m _).length<=5;rw [Y2];exact ⟨h0,h5⟩
 ·have b:own∈pl:=b;obtain ⟨i,l,e⟩:=Q7 b;have:=(zb1 (X:=[]) (v0 l)).2.length_eq;rw [I0,e] at this;have:=g.f;omega
 ·subst j;exact g.bd w (List.mem_filterMap.mpr ⟨_,List.mem_flatten.mpr ⟨own,b,k⟩,rfl⟩)
 ·rw [(List.mem_replicate.mp p).2];exact ⟨by decide,by decide⟩
 ·have a:([]:List Er)[e]? = some n:=a;simp at a
 ·show _∈[]↔(pl.map λ _=>true)[h]? = some false;rw [K0];constructor
  ·intro z;cases z
  ·intro z;cases hp:pl[h]? with
   | none=>rw [hp] at z;cases z
   | some o=>rw [hp] at z;cases z
end
section
variable {P:Program} {w:W0} {mg:Str->Option Value} {base:Heap}
theorem sq_FH {H:Hp}:SqT (kx w) H 262 [.ref 261,.int 0]:=
 .inr ⟨⟨(.type "tuple"),none,(.seq #[(.ref 261),(.int (0) 591)] 0),#[]⟩,#[(.ref 261),(.int (0) 591)],0,by kernel_rfl,rfl,rfl,w_2,.cons rfl (.cons ⟨_,rfl⟩ .nil)⟩
theorem sq_FH0 {H:Hp}:SqT (kx w) H 261 [.int 0,.int (-1)]:=
 .inr ⟨⟨(.type "tuple"),none,(.seq #[(.int (0) 588),(.int (-1) 590)] 0),#[]⟩,#[(.int (0) 588),(.int (-1) 590)],0,by kernel_rfl,rfl,rfl,w_2,.cons ⟨_,rfl⟩ (.cons ⟨_,rfl⟩ .nil)⟩
theorem zia {H:Hp}:HdAt (kx w) H ((0,-1),0) (.ref 262):=⟨_,_,rfl,sq_FH,sq_FH0⟩
theorem zir {α β:Type} {R:α->β->Prop} {x:α} {y:β} (n:Nat) (h:R x y):All2 R (F1 n x) (F1 n y):=by
 induction n with
 | zero=>exact .nil
 | succ n ih=>exact .cons h ih
theorem dd_v {H:Hp} {o:Option Int} {y:V} (h:HPd H (ddP o) y):DdV H o y:=by
 cases o with
 | none=>obtain ⟨p,k,rfl,f,a,j,rfl,c,b,d,rfl,g,e⟩:=h;cases (show a=.str "read" from c);cases (show b=.non from g);cases (show d=[] from e);exact ⟨p,rfl,f⟩
 | some i=>obtain ⟨p,k,rfl,f,a,j,rfl,c,b,d,rfl,g,e⟩:=h;cases (show a=.str "write" from c);cases (show b=.int i from g);cases (show d=[] from e);exact ⟨p,rfl,f⟩
def z1w (K:j0):Sp:=λ vs H Q _=>∃(x dx a:Addr) (m:Nat) (bk:Bool) (pl:List (List (Option Int))) (B:Hp),vs=[.ref x,.int m,.ref a,.bl bk]/\m<=5/\H x=some (.ins 373 dx [])/\HPd H (.list (rowsP pl)) (.ref a)/\pl.length<=6/\B x=none/\Same B H/\
 ∀st lf id lt ev bs H',Same B H'->Cp K B H' x st lf id lt ev bs [] [] (CM.init m bk pl)->Q .non H'
theorem zfs (T:TX (kx w) mg):Fo P w mg base (CXE P w base) 2 316 y07 ["self","many","plan","back"] (z1w (kx w)):=by
 refine (z2b w.params).okE z4o (λ vs H Q E h=>?_) (λ h3 A h4 s H vs Q E hr h=>?_)
 ·obtain ⟨x,dx,a,m,bk,pl,B,rfl,_⟩:=h;rfl
 ·obtain ⟨x,dx,a,m,bk,pl,B,rfl,m5,ex,⟨a0,os,e0,ea,d9⟩,l6,e9,sB,q⟩:=h;cases e0;refine ⟨_,(z02 (ps_fld (pv 0) (pe_cg (xs:=["number"]) (g:=gName 0) (fr:=[]) (z1c rfl (T.no (z36 _)) (z01 (pv 1) pa_nil)) (λ _ _ _ _ _=>(pg_cn (N:=["number"]) 0)) (λ _ _ _ _ _=>pf_nil) (λ _ _ _ _ _=>(z1s (v:=.ref 262) rfl (T.of (z9y _)) rfl))) rfl)
   (z02 (ps_fld (pv 0) (pv 3) rfl)
   (z02 (ps_fld (pv 0) (pe_cg (xs:=["own"]) (g:=gName 0) (fr:=[]) (z1e (pv 2)) (λ _ _ _ _ _=>(pg_cn (N:=["own"]) 0)) (λ _ _ _ _ _=>pf_nil) (λ _ _ _ _ _=>(z5e (z8i (K:=KX w.params) rfl) rfl (T.no (n_list _)) j2b (z01 (pv 0) pa_nil)))) rfl)
   (z02 (ps_fld (pv 0) (pe_cg (xs:=["own"]) (g:=gName 0) (fr:=[]) (z1e (pv 2)) (λ _ _ _ _ _=>(pg_cn (N:=["own"]) 0)) (λ _ _ _ _ _=>pf_nil) (λ _ _ _ _ _=>pe_bl)) rfl)
   (z02 (ps_fld (pv 0) (pe_lst pa_nil) rfl)
   (z05 (ps_fld (pv 0) (pe_lst pa_nil) rfl))))))),?_⟩
  have lo:os.length=pl.length:=by have:=d9.length;unfold rowsP at this;rw [B0] at this;exact this
  have d7:a≠x:=λ z=>by rw [z,ex] at ea;cases ea
  have back :∀{Ht:Hp} {l:Addr},Kept x H Ht->l≠x->Ht l=none->B l=none:=λ {Ht l} k nl U=>by
   cases z:B l with
   | none=>rfl
   | some o=>rw [k l o nl (sB _ _ z)] at U;cases U
  refine z31 ?_;refine ⟨_,rfl,_,rfl,by omega,by omega,?_⟩;rw [a7];refine ⟨λ i k d H'=>k=m - i/\i<=m/\H'=H/\d=F1 i (.ref 262),⟨m,rfl,E2 _,rfl,rfl⟩,?_⟩;rintro i k d H2 ⟨rfl,hi,rfl,rfl⟩;by_cases J:i < m
  ·refine .inr ⟨J,by rw [Y2];exact L0 (m:=5) (by omega) (by decide),λ v H3 y=>?_⟩;obtain ⟨rfl,rfl⟩:=y;refine ⟨[some (.int (0 + (i:Int)))],rfl,rfl,iteT ?_⟩;exact ⟨m - (i + 1),by omega,rfl,J,rfl,by rw [List.replicate_succ']⟩
  have ei:i=m:=by omega
  subst ei;refine .inl ⟨J0 _,by rw [Y2];exact L0 (m:=5) (by omega) (by decide),λ G b4=>?_⟩;have W:G≠x:=λ z=>by rw [z,ex] at b4;cases b4
  have f4:B G=none:=back Kept.refl W b4;have k1:Kept x H2 (upd H2 G (.lst (F1 i (.ref 262)))):=Kept.upd b4;have d2:=Same.upd (o:=.lst (F1 i (.ref 262))) b4 _ _ ex;have u:upd H2 G (.lst (F1 i (.ref 262))) G=some (.lst (F1 i (.ref 262))):=z04;generalize upd H2 G (.lst (F1 i (.ref 262)))=H3 at k1 d2 u⊢;refine z19 k1 d2 rfl (z09 _) (z0q _) (n:=0) (J0 _) (by decide) λ H4 k4 t4 e8 F=>?_;replace u:=t4 _ _ W u;refine z31 ⟨_,rfl,z19 k4 e8 rfl (z09 _) (z46 _) F (by decide) λ H5 M t5 c6 F=>?_⟩;replace u:=t5 _ _ W u;refine z31 ?_;have f9:=M _ _ d7 ea;have h0 :∀p o,p≠x->H2 p=some o->H5 p=some o:=λ p o n e=>M p o n e;have f5:HPds H5 (rowsP pl) os:=HPds.mono' (λ p xs e=>M _ _ (λ z=>by rw [z,ex] at e;cases e) e) (λ p xs e=>M _ _ (λ z=>by rw [z,ex] at e;cases e) e) (λ p e=>M _ _ (λ z=>by rw [z,ex] at e;cases e) e) _ _ d9;refine zca (K:=KX w.params) (a:=a) (pl:=pl) (os:=os) (λ R h=>⟨_,rfl,h⟩) f9 f5 l6 λ lf bs H6 s6 a8 S=>?_;have a6:lf≠x:=λ z=>by rw [z,c6] at a8;cases a8
  have g5:B lf=none:=back M a6 a8;have Z :∀b∈bs,b≠x:=λ b I z=>by have:=(S.fr b I).1;rw [z,c6] at this;cases this
  have f1 :∀b∈bs,B b=none:=λ b I=>back M (Z b I) (S.fr b I).1;have g0:G≠lf:=λ z=>by rw [<-z,u] at a8;cases a8
  have f3 :∀b∈bs,G≠b:=λ b I z=>by have:=(S.fr b I).1;rw [<-z,u] at this;cases this
  replace u:=s6 _ _ u;have k6:=M.trans s6.kept;have c8:=s6 _ _ c6;refine z19 k6 c8 rfl (z09 _) (z24 _) F (by decide) λ L k8 t8 c2 F=>?_;replace u:=t8 _ _ W u;have c3:=t8 _ _ a6 S.l;have d4 :∀(j:Nat) (own:List (Option Int)) (b:Addr),pl[j]? = some own->bs[j]? = some b->∃d,L b=some (.lst d)/\All2 (DdV L) own d:=λ j own b e1 e2=>by obtain ⟨d,X,h2⟩:=S.ow j own b e1 e2;refine ⟨d,t8 _ _ (Z b (O1 e2)) X,z00 (λ _ _ z=>dd_v (dd_tk (λ p xs e=>t8 _ _ (λ z=>by rw [z,c8] at e;cases e) e) z)) h2⟩
  have e4:=S.ln;have f2:=S.nd;have f6:=λ b I=>(S.fr b I).2;refine z31 ?_;have f7:=k8 _ _ d7 ea;refine z1v (K:=KX w.params) (a:=a) (xs:=os) (H1:=L) (λ _=>true) (λ _ y _=>y=.bl true) (λ _ _ _ _ _ z=>z) (λ R h=>⟨_,rfl,h⟩) (SqL.of f7) (L0 (m:=6) (by omega) (by decide)) ?_ ?_
  ·intro i hi v H9 s9 hv KT KF X h2;refine ⟨[some v],rfl,rfl,iteT ?_⟩;exact X rfl _ _ (Same.refl _) rfl
  intro id H9 zs s9 a2 d0;rw [List.filter_eq_self.mpr (λ _ _=>rfl),lo] at d0;have ez:zs=(pl.map λ _=>true).map V.bl:=by
   have e1:=z1i (f:=λ _=>V.bl true) d0;rw [e1];apply List.ext_getElem?;intro j;rw [K0,K0,K0];by_cases z:j < pl.length
   ·rw [a5 z,v0 z];rfl
   ·rw [j4f (by rw [W1];omega),j4f (by omega)];rfl
  subst ez;have b1:id≠x:=λ z=>by rw [z,s9 _ _ c2] at a2;cases a2
  have g6:B id=none:=back (k8.trans s9.kept) b1 a2;have c5 :∀{l:Addr} {o:HO},L l=some o->id≠l:=λ {l o} e z=>by rw [z,s9 _ _ e] at a2;cases a2
  have c0:=s9.trans (Same.upd (o:=.lst ((pl.map λ _=>true).map V.bl)) a2);have Y:upd H9 id (.lst ((pl.map λ _=>true).map V.bl)) id=some (.lst ((pl.map λ _=>true).map V.bl)):=z04;generalize upd H9 id (.lst ((pl.map λ _=>true).map V.bl))=H10 at c0 Y⊢;refine z19 (k8.trans c0.kept) (c0 _ _ c2) rfl (z09 _) (z1g _) F (by decide) λ a4 c7 e6 d1 F=>?_;have b3 :∀{l:Addr} {o:HO},l≠x->L l=some o->a4 l=some o:=λ n e=>e6 _ _ n (c0 _ _ e);replace Y:=e6 _ _ b1 Y;refine z31 ⟨w_0,λ lt J=>?_⟩;have c1:lt≠x:=λ z=>by rw [z,d1] at J;cases J
  have g4:B lt=none:=back c7 c1 J;have b6:=Same.upd (o:=.lst []) J;have a9:upd a4 lt (.lst []) lt=some (.lst []):=z04;have b9 :∀{l:Addr} {o:HO},a4 l=some o->lt≠l:=λ {l o} e z=>by rw [z,e] at J;cases J
  generalize upd a4 lt (.lst [])=H12 at b6 a9⊢;refine z19 (c7.trans b6.kept) (b6 _ _ d1) rfl (z09 _) (z0p _) F (by decide) λ b2 d6 c9 e3 F=>?_;replace a9:=c9 _ _ c1 a9;refine zez ⟨w_0,λ D a3=>?_⟩;have e5:D≠x:=λ z=>by rw [z,e3] at a3;cases a3
  have f0:B D=none:=back d6 e5 a3;have b5:=Same.upd (o:=.lst []) a3;have d5:upd b2 D (.lst []) D=some (.lst []):=z04;have b0 :∀{l:Addr} {o:HO},b2 l=some o->D≠l:=λ {l o} e z=>by rw [z,e] at a3;cases a3
  generalize upd b2 D (.lst [])=H14 at b5 d5⊢;refine z19 (d6.trans b5.kept) (b5 _ _ e3) rfl (z09 _) (z10 _) F (by decide) λ O g7 d8 g8 F=>?_;have a1 :∀{l:Addr} {o:HO},l≠x->a4 l=some o->b2 l=some o:=λ n e=>c9 _ _ n (b6 _ _ e);have c4 :∀{l:Addr} {o:HO},l≠x->b2 l=some o->O l=some o:=λ n e=>d8 _ _ n (b5 _ _ e);have b7 :∀{l:Addr} {o:HO},l≠x->L l=some o->O l=some o:=λ n e=>c4 n (a1 n (b3 n e));refine q G lf id lt D bs O (λ p o e=>g7 p o (λ z=>by rw [z,e9] at e;cases e) (sB _ _ e)) ⟨⟨dx,_,g8,?_,?_,?_,?_,?_,?_,λ m t=>?_⟩,?_,(λ k r e=>by have e:([]:List Er)[k]? = some r:=e;simp at e),⟨rfl,rfl,e4⟩⟩
  ·exact lk_n (lk_n (lk_n (lk_n (lk_n lk_eq))))
  ·exact lk_n (lk_n (lk_n (lk_n lk_eq)))
  ·exact lk_n (lk_n (lk_n lk_eq))
  ·exact lk_n (lk_n lk_eq)
  ·exact lk_n lk_eq
  ·exact lk_eq
  ·unfold fldC at t;simp only [M3,N0,or_false,not_or] at t;exact (lk_ne t.2.2.2.2.2).trans ((lk_ne t.2.2.2.2.1).trans ((lk_ne t.2.2.2.1).trans ((lk_ne t.2.2.1).trans ((lk_ne t.2.1).trans ((lk_ne t.1).trans rfl)))))
  ·have g9 :∃C:List (List V),C.length=bs.length/\All2 (λ b d=>O b=some (.lst d)) bs C/\All2 (λ own d=>All2 (DdV O) own d) pl C:=by
    have f8 :∀(pl:List (List (Option Int))) (bs:List Addr),bs.length=pl.length->(∀b∈bs,b≠x)->(∀(j:Nat) (own:List (Option Int)) (b:Addr),pl[j]? = some own->bs[j]? = some b->∃d,L b=some (.lst d)/\All2 (DdV L) own d)->∃C:List (List V),C.length=bs.length/\All2 (λ b d=>O b=some (.lst d)) bs C/\All2 (λ own d=>All2 (DdV O) own d) pl C:=by
     intro pl;induction pl with
     | nil=>intro bs U _ _;rw [List.length_eq_zero_iff.mp U];exact ⟨[],rfl,.nil,.nil⟩
     | cons p pl ih=>
      intro bs U nb ho;cases bs with
      | nil=>cases U
      | cons b bs=>obtain ⟨d,X,h2⟩:=ho 0 p b rfl rfl;obtain ⟨C,g1,g2,g3⟩:=ih bs (by simpa using U) (λ c hc=>nb c (.tail _ hc)) λ j own c e1 e2=>ho (j + 1) own c (by simpa using e1) (by simpa using e2);exact ⟨d :: C,by rw [X0,X0,g1],.cons (b7 (nb b (.head _)) X) g2,.cons (z00 (λ _ _ z=>z.elim λ q z=>⟨q,z.1,b7 (λ e=>by rw [e,c2] at z;cases z.2) z.2⟩) h2) g3⟩
    exact f8 pl bs e4 Z d4
   obtain ⟨C,g1,g2,g3⟩:=g9;refine ⟨F1 i (.ref 262),[],[],C,[],⟨?_,?_,?_⟩,g1,?_,.nil,.nil,g3,.nil⟩
   ·rw [C3,C3];exact .cons (b7 W u) (.cons (b7 a6 c3) (.cons (c4 b1 (a1 b1 Y)) (.cons (c4 c1 a9) (.cons (d8 _ _ e5 d5) g2))))
   ·rw [C3];have b8 :∀b∈bs,∃o,L b=some o:=λ b I=>by obtain ⟨j,hj,e⟩:=Q7 I;obtain ⟨d,X,_⟩:=d4 j _ b (v0 (show j < pl.length by omega)) (by rw [v0 hj,e]);exact ⟨_,X⟩
    have d3:=b3 W u;have e7:=b3 a6 c3;simp only [W5,M3,not_or];refine ⟨⟨g0,A2 (c5 u),A2 (b9 d3),A2 (b0 (a1 W d3)),λ z=>f3 G z rfl⟩,⟨A2 (c5 c3),A2 (b9 e7),A2 (b0 (a1 a6 e7)),λ z=>f6 lf z rfl⟩,⟨A2 (b9 Y),A2 (b0 (a1 b1 Y)),λ z=>?_⟩,⟨A2 (b0 a9),λ z=>?_⟩,λ z=>?_,f2⟩
    ·obtain ⟨o,e⟩:=b8 id z;exact c5 e rfl
    ·obtain ⟨o,e⟩:=b8 lt z;exact b9 (b3 (Z lt z) e) rfl
    ·obtain ⟨o,e⟩:=b8 D z;exact b0 (a1 (Z D z) (b3 (Z D z) e)) rfl
   ·intro m t;rw [C3] at t;simp only [M3] at t;rcases t with rfl|rfl|rfl|rfl|rfl|t
    ·exact f4
    ·exact g5
    ·exact g6
    ·exact g4
    ·exact f0
    ·exact f1 m t
   ·show All2 (HdAt (kx w) O) (F1 i ((0,-1),0)) (F1 i (.ref 262));exact zir i zia
noncomputable def wP:Option Int->PyData
 | none=>.none
 | some i=>.int i
noncomputable def aP:Option Int->PyData
 | none=>.str "ok"
 | some i=>.int i
noncomputable def evP:CEv->PyData
 | .beg h d=>.tuple [.str "begin",.int (h:Nat),.str "r",.str (vbD d),wP d]
 | .fin h a=>.tuple [.str "end",.int (h:Nat),aP a]
noncomputable def taleP (es:List CEv):PyData:=.tuple [.tuple [.tuple [.str "r",.str "register"]],.tuple (es.map evP)]
theorem ev_hpd {H:Hp} {e:CEv} {y:V} (h:EvV H e y):HPd H (evP e) y:=by
 cases e with
 | beg k d=>obtain ⟨p,rfl,b⟩:=h;refine ⟨p,_,rfl,b,_,_,rfl,rfl,_,_,rfl,rfl,_,_,rfl,rfl,_,_,rfl,rfl,_,_,rfl,?_,rfl⟩;cases d<;>rfl
 | fin k a=>obtain ⟨p,rfl,b⟩:=h;refine ⟨p,_,rfl,b,_,_,rfl,rfl,_,_,rfl,rfl,_,_,rfl,?_,rfl⟩;cases a<;>rfl
theorem name_r:NameOk "r":=⟨by decide +kernel,by decide +kernel,by decide +kernel⟩
theorem ze4 {i g:Int} (h0:-g<=i) (h1:i<=g):z0h (.int i) g=true:=by unfold z0h;dsimp only;rw [decide_eq_true h0,decide_eq_true h1];rfl
theorem ev_t {H:Hp} {n:Nat} {e:CEv} {y:V} (h:EvV H e y) (ok:okE n e) (n6:n<=6):EvT H [("r","register")] (evO e) y:=by
 cases e with
 | beg k d=>
  obtain ⟨p,rfl,c⟩:=h;obtain ⟨f,b⟩:=ok;refine ⟨p,"r","register",vbD d,rfl,c,by omega,by omega,rfl,rfl,.head _,name_r,?_⟩;cases d with
  | none=>exact .none (show formOf "register" "read" = 0 by decide +kernel)
  | some w=>exact .one (show formOf "register" "write" = 1 by decide +kernel) (ze4 (b w rfl).1 (b w rfl).2)
 | fin k a=>
  obtain ⟨p,rfl,c⟩:=h;obtain ⟨f,b⟩:=ok;refine ⟨p,rfl,c,by omega,by omega,?_⟩;cases a with
  | none=>exact .inl rfl
  | some w=>have:=b w rfl;exact .inr (.inr ⟨w,rfl,ze4 (by have:=this.1;omega) (by have:=this.2;omega)⟩)
theorem zbh {T:Nat} :∀(cs:List Int) {M:CM} {n:Nat},WfC M T n->WfC (cs.foldl CM.go M) T (n + 2 * cs.length)
 | [],M,n,h=>h
 | c :: cs,M,n,h=>by have:=zbh cs (go_wf h c);rw [W2,X0];exact this.le1 (by omega)
def z4x (K:j0):Sp:=λ vs H Q _=>∃(m:Nat) (a c:Addr) (bk:Bool) (cs:List Int) (pl:List (List (Option Int))),vs=[.int m,.ref a,.ref c,.bl bk]/\(m=3\/m=5)/\HPd H (.list (rowsP pl)) (.ref a)/\PlG pl/\H c=some (.lst (cs.map V.int))/\cs.length<=450/\
 ∀t H',Same H H'->HPd H' (taleP (cs.foldl CM.go (CM.init m bk pl)).events) t->Q t H'
theorem z8m (T:TX (kx w) mg) (c0:CaE P w mg base "check_plan" ["many","plan"] 7 (z4u (kx w))) (c8:Fo P w mg base (CXE P w base) 2 316 y07 ["self","many","plan","back"] (z1w (kx w))) (c9:Fo P w mg base CX0 7 321 y0a ["self","choice"] (z32 (kx w))) (c10:Ca P w mg base "make_tale" ["things","events"] 7 (z5l (kx w))):Fo P w mg base (CXE P w base) 9 389 y0r ["many","plan","choices","back"] (z4x (kx w)):=by
 refine (z3m w.params).okE sc_run_copies (λ C H Q E h=>?_) (λ b9 A d1 s H C Q E I h=>?_)
 ·obtain ⟨m,a,c,bk,j,p,rfl,_⟩:=h;rfl
 ·obtain ⟨m,a,c,bk,j,p,rfl,d0,hp,g,ec,lc,q⟩:=h;refine ⟨_,(z02 (z0d (zk1 passE c0 (I.mono (by decide)) rfl (z01 (pv 0) (z01 (pv 1) pa_nil))))
   (z02 (ps_set (i:=4) sc_run_copies.nd rfl (Z1 rfl) (z72 (zhg _) c8 (I.mono (by decide)) rfl (T.of (zis _)) (z5b _) .nil passN (z01 (pv 0) (z01 (pv 1) (z01 (pv 3) pa_nil)))))
   (z02 (PS.nox (ps_for w4 rfl (z1e (pv 2)) (z0s (i:=5) sc_run_copies.nd rfl (Z1 rfl))
   (z05 (z0d (z2m (pv 4) (z09 _) (z6u _) c9 (I.mono (by decide)) (z7l _) .nil pass0 (z01 (pv 5) pa_nil))))))
   (z05 (ps_ret (pe_cal c10 (I.mono (by decide)) rfl (z01 (pe_lst (z01 (pe_tup (z01 pe_str (z01 pe_str pa_nil))) pa_nil)) (z01 (pe_fld (pv 4) rfl) pa_nil)))))))),?_⟩
  refine ⟨_,rfl,_,rfl,m,.ref a,rowsP p,rfl,hp,zki g,λ u O _ _=>?_,λ J s' z=>absurd (z (by omega)) (by rw [zhh g];decide)⟩;have a5:=hp.same O;refine t_nx (z0e ?_);refine ⟨_,rfl,_,rfl,_,rfl,λ b v a0 a9 ne=>?_⟩;have U:Same u (upd (upd u v (.own b)) b (.ins 373 v [])):=(Same.upd a9).trans (Same.upd (by rw [upd_ne (A2 ne)];exact a0));have e2:upd (upd u v (.own b)) b (.ins 373 v []) b=some (.ins 373 v []):=z04;generalize upd (upd u v (.own b)) b (.ins 373 v [])=H2 at U e2⊢;refine ⟨b,v,a,m,bk,p,u,rfl,by omega,e2,a5.same U,g.n6,a0,U,λ st lf id lt G bs H3 s3 b4=>⟨rfl,?_⟩⟩;refine g_name ?_;have a2:WfC (CM.init m bk p) p.flatten.length 0:=zdv g (by omega) (by omega);refine ⟨_,rfl,c,rfl,⟨_,SqL.of (s3 _ _ (O _ _ ec))⟩,?_⟩;refine z5n (K:=KX w.params) (a:=c) (xs:=j.map V.int) (λ i σ J=>Same u J/\∃n hls x5,Cp (kx w) u J b st lf id lt G bs n hls ((j.take i).foldl CM.go (CM.init m bk p))/\σ=[some (.int m),some (.ref a),some (.ref c),some (.bl bk),some (.ref b),x5]) ⟨s3,[],[],_,b4,rfl⟩ (λ _ σ J _ h=>SqL.of (h.1 _ _ (O _ _ ec))) ?_ ?_
  ·rintro i y σ F x ⟨s4,n,hls,x5,cp4,rfl⟩;rw [K0] at x;cases hc:j[i]? with
   | none=>rw [hc] at x;cases x
   | some k=>
   rw [hc] at x;cases x;have hi:i < j.length:=(List.getElem?_eq_some_iff.mp hc).1;have l:=zbh (j.take i) a2;rw [K8,Nat.min_eq_left (by omega),V5] at l;refine g_name ?_;obtain ⟨W,S,R,i2,i3,i4,i5,i6,i7,i8⟩:=cp4.ins;refine ⟨_,rfl,b,W,S,rfl,R,i8 _ (by decide +kernel),_,rfl,?_⟩;refine ⟨b,k,u,st,lf,id,lt,G,bs,n,hls,_,2 * i,rfl,cp4,l.m,by omega,s4,λ a6 a4 B s5 a7=>⟨s5,a6,a4,_,?_,rfl⟩⟩;have ek:(j.take (i + 1)).foldl CM.go (CM.init m bk p)=((j.take i).foldl CM.go (CM.init m bk p)).go k:=by rw [List.take_succ,hc,j0g];rfl
   rw [ek];exact a7
  rintro σ F ⟨s4,n,hls,x5,cp4,rfl⟩;rw [U6 (by rw [B0];exact J0 _)] at cp4;have l:=zbh j a2;rw [V5] at l;obtain ⟨W,S,R,i2,i3,i4,i5,i6,i7,i8⟩:=cp4.ins;obtain ⟨sv,lv,N,b7,b8,c1,c2,c3,c4,c5,c6,c7⟩:=cp4.ct;have b1:F G=some (.lst N):=c1.at (i:=4) rfl rfl;generalize (j.foldl CM.go (CM.init m bk p))=M at cp4 l c1 c3 c4 c5 c6 c7 i3 q;refine t_nx (sq_ret ?_);refine ⟨w_2,λ d b2=>⟨w_1,λ L b5=>?_⟩⟩;have t1:=Same.upd (o:=.tup [.str "r",.str "register"]) b2;have t2:=Same.upd (o:=.lst [.ref d]) b5;have Y:=t2 _ _ (z04 (H:=F) (a:=d) (o:=.tup [.str "r",.str "register"]));have Z:upd (upd F d (.tup [.str "r",.str "register"])) L (.lst [.ref d]) L=some (.lst [.ref d]):=z04;have D:=t1.trans t2;generalize upd (upd F d (.tup [.str "r",.str "register"])) L (.lst [.ref d])=B at Y Z D⊢;refine ⟨_,rfl,b,_,W,S,_,rfl,D _ _ R,z09 _,z10 _,i7,?_⟩;have l6:=l.m.l6;have vn:=l.m.vn;have a3:All2 (EvV B) M.events N:=z00 (λ _ _ z=>z.imm (Imm.of D)) c5;have b3:All2 (EvT B [("r","register")]) (M.events.map evO) N:=by
   have b0 :∀{n:List CEv} {C:List V},All2 (EvV B) n C->(∀e∈n,okE M.left.length e)->All2 (EvT B [("r","register")]) (n.map evO) C:=by
    intro n C h;induction h with
    | nil=>exact λ _=>.nil
    | cons a r ih=>exact λ ok=>.cons (ev_t a (ok _ (.head _)) l6) (ih λ e he=>ok e (.tail _ he))
   exact b0 a3 l.bv
  have gf:=g.f;have tt:=l.tt;refine ⟨L,G,[.ref d],[("r","register")],N,_,rfl,Z,.cons ⟨d,rfl,Y⟩ .nil,(show (1:Nat)<=6 by decide),List.nodup_cons.mpr ⟨N0,.nil⟩,λ t ht=>by rw [List.mem_singleton.mp ht];exact ⟨name_r,by decide +kernel⟩,D _ _ b1,b3,by rw [B0];omega,by omega,l.ew,λ pp t c' e' H6 X et a8 b6 pe _=>?_⟩;have e1:pp=[0]:=List.perm_singleton.mp pe;subst e1;refine q _ H6 ((O.trans s4).trans (D.trans X)) ⟨t,_,rfl,et,_,_,rfl,⟨c',_,rfl,a8,_,_,rfl,⟨d,_,rfl,X _ _ Y,_,_,rfl,rfl,_,_,rfl,rfl,rfl⟩,rfl⟩,_,_,rfl,⟨e',_,rfl,b6,?_⟩,rfl⟩;exact z9j (z00 (λ _ _ z=>ev_hpd (z.imm (Imm.of X))) a3)
end
section
structure LL where
 copy:Nat
 hand:Nat
 turn:Nat
 to:Bool
 x:Option Hd
structure LD where
 d:Option Int
 round:Nat
 keeps:Bool
 heard:List Hd
 ans:Option Int
structure LM where
 held:List Hd
 under:List LL
 nxt:List Nat
 opn:List (Option LD)
 rounds:Nat
 events:List CEv
noncomputable def LM.init (m:Nat) (pl:List (List (Option Int))):LM:=⟨F1 m ((0,-1),0),[],pl.map λ _=>0,pl.map λ _=>none,0,[]⟩
noncomputable def LM.sent (N:LM) (h:Nat) (D:LD) (x:Option Hd):LM:={ N with rounds:=N.rounds + 1,opn:=N.opn.set h (some { D with round:=N.rounds + 1,keeps:=x.isSome,heard:=[] }),under:=N.under++(O0 N.held.length).map λ c=>⟨c,h,N.rounds + 1,true,x⟩ }
noncomputable def LM.ended (N:LM) (h:Nat) (a:Option Int):LM:={ N with opn:=N.opn.set h none,events:=N.events++[.fin h a] }
noncomputable def LM.goneOn (N:LM) (bk:Bool) (h:Nat) (D:LD):LM:=
 if D.keeps=true then N.ended h D.ans else match D.d with
  | some w=>N.sent h { D with ans:=none } (some (((maxHd D.heard).1.1 + 1,(h:Int)),w))
  | none=>if bk=true then N.sent h { D with ans:=some (maxHd D.heard).2 } (some (maxHd D.heard)) else N.ended h (some (maxHd D.heard).2)
noncomputable def LD.hear (D:LD) (x:Hd):LD:={ D with heard:=D.heard++[x] }
noncomputable def LM.hear (N:LM) (bk:Bool) (L:LL) (D:LD) (x:Hd):LM:=
 if D.round=L.turn then (if N.held.length < 2 * (D.hear x).heard.length then LM.goneOn { N with opn:=N.opn.set L.hand (some (D.hear x)) } bk L.hand (D.hear x) else { N with opn:=N.opn.set L.hand (some (D.hear x)) }) else N
noncomputable def LM.come (N:LM) (bk:Bool) (L:LL):LM:=
 if L.to=true then (match N.held[L.copy]? with
  | some s=>{ N with held:=N.held.set L.copy (keepH L.x s),under:=N.under++[⟨L.copy,L.hand,L.turn,false,some (keepH L.x s)⟩] }
  | none=>N)
 else (match N.opn[L.hand]?,L.x with
  | some (some D),some x=>N.hear bk L D x
  | _,_=>N)
noncomputable def LM.fre (N:LM) (pl:List (List (Option Int))) (h:Nat):Bool:=(N.opn[h]?.getD none).isNone && decide (N.nxt[h]?.getD 0 < (pl[h]?.getD []).length)
noncomputable def LM.free (N:LM) (pl:List (List (Option Int))):List Nat:=(O0 pl.length).filter (N.fre pl)
noncomputable def LM.begin (N:LM) (h:Nat) (d:Option Int):LM:=LM.sent { N with nxt:=N.nxt.set h (N.nxt[h]?.getD 0 + 1),opn:=N.opn.set h (some ⟨d,0,false,[],none⟩),events:=N.events++[.beg h d] } h ⟨d,0,false,[],none⟩ none
noncomputable def LM.moved (N:LM) (pl:List (List (Option Int))) (bk:Bool) (n:Nat):LM:=
 if n < (N.free pl).length then (match (pl[(N.free pl)[n]?.getD 0]?.getD [])[N.nxt[(N.free pl)[n]?.getD 0]?.getD 0]? with
  | some d=>N.begin ((N.free pl)[n]?.getD 0) d
  | none=>N)
 else (match N.under[(n - (N.free pl).length) % N.under.length]? with
  | some L=>if n < (N.free pl).length + N.under.length then LM.come { N with under:=N.under.eraseIdx ((n - (N.free pl).length) % N.under.length) } bk L else { N with under:=N.under.eraseIdx ((n - (N.free pl).length) % N.under.length) }
  | none=>N)
noncomputable def LM.go (N:LM) (pl:List (List (Option Int))) (bk:Bool) (c:Int):LM:=
 if (N.free pl).length + N.under.length=0 then N else N.moved pl bk (c % (((N.free pl).length:Int) + 2 * (N.under.length:Int))).toNat
def LLm (ers:List Er) (L:Lt) (l:LL):Prop:=∃er,ers[L.e]? = some er/\l.copy=L.num/\l.turn=L.e + 1/\l.hand=er.hand/\l.to=L.held.isNone/\l.x=(match L.held with|none=>er.kept|some x=>some x)
structure Sm (pl:List (List (Option Int))) (M:CM) (N:LM):Prop where
 st:N.held=M.stock
 ev:N.events=M.events
 nl:N.nxt.length=pl.length
 ol:N.opn.length=pl.length
 ll:M.left.length=pl.length
 il:M.idle.length=pl.length
 lf :∀h,h < pl.length->M.left[h]? = some ((pl[h]?.getD []).drop (N.nxt[h]?.getD 0))
 id :∀h,h < pl.length->M.idle[h]? = some (N.opn[h]?.getD none).isNone
 rd:N.rounds=M.ers.length
 un:All2 (LLm M.ers) M.letters N.under
 cu :∀h D,N.opn[h]? = some (some D)->∃e er,D.round=e + 1/\M.ers[e]? = some er/\er.hand=h/\er.deed=D.d/\er.kept.isSome=D.keeps/\er.heard=D.heard/\2 * D.heard.length<=M.stock.length/\∀k,er.kept=some k->D.ans=ansC er.deed k.2
 pa :∀e er,M.ers[e]? = some er->er.hand < pl.length/\((∃D,N.opn[er.hand]? = some (some D)/\D.round=e + 1)\/M.stock.length < 2 * er.heard.length)
 odd:M.stock.length % 2=1
 inb :∀L∈M.letters,L.num < M.stock.length
theorem LLm.set {ers:List Er} {L:Lt} {l:LL} {e:Nat} {er:Er} {x:Hd} (he:ers[e]? = some er) (h:LLm ers L l):LLm (ers.set e (er.hear x)) L l:=by
 obtain ⟨r,a,b⟩:=h;by_cases z:L.e=e
 ·rw [z,he] at a;cases a;exact ⟨er.hear x,by rw [z,Q0 (List.getElem?_eq_some_iff.mp he).1],b⟩
 ·exact ⟨r,by rw [D2 (A2 z)];exact a,b⟩
theorem LLm.more {ers:List Er} {L:Lt} {l:LL} (r:Er) (h:LLm ers L l):LLm (ers++[r]) L l:=by obtain ⟨c,a,b⟩:=h;exact ⟨c,by rw [K1 (List.getElem?_eq_some_iff.mp a).1];exact a,b⟩
theorem Sm.free {pl:List (List (Option Int))} {M:CM} {N:LM} (s:Sm pl M N):N.free pl=M.ready:=by
 unfold LM.free CM.ready;rw [s.ll];refine List.filter_congr λ h a=>?_;have a:=List.mem_range.mp a;unfold LM.fre CM.rdy;rw [s.lf h a,s.id h a];show _=(!((pl[h]?.getD []).drop (N.nxt[h]?.getD 0)).isEmpty && (N.opn[h]?.getD none).isNone);rw [Bool.and_comm];congr 1;rw [Bool.eq_iff_iff,decide_eq_true_iff,Bool.not_eq_true',List.isEmpty_eq_false_iff_exists_mem];constructor
 ·intro z;refine ⟨((pl[h]?.getD [])[N.nxt[h]?.getD 0]),?_⟩;rw [List.mem_drop_iff_getElem];exact ⟨0,by omega,by simp⟩
 ·rintro ⟨x,hx⟩;have:=j3i hx;rw [N8] at this;omega
theorem z3a {α β:Type} {R:α->β->Prop} {xs xs':List α} {ys ys':List β} (h:All2 R xs ys) (h':All2 R xs' ys'):All2 R (xs++xs') (ys++ys'):=by
 induction h with
 | nil=>exact h'
 | cons a r ih=>exact .cons a ih
def Cur (M:CM) (h:Nat) (D:LD):Prop:=∃e er,D.round=e + 1/\M.ers[e]? = some er/\er.hand=h/\er.deed=D.d/\er.kept.isSome=D.keeps/\er.heard=D.heard/\2 * D.heard.length<=M.stock.length/\∀k,er.kept=some k->D.ans=ansC er.deed k.2
structure Pr (pl:List (List (Option Int))) (M:CM) (N:LM) (h:Nat):Prop where
 st:N.held=M.stock
 ev:N.events=M.events
 nl:N.nxt.length=pl.length
 ol:N.opn.length=pl.length
 ll:M.left.length=pl.length
 il:M.idle.length=pl.length
 lf :∀h,h < pl.length->M.left[h]? = some ((pl[h]?.getD []).drop (N.nxt[h]?.getD 0))
 id :∀k,k < pl.length->k≠h->M.idle[k]? = some (N.opn[k]?.getD none).isNone
 hh:h < pl.length
 rd:N.rounds=M.ers.length
 un:All2 (LLm M.ers) M.letters N.under
 cu :∀k D,k≠h->N.opn[k]? = some (some D)->Cur M k D
 pa :∀e er,M.ers[e]? = some er->er.hand < pl.length/\((er.hand≠h/\∃D,N.opn[er.hand]? = some (some D)/\D.round=e + 1)\/M.stock.length < 2 * er.heard.length)
 odd:M.stock.length % 2=1
 inb :∀L∈M.letters,L.num < M.stock.length
theorem z0n {α:Type} {l:List α} {h k:Nat} {x:α} (hh:h < l.length):(l.set h x)[k]? = if k=h then some x else l[k]?:=by
 by_cases z:k=h
 ·rw [if_pos z,z,Q0 hh]
 ·rw [if_neg z,D2 (A2 z)]
theorem Pr.sent {pl:List (List (Option Int))} {M:CM} {N:LM} {h:Nat} {D:LD} {x:Option Hd} (s:Pr pl M N h) (ih:M.idle[h]? = some false) (ea :∀k,x=some k->D.ans=ansC D.d k.2):Sm pl ((M.make ⟨h,D.d,x,[]⟩).send M.ers.length) (N.sent h D x):=by
 have g:h < N.opn.length:=by rw [s.ol];exact s.hh
 refine ⟨s.st,s.ev,s.nl,by show (N.opn.set h _).length=_;rw [U0];exact s.ol,s.ll,s.il,s.lf,λ k j=>?_,by show N.rounds + 1=(M.ers++[_]).length;rw [I0,s.rd];rfl,?_,λ k i a=>?_,λ e f b=>?_,s.odd,λ L l=>?_⟩
 ·show M.idle[k]? = some ((N.opn.set h _)[k]?.getD none).isNone;rw [z0n g];by_cases z:k=h
  ·rw [if_pos z,z,ih];rfl
  ·rw [if_neg z];exact s.id k j z
 ·show All2 (LLm (M.ers++[_])) (M.letters++(O0 M.stock.length).map λ k=>⟨M.ers.length,k,none⟩) (N.under++(O0 N.held.length).map λ c=>⟨c,h,N.rounds + 1,true,x⟩);refine z3a (z00 (λ _ _ z=>z.more _) s.un) ?_;rw [s.st,s.rd];generalize O0 M.stock.length=r;induction r with
  | nil=>exact .nil
  | cons k r ih=>exact .cons ⟨⟨h,D.d,x,[]⟩,by simp,rfl,rfl,rfl,rfl,rfl⟩ ih
 ·have a:(N.opn.set h _)[k]? = some (some i):=a;rw [z0n g] at a;by_cases z:k=h
  ·rw [if_pos z] at a;cases a;exact ⟨M.ers.length,⟨h,D.d,x,[]⟩,by rw [s.rd],by show (M.ers++[_])[_]? = _;simp,z.symm,rfl,rfl,rfl,E2 _,ea⟩
  ·rw [if_neg z] at a;obtain ⟨e,f,p,o,v⟩:=s.cu k i z a;exact ⟨e,f,p,by show (M.ers++[_])[_]? = _;rw [K1 (List.getElem?_eq_some_iff.mp o).1];exact o,v⟩
 ·have b:(M.ers++[_])[e]? = some f:=b;rcases j15 e M.ers.length with z|z
  ·rw [K1 z] at b;obtain ⟨u,t⟩:=s.pa e f b;refine ⟨u,t.imp (λ ⟨n,i,q1,q2⟩=>⟨i,?_,q2⟩) λ q=>q⟩;show (N.opn.set h _)[f.hand]? = _;rw [z0n g,if_neg n];exact q1
  ·have m:e=M.ers.length:=by have:=(List.getElem?_eq_some_iff.mp b).1;rw [I0] at this;simp only [X0,K4] at this;omega
   rw [m,A1 (J0 _),Y7] at b;cases b;refine ⟨s.hh,.inl ⟨_,by show (N.opn.set h _)[h]? = _;rw [z0n g,if_pos rfl],?_⟩⟩;show N.rounds + 1=e + 1;rw [s.rd,m]
 ·have l:L∈M.letters++(O0 M.stock.length).map λ k=>⟨M.ers.length,k,none⟩:=l;rcases List.mem_append.mp l with z|z
  ·exact s.inb L z
  ·obtain ⟨k,j,rfl⟩:=List.mem_map.mp z;exact List.mem_range.mp j
theorem Pr.ended {pl:List (List (Option Int))} {M:CM} {N:LM} {h:Nat} {a:Option Int} (s:Pr pl M N h):Sm pl { M with idle:=M.idle.set h true,events:=M.events++[.fin h a] } (N.ended h a):=by
 have d:h < N.opn.length:=by rw [s.ol];exact s.hh
 have g:h < M.idle.length:=by rw [s.il];exact s.hh
 refine ⟨s.st,by show N.events++_=M.events++_;rw [s.ev],s.nl,by show (N.opn.set h _).length=_;rw [U0];exact s.ol,s.ll,by show (M.idle.set h _).length=_;rw [U0];exact s.il,s.lf,λ k j=>?_,s.rd,s.un,λ k c b=>?_,λ e f l=>?_,s.odd,s.inb⟩
 ·show (M.idle.set h _)[k]? = some ((N.opn.set h _)[k]?.getD none).isNone;rw [z0n d,z0n g];by_cases z:k=h
  ·rw [if_pos z,if_pos z];rfl
  ·rw [if_neg z,if_neg z];exact s.id k j z
 ·have b:(N.opn.set h _)[k]? = some (some c):=b;rw [z0n d] at b;by_cases z:k=h
  ·rw [if_pos z] at b;cases b
  ·rw [if_neg z] at b;exact s.cu k c z b
 ·obtain ⟨m,i⟩:=s.pa e f l;refine ⟨m,i.imp (λ ⟨n,c,q1,q2⟩=>⟨c,?_,q2⟩) λ q=>q⟩;show (N.opn.set h _)[f.hand]? = _;rw [z0n d,if_neg n];exact q1
theorem Sm.begin {pl:List (List (Option Int))} {M:CM} {N:LM} {h:Nat} {d:Option Int} {rest:List (Option Int)} (s:Sm pl M N) (hh:h < pl.length) (ho:N.opn[h]? = some none) (hl:M.left[h]? = some (d :: rest)):Sm pl (M.start h d rest) (N.begin h d):=by
 have b:h < N.opn.length:=by rw [s.ol];exact hh
 have i:h < N.nxt.length:=by rw [s.nl];exact hh
 have g:h < M.idle.length:=by rw [s.il];exact hh
 have j:h < M.left.length:=by rw [s.ll];exact hh
 refine Pr.sent (M:={ M with left:=M.left.set h rest,idle:=M.idle.set h false,events:=M.events++[.beg h d] }) (D:=⟨d,0,false,[],none⟩) ⟨s.st,by show N.events++_=M.events++_;rw [s.ev],by show (N.nxt.set h _).length=_;rw [U0];exact s.nl,by show (N.opn.set h _).length=_;rw [U0];exact s.ol,by show (M.left.set h _).length=_;rw [U0];exact s.ll,by show (M.idle.set h _).length=_;rw [U0];exact s.il,λ k c=>?_,λ k c n=>?_,hh,s.rd,s.un,λ k D n a=>?_,λ e f m=>?_,s.odd,s.inb⟩ (Q0 g) λ k e=>by cases e
 ·show (M.left.set h _)[k]? = some ((pl[k]?.getD []).drop ((N.nxt.set h _)[k]?.getD 0));rw [z0n j,z0n i];by_cases z:k=h
  ·rw [if_pos z,if_pos z];have:=s.lf h hh;rw [hl] at this;rw [z];show some rest=some ((pl[h]?.getD []).drop (N.nxt[h]?.getD 0 + 1));rw [<-List.drop_drop,<-O2 this];rfl
  ·rw [if_neg z,if_neg z];exact s.lf k c
 ·show (M.idle.set h _)[k]? = some ((N.opn.set h _)[k]?.getD none).isNone;rw [z0n b,z0n g,if_neg n,if_neg n];exact s.id k c
 ·have a:(N.opn.set h _)[k]? = some (some D):=a;rw [z0n b,if_neg n] at a;exact s.cu k D a
 ·obtain ⟨o,l⟩:=s.pa e f m;refine ⟨o,l.imp (λ ⟨D',q1,q2⟩=>?_) λ q=>q⟩;have n:f.hand≠h:=λ z=>by rw [z,ho] at q1;cases q1
  exact ⟨n,D',by show (N.opn.set h _)[f.hand]? = _;rw [z0n b,if_neg n];exact q1,q2⟩
theorem zeg {N:LM} {bk:Bool} {h:Nat} {D:LD} (e:D.keeps=true):N.goneOn bk h D=N.ended h D.ans:=if_pos e
theorem zdo {N:LM} {bk:Bool} {h:Nat} {D:LD} {w:Int} (e:D.keeps=false) (ed:D.d=some w):N.goneOn bk h D=N.sent h { D with ans:=none } (some (((maxHd D.heard).1.1 + 1,(h:Int)),w)):=by unfold LM.goneOn;rw [if_neg (by rw [e];decide),ed]
theorem z9z {N:LM} {bk:Bool} {h:Nat} {D:LD} (e:D.keeps=false) (ed:D.d=none):N.goneOn bk h D=if bk=true then N.sent h { D with ans:=some (maxHd D.heard).2 } (some (maxHd D.heard)) else N.ended h (some (maxHd D.heard).2):=by unfold LM.goneOn;rw [if_neg (by rw [e];decide),ed]
theorem ask_w {M:CM} {er:Er} {w:Int} (e:er.deed=some w):M.ask er=(M.make ⟨er.hand,some w,some (((maxHd er.heard).1.1 + 1,er.hand),w),[]⟩).send M.ers.length:=by unfold CM.ask;rw [e]
theorem ask_r {M:CM} {er:Er} (e:er.deed=none):M.ask er=if M.back=true then (M.make ⟨er.hand,none,some (maxHd er.heard),[]⟩).send M.ers.length else { M with idle:=M.idle.set er.hand true,events:=M.events++[.fin er.hand (some (maxHd er.heard).2)] }:=by unfold CM.ask CM.stop;rw [e];rfl
theorem Sm.hear {pl:List (List (Option Int))} {M:CM} {N:LM} {L:Lt} {l:LL} {er:Er} {x:Hd} (s:Sm pl M N) (he:M.ers[L.e]? = some er) (lt:l.turn=L.e + 1) (lh:l.hand=er.hand):Sm pl (M.comeBack L.e er x) (match N.opn[l.hand]?,some x with
  | some (some D),some x=>N.hear M.back l D x
  | _,_=>N):=by
 obtain ⟨r,T⟩:=s.pa _ _ he;have p:er.hand < N.opn.length:=by rw [s.ol];exact r
 have j:L.e < M.ers.length:=(List.getElem?_eq_some_iff.mp he).1;have Y:=s.odd;rw [lh];by_cases cur :∃D,N.opn[er.hand]? = some (some D)/\D.round=L.e + 1
 ·obtain ⟨D,u,H⟩:=cur;rw [u];obtain ⟨e,b,c1,Q,Z,C,E,I,X,R⟩:=s.cu _ _ u;obtain rfl:e=L.e:=by omega
  rw [he] at Q;cases Q;show Sm pl (M.comeBack L.e er x) (N.hear M.back l D x);have U:N.hear M.back l D x=_:=if_pos (show D.round=l.turn by rw [H,lt]);rw [U];unfold CM.comeBack;have v:(er.hear x).heard.length=D.heard.length + 1:=by show (er.heard++[x]).length=_;rw [I0,I];rfl
  have G:(D.hear x).heard.length=D.heard.length + 1:=I0;have V:(M.ers.set L.e (er.hear x))[L.e]? = some (er.hear x):=Q0 j;by_cases big:M.stock.length < 2 * (D.heard.length + 1)
  ·rw [if_neg (by rw [v];omega),lh,if_pos (by rw [s.st,G];exact big)];have A:Pr pl { M with ers:=M.ers.set L.e (er.hear x) } { N with opn:=N.opn.set er.hand (some (D.hear x)) } er.hand:=by
    refine ⟨s.st,s.ev,s.nl,by show (N.opn.set _ _).length=_;rw [U0];exact s.ol,s.ll,s.il,s.lf,λ k B n=>?_,r,by show N.rounds=(M.ers.set _ _).length;rw [U0];exact s.rd,z00 (λ _ _ z=>z.set he) s.un,λ k g n c=>?_,λ e b a=>?_,s.odd,s.inb⟩
    ·show M.idle[k]? = some ((N.opn.set _ _)[k]?.getD none).isNone;rw [z0n p,if_neg n];exact s.id k B
    ·have c:(N.opn.set _ _)[k]? = some (some g):=c;rw [z0n p,if_neg n] at c;obtain ⟨e,b,t,f,i,w⟩:=s.cu _ _ c;refine ⟨e,b,t,?_,i,w⟩;show (M.ers.set _ _)[e]? = _;rw [z0n j,if_neg (λ z=>by rw [z,he] at f;cases f;exact n i.symm)];exact f
    ·have a:(M.ers.set _ _)[e]? = some b:=a;rw [z0n j] at a;by_cases z:e=L.e
     ·rw [if_pos z] at a;cases a;exact ⟨r,.inr (by rw [v];exact big)⟩
     ·rw [if_neg z] at a;obtain ⟨J,F⟩:=s.pa e b a;refine ⟨J,F.imp (λ ⟨g,r1,r2⟩=>?_) λ q=>q⟩;have n:b.hand≠er.hand:=λ y=>by rw [y,u] at r1;cases r1;omega
      exact ⟨n,g,by show (N.opn.set _ _)[b.hand]? = _;rw [z0n p,if_neg n];exact r1,r2⟩
   have K:M.idle[er.hand]? = some false:=by rw [s.id _ r,u];rfl
   cases ek:er.kept with
   | some k=>rw [zeg (D:=D.hear x) (show D.keeps=true by rw [<-E,ek];rfl),show (D.hear x).ans=ansC er.deed k.2 from R k ek];exact A.ended
   | none=>
    have P:(D.hear x).keeps=false:=by show D.keeps=false;rw [<-E,ek];rfl
    show Sm pl (CM.ask { M with ers:=M.ers.set L.e (er.hear x) } (er.hear x)) _;have O:(D.hear x).heard=(er.hear x).heard:=by show D.heard++[x]=er.heard++[x];rw [I]
    cases ed:er.deed with
    | some w0=>
     have m:(D.hear x).d=some w0:=by rw [<-ed];exact C.symm
     rw [zdo P m,O,ask_w (show (er.hear x).deed=some w0 from ed),<-m];exact A.sent (D:={ D.hear x with ans:=none }) K λ k e=>by rw [m];rfl
    | none=>
     have m:(D.hear x).d=none:=by rw [<-ed];exact C.symm
     rw [z9z P m,O,ask_r (show (er.hear x).deed=none from ed)];by_cases hb:M.back=true
     ·rw [if_pos hb,if_pos hb];have:=A.sent (D:={ D.hear x with ans:=some (maxHd (er.hear x).heard).2 }) (x:=some (maxHd (er.hear x).heard)) K λ k e=>by cases e;rw [m];rfl
      rw [m] at this;exact this
     ·rw [if_neg hb,if_neg hb];exact A.ended
  ·rw [if_pos (by rw [v];omega),lh,if_neg (by rw [s.st,G];exact big)];refine ⟨s.st,s.ev,s.nl,by show (N.opn.set _ _).length=_;rw [U0];exact s.ol,s.ll,s.il,s.lf,λ k B=>?_,by show N.rounds=(M.ers.set _ _).length;rw [U0];exact s.rd,z00 (λ _ _ z=>z.set he) s.un,λ k g c=>?_,λ e b a=>?_,s.odd,s.inb⟩
   ·show M.idle[k]? = some ((N.opn.set _ _)[k]?.getD none).isNone;rw [z0n p];by_cases z:k=er.hand
    ·rw [if_pos z,s.id k B,z,u];rfl
    ·rw [if_neg z];exact s.id k B
   ·have c:(N.opn.set _ _)[k]? = some (some g):=c;rw [z0n p] at c;by_cases z:k=er.hand
    ·rw [if_pos z] at c;cases c;exact ⟨L.e,er.hear x,H,V,z.symm,C,E,by show er.heard++[x]=D.heard++[x];rw [I],by rw [G];show 2 * (D.heard.length + 1)<=M.stock.length;omega,R⟩
    ·rw [if_neg z] at c;obtain ⟨e,b,t,f,i,w⟩:=s.cu _ _ c;refine ⟨e,b,t,?_,i,w⟩;show (M.ers.set _ _)[e]? = _;rw [z0n j,if_neg (λ y=>by rw [y,he] at f;cases f;exact z i.symm)];exact f
   ·have a:(M.ers.set _ _)[e]? = some b:=a;rw [z0n j] at a;by_cases z:e=L.e
    ·rw [if_pos z] at a;cases a;exact ⟨r,.inl ⟨D.hear x,by show (N.opn.set _ _)[er.hand]? = _;rw [z0n p,if_pos rfl],by rw [z];exact H⟩⟩
    ·rw [if_neg z] at a;obtain ⟨J,F⟩:=s.pa e b a;refine ⟨J,F.imp (λ ⟨g,r1,r2⟩=>?_) λ q=>q⟩;have n:b.hand≠er.hand:=λ y=>by rw [y,u] at r1;cases r1;omega
     exact ⟨g,by show (N.opn.set _ _)[b.hand]? = _;rw [z0n p,if_neg n];exact r1,r2⟩
 ·have a0:M.stock.length < 2 * er.heard.length:=T.resolve_left cur;have W:M.comeBack L.e er x={ M with ers:=M.ers.set L.e (er.hear x) }:=by unfold CM.comeBack;have v:(er.hear x).heard.length=er.heard.length + 1:=I0;rw [if_pos (by rw [v];omega)]
  have S:(match N.opn[er.hand]?,some x with
    | some (some D),some x=>N.hear M.back l D x
    | _,_=>N)=N:=by
   cases h:N.opn[er.hand]? with
   | none=>rfl
   | some o=>
    cases o with
    | none=>rfl
    | some D=>show N.hear M.back l D x=N;unfold LM.hear;rw [if_neg (λ z=>cur ⟨D,h,by rw [z,lt]⟩)]
  rw [W,S];refine ⟨s.st,s.ev,s.nl,s.ol,s.ll,s.il,s.lf,s.id,by show N.rounds=(M.ers.set _ _).length;rw [U0];exact s.rd,z00 (λ _ _ z=>z.set he) s.un,λ k g c=>?_,λ e b a=>?_,s.odd,s.inb⟩
  ·obtain ⟨e,b,t,f,i,w⟩:=s.cu _ _ c;refine ⟨e,b,t,?_,i,w⟩;show (M.ers.set _ _)[e]? = _;rw [z0n j,if_neg (λ y=>by rw [y,he] at f;cases f;exact cur ⟨g,by rw [i];exact c,by rw [t,y]⟩)];exact f
  ·have a:(M.ers.set _ _)[e]? = some b:=a;rw [z0n j] at a;by_cases z:e=L.e
   ·rw [if_pos z] at a;cases a;exact ⟨r,.inr (by show M.stock.length < 2 * (er.heard++[x]).length;rw [I0];omega)⟩
   ·rw [if_neg z] at a;exact s.pa e b a
theorem Sm.comeTo {pl:List (List (Option Int))} {M:CM} {N:LM} {L:Lt} {l:LL} {er:Er} {x:Hd} (s:Sm pl M N) (he:M.ers[L.e]? = some er) (lc:l.copy=L.num) (lt:l.turn=L.e + 1) (lh:l.hand=er.hand) (lx:l.x=er.kept) (hn:L.num < M.stock.length):Sm pl (M.comeTo L.e er L.num x) { N with held:=N.held.set l.copy (keepH l.x x),under:=N.under++[⟨l.copy,l.hand,l.turn,false,some (keepH l.x x)⟩] }:=by
 rw [lc,lx];have a:(M.stock.set L.num (keepH er.kept x)).length=M.stock.length:=U0;refine ⟨by show N.held.set _ _=M.stock.set _ _;rw [s.st],s.ev,s.nl,s.ol,s.ll,s.il,s.lf,s.id,s.rd,z3a s.un (.cons ⟨er,he,rfl,lt,lh,rfl,rfl⟩ .nil),λ h D q=>?_,λ e b i=>?_,by show (M.stock.set _ _).length % 2=1;rw [a];exact s.odd,λ c m=>?_⟩
 ·obtain ⟨e,b,n,o,f,j,g,k,d,p⟩:=s.cu h D q;exact ⟨e,b,n,o,f,j,g,k,by show _<=(M.stock.set _ _).length;rw [a];exact d,p⟩
 ·show _/\(_\/(M.stock.set _ _).length < _);rw [a];exact s.pa e b i
 ·show c.num < (M.stock.set _ _).length;rw [a];rcases List.mem_append.mp m with z|z
  ·exact s.inb c z
  ·rw [List.mem_singleton.mp z];exact hn
theorem Sm.come {pl:List (List (Option Int))} {M:CM} {N:LM} {L:Lt} {l:LL} (s:Sm pl M N) (h:LLm M.ers L l) (hn:L.num < M.stock.length):Sm pl (M.come L) (N.come M.back l):=by
 obtain ⟨i,c,b,e,f,g,a⟩:=h;have d:M.stock[L.num]? = some M.stock[L.num]:=v0 hn;unfold CM.come LM.come;rw [c,d,g];cases hL:L.held with
 | none=>rw [hL] at a;rw [if_pos (show (none:Option Hd).isNone=true from rfl),s.st,b,d];have:=s.comeTo (x:=M.stock[L.num]) c b e f a hn;rw [s.st,b] at this;exact this
 | some x=>rw [hL] at a;rw [if_neg (show ¬ (some x).isNone=true by simp),a];exact s.hear c e f
theorem z5u {α β:Type} {R:α->β->Prop} :∀{xs:List α} {ys:List β} (i:Nat),All2 R xs ys->All2 R (xs.eraseIdx i) (ys.eraseIdx i)
 | _,_,_,.nil=>.nil
 | _,_,0,.cons _ r=>r
 | _,_,i + 1,.cons a r=>.cons a (z5u i r)
theorem Sm.pop {pl:List (List (Option Int))} {M:CM} {N:LM} (s:Sm pl M N) (i:Nat):Sm pl { M with letters:=M.letters.eraseIdx i } { N with under:=N.under.eraseIdx i }:=
 ⟨s.st,s.ev,s.nl,s.ol,s.ll,s.il,s.lf,s.id,s.rd,z5u i s.un,s.cu,s.pa,s.odd,λ L a=>s.inb L (List.mem_of_mem_eraseIdx a)⟩
theorem Sm.go {pl:List (List (Option Int))} {M:CM} {N:LM} (s:Sm pl M N) (c:Int):Sm pl (M.go c) (N.go pl M.back c):=by
 have r:N.under.length=M.letters.length:=z03 s.un;unfold CM.go LM.go LM.moved;rw [s.free,r];by_cases z:M.ready.length + M.letters.length=0
 ·rw [if_pos z,if_pos z];exact s
 rw [if_neg z,if_neg z];dsimp only;generalize (c % ((M.ready.length:Int) + 2 * (M.letters.length:Int))).toNat=n;by_cases hn:n < M.ready.length
 ·rw [if_pos hn,if_pos hn];have o:M.ready[n]? = some M.ready[n]:=v0 hn;rw [o];have k:M.ready[n]∈M.ready:=J3 hn;generalize M.ready[n]=h at k o;unfold CM.ready at k;obtain ⟨p,b⟩:=List.mem_filter.mp k;have a:h < pl.length:=by have:=List.mem_range.mp p;rw [s.ll] at this;exact this
  have b:(!(M.left[h]?.getD []).isEmpty && M.idle[h]?.getD false)=true:=b;rw [s.lf h a,s.id h a,A5] at b;have t:N.opn[h]? = some none:=by
   have g:(N.opn[h]?.getD none).isNone=true:=b.2;have j:h < N.opn.length:=by rw [s.ol];exact a
   rw [v0 j] at g⊢;cases e:N.opn[h] with
   | none=>rfl
   | some D=>rw [e] at g;cases g
  show Sm pl (match M.left[h]? with|some (d :: rest)=>M.start h d rest|_=>M) (match (pl[h]?.getD [])[N.nxt[h]?.getD 0]? with|some d=>N.begin h d|none=>N);have f:=s.lf h a;cases e:(pl[h]?.getD []).drop (N.nxt[h]?.getD 0) with
  | nil=>have m:(!((pl[h]?.getD []).drop (N.nxt[h]?.getD 0)).isEmpty)=true:=b.1;rw [e] at m;cases m
  | cons d rest=>
   rw [e] at f;have u:(pl[h]?.getD [])[N.nxt[h]?.getD 0]? = some d:=by have:=congrArg (·[0]?) e;simp only [List.getElem?_drop,Nat.add_zero,E4] at this;exact this
   rw [f,u];exact s.begin a t f
 ·rw [if_neg hn,if_neg hn];generalize hi:(n - M.ready.length) % M.letters.length=i;cases hL:M.letters[i]? with
  | none=>
   have:N.under[i]? = none:=by rw [List.getElem?_eq_none_iff] at hL⊢;omega
   rw [this];exact s
  | some L=>
   obtain ⟨l,j,q⟩:=z0o s.un hL;rw [j];dsimp only;by_cases hb:n < M.ready.length + M.letters.length
   ·rw [if_pos hb,if_pos hb];exact (s.pop i).come q (s.inb L (O1 hL))
   ·rw [if_neg hb,if_neg hb];exact s.pop i
theorem zin {M:CM} {er:Er}:(M.ask er).back=M.back:=by
 unfold CM.ask;split
 ·rfl
 ·split<;>rfl
theorem go_back {M:CM} {c:Int}:(M.go c).back=M.back:=by
 have a :∀{M:CM} {L:Lt},(M.come L).back=M.back:=λ {M L}=>by
  unfold CM.come;split
  ·unfold CM.comeBack;split
   ·rfl
   ·split
    ·rfl
    ·exact zin
  ·rfl
  ·rfl
 unfold CM.go;split
 ·rfl
 ·dsimp only;split
  ·split<;>rfl
  ·split
   ·split
    ·exact a
    ·rfl
   ·rfl
theorem Sm.init {pl:List (List (Option Int))} {m:Nat} {bk:Bool} (hm:m % 2=1):Sm pl (CM.init m bk pl) (LM.init m pl):=by
 have c :∀{α:Type} (x:α) (h:Nat),h < pl.length->(pl.map λ _=>x)[h]? = some x:=λ x h a=>by rw [K0,v0 a];rfl
 refine ⟨rfl,rfl,B0 ..,B0 ..,rfl,B0 ..,λ h a=>?_,λ h a=>?_,rfl,.nil,λ h D b=>?_,λ e g f=>?_,by show (F1 m _).length % 2=1;rw [Y2];exact hm,λ L d=>absurd d N0⟩
 ·show pl[h]? = some ((pl[h]?.getD []).drop ((pl.map λ _=>0)[h]?.getD 0));rw [c 0 h a,v0 a];rfl
 ·show (pl.map λ _=>true)[h]? = some ((pl.map λ _=>(none:Option LD))[h]?.getD none).isNone;rw [c true h a,c none h a];rfl
 ·have b:(pl.map λ _=>(none:Option LD))[h]? = some (some D):=b;rw [K0] at b;obtain ⟨_,_,e⟩:=Option.map_eq_some_iff.mp b;cases e
 ·cases f
theorem zbm {pl:List (List (Option Int))} {m:Nat} {bk:Bool} (hm:m % 2=1) :∀cs:List Int,Sm pl (cs.foldl CM.go (CM.init m bk pl)) (cs.foldl (λ N c=>N.go pl bk c) (LM.init m pl)):=by
 have a :∀(cs:List Int) (M:CM) (N:LM),M.back=bk->Sm pl M N->Sm pl (cs.foldl CM.go M) (cs.foldl (λ N c=>N.go pl bk c) N):=λ cs=>by
  induction cs with
  | nil=>exact λ _ _ _ s=>s
  | cons c cs ih=>exact λ M N e s=>ih _ _ (go_back.trans e) (by have:=s.go c;rw [e] at this;exact this)
 exact λ cs=>a cs _ _ rfl (Sm.init hm)
end
section
variable {P:Program} {w:W0} {mg:Str->Option Value} {base:Heap}
structure Ms (B H:Hp) (xs:List (Addr×HO)):Prop where
 c :∀p∈xs,H p.1=some p.2
 nd:(xs.map (·.1)).Nodup
 fr :∀p∈xs,B p.1=none
theorem Ms.same {B H H':Hp} {xs:List (Addr×HO)} (h:Ms B H xs) (s:Same H H'):Ms B H' xs:=⟨λ p a=>s _ _ (h.c p a),h.nd,h.fr⟩
theorem Ms.set {B H:Hp} {a b:List (Addr×HO)} {p:Addr} {o o':HO} (h:Ms B H (a++(p,o) :: b)):Ms B (upd H p o') (a++(p,o') :: b):=by
 have d:=h.nd;rw [P1,L1] at d;obtain ⟨k,g,j⟩:=List.nodup_append.mp d;have g:=List.nodup_cons.mp g;refine ⟨λ q i=>?_,by rw [P1,L1];exact d,λ q i=>?_⟩
 ·rcases List.mem_append.mp i with z|z
  ·rw [upd_ne (λ e=>j q.1 (P7 z) p X1 e)];exact h.c q (List.mem_append.mpr (.inl z))
  ·rcases List.mem_cons.mp z with z|z
   ·rw [z];exact z04
   ·rw [upd_ne (λ e=>g.1 (by rw [<-e];exact P7 (f:=(·.1)) z))];exact h.c q (List.mem_append.mpr (.inr (V1 _ z)))
 ·rcases List.mem_append.mp i with z|z
  ·exact h.fr q (List.mem_append.mpr (.inl z))
  ·rcases List.mem_cons.mp z with z|z
   ·rw [z];exact h.fr (p,o) (List.mem_append.mpr (.inr X1))
   ·exact h.fr q (List.mem_append.mpr (.inr (V1 _ z)))
theorem Ms.at {B H:Hp} {a b:List (Addr×HO)} {p:Addr} {o:HO} (h:Ms B H (a++(p,o) :: b)):H p=some o:=h.c (p,o) (List.mem_append.mpr (.inr X1))
theorem Ms.frA {B H:Hp} {a b:List (Addr×HO)} {p:Addr} {o:HO} (h:Ms B H (a++(p,o) :: b)):B p=none:=h.fr (p,o) (List.mem_append.mpr (.inr X1))
theorem Ms.perm {B H:Hp} {xs ys:List (Addr×HO)} (h:Ms B H xs) (p:xs.Perm ys):Ms B H ys:=⟨λ q a=>h.c q (p.mem_iff.mpr a),(p.map _).nodup_iff.mp h.nd,λ q a=>h.fr q (p.mem_iff.mpr a)⟩
theorem Ms.sub {B H:Hp} {xs ys:List (Addr×HO)} (h:Ms B H xs) (p:ys.Sublist xs):Ms B H ys:=⟨λ q a=>h.c q (p.subset a),h.nd.sublist (p.map _),λ q a=>h.fr q (p.subset a)⟩
theorem Ms.new {B H:Hp} {xs:List (Addr×HO)} {p:Addr} {o:HO} (h:Ms B H xs) (s:Same B H) (hp:H p=none):Ms B (upd H p o) ((p,o) :: xs):=by
 have b:=h.same (Same.upd (o:=o) hp);refine ⟨λ q a=>?_,List.nodup_cons.mpr ⟨λ z=>?_,h.nd⟩,λ q a=>?_⟩
 ·rcases List.mem_cons.mp a with z|z
  ·rw [z];exact z04
  ·exact b.c q z
 ·obtain ⟨q,a,e⟩:=List.mem_map.mp z;have:=h.c q a;rw [e,hp] at this;cases this
 ·rcases List.mem_cons.mp a with z|z
  ·rw [z];exact s.free hp
  ·exact h.fr q z
theorem Imm.dk {H:Hp} {l:Addr} {o:HO} {xs:List (Key×V)} (e:H l=some (.dK xs)):Imm H (upd H l o):=
 ⟨λ p a q=>by rw [upd_ne (λ z=>by rw [z,e] at q;cases q)];exact q,λ p C b fs q=>by rw [upd_ne (λ z=>by rw [z,e] at q;cases q)];exact q,λ p o u q=>by rw [upd_ne (λ z=>by rw [z,e] at q;cases q)];exact q⟩
theorem nd_sub {α:Type} :∀(ds l:List α),ds.Nodup->(∀d∈ds,d∈l)->ds.length<=l.length
 | [],_,_,_=>E2 _
 | d :: ds,l,a,h=>by
  classical
  have b:=h d X1;have a:=List.nodup_cons.mp a;have:=nd_sub ds (l.erase d) a.2 λ x c=>(j53 (λ e:x=d=>a.1 (by rw [<-e];exact c))).mpr (h x (V1 _ c));rw [List.length_erase_of_mem b] at this;have:=j3i b;rw [X0];omega
def KS (ns:List Key) (kvs:List (Key×V)):Prop:=(kvs.map (·.1)).Nodup/\∀k∈kvs.map (·.1),k∈ns
theorem KS.len {ns:List Key} {kvs:List (Key×V)} (h:KS ns kvs):kvs.length<=ns.length:=by
 have:=nd_sub _ _ h.1 h.2
 rwa [B0] at this
theorem KS.nil {ns:List Key}:KS ns []:=⟨.nil,λ k h=>absurd h N0⟩
theorem KS.put {ns:List Key} {kvs:List (Key×V)} {k:Key} {v:V} (h:KS ns kvs) (hk:k∈ns):KS ns (putK kvs k v):=by
 unfold putK;split
 ·have e:(kvs.map λ f=>if f.1=k then (f.1,v) else f).map (·.1)=kvs.map (·.1):=by rw [V2];refine V9 λ x _=>?_;show (if x.1=k then (x.1,v) else x).1=x.1;split<;>rfl
  unfold KS;rw [e];exact h
 ·rename_i z;unfold KS;rw [P1];refine ⟨List.nodup_append.mpr ⟨h.1,by simp,λ a c b d e=>?_⟩,λ x g=>?_⟩
  ·have d:b=k:=List.mem_singleton.mp d;rw [e,d] at c;rw [<-zc9] at c;exact z ((z6h _ _).trans c)
  ·rcases List.mem_append.mp g with y|y
   ·exact h.2 x y
   ·rw [List.mem_singleton.mp y];exact hk
noncomputable def kS:List Key:=[.inr "held",.inr "under",.inr "next",.inr "events",.inr "open",.inr "rounds"]
noncomputable def kD:List Key:=[.inr "verb",.inr "worth",.inr "round",.inr "keeps",.inr "heard",.inr "answer"]
noncomputable def stV (K:j0) (H:Hp):Option Hd->V->V->Prop
 | none,a,b=>a=.non/\b=.non
 | some x,a,b=>∃q,a=.ref q/\SqT K H q [.int x.1.1,.int x.1.2]/\b=.int x.2
theorem stV.imm {K:j0} {H H':Hp} {x:Option Hd} {a b:V} (m:Imm H H') (h:stV K H x a b):stV K H' x a b:=by
 cases x with
 | none=>exact h
 | some x=>exact h.elim λ q z=>⟨q,z.1,m.seqT z.2.1,z.2.2⟩
noncomputable def sideS (b:Bool):Str:=if b=true then "to" else "from"
def LLAt (K:j0) (H:Hp) (l:LL) (y:V):Prop:=∃p a b,y=.ref p/\H p=some (.tup [.int l.copy,.int l.hand,.int l.turn,.str (sideS l.to),a,b])/\stV K H l.x a b
theorem LLAt.imm {K:j0} {H H':Hp} {l:LL} {y:V} (m:Imm H H') (h:LLAt K H l y):LLAt K H' l y:=by obtain ⟨p,a,b,c,e,d⟩:=h;exact ⟨p,a,b,c,m.t _ _ e,d.imm m⟩
structure OE where
 d:Addr
 kvs:List (Key×V)
 l:Option (Addr×List V)
noncomputable def entO:Option OE->List (Addr×HO)
 | none=>[]
 | some x=>(x.d,.dK x.kvs) :: (match x.l with|none=>[]|some y=>[(y.1,.lst y.2)])
noncomputable def oeV:Option OE->V
 | none=>.non
 | some x=>.ref x.d
def OeAt (K:j0) (H:Hp) (D:LD) (y:OE):Prop:=KS kD y.kvs/\valV y.kvs (.inr "verb")=some (.str (vbD D.d))/\valV y.kvs (.inr "worth")=some (wvD D.d)/\(D.keeps=true->valV y.kvs (.inr "answer")=some (avD D.ans))/\
 (D.round≠0->valV y.kvs (.inr "round")=some (.int D.round)/\valV y.kvs (.inr "keeps")=some (.bl D.keeps)/\∃l hs,y.l=some (l,hs)/\valV y.kvs (.inr "heard")=some (.ref l)/\All2 (HdAt K H) D.heard hs)
noncomputable def OeO (K:j0) (H:Hp):Option LD->Option OE->Prop
 | none,none=>True
 | some D,some y=>OeAt K H D y
 | _,_=>False
theorem OeO.imm {K:j0} {H H':Hp} {D:Option LD} {y:Option OE} (m:Imm H H') (h:OeO K H D y):OeO K H' D y:=by
 cases D with
 | none=>cases y with|none=>trivial|some y=>exact h
 | some D=>
  cases y with
  | none=>exact h
  | some y=>obtain ⟨f,b,e,d,g⟩:=h;refine ⟨f,b,e,d,λ z=>?_⟩;obtain ⟨k,i,l,c,j,n,a⟩:=g z;exact ⟨k,i,l,c,j,n,z00 (λ _ _ z=>z.imm m) a⟩
structure La where
 st:Addr
 hd:Addr
 un:Addr
 nx:Addr
 ev:Addr
 op:Addr
structure StO (A:La) (r:Nat) (kvs:List (Key×V)):Prop where
 ks:KS kS kvs
 hd:valV kvs (.inr "held")=some (.ref A.hd)
 un:valV kvs (.inr "under")=some (.ref A.un)
 nx:valV kvs (.inr "next")=some (.ref A.nx)
 ev:valV kvs (.inr "events")=some (.ref A.ev)
 op:valV kvs (.inr "open")=some (.ref A.op)
 rd:valV kvs (.inr "rounds")=some (.int r)
noncomputable def baseO (A:La) (kvs:List (Key×V)) (hv uv nv vv ov:List V):List (Addr×HO):=[(A.st,.dK kvs),(A.hd,.lst hv),(A.un,.lst uv),(A.nx,.lst nv),(A.ev,.lst vv),(A.op,.lst ov)]
noncomputable def natV (ns:List Nat):List V:=ns.map λ (n:Nat)=>V.int (n:Int)
structure Lw (K:j0) (B H:Hp) (A:La) (es:List (Option OE)) (N:LM):Prop where
 ct :∃kvs hv uv vv,StO A N.rounds kvs/\Ms B H (baseO A kvs hv uv (natV N.nxt) vv (es.map oeV)++es.flatMap entO)/\All2 (HdAt K H) N.held hv/\All2 (LLAt K H) N.under uv/\All2 (EvV H) N.events vv
 oe:All2 (OeO K H) N.opn es
theorem Lw.same {K:j0} {B H H':Hp} {A:La} {es:List (Option OE)} {N:LM} (h:Lw K B H A es N) (s:Same H H'):Lw K B H' A es N:=by obtain ⟨a,b,f,g,c,e,j,i,d⟩:=h.ct;have m:=Imm.of s;exact ⟨⟨a,b,f,g,c,e.same s,z00 (λ _ _ z=>z.imm m) j,z00 (λ _ _ z=>z.imm m) i,z00 (λ _ _ z=>z.imm m) d⟩,z00 (λ _ _ z=>OeO.imm m z) h.oe⟩
def PlR (H:Hp) (a:Addr) (pl:List (List (Option Int))):Prop:=∃os,H a=some (.lst os)/\All2 (λ own y=>∃b ys,y=.ref b/\H b=some (.lst ys)/\All2 (DdV H) own ys) pl os
theorem PlR.same {H H':Hp} {a:Addr} {pl:List (List (Option Int))} (s:Same H H') (h:PlR H a pl):PlR H' a pl:=by obtain ⟨d,e,c⟩:=h;exact ⟨d,s _ _ e,z00 (λ _ _ ⟨b,ys,e1,e2,e3⟩=>⟨b,ys,e1,s _ _ e2,z00 (λ _ _ z=>z.imm (Imm.of s)) e3⟩) c⟩
theorem plR_of {H:Hp} {a:Addr} {pl:List (List (Option Int))} (h:HPd H (.list (rowsP pl)) (.ref a)):PlR H a pl:=by
 obtain ⟨n,f,e,i,r⟩:=h;cases e;refine ⟨f,i,?_⟩;clear i;induction pl generalizing f with
 | nil=>have r:f=[]:=r;rw [r];exact .nil
 | cons own pl ih=>
  obtain ⟨x,k,rfl,⟨b,g,rfl,j,c⟩,r⟩:=r;refine .cons ⟨b,g,rfl,j,?_⟩ (ih k r);clear j ih r;induction own generalizing g with
  | nil=>have c:g=[]:=c;rw [c];exact .nil
  | cons d own ih=>obtain ⟨x,l,rfl,m,r⟩:=c;exact .cons (dd_v m) (ih l r)
theorem t_and {t u:TT} {σ:L2.St} {H:Hp} {Q:Bool->Hp->Prop} (h:t σ H λ c H1=>if c=true then u σ H1 Q else Q false H1):tAnd t u σ H Q:=h
theorem pairsC {v:V} {tv:TE} {r:List (TE×TE)} {σ:L2.St} {H:Hp} {Q:List (V×V)->Hp->Prop} (h:tv σ H λ y H2=>tPairs r σ H2 λ ps H3=>Q ((v,y) :: ps) H3):tPairs ((tC v,tv) :: r) σ H Q:=h
theorem z4w {td ty tv:TE} {rest:TS} {D:Ends} {σ:L2.St} {H:Hp} (h:tv σ H λ v H1=>td σ H1 λ x H2=>ty σ H2 λ y H3=>∃a H4,x=.ref a/\DPut H3 a y v H4/\rest D σ H4):tSeq (sDPut td ty tv) rest D σ H:=h
theorem vp_eq {kvs:List (Key×V)} {k:Key} {y:V}:valV (putK kvs k y) k=some y:=by rw [zat,if_pos rfl]
theorem vp_ne {kvs:List (Key×V)} {j k:Key} {y:V} (h:j≠k):valV (putK kvs k y) j=valV kvs j:=by rw [zat,if_neg h]
theorem z99 {α:Type} {n:Nat} {ys:List V} {v:V} {l:List α} (h:All2 (λ (_:Nat) y=>y=v) ((O0 n).filter λ _=>true) ys) (e:l.length=n):ys=l.map λ _=>v:=by have a:=z03 h;rw [List.filter_eq_self.mpr (λ _ _=>rfl),W1] at a;refine Q5 (by rw [B0,a,e]) λ i b c=>?_;rw [O8];obtain ⟨_,_,z⟩:=z0f h (v0 b);exact z
theorem zid {α:Type} (l:List α):(l.map λ _=>(none:Option OE)).flatMap entO=[]:=by
 induction l with
 | nil=>rfl
 | cons x l ih=>exact ih
theorem zjx {α:Type} {K:j0} {H:Hp} (l:List α):All2 (OeO K H) (l.map λ _=>none) (l.map λ _=>none):=by
 induction l with
 | nil=>exact .nil
 | cons x l ih=>exact .cons trivial ih
def z4s (K:j0):Sp:=λ vs H Q _=>∃(m:Nat) (a:Addr) (os:List V) (pl:List (List (Option Int))),vs=[.int m,.ref a]/\m<=5/\H a=some (.lst os)/\os.length=pl.length/\pl.length<=6/\∀A H',Same H H'->Lw K H H' A (pl.map λ _=>none) (LM.init m pl)->Q (.ref A.st) H'
theorem z8o (T:TX (kx w) mg):Fo P w mg base CX0 1 415 y0t ["many","plan"] (z4s (kx w)):=by
 refine (z3o w.params).ok sc__law_begun (λ vs H Q E h=>?_) (λ b6 A b7 s H vs Q E hr h=>?_)
 ·obtain ⟨m,a,os,u,rfl,_⟩:=h;rfl
 ·obtain ⟨m,a,os,u,rfl,m5,ea,lo,l6,q⟩:=h;refine ⟨_,(z02 (ps_set (i:=2) sc__law_begun.nd rfl (Z1 rfl) (zi0 (z4i pe_str (pe_cg (xs:=["copy"]) (g:=gName 0) (fr:=[]) (z1c rfl (T.no (z36 _)) (z01 (pv 0) pa_nil)) (λ _ _ _ _ _=>(pg_cn (N:=["copy"]) 0)) (λ _ _ _ _ _=>pf_nil) (λ _ _ _ _ _=>(pe_tup (z01 (pe_tup (z01 pe_int (z01 (pe_un un_neg pe_int) pa_nil))) (z01 pe_int pa_nil))))) (z4i pe_str (pe_lst pa_nil) (z4i pe_str (pe_cg (xs:=["row"]) (g:=gName 0) (fr:=[]) (z1e (pv 1)) (λ _ _ _ _ _=>(pg_cn (N:=["row"]) 0)) (λ _ _ _ _ _=>pf_nil) (λ _ _ _ _ _=>pe_int)) (z4i pe_str (pe_lst pa_nil) zhw)))) rfl rfl (by simp) (by decide)))
   (z02 (z3t (hu_of hr) (pv 2) pe_str (pe_cg (xs:=["row"]) (g:=gName 0) (fr:=[]) (z1e (pv 1)) (λ _ _ _ _ _=>(pg_cn (N:=["row"]) 0)) (λ _ _ _ _ _=>pf_nil) (λ _ _ _ _ _=>pe_non)) rfl)
   (z02 (z3t (hu_of hr) (pv 2) pe_str pe_int rfl)
   (z05 (ps_ret (pv 2)))))),?_⟩
  refine z0e ?_;intro p F;have M0:Ms H H []:=⟨λ _ h=>absurd h N0,.nil,λ _ h=>absurd h N0⟩
  have M1:=M0.new (o:=.dK []) (Same.refl _) F;have s1:=Same.upd (o:=.dK []) F;generalize upd H p (.dK [])=H1 at M1 s1⊢;refine pairsC ?_;refine z3w (S:=Same) (n:=m) (λ _=>true) (λ _ y H'=>HdAt (kx w) H' ((0,-1),0) y) (Same.refl _) (λ _ _ _ a b=>a.trans b) (λ _ _=>Same.refl _) (λ _ _ _ _ s z=>z.imm (Imm.of s)) (λ R h=>⟨_,rfl,h⟩) (L0 (m:=5) m5 (by decide)) (λ k hk H7 s7 KT KF t C=>?_) λ r H2 B s2 Y D=>?_
  ·refine ⟨[some (.int (k:Nat))],rfl,rfl,iteT ?_⟩;refine ⟨1,rfl,w_2,λ p1 b1=>⟨w_2,λ p2 b4=>?_⟩⟩;have t1:=Same.upd (o:=.tup [.int 0,.int (-1)]) b1;have t2:=Same.upd (o:=.tup [.ref p1,.int 0]) b4;exact t rfl _ _ (t1.trans t2) ⟨p2,p1,rfl,SqT.of z04,SqT.of (t2 _ _ z04)⟩
  rw [List.filter_eq_self.mpr (λ _ _=>rfl)] at D;have M2:=(M1.same s2).new (o:=.lst B) (s1.trans s2) Y;have a0:=(s1.trans s2).trans (Same.upd (o:=.lst B) Y);have D:=z00 (λ _ _ z=>HdAt.imm (Imm.of (Same.upd (o:=.lst B) Y)) z) D;generalize upd H2 r (.lst B)=H3 at M2 a0 D⊢;refine pairsC ⟨w_0,λ f a7=>?_⟩;have M4:=M2.new (o:=.lst []) a0 a7;have t4:=Same.upd (o:=.lst []) a7;generalize upd H3 f (.lst [])=H4 at M4 t4⊢;have X:=a0.trans t4;refine pairsC ?_;refine z1v (K:=KX w.params) (a:=a) (xs:=os) (H1:=H4) (λ _=>true) (λ _ y _=>y=.int 0) (λ _ _ _ _ _ z=>z) (λ R h=>⟨_,rfl,h⟩) (SqL.of (X _ _ ea)) (L0 (m:=6) (by omega) (by decide)) (λ i hi v Z G B KT KF t C=>⟨[some v],rfl,rfl,iteT (t rfl _ _ (Same.refl _) rfl)⟩) λ e H5 J s5 b0 fn=>?_;have M6:=(M4.same s5).new (o:=.lst J) (X.trans s5) b0;have t6:=s5.trans (Same.upd (o:=.lst J) b0);generalize upd H5 e (.lst J)=H6 at M6 t6⊢;have s6:=X.trans t6;refine pairsC ⟨w_0,λ le a6=>?_⟩;have O:=M6.new (o:=.lst []) s6 a6;have t7:=Same.upd (o:=.lst []) a6;generalize upd H6 le (.lst [])=H7 at O t7⊢;have s7:=s6.trans t7;refine ⟨O.c (p,.dK []) (by simp),[(.inr "held",.ref r),(.inr "under",.ref f),(.inr "next",.ref e),(.inr "events",.ref le)],rfl,(show (4:Nat)<=15 by decide),?_⟩;have M8:=Ms.set (a:=[_,_,_,_]) (o':=.dK (mergeK [] [(.inr "held",.ref r),(.inr "under",.ref f),(.inr "next",.ref e),(.inr "events",.ref le)])) O;have L:=Same.keep (o:=.dK (mergeK [] [(.inr "held",.ref r),(.inr "under",.ref f),(.inr "next",.ref e),(.inr "events",.ref le)])) s7 F;have m8:=Imm.dk (o:=.dK (mergeK [] [(.inr "held",.ref r),(.inr "under",.ref f),(.inr "next",.ref e),(.inr "events",.ref le)])) (O.c (p,.dK []) (by simp));have a2:=(Imm.of ((t4.trans t6).trans t7)).trans m8;generalize upd H7 p (.dK (mergeK [] [(.inr "held",.ref r),(.inr "under",.ref f),(.inr "next",.ref e),(.inr "events",.ref le)]))=H8 at M8 L a2⊢;refine g_name ?_;refine z4w ?_;refine z1v (K:=KX w.params) (a:=a) (xs:=os) (H1:=H8) (λ _=>true) (λ _ y _=>y=.non) (λ _ _ _ _ _ z=>z) (λ R h=>⟨_,rfl,h⟩) (SqL.of (L _ _ ea)) (L0 (m:=6) (by omega) (by decide)) (λ i hi v Z G B KT KF t C=>⟨[some v],rfl,rfl,iteT (t rfl _ _ (Same.refl _) rfl)⟩) λ d Z I G a8 fo=>?_;have M:=(M8.same G).new (o:=.lst I) (L.trans G) a8;have t9:=G.trans (Same.upd (o:=.lst I) a8);generalize upd Z d (.lst I)=H10 at M t9⊢;have b3:=L.trans t9;have a1:=M.c (p,.dK (mergeK [] [(.inr "held",.ref r),(.inr "under",.ref f),(.inr "next",.ref e),(.inr "events",.ref le)])) (by simp);refine ⟨_,rfl,p,_,rfl,DPut.k (k:=.inr "open") a1 (Y0 (z3z [] _) (show (4:Nat) < sizeLine by decide)),?_⟩;generalize hk0:mergeK [] [(.inr "held",.ref r),(.inr "under",.ref f),(.inr "next",.ref e),(.inr "events",.ref le)]=k0 at M a1⊢;have l0:k0.length<=4:=by rw [<-hk0];exact z3z [] _
  have W:=Ms.set (a:=[_,_,_,_,_]) (o':=.dK (putK k0 (.inr "open") (.ref d))) M;have a4:=Same.keep (o:=.dK (putK k0 (.inr "open") (.ref d))) b3 F;have a9:=Imm.dk (o:=.dK (putK k0 (.inr "open") (.ref d))) a1;generalize upd H10 p (.dK (putK k0 (.inr "open") (.ref d)))=H11 at W a4 a9⊢;have a5:=W.c (p,.dK (putK k0 (.inr "open") (.ref d))) (by simp);have l1:(putK k0 (.inr "open") (.ref d)).length<=5:=L0 (z1z _ _ _) (by omega);refine z4w ⟨_,rfl,p,_,rfl,DPut.k (k:=.inr "rounds") a5 (Y0 l1 (by decide)),?_⟩;have a3:=Ms.set (a:=[_,_,_,_,_]) (o':=.dK (putK (putK k0 (.inr "open") (.ref d)) (.inr "rounds") (.int 0))) W;have b2:=Same.keep (o:=.dK (putK (putK k0 (.inr "open") (.ref d)) (.inr "rounds") (.int 0))) a4 F;have b5:=Imm.dk (o:=.dK (putK (putK k0 (.inr "open") (.ref d)) (.inr "rounds") (.int 0))) a5;have mm:=((a2.trans (Imm.of t9)).trans a9).trans b5;refine sq_ret ⟨_,rfl,q ⟨p,r,f,e,le,d⟩ _ b2 ⟨⟨putK (putK k0 (.inr "open") (.ref d)) (.inr "rounds") (.int 0),B,[],[],?_,?_,?_,.nil,.nil⟩,?_⟩⟩
  ·have U :∀{j:Key} {v:V},j≠.inr "open"->j≠.inr "rounds"->valV k0 j=some v->valV (putK (putK k0 (.inr "open") (.ref d)) (.inr "rounds") (.int 0)) j=some v:=λ t C h3=>(vp_ne C).trans ((vp_ne t).trans h3);obtain rfl:k0=putK (putK (putK (putK [] (.inr "held") (.ref r)) (.inr "under") (.ref f)) (.inr "next") (.ref e)) (.inr "events") (.ref le):=hk0.symm;exact ⟨(((((KS.nil.put (by simp [kS])).put (by simp [kS])).put (by simp [kS])).put (by simp [kS])).put (by simp [kS])).put (by simp [kS]),U (by decide +kernel) (by decide +kernel) ((vp_ne (by decide +kernel)).trans ((vp_ne (by decide +kernel)).trans ((vp_ne (by decide +kernel)).trans vp_eq))),U (by decide +kernel) (by decide +kernel) ((vp_ne (by decide +kernel)).trans ((vp_ne (by decide +kernel)).trans vp_eq)),U (by decide +kernel) (by decide +kernel) ((vp_ne (by decide +kernel)).trans vp_eq),U (by decide +kernel) (by decide +kernel) vp_eq,(vp_ne (by decide +kernel)).trans vp_eq,vp_eq⟩
  ·have e1:J=natV (u.map λ _=>0):=by rw [z99 (l:=u) fn lo.symm];unfold natV;rw [V2];rfl
   have e2:I=(u.map λ _=>none).map oeV:=by rw [z99 (l:=u) fo lo.symm,V2];rfl
   rw [zid,C3];rw [e1,e2] at a3;exact a3.perm (List.reverse_perm _).symm
  ·refine z1j (by rw [z03 D,W1];exact List.length_replicate.symm) λ i x y t C=>?_;obtain ⟨_,_,z⟩:=z0f D C;have hx:=O1 t;rw [(List.mem_replicate.mp hx).2];exact z.imm mm
  ·show All2 _ (u.map λ _=>none) (u.map λ _=>none);exact zjx u
def z27 (K:j0):Sp:=λ vs H Q _=>∃(A:La) (a:Addr) (B:Hp) (es:List (Option OE)) (N:LM) (pl:List (List (Option Int))),vs=[.ref A.st,.ref a]/\Lw K B H A es N/\PlR H a pl/\pl.length<=6/\N.opn.length=pl.length/\N.nxt.length=pl.length/\∀l H',Same H H'->H l=none->H' l=some (.lst (natV (N.free pl)))->Q (.ref l) H'
theorem zag (T:TX (kx w) mg):Fo P w mg base CX0 1 420 y11 ["state","plan"] (z27 (kx w)):=by
 refine (z4j w.params).ok z9r (λ vs H Q E h=>?_) (λ a4 A a3 s H vs Q E M h=>?_)
 ·obtain ⟨m,a,B,t,N,c,rfl,_⟩:=h;rfl
 ·obtain ⟨d,a,B,t,N,c,rfl,u,⟨r,O,F⟩,l6,ol,nl,q⟩:=h;refine ⟨_,(z05 (ps_ret (zf4 (xs:=["hand"]) (g:=gName 0) (fr:=[(0,"state"),(1,"plan")]) rfl (z1c rfl (T.no (z36 _)) (z01 (z08 (z25 (K:=KX w.params) rfl) rfl (T.no (n_len _)) X2 (z01 (pv 1) pa_nil)) pa_nil)) (by intro p j;simp only [M3,N0,or_false] at j;rcases j with rfl|rfl<;>first|exact ⟨rfl,.inl rfl⟩|exact ⟨rfl,.inr rfl⟩) (zhy (ns:=["state","plan"]) (by decide +kernel) (by intro n L k;simp only [M3,N0,or_false] at L;rcases L with rfl|rfl<;>first|exact .inl rfl|exact .inr rfl)) (by intro p j;simp only [M3,N0,or_false] at j;rcases j with rfl|rfl<;>exact ⟨by decide +kernel,by first|exact .inl rfl|exact .inr rfl⟩) (by decide +kernel) rfl (by decide +kernel) (λ _ _ _ _ _=>(pg_cn (N:=["hand","state","plan"]) 0)) (λ _ _ _ _ _=>(pf_one (PW.pt (pw_and (z0b op_isN (pe_ix (z2n (K:=KX w.params) rfl) (z0c (hu_of M) (pv 1) pe_str (λ _ _=>rfl)) (pv 0) (λ _ _=>rfl)) pe_non (nomark _)) (z4z (z0b op_lt (pe_ix (z2n (K:=KX w.params) rfl) (z0c (hu_of M) (pv 1) pe_str (λ _ _=>rfl)) (pv 0) (λ _ _=>rfl)) (z08 (z25 (K:=KX w.params) rfl) rfl (T.no (n_len _)) X2 (z01 (pe_ix (z2n (K:=KX w.params) rfl) (pv 2) (pv 0) (λ _ _=>rfl)) pa_nil)) (nomark _))))))) (λ _ _ _ _ _=>(pv 0))))),?_⟩;obtain ⟨a1,hv,uv,vv,C,x,c2,c3,c4⟩:=u.ct;have U:H d.st=some (.dK a1):=x.at (a:=[]);have X:H d.nx=some (.lst (natV N.nxt)):=x.at (a:=[_,_,_]);have a0:H d.op=some (.lst (t.map oeV)):=x.at (a:=[_,_,_,_,_]);have lo:r.length=c.length:=z03 F;have le:t.length=N.opn.length:=z03 u.oe;refine sq_ret ?_;refine z3w (S:=Same) (n:=r.length) (N.fre c) (λ k y _=>y=.int (k:Nat)) (Same.refl _) (λ _ _ _ a b=>a.trans b) (λ _ _=>Same.refl _) (λ _ _ _ _ _ z=>z) (λ R h=>⟨_,rfl,.inl ⟨a,r,rfl,.inl (SqL.of O),h⟩⟩) (L0 (m:=6) (by omega) (by decide)) (λ k hk H7 e KT KF v l=>?_) λ l7 H7 us e J fa=>?_
  ·have ko:k < N.opn.length:=by omega
   have kn:k < N.nxt.length:=by omega
   have W:N.opn[k]? = some N.opn[k]:=v0 ko;have I:N.nxt[k]? = some N.nxt[k]:=v0 kn;obtain ⟨i,a2,o⟩:=z0o u.oe W;obtain ⟨y,Z,b,G,rfl,eb,ad⟩:=z0o F (v0 (show k < c.length by omega));have Y:c[k]? = some c[k]:=v0 (show k < c.length by omega);have fre:N.fre c k=((N.opn[k]).isNone && decide (N.nxt[k] < (c[k]).length)):=by unfold LM.fre;rw [W,I,Y];rfl
   rw [fre] at v l;refine ⟨[some (.int (k:Nat))],rfl,rfl,t_and ?_⟩;refine ⟨_,rfl,d.st,.ref d.op,rfl,(by rw [<-C.op];exact DGet.k (k:=.inr "open") (e _ _ U)),?_⟩;refine ⟨_,rfl,.inl ⟨d.op,_,k,oeV i,rfl,rfl,SqL.of (e _ _ a0),z06 (by rw [K0,a2];rfl),rfl,_,rfl,?_⟩⟩;cases hoo:N.opn[k] with
   | some D=>
    rw [hoo] at o l;cases i with
    | none=>exact o.elim
    | some i=>exact iteN (by simp [oeV]) (iteF (l rfl _ (Same.refl _)))
   | none=>
    rw [hoo] at o v l;cases i with
    | some i=>exact o.elim
    | none=>
    refine iteP (decide_eq_true rfl) ?_;refine ⟨_,rfl,d.st,.ref d.nx,rfl,(by rw [<-C.nx];exact DGet.k (k:=.inr "next") (e _ _ U)),?_⟩;refine ⟨_,rfl,.inl ⟨d.nx,_,k,.int (N.nxt[k]:Nat),rfl,rfl,SqL.of (e _ _ X),z06 (by unfold natV;rw [K0,I];rfl),?_⟩⟩;refine ⟨_,rfl,_,rfl,.inl ⟨a,_,k,.ref b,rfl,rfl,SqL.of (e _ _ O),z06 Z,.inl ⟨b,G,rfl,.inl (SqL.of (e _ _ eb)),_,_,rfl,rfl,_,rfl,?_⟩⟩⟩;have ly:G.length=(c[k]).length:=z03 ad;by_cases z:N.nxt[k] < (c[k]).length
    ·exact iteP (decide_eq_true (by omega)) ⟨_,rfl,v (by rw [decide_eq_true z];rfl) _ _ (Same.refl _) rfl⟩
    ·exact iteN (λ y=>z (by have:=of_decide_eq_true y;omega)) (l (by rw [decide_eq_false z];rfl) _ (Same.refl _))
  ·have e1:us=natV (N.free c):=by unfold LM.free natV;rw [<-lo];exact z1i (f:=λ (k:Nat)=>V.int (k:Nat)) fa
   rw [e1];exact q l7 _ (e.trans (Same.upd J)) (e.free J) z04
theorem StO.ghd {H:Hp} {A:La} {r:Nat} {kvs:List (Key×V)} (c:StO A r kvs) (e:H A.st=some (.dK kvs)):DGet H A.st (.str "held") (some (.ref A.hd)):=c.hd ▸ DGet.k (k:=.inr "held") e
theorem StO.gun {H:Hp} {A:La} {r:Nat} {kvs:List (Key×V)} (c:StO A r kvs) (e:H A.st=some (.dK kvs)):DGet H A.st (.str "under") (some (.ref A.un)):=c.un ▸ DGet.k (k:=.inr "under") e
theorem StO.gnx {H:Hp} {A:La} {r:Nat} {kvs:List (Key×V)} (c:StO A r kvs) (e:H A.st=some (.dK kvs)):DGet H A.st (.str "next") (some (.ref A.nx)):=c.nx ▸ DGet.k (k:=.inr "next") e
theorem StO.gev {H:Hp} {A:La} {r:Nat} {kvs:List (Key×V)} (c:StO A r kvs) (e:H A.st=some (.dK kvs)):DGet H A.st (.str "events") (some (.ref A.ev)):=c.ev ▸ DGet.k (k:=.inr "events") e
theorem StO.gop {H:Hp} {A:La} {r:Nat} {kvs:List (Key×V)} (c:StO A r kvs) (e:H A.st=some (.dK kvs)):DGet H A.st (.str "open") (some (.ref A.op)):=c.op ▸ DGet.k (k:=.inr "open") e
theorem StO.grd {H:Hp} {A:La} {r:Nat} {kvs:List (Key×V)} (c:StO A r kvs) (e:H A.st=some (.dK kvs)):DGet H A.st (.str "rounds") (some (.int r)):=c.rd ▸ DGet.k (k:=.inr "rounds") e
theorem StO.put {A:La} {r r':Nat} {kvs:List (Key×V)} (c:StO A r kvs):StO A r' (putK kvs (.inr "rounds") (.int r')):=⟨c.ks.put (by simp [kS]),(vp_ne (by decide +kernel)).trans c.hd,(vp_ne (by decide +kernel)).trans c.un,(vp_ne (by decide +kernel)).trans c.nx,(vp_ne (by decide +kernel)).trans c.ev,(vp_ne (by decide +kernel)).trans c.op,vp_eq⟩
theorem z23 :∀{es:List (Option OE)} {j:Nat} {x:Option OE} (x':Option OE),es[j]? = some x->(es.set j x').flatMap entO=(es.take j).flatMap entO++(entO x'++(es.drop (j + 1)).flatMap entO)
 | [],_,_,_,h=>by cases h
 | e :: es,0,x,x',_=>by simp
 | e :: es,j + 1,x,x',h=>by have:=z23 (es:=es) (j:=j) x' h;rw [List.set_cons_succ,j0h,this,List.take_succ_cons,j0h,List.drop_succ_cons,T2]
theorem z6c {α:Type} {l:List α} {i:Nat} {x:α} (h:l[i]? = some x):l.set i x=l:=by obtain ⟨a,rfl⟩:=List.getElem?_eq_some_iff.mp h;exact List.set_getElem_self a
theorem z5t {es:List (Option OE)} {j:Nat} {x:Option OE} (h:es[j]? = some x):es.flatMap entO=(es.take j).flatMap entO++(entO x++(es.drop (j + 1)).flatMap entO):=by
 have:=z23 x h
 rwa [z6c h] at this
theorem map_set {es:List (Option OE)} {j:Nat} {x:Option OE}:(es.set j x).map oeV=(es.map oeV).set j (oeV x):=U5
theorem Lw.setU {K:j0} {B H:Hp} {A:La} {es:List (Option OE)} {N:LM} {us:List LL} {uv':List V} (h:Lw K B H A es N) (a :∀H',Imm H H'->All2 (LLAt K H') us uv'):Lw K B (upd H A.un (.lst uv')) A es { N with under:=us }:=by obtain ⟨c,d,j,g,e,b,i,k,f⟩:=h.ct;have m:Imm H (upd H A.un (.lst uv')):=Imm.lst (b.at (a:=[_,_]));exact ⟨⟨c,d,uv',g,e,b.set (a:=[_,_]),z00 (λ _ _ z=>z.imm m) i,a _ m,z00 (λ _ _ z=>z.imm m) f⟩,z00 (λ _ _ z=>OeO.imm m z) h.oe⟩
theorem Lw.setV {K:j0} {B H:Hp} {A:La} {es:List (Option OE)} {N:LM} {us:List CEv} {uv':List V} (h:Lw K B H A es N) (a :∀H',Imm H H'->All2 (EvV H') us uv'):Lw K B (upd H A.ev (.lst uv')) A es { N with events:=us }:=by obtain ⟨c,d,f,k,e,b,i,g,j⟩:=h.ct;have m:Imm H (upd H A.ev (.lst uv')):=Imm.lst (b.at (a:=[_,_,_,_]));exact ⟨⟨c,d,f,uv',e,b.set (a:=[_,_,_,_]),z00 (λ _ _ z=>z.imm m) i,z00 (λ _ _ z=>z.imm m) g,a _ m⟩,z00 (λ _ _ z=>OeO.imm m z) h.oe⟩
theorem Lw.setS {K:j0} {B H:Hp} {A:La} {es:List (Option OE)} {N:LM} {us:List Hd} {uv':List V} (h:Lw K B H A es N) (a :∀H',Imm H H'->All2 (HdAt K H') us uv'):Lw K B (upd H A.hd (.lst uv')) A es { N with held:=us }:=by obtain ⟨c,j,f,g,d,b,k,i,e⟩:=h.ct;have m:Imm H (upd H A.hd (.lst uv')):=Imm.lst (b.at (a:=[_]));exact ⟨⟨c,uv',f,g,d,b.set (a:=[_]),a _ m,z00 (λ _ _ z=>z.imm m) i,z00 (λ _ _ z=>z.imm m) e⟩,z00 (λ _ _ z=>OeO.imm m z) h.oe⟩
theorem Lw.setN {K:j0} {B H:Hp} {A:La} {es:List (Option OE)} {N:LM} {us:List Nat} {uv':List V} (h:Lw K B H A es N) (a:uv'=natV us):Lw K B (upd H A.nx (.lst uv')) A es { N with nxt:=us }:=by subst a;obtain ⟨c,d,g,i,e,b,k,j,f⟩:=h.ct;have m:Imm H (upd H A.nx (.lst (natV us))):=Imm.lst (b.at (a:=[_,_,_]));exact ⟨⟨c,d,g,i,e,b.set (a:=[_,_,_]),z00 (λ _ _ z=>z.imm m) k,z00 (λ _ _ z=>z.imm m) j,z00 (λ _ _ z=>z.imm m) f⟩,z00 (λ _ _ z=>OeO.imm m z) h.oe⟩
theorem Lw.setR {K:j0} {B H:Hp} {A:La} {es:List (Option OE)} {N:LM} {r:Nat} {kvs:List (Key×V)} (h:Lw K B H A es N) (e:H A.st=some (.dK kvs)):Lw K B (upd H A.st (.dK (putK kvs (.inr "rounds") (.int r)))) A es { N with rounds:=r }:=by obtain ⟨j,d,i,k,f,b,n,l,g⟩:=h.ct;have c:H A.st=some (.dK j):=b.at (a:=[]);rw [e] at c;cases c;have m:Imm H (upd H A.st (.dK (putK kvs (.inr "rounds") (.int r)))):=Imm.dk e;exact ⟨⟨_,d,i,k,f.put,b.set (a:=[]),z00 (λ _ _ z=>z.imm m) n,z00 (λ _ _ z=>z.imm m) l,z00 (λ _ _ z=>z.imm m) g⟩,z00 (λ _ _ z=>OeO.imm m z) h.oe⟩
theorem z3g {α β:Type} {R:α->β->Prop} :∀{xs:List α} {ys:List β} (i:Nat) {x:α} {y:β},All2 R xs ys->R x y->All2 R (xs.set i x) (ys.set i y)
 | _,_,_,_,_,.nil,_=>.nil
 | _,_,0,_,_,.cons _ r,h=>.cons h r
 | _,_,i + 1,_,_,.cons a r,h=>.cons a (z3g i r h)
theorem Lw.setD {K:j0} {B H:Hp} {A:La} {es:List (Option OE)} {N:LM} {h:Nat} {y:OE} {D':LD} {kvs':List (Key×V)} (lw:Lw K B H A es N) (hy:es[h]? = some (some y)) (a :∀H',Imm H H'->OeAt K H' D' { y with kvs:=kvs' }):Lw K B (upd H y.d (.dK kvs')) A (es.set h (some { y with kvs:=kvs' })) { N with opn:=N.opn.set h (some D') }/\H y.d=some (.dK y.kvs)/\B y.d=none:=by
 obtain ⟨kvs,c,g,i,j,f,o,n,k⟩:=lw.ct;rw [z5t hy] at f;have b:Ms B H ((baseO A kvs c g (natV N.nxt) i (es.map oeV)++(es.take h).flatMap entO)++(y.d,.dK y.kvs) :: ((match y.l with|none=>[]|some y=>[(y.1,HO.lst y.2)])++(es.drop (h + 1)).flatMap entO)):=by rw [T2];exact f
 have m:Imm H (upd H y.d (.dK kvs')):=Imm.dk b.at;refine ⟨⟨⟨kvs,c,g,i,j,?_,z00 (λ _ _ z=>z.imm m) o,z00 (λ _ _ z=>z.imm m) n,z00 (λ _ _ z=>z.imm m) k⟩,z3g h (z00 (λ _ _ z=>OeO.imm m z) lw.oe) (show OeO K _ (some D') (some _) from a _ m)⟩,b.at,b.frA⟩;have:=b.set (o':=.dK kvs');rw [z23 _ hy,map_set];rw [T2] at this;have e:(es.map oeV).set h (oeV (some { y with kvs:=kvs' }))=es.map oeV:=by refine z6c ?_;rw [K0,hy];rfl
 rw [e];exact this
theorem Lw.setL {K:j0} {B H:Hp} {A:La} {es:List (Option OE)} {N:LM} {h:Nat} {y:OE} {D':LD} {kvs':List (Key×V)} {l:Addr} (lw:Lw K B H A es N) (hy:es[h]? = some (some y)) (hl:H l=none) (s:Same B H) (a :∀H',OeAt K H' D' ⟨y.d,kvs',some (l,[])⟩):Lw K B (upd (upd H l (.lst [])) y.d (.dK kvs')) A (es.set h (some ⟨y.d,kvs',some (l,[])⟩)) { N with opn:=N.opn.set h (some D') }:=by
 obtain ⟨c,b,f,g,n,j,v,u,p⟩:=lw.ct;rw [z5t hy] at j;have t:=Same.upd (o:=.lst []) hl;have r:=j.new (o:=.lst []) s hl;have i:Ms B (upd H l (.lst [])) (((l,.lst []) :: (baseO A c b f (natV N.nxt) g (es.map oeV)++(es.take h).flatMap entO))++(y.d,.dK y.kvs) :: ((match y.l with|none=>[]|some y=>[(y.1,HO.lst y.2)])++(es.drop (h + 1)).flatMap entO)):=by rw [j1b,T2];exact r
 have m:Imm H (upd (upd H l (.lst [])) y.d (.dK kvs')):=(Imm.of t).trans (Imm.dk i.at);refine ⟨⟨c,b,f,g,n,?_,z00 (λ _ _ z=>z.imm m) v,z00 (λ _ _ z=>z.imm m) u,z00 (λ _ _ z=>z.imm m) p⟩,z3g h (z00 (λ _ _ z=>OeO.imm m z) lw.oe) (show OeO K _ (some D') (some _) from a _)⟩;have:=i.set (o':=.dK kvs');rw [z23 _ hy,map_set];have e:(es.map oeV).set h (oeV (some ⟨y.d,kvs',some (l,[])⟩))=es.map oeV:=by refine z6c ?_;rw [K0,hy];rfl
 rw [e];generalize baseO A c b f (natV N.nxt) g (es.map oeV)=b0 at this⊢;generalize (es.take h).flatMap entO=e1 at this⊢;generalize (es.drop (h + 1)).flatMap entO=e2 at this⊢;refine (this.sub (ys:=((l,.lst []) :: (b0++e1))++(y.d,.dK kvs') :: e2) ?_).perm ?_
 ·exact R8 (o9 _) (List.Sublist.cons₂ _ (j2i _ _))
 ·show List.Perm ((l,HO.lst []) :: ((b0++e1)++(y.d,HO.dK kvs') :: e2)) (b0++(e1++(y.d,HO.dK kvs') :: (l,HO.lst []) :: e2));have q:b0++(e1++(y.d,HO.dK kvs') :: (l,HO.lst []) :: e2)=((b0++e1)++[(y.d,HO.dK kvs')])++(l,HO.lst []) :: e2:=by simp
  have k:(b0++e1)++(y.d,HO.dK kvs') :: e2=((b0++e1)++[(y.d,HO.dK kvs')])++e2:=by simp
  rw [q,k];exact List.perm_middle.symm
theorem Lw.setO {K:j0} {B H:Hp} {A:La} {es:List (Option OE)} {N:LM} {h:Nat} {y:Option OE} (lw:Lw K B H A es N) (hy:es[h]? = some y):Lw K B (upd H A.op (.lst ((es.map oeV).set h .non))) A (es.set h none) { N with opn:=N.opn.set h none }:=by obtain ⟨b,c,e,f,g,d,k,j,i⟩:=lw.ct;have m:Imm H (upd H A.op (.lst ((es.map oeV).set h .non))):=Imm.lst (d.at (a:=[_,_,_,_,_]));refine ⟨⟨b,c,e,f,g,?_,z00 (λ _ _ z=>z.imm m) k,z00 (λ _ _ z=>z.imm m) j,z00 (λ _ _ z=>z.imm m) i⟩,z3g h (z00 (λ _ _ z=>OeO.imm m z) lw.oe) trivial⟩;have:Ms B _ (baseO A b c e (natV N.nxt) f ((es.map oeV).set h .non)++es.flatMap entO):=d.set (a:=[_,_,_,_,_]) (o':=.lst ((es.map oeV).set h .non));rw [z23 _ hy,map_set];rw [z5t hy] at this;refine Ms.sub this ?_;refine R8 (o9 _) ?_;exact R8 (o9 _) (j2i _ _)
theorem upd4 {H:Hp} {a l:Addr} {o1 o2 o3 o4:HO}:upd (upd (upd (upd H a o1) a o2) l o3) a o4=upd (upd H l o3) a o4:=by
 funext p;by_cases z:p=a
 ·rw [z,z04,z04]
 ·rw [upd_ne z,upd_ne z];by_cases y:p=l
  ·rw [y,z04,z04]
  ·rw [upd_ne y,upd_ne y,upd_ne z,upd_ne z]
theorem Lw.nest {K:j0} {B H:Hp} {A:La} {es:List (Option OE)} {N:LM} {h:Nat} {y:OE} (lw:Lw K B H A es N) (hy:es[h]? = some (some y)):A.st≠y.d/\H y.d=some (.dK y.kvs)/\B y.d=none:=by obtain ⟨kvs,g,i,j,k,a,n,m,l⟩:=lw.ct;have b:(y.d,HO.dK y.kvs)∈es.flatMap entO:=List.mem_flatMap.mpr ⟨some y,O1 hy,X1⟩;have f:(y.d,HO.dK y.kvs)∈baseO A kvs g i (natV N.nxt) j (es.map oeV)++es.flatMap entO:=List.mem_append.mpr (.inr b);refine ⟨λ z=>?_,a.c _ f,a.fr _ f⟩;have e:=a.nd;rw [P1] at e;exact (List.nodup_append.mp e).2.2 A.st (by simp [baseO]) y.d (List.mem_map.mpr ⟨_,b,rfl⟩) z
theorem up1 {H:Hp} {a p:Addr} {o q:HO} (n:p≠a) (e:H p=some q):upd H a o p=some q:=(upd_ne n).trans e
theorem zj0 {K:j0} {H:Hp} {x:Option Hd} {a b:V} (h:stV K H x a b):(!decide (a=V.non))=x.isSome:=by
 cases x with
 | none=>rw [h.1];rfl
 | some x=>obtain ⟨q,rfl,_⟩:=h;rfl
def z38 (K:j0):Sp:=λ vs H Q _=>∃(A:La) (h:Nat) (sv wv:V) (B:Hp) (es:List (Option OE)) (N:LM) (D:LD) (y:OE) (x:Option Hd),vs=[.ref A.st,.int h,sv,wv]/\Lw K B H A es N/\N.opn[h]? = some (some D)/\es[h]? = some (some y)/\stV K H x sv wv/\(x.isSome=true->valV y.kvs (.inr "answer")=some (avD D.ans))/\N.under.length<=10000/\N.held.length<=5/\Same B H/\
 ∀es' H',Same B H'->Lw K B H' A es' (N.sent h D x)->Q .non H'
theorem zb4 (T:TX (kx w) mg):Fo P w mg base CX0 1 427 y12 ["state","hand","stamp","worth"] (z38 (kx w)):=by
 refine (z4e w.params).ok sc__law_sent (λ vs H Q E h=>?_) (λ c7 A c8 s H vs Q E f h=>?_)
 ·obtain ⟨A,h,K,J,B,es,N,D,y,x,rfl,_⟩:=h;rfl
 ·obtain ⟨b,h,K,J,B,es,N,D,y,x,rfl,lw,hD,U,sx,ha,ul,b9,sB,q⟩:=h;refine ⟨_,(z02 (z3t (hu_of f) (pv 0) pe_str (pe_op opAdd (z0c (hu_of f) (pv 0) pe_str (λ _ _=>rfl)) pe_int) rfl)
   (z02 (z3t (hu_of f) (pe_ix ix_seq (z0c (hu_of f) (pv 0) pe_str (λ _ _=>rfl)) (pv 1) (λ _ _=>rfl)) pe_str (z0c (hu_of f) (pv 0) pe_str (λ _ _=>rfl)) rfl)
   (z02 (z3t (hu_of f) (pe_ix ix_seq (z0c (hu_of f) (pv 0) pe_str (λ _ _=>rfl)) (pv 1) (λ _ _=>rfl)) pe_str (z33 z66 (pv 2) pe_non (nomark _)) rfl)
   (z02 (z3t (hu_of f) (pe_ix ix_seq (z0c (hu_of f) (pv 0) pe_str (λ _ _=>rfl)) (pv 1) (λ _ _=>rfl)) pe_str (pe_lst pa_nil) rfl)
   (z05 (ps_for w4 rfl (z1c rfl (T.no (z36 _)) (z01 (z08 z0r rfl (T.no (n_len _)) X2 (z01 (z0c (hu_of f) (pv 0) pe_str (λ _ _=>rfl)) pa_nil)) pa_nil)) (z0s (i:=4) sc__law_sent.nd rfl (Z1 rfl))
   (z05 (z0d (z0v (z0c (hu_of f) (pv 0) pe_str (λ _ _=>rfl)) (z01 (pe_tup (z01 (pv 4) (z01 (pv 1) (z01 (z0c (hu_of f) (pv 0) pe_str (λ _ _=>rfl)) (z01 pe_str (z01 (pv 2) (z01 (pv 3) pa_nil))))))) pa_nil)))))))))),?_⟩
  obtain ⟨F,I,uv,vv,g,C,M,W,Z⟩:=id lw.ct;have e:H b.st=some (.dK F):=C.at (a:=[]);have l6:=g.ks.len;refine z4w ⟨_,rfl,b.st,_,rfl,g.grd e,?_⟩;refine .inl ⟨_,1,rfl,rfl,?_⟩;rw [show ((N.rounds:Int) + 1)=((N.rounds + 1:Nat):Int) by omega];refine ⟨_,rfl,b.st,_,rfl,DPut.k (k:=.inr "rounds") e (Y0 l6 (by decide)),?_⟩;have R:=lw.setR (r:=N.rounds + 1) e;have a3:=Same.keep (o:=.dK (putK F (.inr "rounds") (.int ((N.rounds + 1:Nat):Int)))) sB (C.frA (a:=[]));have m1:Imm H (upd H b.st (.dK (putK F (.inr "rounds") (.int ((N.rounds + 1:Nat):Int))))):=Imm.dk e;generalize upd H b.st (.dK (putK F (.inr "rounds") (.int ((N.rounds + 1:Nat):Int))))=H1 at R a3 m1⊢;clear g C M W Z e l6;obtain ⟨F,I,uv,vv,g,C,M,W,Z⟩:=id R.ct;obtain ⟨a4,ed,b3⟩:=R.nest U;have e:H1 b.st=some (.dK F):=C.at (a:=[]);have L:H1 b.op=some (.lst (es.map oeV)):=C.at (a:=[_,_,_,_,_]);have a1:b.op≠y.d:=λ z=>by rw [z,ed] at L;cases L
  have a5:(es.map oeV)[h]? = some (.ref y.d):=by rw [K0,U];rfl
  obtain ⟨D0,X,oa⟩:=z0f R.oe U;have X:N.opn[h]? = some D0:=X;rw [hD] at X;cases X;obtain ⟨ks,v1,v2,v3,v4⟩:=(show OeAt (kx w) H1 D y from oa)
  refine z4w ⟨_,rfl,b.st,_,rfl,g.grd e,?_⟩;refine ⟨_,rfl,b.st,_,rfl,g.gop e,_,rfl,.inl ⟨b.op,_,h,.ref y.d,rfl,rfl,SqL.of L,z06 a5,y.d,_,rfl,DPut.k (k:=.inr "round") ed (Y0 ks.len (by decide)),?_⟩⟩;have a7:=ks.put (k:=.inr "round") (v:=.int ((N.rounds + 1:Nat):Int)) (by simp [kD]);refine z4w ⟨_,rfl,rfl,?_⟩;refine ⟨_,rfl,b.st,_,rfl,g.gop (up1 a4 e),_,rfl,.inl ⟨b.op,_,h,.ref y.d,rfl,rfl,SqL.of (up1 a1 L),z06 a5,y.d,_,rfl,DPut.k (k:=.inr "keeps") z04 (Y0 a7.len (by decide)),?_⟩⟩;rw [zj0 sx];have b2:=a7.put (k:=.inr "keeps") (v:=.bl x.isSome) (by simp [kD]);refine z4w ⟨w_0,λ l u=>?_⟩;have nl:l≠y.d:=λ z=>by rw [z,z04] at u;cases u
  rw [upd_ne nl,upd_ne nl] at u;refine ⟨_,rfl,b.st,_,rfl,g.gop (up1 (λ z=>by rw [<-z,e] at u;cases u) (up1 a4 (up1 a4 e))),_,rfl,.inl ⟨b.op,_,h,.ref y.d,rfl,rfl,SqL.of (up1 (λ z=>by rw [<-z,L] at u;cases u) (up1 a1 (up1 a1 L))),z06 a5,y.d,_,rfl,DPut.k (k:=.inr "heard") (up1 nl.symm z04) (Y0 b2.len (by decide)),?_⟩⟩;rw [upd4];generalize hk3:putK (putK (putK y.kvs (.inr "round") (.int ((N.rounds + 1:Nat):Int))) (.inr "keeps") (.bl x.isSome)) (.inr "heard") (.ref l)=k3;have b5:KS kD k3:=hk3 ▸ b2.put (k:=.inr "heard") (by simp [kD]);have p3 :∀{j:Key} {v:V},j≠.inr "round"->j≠.inr "keeps"->j≠.inr "heard"->valV y.kvs j=some v->valV k3 j=some v:=λ h1 h2 h3 h=>hk3 ▸ (vp_ne h3).trans ((vp_ne h2).trans ((vp_ne h1).trans h));have p4:valV k3 (.inr "round")=some (.int ((N.rounds + 1:Nat):Int)):=hk3 ▸ (vp_ne (by decide +kernel)).trans ((vp_ne (by decide +kernel)).trans vp_eq);have p5:valV k3 (.inr "keeps")=some (.bl x.isSome):=hk3 ▸ (vp_ne (by decide +kernel)).trans vp_eq;have p6:valV k3 (.inr "heard")=some (.ref l):=hk3 ▸ vp_eq;have a0:=R.setL (D':={ D with round:=N.rounds + 1,keeps:=x.isSome,heard:=[] }) U u a3 λ O=>⟨b5,p3 (by decide +kernel) (by decide +kernel) (by decide +kernel) v1,p3 (by decide +kernel) (by decide +kernel) (by decide +kernel) v2,λ z=>p3 (by decide +kernel) (by decide +kernel) (by decide +kernel) (ha z),λ _=>⟨p4,p5,l,[],rfl,p6,.nil⟩⟩
  have b1:Same B (upd (upd H1 l (.lst [])) y.d (.dK k3)):=Same.keep (a3.trans (Same.upd u)) b3;have m2:Imm H1 (upd (upd H1 l (.lst [])) y.d (.dK k3)):=(Imm.of (Same.upd u)).trans (Imm.dk (up1 nl.symm ed));generalize upd (upd H1 l (.lst [])) y.d (.dK k3)=H5 at a0 b1 m2⊢;have b8:=sx.imm (m1.trans m2);clear g C M W Z e;obtain ⟨F,I,uv,vv,g,C,M,W,Z⟩:=id a0.ct;have e:H5 b.st=some (.dK F):=C.at (a:=[]);have b6:H5 b.hd=some (.lst I):=C.at (a:=[_]);have lh:I.length=N.held.length:=z03 M;refine ⟨_,rfl,b.st,_,rfl,g.ghd e,.inl ⟨b.hd,I,rfl,.inl (SqL.of b6),I.length,rfl,by omega,by omega,?_⟩⟩;refine z44 (lo:=0) (n:=I.length) (λ i σ O=>Same B O/\Imm H5 O/\Lw (kx w) B O b (es.set h (some ⟨y.d,k3,some (l,[])⟩)) { N with rounds:=N.rounds + 1,opn:=N.opn.set h (some { D with round:=N.rounds + 1,keeps:=x.isSome,heard:=[] }),under:=N.under++(O0 i).map λ c=>⟨c,h,N.rounds + 1,true,x⟩ }/\∃x4,σ=[some (.ref b.st),some (.int (h:Nat)),some K,some J,x4])
   ⟨b1,Imm.of (Same.refl _),by rw [show (O0 0).map (λ c=>(⟨c,h,N.rounds + 1,true,x⟩:LL))=[] from rfl,C3];exact a0,_,rfl⟩ ?_ ?_
  ·rintro i σ S hi ⟨s6,m6,lw6,x4,rfl⟩;obtain ⟨b7,c6,Y,c5,d0,d1,d2,d3,d4⟩:=id lw6.ct;have b0:S b.st=some (.dK b7):=d1.at (a:=[]);have a2:S b.un=some (.lst Y):=d1.at (a:=[_,_]);refine g_name ?_;refine ⟨_,rfl,b.st,_,rfl,d0.gun b0,.inl ⟨rfl,_,SqL.of a2⟩,?_⟩;refine ⟨_,rfl,_,rfl,_,rfl,b.st,_,rfl,d0.grd b0,_,rfl,_,rfl,w_6,λ p hp=>?_⟩;rw [g9];have G:=Same.upd (o:=.tup [.int (i:Nat),.int (h:Nat),.int ((N.rounds + 1:Nat):Int),.str "to",K,J]) hp;have e7:upd S p (.tup [.int (i:Nat),.int (h:Nat),.int ((N.rounds + 1:Nat):Int),.str "to",K,J]) p=some (.tup [.int (i:Nat),.int (h:Nat),.int ((N.rounds + 1:Nat):Int),.str "to",K,J]):=z04;have lu:Y.length<=10005:=by rw [z03 d3,I0,B0,W1];omega
   refine ⟨b.un,Y,_,rfl,rfl,G _ _ a2,Y0 lu (by decide),?_⟩;have b4:B b.un=none:=d1.frA (a:=[_,_]);have a9:=lw6.same G;have s7:=s6.trans G;have d7:=z00 (λ _ _ z=>LLAt.imm (Imm.of G) z) d3;have a8:=b8.imm (m6.trans (Imm.of G));have m7:=m6.trans (Imm.of G);have a6:=G _ _ a2;generalize upd S p (.tup [.int (i:Nat),.int (h:Nat),.int ((N.rounds + 1:Nat):Int),.str "to",K,J])=H7 at e7 a9 s7 d7 a8 m7 a6⊢;refine ⟨Same.keep s7 b4,m7.trans (Imm.lst a6),?_,_,rfl⟩;have:=a9.setU (us:=N.under++(O0 (i + 1)).map λ c=>⟨c,h,N.rounds + 1,true,x⟩) (uv':=Y++[.ref p]) λ O m=>by rw [K7,P1,<-T2];exact z3a (z00 (λ _ _ z=>LLAt.imm m z) d7) (.cons ⟨p,K,J,rfl,m.t _ _ e7,a8.imm m⟩ .nil)
   exact this
  ·rintro σ S ⟨s6,m6,lw6,x4,rfl⟩;rw [lh] at lw6;exact q _ _ s6 lw6
def z4t (K:j0):Sp:=λ vs H Q _=>∃(A:La) (h:Nat) (a:Option Int) (B:Hp) (es:List (Option OE)) (N:LM) (y:OE),vs=[.ref A.st,.int h,avD a]/\Lw K B H A es N/\es[h]? = some (some y)/\N.events.length<=10000/\Same B H/\∀es' H',Same B H'->Lw K B H' A es' (N.ended h a)->Q .non H'
theorem z8t (T:TX (kx w) mg):Fo P w mg base CX0 1 434 y0u ["state","hand","answer"] (z4t (kx w)):=by
 refine (z3s w.params).ok z8c (λ R H Q E h=>?_) (λ Y A X s H R Q E D h=>?_)
 ·obtain ⟨A,h,a,B,d,N,y,rfl,_⟩:=h;rfl
 ·obtain ⟨b,h,a,B,d,N,y,rfl,F,v,J,V,q⟩:=h;refine ⟨_,(z02 (ps_asg pe_non (pg_sub (z0c (hu_of D) (pv 0) pe_str (λ _ _=>rfl)) (pv 1) z3i))
   (z05 (z0d (z0v (z0c (hu_of D) (pv 0) pe_str (λ _ _=>rfl)) (z01 (pe_tup (z01 pe_str (z01 (pv 1) (z01 (pv 2) pa_nil)))) pa_nil))))),?_⟩
  obtain ⟨l,K,S,f,g,c,G,C,i⟩:=id F.ct;have j:H b.st=some (.dK l):=c.at (a:=[]);have L:H b.op=some (.lst (d.map oeV)):=c.at (a:=[_,_,_,_,_]);have U:h < (d.map oeV).length:=by rw [B0];exact (List.getElem?_eq_some_iff.mp v).1
  refine ⟨_,rfl,b.st,_,rfl,g.gop j,_,rfl,b.op,_,h,h,rfl,rfl,L,z69 U,?_⟩;have k:=F.setO v;have x:=Same.keep (o:=.lst ((d.map oeV).set h .non)) V (c.frA (a:=[_,_,_,_,_]));generalize upd H b.op (.lst ((d.map oeV).set h .non))=H1 at k x⊢;clear g c G C i j;obtain ⟨l,K,S,f,g,c,G,C,i⟩:=id k.ct;have j:H1 b.st=some (.dK l):=c.at (a:=[]);have u:H1 b.ev=some (.lst f):=c.at (a:=[_,_,_,_]);refine ⟨_,rfl,b.st,_,rfl,g.gev j,.inl ⟨rfl,_,SqL.of u⟩,?_⟩;refine ⟨_,rfl,_,rfl,w_3,λ p M=>?_⟩;have e:=Same.upd (o:=.tup [.str "end",.int (h:Nat),avD a]) M;have r:upd H1 p (.tup [.str "end",.int (h:Nat),avD a]) p=some (.tup [.str "end",.int (h:Nat),avD a]):=z04;have O:f.length<=10000:=by rw [z03 i];exact J
  refine ⟨b.ev,f,_,rfl,rfl,e _ _ u,Y0 O (by decide),?_⟩;have I:=z00 (λ _ _ z=>EvV.imm (Imm.of e) z) i;have n:=k.same e;generalize upd H1 p (.tup [.str "end",.int (h:Nat),avD a])=H2 at e r I n⊢;exact q _ _ (Same.keep (x.trans e) (c.frA (a:=[_,_,_,_]))) <| n.setV (us:=N.events++[.fin h a]) (uv':=f++[.ref p]) λ W m=>z3a (z00 (λ _ _ z=>EvV.imm m z) I) (.cons (show EvV W (.fin h a) (.ref p) from ⟨p,rfl,m.t _ _ r⟩) .nil)
theorem Lw.open_ {K:j0} {B H:Hp} {A:La} {es:List (Option OE)} {N:LM} {h:Nat} {D:LD} (lw:Lw K B H A es N) (hD:N.opn[h]? = some (some D)) :∃y,es[h]? = some (some y)/\OeAt K H D y:=by
 obtain ⟨b,c,a⟩:=z0o lw.oe hD;cases b with
 | none=>exact a.elim
 | some y=>exact ⟨y,c,a⟩
theorem Lw.hear_ {K:j0} {B H:Hp} {A:La} {es:List (Option OE)} {N:LM} {h:Nat} {y:OE} {l:Addr} {hs:List V} (lw:Lw K B H A es N) (hy:es[h]? = some (some y)) (hl:y.l=some (l,hs)):H l=some (.lst hs)/\B l=none:=by obtain ⟨f,g,j,k,m,b,p,o,n⟩:=lw.ct;have i:(l,HO.lst hs)∈es.flatMap entO:=List.mem_flatMap.mpr ⟨some y,O1 hy,by show _∈(y.d,HO.dK y.kvs) :: (match y.l with|none=>[]|some y=>[(y.1,HO.lst y.2)]);rw [hl];simp⟩;have e:=List.mem_append.mpr (Y1 (a:=(l,HO.lst hs)∈baseO A f g j (natV N.nxt) k (es.map oeV)) i);exact ⟨b.c _ e,b.fr _ e⟩
theorem dg {H:Hp} {a:Addr} {kvs:List (Key×V)} {k:Str} {v:V} (e:H a=some (.dK kvs)) (h:valV kvs (.inr k)=some v):DGet H a (.str k) (some v):=h ▸ DGet.k (k:=.inr k) e
theorem zdh {N:LM} {h:Nat} {D:LD} {x:Option Hd} {o:Option LD}:LM.sent { N with opn:=N.opn.set h o } h D x=N.sent h D x:=by unfold LM.sent;rw [List.set_set]
def z35 (K:j0):Sp:=λ vs H Q _=>∃(A:La) (h:Nat) (bk:Bool) (B:Hp) (es:List (Option OE)) (N:LM) (D:LD),vs=[.ref A.st,.int h,.bl bk]/\Lw K B H A es N/\N.opn[h]? = some (some D)/\D.round≠0/\D.heard≠[]/\D.heard.length<=100/\N.under.length<=10000/\N.held.length<=5/\N.events.length<=10000/\Same B H/\
 ∀es' H',Same B H'->Lw K B H' A es' (N.goneOn bk h D)->Q .non H'
theorem z6p (T:TX (kx w) mg) (c5:Ca P w mg base "_law_sent" ["state","hand","stamp","worth"] 1 (z38 (kx w))) (c6:Ca P w mg base "_law_ended" ["state","hand","answer"] 1 (z4t (kx w))):Fo P w mg base CX0 2 441 y0e ["state","hand","back"] (z35 (kx w)):=by
 refine (z26 w.params).ok sc__law_gone_on (λ vs H Q E h=>?_) (λ b0 A b1 s H vs Q E c h=>?_)
 ·obtain ⟨A,h,bk,B,F,N,D,rfl,_⟩:=h;rfl
 ·obtain ⟨e,h,bk,B,F,N,D,rfl,G,hD,nr,nh,hl,ul,a1,vl,K,q⟩:=h;refine ⟨_,(z02 (ps_set (i:=3) sc__law_gone_on.nd rfl (Z1 rfl) (pe_ix ix_seq (z0c (hu_of c) (pv 0) pe_str (λ _ _=>rfl)) (pv 1) (λ _ _=>rfl)))
   (z02 (ps_if (pt_val (z0c (hu_of c) (pv 3) pe_str (λ _ _=>rfl)) (λ _=>rfl))
   (z02 (z0d (pe_cal c6 (c.mono (by decide)) rfl (z01 (pv 0) (z01 (pv 1) (z01 (z0c (hu_of c) (pv 3) pe_str (λ _ _=>rfl)) pa_nil)))))
   (z05 z74))
   z0j)
   (z02 (ps_asg (z08 (zby rfl c) rfl (T.no (n_max _)) boot_max (z01 (z0c (hu_of c) (pv 3) pe_str (λ _ _=>rfl)) pa_nil)) (pg_tup rfl (z12 (z0s (i:=4) sc__law_gone_on.nd rfl (Z1 rfl)) (z12 (z0s (i:=5) sc__law_gone_on.nd rfl (Z1 rfl)) z8x))))
   (z05 (ps_if (z0b opEq (z0c (hu_of c) (pv 3) pe_str (λ _ _=>rfl)) pe_str (nomark _))
   (z02 (z3t (hu_of c) (pv 3) pe_str pe_str rfl)
   (z05 (z0d (pe_cal c5 (c.mono (by decide)) rfl (z01 (pv 0) (z01 (pv 1) (z01 (pe_tup (z01 (pe_op opAdd (pe_ix ix_seq (pv 4) pe_int (λ _ _=>rfl)) pe_int) (z01 (pv 1) pa_nil))) (z01 (z0c (hu_of c) (pv 3) pe_str (λ _ _=>rfl)) pa_nil))))))))
   (z05 (ps_if (pt_val (pv 2) (λ _=>rfl))
   (z02 (z3t (hu_of c) (pv 3) pe_str (pv 5) rfl)
   (z05 (z0d (pe_cal c5 (c.mono (by decide)) rfl (z01 (pv 0) (z01 (pv 1) (z01 (pv 4) (z01 (pv 5) pa_nil))))))))
   (z05 (z0d (pe_cal c6 (c.mono (by decide)) rfl (z01 (pv 0) (z01 (pv 1) (z01 (pv 5) pa_nil))))))))))))),?_⟩
  obtain ⟨kvs,hv,uv,vv,c0,c1,c2,c3,c4⟩:=id G.ct;have a8:H e.st=some (.dK kvs):=c1.at (a:=[]);have L:H e.op=some (.lst (F.map oeV)):=c1.at (a:=[_,_,_,_,_]);obtain ⟨y,f,oa⟩:=G.open_ hD;obtain ⟨b2,t,V⟩:=G.nest f;have a7:(F.map oeV)[h]? = some (.ref y.d):=by rw [K0,f];rfl
  obtain ⟨Z,v1,M,v3,v4⟩:=id oa;obtain ⟨g1,g2,l,hs,g3,g4,U⟩:=v4 nr;refine z0e ⟨_,rfl,e.st,_,rfl,c0.gop a8,_,rfl,.inl ⟨e.op,_,h,.ref y.d,rfl,rfl,SqL.of L,z06 a7,?_⟩⟩;refine g_name ?_;obtain ⟨a6,_⟩:=G.hear_ f g3;obtain ⟨ps,rfl,a2,a0⟩:=z4l U;refine sq_if ⟨_,rfl,y.d,_,rfl,dg t g2,_,rfl,?_⟩;cases hk:D.keeps with
  | true=>refine iteT ?_;refine ⟨_,rfl,_,rfl,_,rfl,y.d,_,rfl,dg t (v3 hk),e,h,D.ans,B,F,N,y,rfl,G,f,vl,K,λ v u C g=>?_⟩;exact q v u C (by rw [zeg hk];exact g)
  | false=>
   refine iteF (t_nx ?_);cases ps with
   | nil=>exact absurd a2.symm nh
   | cons m r=>
   refine z0e ⟨_,rfl,y.d,_,rfl,dg t g4,l,m,r,rfl,SqL.of a6,a0,λ b hb hg=>?_⟩;have S:maxHd D.heard=b.2:=by rw [<-a2];refine zfe (P7 hb) λ x hx=>?_;obtain ⟨y,f,rfl⟩:=List.mem_map.mp hx;exact hg y f
   obtain ⟨R,a5,a3⟩:=a0 b hb;refine ⟨b.1,_,rfl,a5,rfl,_,_,rfl,_,_,rfl,rfl,?_⟩;refine ⟨_,rfl,y.d,_,rfl,dg t v1,rfl,_,rfl,?_⟩;have W :∀(a:Option Int),Lw (kx w) B (upd H y.d (.dK (putK y.kvs (.inr "answer") (avD a)))) e (F.set h (some { y with kvs:=putK y.kvs (.inr "answer") (avD a) })) { N with opn:=N.opn.set h (some { D with ans:=a }) }:=λ a=>(G.setD (D':={ D with ans:=a }) f λ u m=>⟨Z.put (by simp [kD]),(vp_ne (by decide +kernel)).trans v1,(vp_ne (by decide +kernel)).trans M,λ _=>vp_eq,λ _=>⟨(vp_ne (by decide +kernel)).trans g1,(vp_ne (by decide +kernel)).trans g2,l,_,g3,(vp_ne (by decide +kernel)).trans g4,z00 (λ _ _ z=>z.imm m) U⟩⟩).1;have X:h < F.length:=(List.getElem?_eq_some_iff.mp f).1;have a4:h < N.opn.length:=(List.getElem?_eq_some_iff.mp hD).1;have a9:e.op≠y.d:=λ z=>by rw [z,t] at L;cases L
   have k6:=Y0 Z.len (show kD.length < sizeLine by decide);cases hd:D.d with
   | some w0=>rw [hd] at M;refine iteP rfl ?_;refine z4w ⟨_,rfl,y.d,_,rfl,DPut.k (k:=.inr "answer") t k6,?_⟩;have n:=W none;have I:=Same.keep (o:=.dK (putK y.kvs (.inr "answer") (.str "ok"))) K V;have Y:upd H y.d (.dK (putK y.kvs (.inr "answer") (.str "ok"))) y.d=some (.dK (putK y.kvs (.inr "answer") (.str "ok"))):=z04;have J:Imm H (upd H y.d (.dK (putK y.kvs (.inr "answer") (.str "ok")))):=Imm.dk t;have n:Lw (kx w) B (upd H y.d (.dK (putK y.kvs (.inr "answer") (.str "ok")))) e _ _:=n;generalize upd H y.d (.dK (putK y.kvs (.inr "answer") (.str "ok")))=H1 at n I Y J⊢;refine ⟨_,rfl,_,rfl,_,rfl,.inr (.inl ⟨R,_,0,.int b.2.1.1,rfl,rfl,J.seqT a3,z06 (j:=0) rfl,.inl ⟨_,1,rfl,rfl,?_⟩⟩)⟩;refine ⟨_,rfl,w_2,λ p hp=>?_⟩;have O:=Same.upd (o:=.tup [.int (b.2.1.1 + 1),.int (h:Nat)]) hp;have e2:upd H1 p (.tup [.int (b.2.1.1 + 1),.int (h:Nat)]) p=some (.tup [.int (b.2.1.1 + 1),.int (h:Nat)]):=z04;refine ⟨_,rfl,y.d,_,rfl,dg (O _ _ Y) ((vp_ne (by decide +kernel)).trans M),?_⟩;refine ⟨e,h,.ref p,.int w0,B,_,_,_,_,some ((b.2.1.1 + 1,(h:Int)),w0),rfl,n.same O,Q0 a4,Q0 X,⟨p,rfl,SqT.of e2,rfl⟩,λ _=>vp_eq,ul,a1,I.trans O,λ v u C g=>q v u C ?_⟩;rw [zdh] at g;rw [zdo hk hd,S];exact g
   | none=>
    refine iteN (by simp [vbD];decide +kernel) ?_;refine ⟨_,rfl,_,rfl,?_⟩;cases hb':bk with
    | true=>refine iteT ?_;refine z4w ⟨_,rfl,_,rfl,y.d,_,rfl,DPut.k (k:=.inr "answer") t k6,?_⟩;have n:=W (some b.2.2);have I:=Same.keep (o:=.dK (putK y.kvs (.inr "answer") (.int b.2.2))) K V;have J:Imm H (upd H y.d (.dK (putK y.kvs (.inr "answer") (.int b.2.2)))):=Imm.dk t;have n:Lw (kx w) B (upd H y.d (.dK (putK y.kvs (.inr "answer") (.int b.2.2)))) e _ _:=n;generalize upd H y.d (.dK (putK y.kvs (.inr "answer") (.int b.2.2)))=H1 at n I J⊢;refine ⟨_,rfl,_,rfl,_,rfl,_,rfl,e,h,.ref R,.int b.2.2,B,_,_,_,_,some b.2,rfl,n,Q0 a4,Q0 X,⟨R,rfl,J.seqT a3,rfl⟩,λ _=>vp_eq,ul,a1,I,λ v u C g=>q v u C ?_⟩;rw [zdh] at g;rw [z9z hk hd,hb',if_pos rfl,S];exact g
    | false=>refine iteF ?_;refine ⟨_,rfl,_,rfl,_,rfl,e,h,some b.2.2,B,F,N,y,rfl,G,f,vl,K,λ v u C g=>q v u C ?_⟩;rw [z9z hk hd,hb',if_neg (by decide),S];exact g
theorem Lw.setH {K:j0} {B H:Hp} {A:La} {es:List (Option OE)} {N:LM} {h:Nat} {y:OE} {D':LD} {l:Addr} {hs hs':List V} (lw:Lw K B H A es N) (hy:es[h]? = some (some y)) (hl:y.l=some (l,hs)) (a :∀H',Imm H H'->OeAt K H' D' { y with l:=some (l,hs') }):Lw K B (upd H l (.lst hs')) A (es.set h (some { y with l:=some (l,hs') })) { N with opn:=N.opn.set h (some D') }:=by
 obtain ⟨c,f,i,j,k,b,q,p,n⟩:=lw.ct;rw [z5t hy] at b;have g:Ms B H ((baseO A c f i (natV N.nxt) j (es.map oeV)++(es.take h).flatMap entO++[(y.d,.dK y.kvs)])++(l,.lst hs) :: (es.drop (h + 1)).flatMap entO):=by
  have e:entO (some y)=[(y.d,.dK y.kvs),(l,.lst hs)]:=by show (y.d,HO.dK y.kvs) :: (match y.l with|none=>[]|some y=>[(y.1,HO.lst y.2)])=_;rw [hl]
  rw [e] at b;simpa using b
 have m:Imm H (upd H l (.lst hs')):=Imm.lst g.at;refine ⟨⟨c,f,i,j,k,?_,z00 (λ _ _ z=>z.imm m) q,z00 (λ _ _ z=>z.imm m) p,z00 (λ _ _ z=>z.imm m) n⟩,z3g h (z00 (λ _ _ z=>OeO.imm m z) lw.oe) (show OeO K _ (some D') (some _) from a _ m)⟩;have:=g.set (o':=.lst hs');rw [z23 _ hy,map_set];have e:(es.map oeV).set h (oeV (some { y with l:=some (l,hs') }))=es.map oeV:=by refine z6c ?_;rw [K0,hy];rfl
 rw [e];have o:entO (some { y with l:=some (l,hs') })=[(y.d,.dK y.kvs),(l,.lst hs')]:=rfl;rw [o];simpa using this
def z6d (K:j0):Sp:=λ vs H Q _=>∃(A:La) (y:V) (bk:Bool) (B:Hp) (es:List (Option OE)) (N:LM) (L:LL),vs=[.ref A.st,y,.bl bk]/\Lw K B H A es N/\LLAt K H L y/\L.copy < N.held.length/\L.hand < N.opn.length/\(L.to=false->∃x,L.x=some x)/\(∀D,N.opn[L.hand]? = some (some D)->D.round≠0/\D.heard.length<=50)/\N.under.length<=9000/\N.held.length<=5/\N.events.length<=9000/\Same B H/\
 ∀es' H',Same B H'->Lw K B H' A es' (N.come bk L)->Q .non H'
theorem zai (T:TX (kx w) mg) (c5:Ca P w mg base "_law_gone_on" ["state","hand","back"] 2 (z35 (kx w))):Fo P w mg base CX0 3 448 y13 ["state","letter","back"] (z6d (kx w)):=by
 refine (z4b w.params).ok sc__law_come (λ vs H Q E h=>?_) (λ e4 A e5 s H vs Q E n h=>?_)
 ·obtain ⟨A,y,bk,B,r,N,L,rfl,_⟩:=h;rfl
 ·obtain ⟨b,y,bk,B,r,N,L,rfl,v,⟨pl,sv,wv,rfl,ep,W⟩,hc,hh,hx,b2,ul,c8,vl,M,q⟩:=h;refine ⟨_,(z02 (ps_asg (pv 1) (pg_tup rfl (z12 (z0s (i:=3) sc__law_come.nd rfl (Z1 rfl)) (z12 (z0s (i:=4) sc__law_come.nd rfl (Z1 rfl)) (z12 (z0s (i:=5) sc__law_come.nd rfl (Z1 rfl)) (z12 (z0s (i:=6) sc__law_come.nd rfl (Z1 rfl)) (z12 (z0s (i:=7) sc__law_come.nd rfl (Z1 rfl)) (z12 (z0s (i:=8) sc__law_come.nd rfl (Z1 rfl)) z8x))))))))
   (z02 (ps_if (z0b opEq (pv 6) pe_str (nomark _))
   (z02 (ps_if (PW.pt (pw_and (z0b z66 (pv 7) pe_non (nomark _)) (z4z (z0b (op_gtT n) (pv 7) (pe_ix ix_seq (pe_ix ix_seq (z0c (hu_of n) (pv 0) pe_str (λ _ _=>rfl)) (pv 3) (λ _ _=>rfl)) pe_int (λ _ _=>rfl)) (nomark _)))))
   (z05 (ps_asg (pe_tup (z01 (pv 7) (z01 (pv 8) pa_nil))) (pg_sub (z0c (hu_of n) (pv 0) pe_str (λ _ _=>rfl)) (pv 3) z3i)))
   z0j)
   (z02 (z0d (z0v (z0c (hu_of n) (pv 0) pe_str (λ _ _=>rfl)) (z01 (pe_op opAdd (pe_tup (z01 (pv 3) (z01 (pv 4) (z01 (pv 5) (z01 pe_str pa_nil))))) (pe_ix ix_seq (z0c (hu_of n) (pv 0) pe_str (λ _ _=>rfl)) (pv 3) (λ _ _=>rfl))) pa_nil)))
   (z05 z74)))
   z0j)
   (z02 (ps_set (i:=9) sc__law_come.nd rfl (Z1 rfl) (pe_ix ix_seq (z0c (hu_of n) (pv 0) pe_str (λ _ _=>rfl)) (pv 4) (λ _ _=>rfl)))
   (z05 (ps_if (PW.pt (pw_and (z0b z66 (pv 9) pe_non (nomark _)) (z4z (z0b opEq (z0c (hu_of n) (pv 9) pe_str (λ _ _=>rfl)) (pv 5) (nomark _)))))
   (z02 (z0d (z0v (z0c (hu_of n) (pv 9) pe_str (λ _ _=>rfl)) (z01 (pe_tup (z01 (pv 7) (z01 (pv 8) pa_nil))) pa_nil)))
   (z05 (ps_if (z0b op_gt (pe_op op_mul pe_int (z08 z0r rfl (T.no (n_len _)) X2 (z01 (z0c (hu_of n) (pv 9) pe_str (λ _ _=>rfl)) pa_nil))) (z08 z0r rfl (T.no (n_len _)) X2 (z01 (z0c (hu_of n) (pv 0) pe_str (λ _ _=>rfl)) pa_nil)) (nomark _))
   (z05 (z0d (pe_cal c5 (n.mono (by decide)) rfl (z01 (pv 0) (z01 (pv 4) (z01 (pv 2) pa_nil))))))
   z0j)))
   z0j))))),?_⟩
  obtain ⟨a4,hv,uv,vv,G,u,Z,c3,c4⟩:=id v.ct;have I:H b.st=some (.dK a4):=u.at (a:=[]);have O:H b.hd=some (.lst hv):=u.at (a:=[_]);have c6:H b.op=some (.lst (r.map oeV)):=u.at (a:=[_,_,_,_,_]);have le:r.length=N.opn.length:=z03 v.oe;refine z0e ⟨_,rfl,pl,_,rfl,SqT.of ep,rfl,_,_,rfl,_,_,rfl,_,_,rfl,_,_,rfl,_,_,rfl,_,_,rfl,rfl,?_⟩;cases hto:L.to with
  | true=>
   refine sq_if ⟨_,rfl,rfl,_,rfl,iteP (decide_eq_true rfl) ?_⟩;obtain ⟨xv,a0,xp,xq,rfl,x1,x2⟩:=z0o Z (v0 hc);have f:N.held[L.copy]? = some N.held[L.copy]:=v0 hc;generalize N.held[L.copy]=s0 at f x1 x2;have b6:L.copy < hv.length:=(List.getElem?_eq_some_iff.mp a0).1;refine zdw (λ σ' C=>Same B C/\Imm H C/\Lw (kx w) B C b r { N with held:=N.held.set L.copy (keepH L.x s0) }/\σ'=[some (.ref b.st),some (.ref pl),some (.bl bk),some (.int L.copy),some (.int L.hand),some (.int L.turn),some (.str (sideS true)),some sv,some wv,none]) ?_ λ go=>?_;rotate_left
   ·have same:keepH L.x s0=s0->Lw (kx w) B H b r { N with held:=N.held.set L.copy (keepH L.x s0) }:=λ e=>by rw [e,z6c f];exact v
    refine t_and ⟨_,rfl,rfl,_,rfl,?_⟩;cases hX:L.x with
    | none=>rw [hX] at W same go;obtain ⟨rfl,rfl⟩:=W;exact iteN (by decide) (iteF (t_nx (go _ _ ⟨M,Imm.of (Same.refl _),same rfl,rfl⟩)))
    | some k=>
     rw [hX] at W same go;obtain ⟨F,rfl,k2,rfl⟩:=W;refine iteP (by simp) ?_;refine ⟨_,rfl,_,rfl,b.st,_,rfl,G.ghd I,_,rfl,.inl ⟨b.hd,hv,L.copy,.ref xp,rfl,rfl,SqL.of O,z06 a0,.inr (.inl ⟨xp,_,0,.ref xq,rfl,rfl,x1,z06 (j:=0) rfl,?_⟩)⟩⟩;refine ⟨F,xq,k.1,s0.1,rfl,rfl,k2,x2,_,rfl,?_⟩;by_cases gt:gtI k.1 s0.1=true
     ·refine iteP gt ?_;refine ⟨_,rfl,_,rfl,w_2,λ p hp=>?_⟩;have g:=Same.upd (o:=.tup [.ref F,.int k.2]) hp;have U:upd H p (.tup [.ref F,.int k.2]) p=some (.tup [.ref F,.int k.2]):=z04;refine ⟨_,rfl,b.st,_,rfl,G.ghd (g _ _ I),_,rfl,b.hd,_,L.copy,L.copy,rfl,rfl,g _ _ O,z69 b6,t_nx (go _ _ ⟨Same.keep (M.trans g) (u.frA (a:=[_])),(Imm.of g).trans (Imm.lst (g _ _ O)),?_,rfl⟩)⟩;have ek:keepH (some k) s0=k:=if_pos gt;rw [ek];exact (v.same g).setS λ C m=>z3g _ (z00 (λ _ _ z=>HdAt.imm ((Imm.of g).trans m) z) Z) ⟨p,F,rfl,SqT.of (m.t _ _ U),((Imm.of g).trans m).seqT k2⟩
     ·exact iteN gt (t_nx (go _ _ ⟨M,Imm.of (Same.refl _),same (if_neg gt),rfl⟩))
   rintro σ R ⟨s1,m1,a1,rfl⟩;clear G u Z c3 c4 I O x1 x2 a0;obtain ⟨a4,a5,uv,vv,G,u,Z,c3,c4⟩:=id a1.ct;have I:R b.st=some (.dK a4):=u.at (a:=[]);have O:R b.hd=some (.lst a5):=u.at (a:=[_]);have a8:R b.un=some (.lst uv):=u.at (a:=[_,_]);have hk:(N.held.set L.copy (keepH L.x s0))[L.copy]? = some (keepH L.x s0):=Q0 hc;obtain ⟨xv,a0,b0,S,rfl,x1,x2⟩:=z0o Z hk;refine ⟨_,rfl,b.st,_,rfl,G.gun I,.inl ⟨rfl,_,SqL.of a8⟩,?_⟩;refine ⟨_,rfl,_,rfl,_,rfl,w_4,λ p hp=>?_⟩;obtain ⟨H2,v_,g,U⟩:=newA (.tup [.int L.copy,.int L.hand,.int L.turn,.str "from"]) hp;rw [<-v_];refine ⟨_,rfl,b.st,_,rfl,G.ghd (g _ _ I),_,rfl,.inl ⟨b.hd,a5,L.copy,.ref b0,rfl,rfl,SqL.of (g _ _ O),z06 a0,?_⟩⟩;refine .inr (.inr (.inr ⟨p,b0,_,_,rfl,rfl,SqT.of U,g.seqT x1,by simp,w_6,(λ z=>by cases z),λ _ J b9=>?_⟩));have t3:=Same.upd (o:=.tup ([.int L.copy,.int L.hand,.int L.turn,.str "from"]++[.ref S,.int (keepH L.x s0).2])) b9;have e3:upd H2 J (.tup ([.int L.copy,.int L.hand,.int L.turn,.str "from"]++[.ref S,.int (keepH L.x s0).2])) J=some (.tup [.int L.copy,.int L.hand,.int L.turn,.str "from",.ref S,.int (keepH L.x s0).2]):=z04;have K:=g.trans t3;generalize upd H2 J (.tup ([.int L.copy,.int L.hand,.int L.turn,.str "from"]++[.ref S,.int (keepH L.x s0).2]))=H3 at K e3⊢;have lu:uv.length<=9000:=by rw [z03 c3];exact ul
   refine ⟨b.un,uv,_,rfl,rfl,K _ _ a8,Y0 lu (by decide),?_⟩;have b3:=(a1.same K).setU (us:=N.under++[⟨L.copy,L.hand,L.turn,false,some (keepH L.x s0)⟩]) (uv':=uv++[.ref J]) λ C m=>z3a (z00 (λ _ _ z=>LLAt.imm ((Imm.of K).trans m) z) c3) (.cons (show LLAt (kx w) C ⟨L.copy,L.hand,L.turn,false,some (keepH L.x s0)⟩ (.ref J) from ⟨J,.ref S,_,rfl,m.t _ _ e3,S,rfl,((Imm.of K).trans m).seqT x2,rfl⟩) .nil);refine q _ _ (Same.keep (s1.trans K) (u.frA (a:=[_,_]))) (?_:Lw (kx w) B _ b r _);have c:N.come bk L={ N with held:=N.held.set L.copy (keepH L.x s0),under:=N.under++[⟨L.copy,L.hand,L.turn,false,some (keepH L.x s0)⟩] }:=by unfold LM.come;rw [if_pos hto,f]
   rw [c];exact b3
  | false=>
   refine sq_if ⟨_,rfl,rfl,_,rfl,iteN (show ¬ decide (V.str (sideS false)=V.str "to")=true by decide +kernel) (t_nx ?_)⟩;obtain ⟨x,hX⟩:=hx hto;rw [hX] at W;obtain ⟨F,rfl,k2,rfl⟩:=W;have ho:N.opn[L.hand]? = some N.opn[L.hand]:=v0 hh;obtain ⟨oe,a2,Y⟩:=z0o v.oe ho;have b7:(r.map oeV)[L.hand]? = some (oeV oe):=by rw [K0,a2];rfl
   refine z0e ⟨_,rfl,b.st,_,rfl,G.gop I,_,rfl,.inl ⟨b.op,_,L.hand,oeV oe,rfl,rfl,SqL.of c6,z06 b7,?_⟩⟩;refine g_name ?_;have c:N.come bk L=match N.opn[L.hand]?,L.x with|some (some D),some x=>N.hear bk L D x|_,_=>N:=by unfold LM.come;exact if_neg (by rw [hto];decide)
   rw [hX,ho] at c;cases hD:N.opn[L.hand] with
   | none=>
    rw [hD] at Y c;cases oe with
    | some y=>exact Y.elim
    | none=>exact ⟨_,rfl,rfl,_,rfl,iteN (by decide) (iteF (q r _ M (by rw [c];exact v)))⟩
   | some D=>
    rw [hD] at Y c ho;cases oe with
    | none=>exact Y.elim
    | some y=>
    obtain ⟨nr,d7⟩:=b2 D ho;obtain ⟨e6,ed,d9⟩:=v.nest a2;obtain ⟨ks,v1,v2,v3,v4⟩:=(show OeAt (kx w) H D y from Y)
    obtain ⟨g1,g2,l,f,g3,g4,g5⟩:=v4 nr;obtain ⟨a6,d5⟩:=v.hear_ a2 g3;have c:N.come bk L=N.hear bk L D x:=c;unfold LM.hear at c;refine t_and ⟨_,rfl,rfl,_,rfl,iteP (by simp [oeV]) ?_⟩;refine ⟨_,rfl,y.d,_,rfl,dg ed g1,_,rfl,rfl,_,rfl,?_⟩;by_cases hrt:D.round=L.turn;rotate_left
    ·rw [if_neg hrt] at c;exact iteN (λ z=>hrt (by have:=of_decide_eq_true z;injection this with this;omega)) (q r _ M (by rw [c];exact v))
    rw [if_pos hrt] at c;refine iteP (decide_eq_true (by rw [hrt])) ?_;refine ⟨_,rfl,y.d,_,rfl,dg ed g4,.inl ⟨rfl,_,SqL.of a6⟩,?_⟩;refine ⟨_,rfl,_,rfl,w_2,λ p hp=>?_⟩;obtain ⟨R,v_,t1,e1⟩:=newA (.tup [.ref F,.int x.2]) hp;rw [<-v_];have b1:f.length<=50:=by rw [z03 g5];exact d7
    refine ⟨l,f,_,rfl,rfl,t1 _ _ a6,Y0 b1 (by decide),t_nx ?_⟩;have a1:=v.same t1;have i1:=Imm.of t1;have X:=a1.setH (D':=D.hear x) (hs':=f++[.ref p]) a2 g3 λ C m=>⟨ks,v1,v2,v3,λ _=>⟨g1,g2,l,_,rfl,g4,z3a (z00 (λ _ _ z=>HdAt.imm (i1.trans m) z) g5) (.cons ⟨p,F,rfl,SqT.of (m.t _ _ e1),(i1.trans m).seqT k2⟩ .nil)⟩⟩
    have s2:=Same.keep (o:=.lst (f++[.ref p])) (M.trans t1) d5;have U:upd R l (.lst (f++[.ref p])) l=some (.lst (f++[.ref p])):=z04;generalize upd R l (.lst (f++[.ref p]))=H2 at X s2 U⊢;obtain ⟨d8,a7,e0,e7,d0,d1,d2,d3,d4⟩:=id X.ct;have c9:H2 b.st=some (.dK d8):=d1.at (a:=[]);have d6:H2 b.hd=some (.lst a7):=d1.at (a:=[_]);have b5:(r.set L.hand (some { y with l:=some (l,f++[.ref p]) }))[L.hand]? = some (some { y with l:=some (l,f++[.ref p]) }):=Q0 (by omega);obtain ⟨_,c7,_⟩:=X.nest b5;have a3:(f++[V.ref p]).length=(D.hear x).heard.length:=by rw [I0,z03 g5];show _=(D.heard++[x]).length;rw [I0];rfl
    have a9:a7.length=N.held.length:=z03 d2;refine ⟨_,rfl,y.d,_,rfl,dg c7 g4,.inl ⟨l,_,rfl,.inl (SqL.of U),2,_,rfl,rfl,.inl ⟨by decide,by decide⟩,?_⟩⟩;refine ⟨_,rfl,b.st,_,rfl,d0.ghd c9,.inl ⟨b.hd,_,rfl,.inl (SqL.of d6),_,_,rfl,rfl,_,rfl,?_⟩⟩;by_cases big:N.held.length < 2 * (D.hear x).heard.length
    ·rw [if_pos big] at c;refine iteP (decide_eq_true (by rw [a3,a9];omega)) ?_;refine ⟨_,rfl,_,rfl,_,rfl,b,L.hand,bk,B,_,_,D.hear x,rfl,X,Q0 hh,nr,by show D.heard++[x]≠[];simp,by rw [<-a3,I0];show f.length + 1<=100;omega,by show N.under.length<=_;omega,c8,by show N.events.length<=_;omega,s2,λ b4 C s' b8=>q b4 C s' (by rw [c];exact b8)⟩
    ·rw [if_neg big] at c;exact iteN (λ z=>big (by have:=of_decide_eq_true z;rw [a3,a9] at this;omega)) (q _ _ s2 (by rw [c];exact X))
structure LOk (pl:List (List (Option Int))) (N:LM) (n:Nat):Prop where
 ol:N.opn.length=pl.length
 nl:N.nxt.length=pl.length
 h5:N.held.length<=5
 un :∀L∈N.under,L.copy < N.held.length/\L.hand < pl.length/\(L.to=false->∃x,L.x=some x)
 op :∀(h:Nat) (D:LD),N.opn[h]? = some (some D)->D.round≠0/\D.heard.length<=50
 ul:N.under.length<=6 * n
 vl:N.events.length<=n
theorem lok_of {pl:List (List (Option Int))} {M:CM} {N:LM} {n:Nat} (s:Sm pl M N) (wf:WfM M n):LOk pl N n:=by
 have k:N.under.length=M.letters.length:=z03 s.un;refine ⟨s.ol,s.nl,by rw [s.st];exact wf.st.2,λ L o=>?_,λ h D q=>?_,by rw [k];exact wf.ln,by rw [s.ev];exact wf.vn⟩
 ·obtain ⟨i,l⟩:=List.mem_iff_getElem?.mp o;obtain ⟨b,d,m,g,c,p,j,f,a⟩:=z0f s.un l;refine ⟨by rw [s.st,c];exact s.inb b (O1 d),by rw [j];exact (s.pa _ _ g).1,λ z=>?_⟩;rw [f] at z;cases hh:b.held with
  | none=>rw [hh] at z;cases z
  | some x=>rw [hh] at a;exact ⟨x,a⟩
 ·obtain ⟨e,m,d,g,c,p,j,f,a,r⟩:=s.cu h D q;have:=wf.st.2;exact ⟨by omega,by omega⟩
theorem Lw.newO {K:j0} {B H:Hp} {A:La} {es:List (Option OE)} {N:LM} {h:Nat} {d:Addr} {kv:List (Key×V)} {D:LD} (lw:Lw K B H A es N) (hy:es[h]? = some none) (hd:H d=none) (sB:Same B H) (a :∀H',OeAt K H' D ⟨d,kv,none⟩):Lw K B (upd (upd (upd H d (.dK [])) d (.dK kv)) A.op (.lst ((es.map oeV).set h (.ref d)))) A (es.set h (some ⟨d,kv,none⟩)) { N with opn:=N.opn.set h (some D) }:=by obtain ⟨b,e,f,g,k,n,q,p,l⟩:=lw.ct;have i:Ms B (upd (upd H d (.dK [])) d (.dK kv)) ([]++(d,.dK kv) :: (baseO A b e f (natV N.nxt) g (es.map oeV)++es.flatMap entO)):=Ms.set (a:=[]) (n.new (o:=.dK []) sB hd);have j:Ms B (upd (upd (upd H d (.dK [])) d (.dK kv)) A.op (.lst ((es.map oeV).set h (.ref d)))) ((d,.dK kv) :: (baseO A b e f (natV N.nxt) g ((es.map oeV).set h (.ref d))++es.flatMap entO)):=Ms.set (a:=[_,_,_,_,_,_]) i;have m:Imm H (upd (upd (upd H d (.dK [])) d (.dK kv)) A.op (.lst ((es.map oeV).set h (.ref d)))):=((Imm.of (Same.upd hd)).trans (Imm.dk z04)).trans (Imm.lst (i.c (A.op,.lst (es.map oeV)) (by simp [baseO])));refine ⟨⟨b,e,f,g,k,?_,z00 (λ _ _ z=>z.imm m) q,z00 (λ _ _ z=>z.imm m) p,z00 (λ _ _ z=>z.imm m) l⟩,z3g h (z00 (λ _ _ z=>OeO.imm m z) lw.oe) (show OeO K _ (some D) (some _) from a _)⟩;rw [z23 _ hy,map_set];rw [z5t hy] at j;refine j.perm ?_;show List.Perm ((d,HO.dK kv) :: (baseO A b e f (natV N.nxt) g ((es.map oeV).set h (.ref d))++((es.take h).flatMap entO++(es.drop (h + 1)).flatMap entO))) (baseO A b e f (natV N.nxt) g ((es.map oeV).set h (.ref d))++((es.take h).flatMap entO++(d,HO.dK kv) :: (es.drop (h + 1)).flatMap entO));rw [<-T2,<-T2];exact List.perm_middle.symm
def z4v (K:j0):Sp:=λ vs H Q _=>∃(A:La) (a:Addr) (n:Nat) (bk:Bool) (B:Hp) (es:List (Option OE)) (N:LM) (pl:List (List (Option Int))) (t:Nat),vs=[.ref A.st,.ref a,.int n,.bl bk]/\Lw K B H A es N/\PlR B a pl/\pl.length<=6/\(∀own∈pl,own.length<=24)/\LOk pl N t/\t<=1000/\n < (N.free pl).length + 2 * N.under.length/\Same B H/\
 ∀es' H',Same B H'->Lw K B H' A es' (N.moved pl bk n)->Q .non H'
theorem z8v (T:TX (kx w) mg) (c5:Ca P w mg base "_law_free" ["state","plan"] 1 (z27 (kx w))) (c6:Ca P w mg base "_law_sent" ["state","hand","stamp","worth"] 1 (z38 (kx w))) (c7:Ca P w mg base "_law_come" ["state","letter","back"] 3 (z6d (kx w))):Fo P w mg base CX0 4 455 y0v ["state","plan","number","back"] (z4v (kx w)):=by
 refine (z3e w.params).ok sc__law_moved (λ vs H Q E h=>?_) (λ e6 A e7 s H vs Q E C h=>?_)
 ·obtain ⟨A,a,n,bk,B,I,N,f,t,rfl,_⟩:=h;rfl
 ·obtain ⟨g,a,n,bk,B,I,N,f,t,rfl,lw,pr,l6,e5,ok,e3,hn,sB,q⟩:=h;refine ⟨_,(z02 (ps_set (i:=4) sc__law_moved.nd rfl (Z1 rfl) (pe_cal c5 (C.mono (by decide)) rfl (z01 (pv 0) (z01 (pv 1) pa_nil))))
   (z02 (ps_if (z0b op_lt (pv 2) (z08 z0r rfl (T.no (n_len _)) X2 (z01 (pv 4) pa_nil)) (nomark _))
   (z02 (ps_set (i:=5) sc__law_moved.nd rfl (Z1 rfl) (pe_ix ix_seq (pv 4) (pv 2) (λ _ _=>rfl)))
   (z02 (ps_asg (pe_ix ix_seq (pe_ix ix_seq (pv 1) (pv 5) (λ _ _=>rfl)) (pe_ix ix_seq (z0c (hu_of C) (pv 0) pe_str (λ _ _=>rfl)) (pv 5) (λ _ _=>rfl)) (λ _ _=>rfl)) (pg_tup rfl (z12 (z0s (i:=6) sc__law_moved.nd rfl (Z1 rfl)) (z12 (z0s (i:=7) sc__law_moved.nd rfl (Z1 rfl)) z8x))))
   (z02 (ps_asg (pe_op opAdd (pe_ix ix_seq (z0c (hu_of C) (pv 0) pe_str (λ _ _=>rfl)) (pv 5) (λ _ _=>rfl)) pe_int) (pg_sub (z0c (hu_of C) (pv 0) pe_str (λ _ _=>rfl)) (pv 5) z3i))
   (z02 (ps_asg (zi0 (z4i pe_str (pv 6) (z4i pe_str (pv 7) zhw)) rfl rfl (by simp) (by decide)) (pg_sub (z0c (hu_of C) (pv 0) pe_str (λ _ _=>rfl)) (pv 5) z3i))
   (z02 (z0d (z0v (z0c (hu_of C) (pv 0) pe_str (λ _ _=>rfl)) (z01 (pe_tup (z01 pe_str (z01 (pv 5) (z01 pe_str (z01 (pv 6) (z01 (pv 7) pa_nil)))))) pa_nil)))
   (z02 (z0d (pe_cal c6 (C.mono (by decide)) rfl (z01 (pv 0) (z01 (pv 5) (z01 pe_non (z01 pe_non pa_nil))))))
   (z05 z74)))))))
   z0j)
   (z02 (ps_set (i:=8) sc__law_moved.nd rfl (Z1 rfl) (pe_op op_mod (pe_op op_sub (pv 2) (z08 z0r rfl (T.no (n_len _)) X2 (z01 (pv 4) pa_nil))) (z08 z0r rfl (T.no (n_len _)) X2 (z01 (z0c (hu_of C) (pv 0) pe_str (λ _ _=>rfl)) pa_nil))))
   (z02 (ps_set (i:=9) sc__law_moved.nd rfl (Z1 rfl) (zf6 (z0c (hu_of C) (pv 0) pe_str (λ _ _=>rfl)) (z01 (pv 8) pa_nil)))
   (z05 (ps_if (z0b op_le (pe_op op_sub (pv 2) (z08 z0r rfl (T.no (n_len _)) X2 (z01 (pv 4) pa_nil))) (z08 z0r rfl (T.no (n_len _)) X2 (z01 (z0c (hu_of C) (pv 0) pe_str (λ _ _=>rfl)) pa_nil)) (nomark _))
   (z05 (z0d (pe_cal c7 (C.mono (by decide)) rfl (z01 (pv 0) (z01 (pv 9) (z01 (pv 3) pa_nil))))))
   z0j)))))),?_⟩
  have ol:=ok.ol;have nl:=ok.nl;have ul:=ok.ul;have vl:=ok.vl;refine z0e ⟨_,rfl,_,rfl,g,a,B,I,N,f,rfl,lw,pr.same sB,l6,ol,nl,λ Z R s1 d9 a2=>?_⟩;refine g_name ?_;have a5:=lw.same s1;have b2:=sB.trans s1;have a1:(natV (N.free f)).length=(N.free f).length:=B0 ..;obtain ⟨X,hv,l,J,x,j,Y,U,M⟩:=id a5.ct;have u:R g.st=some (.dK X):=j.at (a:=[]);have S:R g.un=some (.lst l):=j.at (a:=[_,_]);have b1:l.length=N.under.length:=z03 U;refine sq_if ⟨_,rfl,_,rfl,.inl ⟨Z,_,rfl,.inl (SqL.of a2),_,_,rfl,rfl,_,rfl,?_⟩⟩;by_cases hlt:n < (N.free f).length
  ·refine iteP (decide_eq_true (by rw [a1];omega)) ?_;have hf:(N.free f)[n]? = some (N.free f)[n]:=v0 hlt;have hm:(N.free f)[n]∈N.free f:=J3 hlt;generalize (N.free f)[n]=h at hf hm;obtain ⟨m1,G⟩:=List.mem_filter.mp (show h∈(O0 f.length).filter (N.fre f) from hm);have hh:h < f.length:=List.mem_range.mp m1;have G:((N.opn[h]?.getD none).isNone && decide (N.nxt[h]?.getD 0 < (f[h]?.getD []).length))=true:=G;have a4:h < N.opn.length:=by omega
   have b9:h < N.nxt.length:=by omega
   have hN:N.nxt[h]? = some N.nxt[h]:=v0 b9;have hP:f[h]? = some f[h]:=v0 hh;have ho:N.opn[h]? = some none:=by
    have hO:N.opn[h]? = some N.opn[h]:=v0 a4;rw [hO] at G⊢;cases e:N.opn[h] with
    | none=>rfl
    | some D=>rw [e] at G;cases G
   rw [A5,decide_eq_true_iff,hN,hP] at G;have hx:N.nxt[h] < (f[h]).length:=G.2;obtain ⟨os,e2,d4⟩:=pr.same b2;obtain ⟨yv,d5,b,ys,rfl,eb,ad⟩:=z0o d4 hP;have d1:(f[h])[N.nxt[h]]? = some (f[h])[N.nxt[h]]:=v0 hx;obtain ⟨dv,d6,dp,rfl,b7⟩:=z0o ad d1;have a6:N.moved f bk n=N.begin h ((f[h])[N.nxt[h]]):=by unfold LM.moved;rw [if_pos hlt,hf];show (match (f[h]?.getD [])[N.nxt[h]?.getD 0]? with|some d=>N.begin h d|none=>N)=_;rw [hN,hP];show (match (f[h])[N.nxt[h]]? with|some d=>N.begin h d|none=>N)=_;rw [d1]
   generalize (f[h])[N.nxt[h]]=d at b7 a6;rw [a6] at q;have e0:N.nxt[h]?.getD 0=N.nxt[h]:=by rw [hN];rfl
   obtain ⟨oe,e1,oo⟩:=z0o a5.oe ho;cases oe with
   | some y=>exact oo.elim
   | none=>
   have a7:R g.nx=some (.lst (natV N.nxt)):=j.at (a:=[_,_,_]);have d2:(natV N.nxt)[h]? = some (.int (N.nxt[h]:Nat)):=by unfold natV;rw [K0,hN];rfl
   refine z0e ⟨_,rfl,_,rfl,.inl ⟨Z,_,n,.int (h:Nat),rfl,rfl,SqL.of a2,z06 (by unfold natV;rw [K0,hf];rfl),g_name ?_⟩⟩;refine z0e ⟨_,rfl,_,rfl,.inl ⟨a,os,h,.ref b,rfl,rfl,SqL.of e2,z06 d5,_,rfl,g.st,_,rfl,x.gnx u,_,rfl,.inl ⟨g.nx,_,h,_,rfl,rfl,SqL.of a7,z06 d2,.inl ⟨b,ys,N.nxt[h],.ref dp,rfl,rfl,SqL.of eb,z06 d6,dp,_,rfl,SqT.of b7,rfl,_,_,rfl,_,_,rfl,rfl,?_⟩⟩⟩⟩;refine z0e ⟨_,rfl,g.st,_,rfl,x.gnx u,_,rfl,.inl ⟨g.nx,_,h,_,rfl,rfl,SqL.of a7,z06 d2,.inl ⟨_,1,rfl,rfl,_,rfl,g.st,_,rfl,x.gnx u,_,rfl,g.nx,_,h,h,rfl,rfl,a7,z69 (by rw [show (natV N.nxt).length=N.nxt.length from B0 ..];exact b9),?_⟩⟩⟩;rw [show ((N.nxt[h]:Int) + 1)=((N.nxt[h] + 1:Nat):Int) by omega];have F:=a5.setN (us:=N.nxt.set h (N.nxt[h] + 1)) (uv':=(natV N.nxt).set h (.int ((N.nxt[h] + 1:Nat):Int))) (by unfold natV;rw [U5]);have O:=Same.keep (o:=.lst ((natV N.nxt).set h (.int ((N.nxt[h] + 1:Nat):Int)))) b2 (j.frA (a:=[_,_,_]));generalize upd R g.nx (.lst ((natV N.nxt).set h (.int ((N.nxt[h] + 1:Nat):Int))))=H2 at F O⊢;clear x j Y U M u a7 S b1 l;obtain ⟨X,hv,l,J,x,j,Y,U,M⟩:=id F.ct;have u:H2 g.st=some (.dK X):=j.at (a:=[]);have a3:H2 g.op=some (.lst (I.map oeV)):=j.at (a:=[_,_,_,_,_]);refine z0e ?_;intro K a0;refine pairsC ⟨_,rfl,pairsC ⟨_,rfl,z04,[(.inr "verb",.str (vbD d)),(.inr "worth",wvD d)],rfl,(show (2:Nat)<=15 by decide),?_⟩⟩;rw [show mergeK ([]:List (Key×V)) [(.inr "verb",.str (vbD d)),(.inr "worth",wvD d)]=putK (putK [] (.inr "verb") (.str (vbD d))) (.inr "worth") (wvD d) from rfl];have n1:g.st≠K:=λ z=>by rw [z,a0] at u;cases u
   have n2:g.op≠K:=λ z=>by rw [z,a0] at a3;cases a3
   refine ⟨_,rfl,g.st,_,rfl,x.gop (up1 n1 (up1 n1 u)),_,rfl,g.op,_,h,h,rfl,rfl,up1 n2 (up1 n2 a3),z69 (by rw [B0,show I.length=N.opn.length from z03 F.oe];exact a4),?_⟩;have k0:KS kD (putK (putK [] (.inr "verb") (.str (vbD d))) (.inr "worth") (wvD d)):=(KS.nil.put (by simp [kD])).put (by simp [kD]);have k1:valV (κ:=Key) (putK (putK [] (.inr "verb") (.str (vbD d))) (.inr "worth") (wvD d)) (.inr "verb")=some (.str (vbD d)):=(vp_ne (by decide +kernel)).trans vp_eq;have k2:valV (κ:=Key) (putK (putK [] (.inr "verb") (.str (vbD d))) (.inr "worth") (wvD d)) (.inr "worth")=some (wvD d):=vp_eq;have a8:=F.newO (D:=⟨d,0,false,[],none⟩) (kv:=putK (putK [] (.inr "verb") (.str (vbD d))) (.inr "worth") (wvD d)) e1 a0 O λ W=>⟨k0,k1,k2,(λ z=>by cases z),λ z=>absurd rfl z⟩
   have c9:Same B (upd (upd (upd H2 K (.dK [])) K (.dK (putK (putK [] (.inr "verb") (.str (vbD d))) (.inr "worth") (wvD d)))) g.op (.lst ((I.map oeV).set h (.ref K)))):=Same.keep (Same.keep (O.trans (Same.upd a0)) (O.free a0)) (j.frA (a:=[_,_,_,_,_]));generalize upd (upd (upd H2 K (.dK [])) K (.dK (putK (putK [] (.inr "verb") (.str (vbD d))) (.inr "worth") (wvD d)))) g.op (.lst ((I.map oeV).set h (.ref K)))=H3 at a8 c9⊢;clear x j Y U M u a3;obtain ⟨X,hv,l,J,x,j,Y,U,M⟩:=id a8.ct;have u:H3 g.st=some (.dK X):=j.at (a:=[]);have d0:H3 g.ev=some (.lst J):=j.at (a:=[_,_,_,_]);refine ⟨_,rfl,g.st,_,rfl,x.gev u,.inl ⟨rfl,_,SqL.of d0⟩,?_⟩;refine ⟨_,rfl,_,rfl,_,rfl,w_5,λ p hp=>?_⟩;obtain ⟨H4,v_,t4,e4⟩:=newA (.tup [.str "begin",.int (h:Nat),.str "r",.str (vbD d),wvD d]) hp;rw [<-v_];have lv:J.length<=1000:=by rw [z03 M];show N.events.length<=_;omega
   refine ⟨g.ev,J,_,rfl,rfl,t4 _ _ d0,Y0 lv (by decide),t_nx ?_⟩;have c8:=(a8.same t4).setV (us:=N.events++[.beg h d]) (uv':=J++[.ref p]) λ W m=>z3a (z00 (λ _ _ z=>EvV.imm ((Imm.of t4).trans m) z) M) (.cons (show EvV W (.beg h d) (.ref p) from ⟨p,rfl,m.t _ _ e4⟩) .nil);have b8:=Same.keep (o:=.lst (J++[.ref p])) (c9.trans t4) (j.frA (a:=[_,_,_,_]));generalize upd H4 g.ev (.lst (J++[.ref p]))=H5 at c8 b8⊢;refine ⟨_,rfl,_,rfl,g,h,.non,.non,B,_,_,_,_,none,rfl,c8,Q0 a4,Q0 (by rw [show I.length=N.opn.length from z03 F.oe];exact a4),⟨rfl,rfl⟩,(λ z=>by cases z),by show N.under.length<=_;omega,ok.h5,b8,λ a9 W s' b0=>q a9 W s' ?_⟩;unfold LM.begin;rw [e0];exact b0
  ·refine iteN (λ z=>hlt (by have:=of_decide_eq_true z;rw [a1] at this;omega)) (t_nx ?_);have u0:0 < N.under.length:=by omega
   have ek:((n:Int) - ((natV (N.free f)).length:Nat)) % ((l.length:Nat):Int)=(((n - (N.free f).length) % N.under.length:Nat):Int):=by rw [a1,b1,show (n:Int) - ((N.free f).length:Nat)=((n - (N.free f).length:Nat):Int) by omega];exact (Int.natCast_emod _ _).symm
   have kl:(n - (N.free f).length) % N.under.length < N.under.length:=j0c _ u0;have hL:N.under[(n - (N.free f).length) % N.under.length]? = some N.under[(n - (N.free f).length) % N.under.length]:=v0 kl;have a6:N.moved f bk n=if n < (N.free f).length + N.under.length then LM.come { N with under:=N.under.eraseIdx ((n - (N.free f).length) % N.under.length) } bk N.under[(n - (N.free f).length) % N.under.length] else { N with under:=N.under.eraseIdx ((n - (N.free f).length) % N.under.length) }:=by unfold LM.moved;rw [if_neg hlt,hL]
   rw [a6] at q;refine z0e ⟨_,rfl,_,rfl,.inl ⟨Z,_,rfl,.inl (SqL.of a2),_,_,rfl,rfl,_,rfl,g.st,_,rfl,x.gun u,.inl ⟨g.un,l,rfl,.inl (SqL.of S),_,_,rfl,rfl,(by show (0:Int) < (l.length:Int);omega),?_⟩⟩⟩;show gName 8 (V.int (((n:Int) - ((natV (N.free f)).length:Nat)) % ((l.length:Nat):Int))) _ _ _;rw [ek];generalize hkk:(n - (N.free f).length) % N.under.length=k at kl hL q⊢;generalize N.under[k]=L at hL q;have b4:=ok.un L (O1 hL);refine g_name ?_;obtain ⟨v,d8,aL⟩:=z0o U hL;refine z0e ⟨_,rfl,g.st,_,rfl,x.gun u,.inl ⟨rfl,l,SqL.of S⟩,_,rfl,g.un,l,_,k,v,rfl,rfl,S,by omega,by omega,z7v (by rw [b1];exact kl),d8,?_⟩;have G:Imm R (upd R g.un (.lst (l.eraseIdx k))):=Imm.lst S;have F:=a5.setU (us:=N.under.eraseIdx k) (uv':=l.eraseIdx k) λ W m=>z5u k (z00 (λ _ _ z=>LLAt.imm m z) U);have O:=Same.keep (o:=.lst (l.eraseIdx k)) b2 (j.frA (a:=[_,_]));have d7:Z≠g.un:=λ z=>by obtain ⟨_,_,_,_,_,c,_⟩:=lw.ct;have:=c.at (a:=[_,_]);rw [<-z,d9] at this;cases this
   have b5:upd R g.un (.lst (l.eraseIdx k)) Z=some (.lst (natV (N.free f))):=up1 d7 a2;generalize upd R g.un (.lst (l.eraseIdx k))=H2 at F O b5 G⊢;refine g_name ?_;clear x j Y M u S;obtain ⟨X,hv,b3,J,x,j,Y,d3,M⟩:=id F.ct;have u:H2 g.st=some (.dK X):=j.at (a:=[]);have S:H2 g.un=some (.lst b3):=j.at (a:=[_,_]);have b6:b3.length=N.under.length - 1:=by rw [z03 d3];show (N.under.eraseIdx k).length=_;rw [j54,if_pos kl]
   refine ⟨_,rfl,_,rfl,.inl ⟨Z,_,rfl,.inl (SqL.of b5),_,_,rfl,rfl,_,rfl,g.st,_,rfl,x.gun u,.inl ⟨g.un,b3,rfl,.inl (SqL.of S),_,_,rfl,rfl,_,rfl,?_⟩⟩⟩;by_cases hb:n < (N.free f).length + N.under.length
   ·rw [if_pos hb] at q;refine iteP (decide_eq_true (by rw [a1,b6];omega)) ?_;refine ⟨_,rfl,_,rfl,_,rfl,g,v,bk,B,I,_,L,rfl,F,aL.imm G,b4.1,by show L.hand < N.opn.length;rw [ol];exact b4.2.1,b4.2.2,λ D hD=>ok.op _ D hD,by show (N.under.eraseIdx k).length<=9000;have:=L8 N.under k;omega,ok.h5,by show N.events.length<=_;omega,O,λ a9 W s' b0=>q a9 W s' b0⟩
   ·rw [if_neg hb] at q;exact iteN (λ z=>hb (by have:=of_decide_eq_true z;rw [a1,b6] at this;omega)) (q I _ O F)
end
section
noncomputable def opR (N:LM) (h:Nat):Option Nat:=match N.opn[h]? with
 | some (some D)=>some D.round
 | _=>none
noncomputable def isPl (h c t:Nat) (to:Bool) (L:LL):Bool:=L.hand == h && L.copy == c && L.to == to && L.turn == t
noncomputable def LM.place (N:LM) (pl:List (List (Option Int))) (h:Nat) (to:Bool) (c:Nat):Option Nat:=(opR N h).bind λ t=>(N.under.findIdx? (isPl h c t to)).map ((N.free pl).length + ·)
noncomputable def madeP (pl:List (List (Option Int))) (bk:Bool) (S:LM×List Nat) (c:Nat):LM×List Nat:=(S.1.moved pl bk c,S.2++[c])
noncomputable def stepP (pl:List (List (Option Int))) (bk:Bool) (h turn:Nat) (S:Option (LM×List Nat)) (x:Nat×Bool):Option (LM×List Nat):=S.bind λ S=>if opR S.1 h=some turn then (S.1.place pl h x.2 x.1).map (madeP pl bk S) else some S
noncomputable def roundP (pl:List (List (Option Int))) (bk:Bool) (h:Nat) (copies:List Nat) (S:LM×List Nat):Option (LM×List Nat):=(opR S.1 h).bind λ turn=>(copies.flatMap λ c=>[(c,true),(c,false)]).foldl (stepP pl bk h turn) (some S)
noncomputable def dealP (pl:List (List (Option Int))) (bk:Bool) (h:Nat) (rounds:List (List Nat)) (S:LM×List Nat):Option (LM×List Nat):=((S.1.free pl).findIdx? (· == h)).bind λ i=>rounds.foldl (λ S cs=>S.bind λ S=>if (opR S.1 h).isSome then roundP pl bk h cs S else some S) (some (madeP pl bk S i))
noncomputable def orderP (m turn:Nat):List Nat:=(O0 m).map λ k=>(turn + k) % m
noncomputable def toldP (m:Nat) (pl:List (List (Option Int))) (turn elder r0 r1:Nat) (bk:Bool):Option (LM×List Nat):=
 ((((((O0 elder).foldl (λ S _=>S.bind (dealP pl bk 0 [orderP m turn,orderP m turn])) (some (LM.init m pl,[]))).bind
  (dealP pl bk 0 [orderP m turn])).bind λ S=>(S.1.place pl 0 true turn).map (madeP pl bk S)).bind
  (dealP pl bk r0 [(orderP m turn).take (m / 2 + 1),(orderP m turn).take (m / 2 + 1)])).bind
  (dealP pl bk r1 [((orderP m turn).drop 1).take (m / 2 + 1),((orderP m turn).drop 1).take (m / 2 + 1)]))
noncomputable def plnP (ws:List Int) (r:Nat):List (List (Option Int)):=if r=0 then [ws.map some,[none,none],[]] else [ws.map some,[none],[none]]
noncomputable def endsP:CEv->Option (Option Int)
 | .fin h a=>if h=0 then none else some a
 | _=>none
noncomputable def idxW (e:Nat):List Int:=(O0 (e + 1)).map λ (k:Nat)=>(k:Int) + 1
noncomputable def okP (b m5 t e r:Nat):Bool:=match toldP (3 + 2 * m5) (plnP (idxW e) r) (t % (3 + 2 * m5)) e 1 (1 + r) (b == 1) with
 | some S=>decide (S.1.events.filterMap endsP=[some ((e:Int) + 1),some (if b=1 then (e:Int) + 1 else e)]) && decide (S.2.length<=360)
 | none=>false
end
section
noncomputable def mapH (f:Int->Int) (x:Hd):Hd:=(x.1,f x.2)
noncomputable def mapE (f:Int->Int):CEv->CEv
 | .beg h d=>.beg h (d.map f)
 | .fin h a=>.fin h (a.map f)
noncomputable def LL.mp (f:Int->Int) (L:LL):LL:={ L with x:=L.x.map (mapH f) }
noncomputable def LD.mp (f:Int->Int) (D:LD):LD:={ D with d:=D.d.map f,heard:=D.heard.map (mapH f),ans:=D.ans.map f }
noncomputable def LM.mp (f:Int->Int) (N:LM):LM:=⟨N.held.map (mapH f),N.under.map (LL.mp f),N.nxt,N.opn.map (F3 (LD.mp f)),N.rounds,N.events.map (mapE f)⟩
noncomputable def plM (f:Int->Int) (pl:List (List (Option Int))):List (List (Option Int)):=pl.map (·.map (F3 f))
def Mono (f:Int->Int):Prop:=f 0=0/\∀a b,a < b↔f a < f b
variable {f:Int->Int} {pl:List (List (Option Int))} {N:LM} {bk:Bool}
theorem zho (h:Nat):((plM f pl)[h]?.getD [])=(pl[h]?.getD []).map (F3 f):=by unfold plM;rw [K0];cases pl[h]?<;>rfl
theorem zkd (h:Nat):((N.mp f).opn[h]?.getD none)=(N.opn[h]?.getD none).map (LD.mp f):=by show ((N.opn.map (F3 (LD.mp f)))[h]?.getD none)=_;rw [K0];cases N.opn[h]?<;>rfl
theorem zel:(N.mp f).free (plM f pl)=N.free pl:=by
 unfold LM.free;have:(N.mp f).fre (plM f pl)=N.fre pl:=by funext h;unfold LM.fre;rw [zkd,zho,B0];rw [Option.isNone_map];rfl
 rw [this];show (O0 (plM f pl).length).filter _=_;unfold plM;rw [B0]
theorem mp_opR (h:Nat):opR (N.mp f) h=opR N h:=by
 unfold opR;show (match (N.opn.map (F3 (LD.mp f)))[h]? with|some (some D)=>some D.round|_=>none)=_;rw [K0];cases N.opn[h]? with
 | none=>rfl
 | some o=>cases o<;>rfl
theorem zdj {h c:Nat} {to:Bool}:(N.mp f).place (plM f pl) h to c=N.place pl h to c:=by unfold LM.place;rw [mp_opR,zel];congr 1;funext t;show ((N.under.map (LL.mp f)).findIdx? (isPl h c t to)).map _=_;rw [List.findIdx?_map];rfl
theorem zea {h:Nat} {D:LD} {x:Option Hd}:(N.mp f).sent h (D.mp f) (x.map (mapH f))=(N.sent h D x).mp f:=by
 unfold LM.sent LM.mp;congr 1
 ·show N.under.map (LL.mp f)++(O0 (N.held.map (mapH f)).length).map _=(N.under++(O0 N.held.length).map _).map (LL.mp f);rw [P1,B0,V2];rfl
 ·show (N.opn.map (F3 (LD.mp f))).set h _=(N.opn.set h _).map (F3 (LD.mp f));rw [U5];congr 2;unfold LD.mp;simp only [p8,w5]
theorem zf3 {h:Nat} {a:Option Int}:(N.mp f).ended h (a.map f)=(N.ended h a).mp f:=by
 unfold LM.ended LM.mp;congr 1
 ·show (N.opn.map (F3 (LD.mp f))).set h _=(N.opn.set h _).map (F3 (LD.mp f));rw [U5];rfl
 ·show N.events.map (mapE f)++_=(N.events++_).map (mapE f);rw [P1];rfl
theorem mp_gt (mo:Mono f) (x y:Hd):gtN (mapH f x) (mapH f y)=gtN x y:=by have h:=mo.2 y.2 x.2;unfold gtN mapH;simp only [decide_eq_decide.mpr h.symm]
theorem mp_max (mo:Mono f) (l:List Hd):maxHd (l.map (mapH f))=mapH f (maxHd l):=by
 cases l with
 | nil=>unfold maxHd mapH;rw [w5];exact congrArg _ mo.1.symm
 | cons x r=>
  have a :∀(r:List Hd) (m:Hd),(r.map (mapH f)).foldl (λ m y=>if gtN y m=true then y else m) (mapH f m)=mapH f (r.foldl (λ m y=>if gtN y m=true then y else m) m):=by
   intro r;induction r with
   | nil=>exact λ m=>rfl
   | cons y r ih=>intro m;rw [L1,W2,W2,mp_gt mo,<-ih];congr 1;split<;>rfl
  exact a r x
theorem zkt {k:Option Hd} {s:Hd}:keepH (k.map (mapH f)) (mapH f s)=mapH f (keepH k s):=by
 cases k with
 | none=>rfl
 | some k=>show (if gtI k.1 s.1=true then mapH f k else mapH f s)=mapH f (if gtI k.1 s.1=true then k else s);split<;>rfl
theorem zle (mo:Mono f) {h:Nat} {D:LD}:(N.mp f).goneOn bk h (D.mp f)=(N.goneOn bk h D).mp f:=by
 obtain ⟨e,c,g,b,i⟩:=D;unfold LM.goneOn;have d:=mp_max mo b;cases g with
 | true=>exact zf3
 | false=>
  cases e with
  | some w=>show (N.mp f).sent h ⟨some (f w),c,false,b.map (mapH f),none⟩ (some (((maxHd (b.map (mapH f))).1.1 + 1,(h:Int)),f w))=_;rw [d];exact zea (D:=⟨some w,c,false,b,none⟩) (x:=some (((maxHd b).1.1 + 1,(h:Int)),w))
  | none=>
   cases bk with
   | true=>show (N.mp f).sent h ⟨none,c,false,b.map (mapH f),some (maxHd (b.map (mapH f))).2⟩ (some (maxHd (b.map (mapH f))))=_;rw [d];exact zea (D:=⟨none,c,false,b,some (maxHd b).2⟩) (x:=some (maxHd b))
   | false=>show (N.mp f).ended h (some (maxHd (b.map (mapH f))).2)=_;rw [d];exact zf3 (a:=some (maxHd b).2)
theorem mp_set {h:Nat} {o:Option LD}:({ N.mp f with opn:=(N.mp f).opn.set h (o.map (LD.mp f)) }:LM)=LM.mp f { N with opn:=N.opn.set h o }:=by show LM.mk (N.held.map (mapH f)) (N.under.map (LL.mp f)) N.nxt ((N.opn.map (F3 (LD.mp f))).set h (o.map (LD.mp f))) N.rounds (N.events.map (mapE f))=LM.mk (N.held.map (mapH f)) (N.under.map (LL.mp f)) N.nxt ((N.opn.set h o).map (F3 (LD.mp f))) N.rounds (N.events.map (mapE f));rw [U5]
theorem zkv (mo:Mono f) {L:LL}:(N.mp f).come bk (L.mp f)=(N.come bk L).mp f:=by
 unfold LM.come;by_cases z:L.to=true
 ·rw [if_pos (show (L.mp f).to=true from z),if_pos z];show (match (N.held.map (mapH f))[L.copy]? with|some s=>_|none=>_)=_;rw [K0];cases N.held[L.copy]? with
  | none=>rfl
  | some s=>show LM.mk ((N.held.map (mapH f)).set L.copy (keepH (L.x.map (mapH f)) (mapH f s))) (N.under.map (LL.mp f)++[⟨L.copy,L.hand,L.turn,false,some (keepH (L.x.map (mapH f)) (mapH f s))⟩]) N.nxt (N.opn.map (F3 (LD.mp f))) N.rounds (N.events.map (mapE f))=LM.mp f { N with held:=N.held.set L.copy (keepH L.x s),under:=N.under++[⟨L.copy,L.hand,L.turn,false,some (keepH L.x s)⟩] };rw [zkt];unfold LM.mp;rw [U5,P1];rfl
 ·rw [if_neg (show ¬ (L.mp f).to=true from z),if_neg z];show (match (N.opn.map (F3 (LD.mp f)))[L.hand]?,L.x.map (mapH f) with|some (some D),some x=>(N.mp f).hear bk (L.mp f) D x|_,_=>N.mp f)=_;rw [K0];cases N.opn[L.hand]? with
  | none=>rfl
  | some o=>
   cases o with
   | none=>rfl
   | some D=>
    cases L.x with
    | none=>rfl
    | some x=>
     show (N.mp f).hear bk (L.mp f) (D.mp f) (mapH f x)=(N.hear bk L D x).mp f;have b:(D.mp f).hear (mapH f x)=(D.hear x).mp f:=by unfold LD.hear LD.mp;rw [P1];rfl
     unfold LM.hear;rw [b];show (if D.round=L.turn then (if (N.held.map (mapH f)).length < 2 * ((D.hear x).heard.map (mapH f)).length then _ else _) else _)=_;rw [B0,B0];have a:=mp_set (f:=f) (N:=N) (h:=L.hand) (o:=some (D.hear x));split
     ·split
      ·exact (congrArg (λ M:LM=>M.goneOn bk L.hand ((D.hear x).mp f)) a).trans (zle mo)
      ·exact a
     ·rfl
theorem ziu {h:Nat} {d:Option Int}:(N.mp f).begin h (d.map f)=(N.begin h d).mp f:=by
 have a:(N.mp f).begin h (d.map f)=LM.sent (LM.mp f { N with nxt:=N.nxt.set h (N.nxt[h]?.getD 0 + 1),opn:=N.opn.set h (some ⟨d,0,false,[],none⟩),events:=N.events++[.beg h d] }) h (LD.mp f ⟨d,0,false,[],none⟩) (F3 (mapH f) none):=by unfold LM.begin;congr 1;show LM.mk (N.held.map (mapH f)) (N.under.map (LL.mp f)) (N.nxt.set h (N.nxt[h]?.getD 0 + 1)) ((N.opn.map (F3 (LD.mp f))).set h (some ⟨d.map f,0,false,[],none⟩)) N.rounds (N.events.map (mapE f)++[.beg h (d.map f)])=LM.mk (N.held.map (mapH f)) (N.under.map (LL.mp f)) (N.nxt.set h (N.nxt[h]?.getD 0 + 1)) ((N.opn.set h (some ⟨d,0,false,[],none⟩)).map (F3 (LD.mp f))) N.rounds ((N.events++[CEv.beg h d]).map (mapE f));rw [U5,P1];rfl
 rw [a,zea];rfl
theorem zbb {α β:Type} (g:α->β) :∀(l:List α) (i:Nat),(l.map g).eraseIdx i=(l.eraseIdx i).map g
 | [],_=>rfl
 | _ :: _,0=>rfl
 | x :: l,i + 1=>by rw [L1,j3b,j3b,L1,zbb g l i]
theorem zj6 {i:Nat}:({ N.mp f with under:=(N.mp f).under.eraseIdx i }:LM)=LM.mp f { N with under:=N.under.eraseIdx i }:=by show LM.mk (N.held.map (mapH f)) ((N.under.map (LL.mp f)).eraseIdx i) N.nxt (N.opn.map (F3 (LD.mp f))) N.rounds (N.events.map (mapE f))=LM.mk (N.held.map (mapH f)) ((N.under.eraseIdx i).map (LL.mp f)) N.nxt (N.opn.map (F3 (LD.mp f))) N.rounds (N.events.map (mapE f));rw [zbb]
theorem ziy (mo:Mono f) {n:Nat}:(N.mp f).moved (plM f pl) bk n=(N.moved pl bk n).mp f:=by
 unfold LM.moved;rw [zel];by_cases z:n < (N.free pl).length
 ·rw [if_pos z,if_pos z,zho];show (match ((pl[(N.free pl)[n]?.getD 0]?.getD []).map (F3 f))[N.nxt[(N.free pl)[n]?.getD 0]?.getD 0]? with|some d=>_|none=>_)=_;rw [K0];cases (pl[(N.free pl)[n]?.getD 0]?.getD [])[N.nxt[(N.free pl)[n]?.getD 0]?.getD 0]? with
  | none=>rfl
  | some d=>exact ziu
 ·rw [if_neg z,if_neg z];have a:(N.mp f).under.length=N.under.length:=B0 ..;rw [a,zj6];show (match (N.under.map (LL.mp f))[(n - (N.free pl).length) % N.under.length]? with|some L=>_|none=>_)=_;rw [K0];cases N.under[(n - (N.free pl).length) % N.under.length]? with
  | none=>rfl
  | some L=>
   show (if n < (N.free pl).length + N.under.length then _ else _)=LM.mp f (if n < (N.free pl).length + N.under.length then _ else _);split
   ·exact zkv mo
   ·rfl
noncomputable def mpS (f:Int->Int) (S:LM×List Nat):LM×List Nat:=(S.1.mp f,S.2)
theorem zeh (mo:Mono f) {S:LM×List Nat} {c:Nat}:madeP (plM f pl) bk (mpS f S) c=mpS f (madeP pl bk S c):=by unfold madeP mpS;rw [ziy mo]
theorem zkq (mo:Mono f) {h t:Nat} {S:Option (LM×List Nat)} {x:Nat×Bool}:stepP (plM f pl) bk h t (S.map (mpS f)) x=(stepP pl bk h t S x).map (mpS f):=by
 cases S with
 | none=>rfl
 | some S=>
  show (if opR (S.1.mp f) h=some t then ((S.1.mp f).place (plM f pl) h x.2 x.1).map (madeP (plM f pl) bk (mpS f S)) else some (mpS f S))=(if opR S.1 h=some t then (S.1.place pl h x.2 x.1).map (madeP pl bk S) else some S).map (mpS f);rw [mp_opR,zdj];split
  ·cases S.1.place pl h x.2 x.1 with
   | none=>rfl
   | some c=>exact congrArg some (zeh mo)
  ·rfl
theorem zbe {α:Type} {g g':Option (LM×List Nat)->α->Option (LM×List Nat)} (h :∀S x,g' (S.map (mpS f)) x=(g S x).map (mpS f)) :∀(l:List α) (S:Option (LM×List Nat)),l.foldl g' (S.map (mpS f))=(l.foldl g S).map (mpS f)
 | [],_=>rfl
 | x :: l,S=>by rw [W2,W2,h,zbe h l]
theorem zjj (mo:Mono f) {h:Nat} {cs:List Nat} {S:LM×List Nat}:roundP (plM f pl) bk h cs (mpS f S)=(roundP pl bk h cs S).map (mpS f):=by
 unfold roundP;show (opR (S.1.mp f) h).bind _=_;rw [mp_opR];cases opR S.1 h with
 | none=>rfl
 | some t=>exact zbe (λ S x=>zkq mo) _ (some S)
theorem zlo (mo:Mono f) {h:Nat} {rs:List (List Nat)} {S:LM×List Nat}:dealP (plM f pl) bk h rs (mpS f S)=(dealP pl bk h rs S).map (mpS f):=by
 unfold dealP;show (((S.1.mp f).free (plM f pl)).findIdx? (· == h)).bind _=_;rw [zel];cases (S.1.free pl).findIdx? (· == h) with
 | none=>rfl
 | some i=>
  show rs.foldl _ (some (madeP (plM f pl) bk (mpS f S) i))=_;rw [zeh mo];refine zbe (λ S a=>?_) rs (some _);cases S with
  | none=>rfl
  | some S=>
   show (if (opR (S.1.mp f) h).isSome=true then roundP (plM f pl) bk h a (mpS f S) else some (mpS f S))=F3 (mpS f) (if (opR S.1 h).isSome=true then roundP pl bk h a S else some S);rw [mp_opR];split
   ·exact zjj mo
   ·rfl
theorem zkb (mo:Mono f) {m:Nat}:(LM.init m pl).mp f=LM.init m (plM f pl):=by show LM.mk ((F1 m ((0,-1),0)).map (mapH f)) [] (pl.map λ _=>0) ((pl.map λ _=>none).map (F3 (LD.mp f))) 0 []=LM.mk (F1 m ((0,-1),0)) [] ((plM f pl).map λ _=>0) ((plM f pl).map λ _=>none) 0 [];unfold plM;rw [List.map_replicate,V2,V2,V2];congr 1;unfold mapH;rw [mo.1]
theorem zjz (mo:Mono f) {m turn elder r0 r1:Nat}:toldP m (plM f pl) turn elder r0 r1 bk=(toldP m pl turn elder r0 r1 bk).map (mpS f):=by
 unfold toldP;have d:(some (LM.init m (plM f pl),[]):Option (LM×List Nat))=(some (LM.init m pl,[])).map (mpS f):=by show _=some (mpS f _);unfold mpS;rw [zkb mo]
 have b :∀{S:Option (LM×List Nat)} {g g':LM×List Nat->Option (LM×List Nat)},(∀S,g' (mpS f S)=(g S).map (mpS f))->(S.map (mpS f)).bind g'=(S.bind g).map (mpS f):=λ {S g g'} h=>by
  cases S with
  | none=>rfl
  | some S=>exact h S
 have a :∀{h:Nat} {rs:List (List Nat)} {S:Option (LM×List Nat)},(S.map (mpS f)).bind (dealP (plM f pl) bk h rs)=(S.bind (dealP pl bk h rs)).map (mpS f):=b λ S=>zlo mo;rw [d,zbe (g:=λ S _=>S.bind (dealP pl bk 0 [orderP m turn,orderP m turn])) (g':=λ S _=>S.bind (dealP (plM f pl) bk 0 [orderP m turn,orderP m turn])) (λ S x=>a),a,b (g:=λ S=>(S.1.place pl 0 true turn).map (madeP pl bk S)) (g':=λ S=>(S.1.place (plM f pl) 0 true turn).map (madeP (plM f pl) bk S)) (λ S=>?_),a,a];show ((S.1.mp f).place (plM f pl) 0 true turn).map (madeP (plM f pl) bk (mpS f S))=_;rw [zdj];cases S.1.place pl 0 true turn with
 | none=>rfl
 | some c=>exact congrArg some (zeh mo)
end
section
noncomputable def okB (b m5 t:Nat):Bool:=(O0 5).all λ e=>(O0 2).all λ r=>okP b m5 t e r
theorem zl8:okB 0 0 0=true:=by decide +kernel
theorem zl9:okB 0 0 1=true:=by decide +kernel
theorem zks:okB 0 0 2=true:=by decide +kernel
theorem zke:okB 0 1 0=true:=by decide +kernel
theorem zku:okB 0 1 1=true:=by decide +kernel
theorem zk0:okB 0 1 2=true:=by decide +kernel
theorem zlj:okB 0 1 3=true:=by decide +kernel
theorem zkn:okB 0 1 4=true:=by decide +kernel
theorem zjw:okB 1 0 0=true:=by decide +kernel
theorem zkw:okB 1 0 1=true:=by decide +kernel
theorem zlr:okB 1 0 2=true:=by decide +kernel
theorem zlq:okB 1 1 0=true:=by decide +kernel
theorem zkx:okB 1 1 1=true:=by decide +kernel
theorem zkp:okB 1 1 2=true:=by decide +kernel
theorem zk5:okB 1 1 3=true:=by decide +kernel
theorem zl2:okB 1 1 4=true:=by decide +kernel
theorem okP_at {b m5 t e r:Nat} (hb:b < 2) (hm:m5 < 2) (ht:t < 3 + 2 * m5) (he:e < 5) (hr:r < 2):okP b m5 t e r=true:=by
 have h:okB b m5 t=true:=by
  match b,m5,t,hb,hm,ht with
  | 0,0,0,_,_,_=>exact zl8
  | 0,0,1,_,_,_=>exact zl9
  | 0,0,2,_,_,_=>exact zks
  | 0,1,0,_,_,_=>exact zke
  | 0,1,1,_,_,_=>exact zku
  | 0,1,2,_,_,_=>exact zk0
  | 0,1,3,_,_,_=>exact zlj
  | 0,1,4,_,_,_=>exact zkn
  | 1,0,0,_,_,_=>exact zjw
  | 1,0,1,_,_,_=>exact zkw
  | 1,0,2,_,_,_=>exact zlr
  | 1,1,0,_,_,_=>exact zlq
  | 1,1,1,_,_,_=>exact zkx
  | 1,1,2,_,_,_=>exact zkp
  | 1,1,3,_,_,_=>exact zk5
  | 1,1,4,_,_,_=>exact zl2
 unfold okB at h;rw [Q8] at h;have h:=h e (List.mem_range.mpr he);rw [Q8] at h;exact h r (List.mem_range.mpr hr)
noncomputable def wAt (a s:Int) (k:Int):Int:=if k<=0 then k else a + (k - 1) * s
theorem ziv {a s:Int} (ha:0 < a) (hs:0 < s):Mono (wAt a s):=by
 refine ⟨rfl,λ x y=>?_⟩;unfold wAt;have c :∀u v:Int,u < v->0 < v->(if u<=0 then u else a + (u - 1) * s) < (if v<=0 then v else a + (v - 1) * s):=λ u v h b=>by
  rw [if_neg (by omega:¬ v<=0)];have e:0<=(v - 1) * s:=Int.mul_nonneg (by omega) (by omega);split
  ·omega
  ·have d:(u - 1) * s < (v - 1) * s:=Int.mul_lt_mul_of_pos_right (by omega) hs;omega
 have all :∀u v:Int,u < v->(if u<=0 then u else a + (u - 1) * s) < (if v<=0 then v else a + (v - 1) * s):=λ u v h=>by
  by_cases b:0 < v
  ·exact c u v h b
  ·rw [if_pos (by omega),if_pos (by omega)];exact h
 refine ⟨all x y,λ h=>?_⟩;rcases Int.lt_trichotomy x y with z|z|z
 ·exact z
 ·rw [z] at h;exact absurd h (Int.lt_irrefl _)
 ·exact absurd (Int.lt_trans h (all y x z)) (Int.lt_irrefl _)
noncomputable def wsOf (a s:Int) (e:Nat):List Int:=(O0 (e + 1)).map λ (k:Nat)=>a + (k:Int) * s
theorem ziz (a s:Int) (e:Nat):(idxW e).map (wAt a s)=wsOf a s e:=by unfold idxW wsOf;rw [V2];refine V9 λ k _=>?_;show (if (k:Int) + 1<=0 then (k:Int) + 1 else a + ((k:Int) + 1 - 1) * s)=_;rw [if_neg (by omega),Int.add_sub_cancel]
theorem zlh (f:Int->Int) (ws:List Int) (r:Nat):plM f (plnP ws r)=plnP (ws.map f) r:=by
 unfold plM plnP;split
 ·simp only [L1,w5,V2,Option.map_none];rfl
 ·simp only [L1,w5,V2,Option.map_none];rfl
theorem zim (f:Int->Int) (es:List CEv):(es.map (mapE f)).filterMap endsP=(es.filterMap endsP).map (F3 f):=by
 induction es with
 | nil=>rfl
 | cons e es ih=>
  rw [L1,O5,O5];cases e with
  | beg h d=>exact ih
  | fin h a=>
   by_cases z:h=0
   ·have b:endsP (mapE f (.fin h a))=none:=if_pos z;have c:endsP (.fin h a)=none:=if_pos z;rw [b,c];exact ih
   ·have b:endsP (mapE f (.fin h a))=some (a.map f):=if_neg z;have c:endsP (.fin h a)=some a:=if_neg z;rw [b,c];show _ :: _=_ :: _;rw [ih]
theorem zi9 {a s:Int} (ha:0 < a) (hs:0 < s) {m5 t e r:Nat} (bk:Bool) (hm:m5 < 2) (ht:t < 3 + 2 * m5) (he:e < 5) (hr:r < 2) :∃S,toldP (3 + 2 * m5) (plnP (wsOf a s e) r) t e 1 (1 + r) bk=some S/\S.2.length<=360/\S.1.events.filterMap endsP=[some (wAt a s (e + 1)),some (if bk=true then wAt a s (e + 1) else wAt a s e)]:=by
 have h:=okP_at (b:=if bk=true then 1 else 0) (by cases bk<;>decide) hm ht he hr;unfold okP at h;have c:((if bk=true then 1 else 0) == 1)=bk:=by cases bk<;>rfl
 rw [c,Nat.mod_eq_of_lt ht] at h;rw [<-ziz,<-zlh,zjz (ziv ha hs)];generalize toldP (3 + 2 * m5) (plnP (idxW e) r) t e 1 (1 + r) bk=o at h;cases o with
 | none=>cases h
 | some S=>dsimp only at h;rw [V3,decide_eq_true_iff,decide_eq_true_iff] at h;refine ⟨mpS (wAt a s) S,rfl,h.2,?_⟩;show (S.1.events.map (mapE (wAt a s))).filterMap endsP=_;rw [zim,h.1];cases bk<;>rfl
end
section
variable {P:Program} {w:W0} {mg:Str->Option Value} {base:Heap}
theorem isPl_iff {h c t:Nat} {to:Bool} {L:LL}:isPl h c t to L=true↔(L.hand=h/\L.copy=c/\L.to=to/\L.turn=t):=by unfold isPl;simp only [V3,beq_iff_eq,and_assoc]
theorem zii {a b:Bool} (h:V.str (sideS a)=V.str (sideS b)):a=b:=by
 cases a<;>cases b
 ·rfl
 ·exact absurd h (by decide +kernel)
 ·exact absurd h (by decide +kernel)
 ·rfl
def z2s (K:j0):Sp:=λ vs H Q _=>∃(A:La) (a:Addr) (h:Nat) (to:Bool) (c:Nat) (B:Hp) (es:List (Option OE)) (N:LM) (pl:List (List (Option Int))) (t n:Nat),vs=[.ref A.st,.ref a,.int (h:Nat),.str (sideS to),.int (c:Nat)]/\Lw K B H A es N/\PlR B a pl/\pl.length<=6/\LOk pl N t/\t<=1000/\Same B H/\N.place pl h to c=some n/\∀H',Same H H'->Q (.int (n:Nat)) H'
theorem z8p (T:TX (kx w) mg) (c5:Ca P w mg base "_law_free" ["state","plan"] 1 (z27 (kx w))):Fo P w mg base CX0 2 462 y0w ["state","plan","hand","side","copy"] (z2s (kx w)):=by
 refine (z39 w.params).ok sc__law_place (λ vs H Q E h=>?_) (λ b0 A b2 s H vs Q E m h=>?_)
 ·obtain ⟨A,a,h,g,c,B,C,N,k,t,n,rfl,_⟩:=h;rfl
 ·obtain ⟨b,a,h,g,c,B,C,N,k,t,n,rfl,lw,pr,l6,ok,a7,sB,l,q⟩:=h;refine ⟨_,(z02 (ps_set (i:=5) sc__law_place.nd rfl (Z1 rfl) (z08 z0r rfl (T.no (n_len _)) X2 (z01 (pe_cal c5 (m.mono (by decide)) rfl (z01 (pv 0) (z01 (pv 1) pa_nil))) pa_nil)))
   (z02 (ps_for w4 rfl (z1c rfl (T.no (z36 _)) (z01 (z08 z0r rfl (T.no (n_len _)) X2 (z01 (z0c (hu_of m) (pv 0) pe_str (λ _ _=>rfl)) pa_nil)) pa_nil)) (z0s (i:=6) sc__law_place.nd rfl (Z1 rfl))
   (z02 (ps_set (i:=7) sc__law_place.nd rfl (Z1 rfl) (pe_ix ix_seq (z0c (hu_of m) (pv 0) pe_str (λ _ _=>rfl)) (pv 6) (λ _ _=>rfl)))
   (z05 (ps_if (PW.pt (pw_and (z0b opEq (pe_ix ix_seq (pv 7) pe_int (λ _ _=>rfl)) (pv 2) (nomark _)) (pw_and (z0b opEq (pe_ix ix_seq (pv 7) pe_int (λ _ _=>rfl)) (pv 4) (nomark _)) (pw_and (z0b opEq (pe_ix ix_seq (pv 7) pe_int (λ _ _=>rfl)) (pv 3) (nomark _)) (z4z (z0b opEq (pe_ix ix_seq (pv 7) pe_int (λ _ _=>rfl)) (z0c (hu_of m) (pe_ix ix_seq (z0c (hu_of m) (pv 0) pe_str (λ _ _=>rfl)) (pv 2) (λ _ _=>rfl)) pe_str (λ _ _=>rfl)) (nomark _)))))))
   (z05 (ps_ret (pe_op opAdd (pv 5) (pv 6))))
   z0j))))
   (z05 (ps_ret pe_non)))),?_⟩
  refine z0e ⟨_,rfl,_,rfl,b,a,B,C,N,k,rfl,lw,pr.same sB,l6,ok.ol,ok.nl,λ lf F s1 a8 a3=>?_⟩;refine .inl ⟨lf,_,rfl,.inl (SqL.of a3),g_name ?_⟩;have a5:(natV (N.free k)).length=(N.free k).length:=B0 ..;rw [a5];have J:=lw.same s1;obtain ⟨D,j,r,ej,hn⟩ :∃D j,N.opn[h]? = some (some D)/\N.under.findIdx? (isPl h c D.round g)=some j/\n=(N.free k).length + j:=by
   unfold LM.place opR at l;split at l
   ·rename_i D r;change (N.under.findIdx? (isPl h c D.round g)).map _=some n at l;obtain ⟨j,e1,e2⟩:=Option.map_eq_some_iff.mp l;exact ⟨D,j,r,e1,e2.symm⟩
   ·cases l
  obtain ⟨hj,X,nj⟩:=List.findIdx?_eq_some_iff_getElem.mp ej;obtain ⟨y,Y,oy⟩:=J.open_ r;obtain ⟨a6,hv,f,vv,G,K,c2,Z,c4⟩:=id J.ct;have W:F b.st=some (.dK a6):=K.at (a:=[]);have a2:F b.un=some (.lst f):=K.at (a:=[_,_]);have a4:F b.op=some (.lst (C.map oeV)):=K.at (a:=[_,_,_,_,_]);have a9:f.length=N.under.length:=z03 Z;have ul:=ok.ul;refine ⟨_,rfl,b.st,_,rfl,G.gun W,.inl ⟨b.un,f,rfl,.inl (SqL.of a2),_,rfl,by omega,by omega,?_⟩⟩;refine z44 (lo:=0) (n:=f.length) (λ i σ H'=>H'=F/\i<=j/\∃x6 x7,σ=[some (.ref b.st),some (.ref a),some (.int (h:Nat)),some (.str (sideS g)),some (.int (c:Nat)),some (.int ((N.free k).length:Nat)),x6,x7]) ⟨rfl,E2 _,_,_,rfl⟩ ?_ ?_;rotate_left
  ·rintro σ H4 ⟨_,z,_⟩;omega
  rintro i σ H4 hi ⟨rfl,hij,x6,x7,rfl⟩;refine g_name ?_;rw [g9];have hi:i < f.length:=by omega
  obtain ⟨v,a0⟩ :∃v,f[i]? = some v:=⟨_,v0 hi⟩
  obtain ⟨L,hL,p,a1,b1,rfl,u,_⟩:=z0f Z a0;have eL:N.under[i]'(by omega)=L:=(List.getElem?_eq_some_iff.mp hL).2;refine z0e ⟨_,rfl,b.st,_,rfl,G.gun W,_,rfl,.inl ⟨b.un,f,_,.ref p,rfl,rfl,SqL.of a2,z06 a0,g_name ?_⟩⟩;have o:¬ (L.hand=h/\L.copy=c/\L.to=g/\L.turn=D.round)->i + 1<=j:=λ z=>by
   rcases j15 i j with y|y
   ·exact y
   ·have:i=j:=by omega
    subst this;rw [eL] at X;exact absurd (isPl_iff.mp X) z
  obtain ⟨_,ed,_⟩:=J.nest Y;have rd:=(oy.2.2.2.2 (ok.op h D r).1).1;have hm:(C.map oeV)[h]? = some (.ref y.d):=by rw [K0,Y];rfl
  have R :∀{x y:Nat},decide (V.int (x:Nat)=V.int (y:Nat))=true->x=y:=λ z=>by have z:=of_decide_eq_true z;injection z with z;exact Int.ofNat_inj.mp z
  have M :∀{x y:Nat},¬ decide (V.int (x:Nat)=V.int (y:Nat))=true->¬ x=y:=λ z e=>z (by rw [e];exact decide_eq_true rfl);refine z1y (t_and ⟨_,rfl,.inr (.inl ⟨p,_,1,_,rfl,rfl,SqT.of u,z06 (j:=1) rfl,_,rfl,rfl,_,rfl,?_⟩)⟩);refine ite2 (λ U=>?_) λ U=>iteF ⟨rfl,o λ y=>M U y.1,_,_,rfl⟩;refine t_and ⟨_,rfl,.inr (.inl ⟨p,_,0,_,rfl,rfl,SqT.of u,z06 (j:=0) rfl,_,rfl,rfl,_,rfl,?_⟩)⟩;refine ite2 (λ S=>?_) λ S=>iteF ⟨rfl,o λ y=>M S y.2.1,_,_,rfl⟩;refine t_and ⟨_,rfl,.inr (.inl ⟨p,_,3,_,rfl,rfl,SqT.of u,z06 (j:=3) rfl,_,rfl,rfl,_,rfl,?_⟩)⟩;refine ite2 (λ I=>?_) λ I=>iteF ⟨rfl,o λ y=>I (by rw [y.2.2.1];exact decide_eq_true rfl),_,_,rfl⟩;refine ⟨_,rfl,.inr (.inl ⟨p,_,2,_,rfl,rfl,SqT.of u,z06 (j:=2) rfl,_,rfl,b.st,_,rfl,G.gop W,_,rfl,.inl ⟨b.op,_,_,.ref y.d,rfl,rfl,SqL.of a4,z06 hm,y.d,_,rfl,dg ed rd,rfl,_,rfl,?_⟩⟩)⟩;refine ite2 (λ O=>?_) λ O=>⟨rfl,o λ y=>M O y.2.2.2,_,_,rfl⟩
  have all:isPl h c D.round g L=true:=isPl_iff.mpr ⟨R U,R S,zii (of_decide_eq_true I),R O⟩;have:i=j:=by
   rcases j15 i j with y|y
   ·exact absurd (by rw [eL];exact all) (nj i y)
   ·omega
  subst this;refine ⟨_,rfl,_,rfl,.inl ⟨_,_,rfl,rfl,?_⟩⟩;have:=q _ s1;rw [hn] at this;exact this
theorem go_on {pl:List (List (Option Int))} {bk:Bool} {N:LM} {c:Int} (h:(N.free pl).length + N.under.length≠0):N.go pl bk c=N.moved pl bk (c % (((N.free pl).length:Int) + 2 * (N.under.length:Int))).toNat:=if_neg h
theorem zlc {pl:List (List (Option Int))} {m:Nat} {bk:Bool} (g:PlG pl) (m35:m=3\/m=5) (cs:List Int) (hl:cs.length<=450):LOk pl (cs.foldl (λ N c=>N.go pl bk c) (LM.init m pl)) 900:=by have s:=zbm (pl:=pl) (bk:=bk) (m:=m) (by omega) cs;have a:=zbh cs (zdv (bk:=bk) g (by omega) (by omega:m<=5));rw [V5] at a;exact lok_of s (a.m.le1 (by omega))
theorem Lw.rb {K:j0} {B H:Hp} {A:La} {es:List (Option OE)} {N:LM} {l:Addr} {o:HO} (h:Lw K B H A es N) (m:Imm H (upd H l o)) (n :∀p x,B p=none->H p=some x->p≠l):Lw K (upd B l o) (upd H l o) A es N:=by obtain ⟨d,e,f,g,j,b,r,q,k⟩:=h.ct;have i :∀p∈baseO A d e f (natV N.nxt) g (es.map oeV)++es.flatMap entO,p.1≠l:=λ p a=>n _ _ (b.fr p a) (b.c p a);exact ⟨⟨d,e,f,g,j,⟨λ p a=>by rw [upd_ne (i p a)];exact b.c p a,b.nd,λ p a=>by rw [upd_ne (i p a)];exact b.fr p a⟩,z00 (λ _ _ z=>z.imm m) r,z00 (λ _ _ z=>z.imm m) q,z00 (λ _ _ z=>z.imm m) k⟩,z00 (λ _ _ z=>OeO.imm m z) h.oe⟩
theorem Same.upd2 {B H:Hp} {l:Addr} {o:HO} (s:Same B H):Same (upd B l o) (upd H l o):=λ p x e=>by
 by_cases z:p=l
 ·subst z;rw [z04] at e⊢;exact e
 ·rw [upd_ne z] at e⊢;exact s _ _ e
structure Wk (K:j0) (H0:Hp) (pl:List (List (Option Int))) (m:Nat) (bk:Bool) (A:La) (lc:Addr) (B H:Hp) (es:List (Option OE)) (S:LM×List Nat):Prop where
 f:H0 lc=none
 hB:Same H0 B
 el:B lc=some (.lst (natV S.2))
 s:Same B H
 lw:Lw K B H A es S.1
 wk:S.1=(S.2.map λ (n:Nat)=>(n:Int)).foldl (λ N c=>N.go pl bk c) (LM.init m pl)
theorem Wk.same {K:j0} {H0:Hp} {pl:List (List (Option Int))} {m:Nat} {bk:Bool} {A:La} {lc:Addr} {B H H':Hp} {es:List (Option OE)} {S:LM×List Nat} (k:Wk K H0 pl m bk A lc B H es S) (s:Same H H'):Wk K H0 pl m bk A lc B H' es S:=⟨k.f,k.hB,k.el,k.s.trans s,k.lw.same s,k.wk⟩
theorem Wk.new {K:j0} {H0:Hp} {pl:List (List (Option Int))} {m:Nat} {bk:Bool} {A:La} {lc:Addr} {B H:Hp} {es:List (Option OE)} {S:LM×List Nat} {p:Addr} {o:HO} (k:Wk K H0 pl m bk A lc B H es S) (hp:H p=none):Wk K (upd H0 p o) pl m bk A lc (upd B p o) (upd H p o) es S:=by
 have a:lc≠p:=λ z=>by have:=k.s _ _ k.el;rw [z,hp] at this;cases this
 exact ⟨by rw [upd_ne a];exact k.f,Same.upd2 k.hB,by rw [upd_ne a];exact k.el,Same.upd2 k.s,k.lw.rb (Imm.of (Same.upd hp)) (λ q x _ e z=>by rw [z,hp] at e;cases e),k.wk⟩
theorem Wk.less {K:j0} {H0 H1:Hp} {pl:List (List (Option Int))} {m:Nat} {bk:Bool} {A:La} {lc:Addr} {B H:Hp} {es:List (Option OE)} {S:LM×List Nat} (k:Wk K H1 pl m bk A lc B H es S) (s:Same H0 H1):Wk K H0 pl m bk A lc B H es S:=⟨s.free k.f,s.trans k.hB,k.el,k.s,k.lw,k.wk⟩
theorem Wk.ok {K:j0} {H0:Hp} {pl:List (List (Option Int))} {m:Nat} {bk:Bool} {A:La} {lc:Addr} {B H:Hp} {es:List (Option OE)} {S:LM×List Nat} (k:Wk K H0 pl m bk A lc B H es S) (g:PlG pl) (m35:m=3\/m=5) (l:S.2.length<=450):LOk pl S.1 900:=by rw [k.wk];exact zlc (bk:=bk) g m35 _ (by rw [B0];exact l)
def z28 (K:j0):Sp:=λ vs H Q _=>∃(A:La) (a lc:Addr) (c m:Nat) (bk:Bool) (H0 B:Hp) (es:List (Option OE)) (S:LM×List Nat) (pl:List (List (Option Int))),vs=[.ref A.st,.ref a,.ref lc,.int (c:Nat),.bl bk]/\Wk K H0 pl m bk A lc B H es S/\PlR H0 a pl/\PlG pl/\(m=3\/m=5)/\S.2.length<=400/\c < (S.1.free pl).length + 2 * S.1.under.length/\
 ∀B' es' H',Wk K H0 pl m bk A lc B' H' es' (madeP pl bk S c)->Q .non H'
theorem zau (T:TX (kx w) mg) (c0:Ca P w mg base "_law_moved" ["state","plan","number","back"] 4 (z4v (kx w))):Fo P w mg base CX0 5 469 y14 ["state","plan","choices","choice","back"] (z28 (kx w)):=by
 refine (z47 w.params).ok zav (λ U H Q E h=>?_) (λ a1 A a0 s H U Q E O h=>?_)
 ·obtain ⟨A,a,b,c,m,bk,y,B,u,S,d,rfl,_⟩:=h;rfl
 ·obtain ⟨F,a,b,c,m,bk,y,B,u,S,d,rfl,k,X,g,G,l4,V,q⟩:=h;refine ⟨_,(z02 (z0d (z0v (pv 2) (z01 (pv 3) pa_nil)))
   (z05 (z0d (pe_cal c0 (O.mono (by decide)) rfl (z01 (pv 0) (z01 (pv 1) (z01 (pv 3) (z01 (pv 4) pa_nil)))))))),?_⟩
  have ok:=k.ok g G (by omega);obtain ⟨t,K,r,C,R,J⟩:=k;have W :∀own∈d,own.length<=24:=(zdv (bk:=bk) g (by omega:0 < m) (by omega)).m.lw;have i:=C _ _ r;have j:=R.rb (l:=b) (o:=.lst (natV S.2++[.int (c:Nat)])) (Imm.lst i) (λ p x v _ z=>by rw [z,r] at v;cases v);refine ⟨_,rfl,.inl ⟨rfl,_,SqL.of i⟩,_,rfl,?_⟩;refine ⟨b,_,_,rfl,rfl,i,Y0 (m:=400) (by show (S.2.map _).length<=400;rw [B0];omega) (by decide),t_nx ?_⟩;have e:Same y (upd B b (.lst (natV S.2++[.int (c:Nat)]))):=Same.keep K t;have D:upd B b (.lst (natV S.2++[.int (c:Nat)])) b=some (.lst (natV (S.2++[c]))):=by rw [z04];unfold natV;rw [P1];rfl
  have f:=Same.upd2 (l:=b) (o:=.lst (natV S.2++[.int (c:Nat)])) C;generalize upd H b (.lst (natV S.2++[.int (c:Nat)]))=H10 at j f⊢;generalize upd B b (.lst (natV S.2++[.int (c:Nat)]))=B7 at j e D f;have em:S.1.go d bk (c:Int)=S.1.moved d bk c:=by rw [go_on (by omega),Int.emod_eq_of_lt (by omega) (by omega)];rfl
  have M:S.1.moved d bk c=((S.2++[c]).map λ (n:Nat)=>(n:Int)).foldl (λ N c=>N.go d bk c) (LM.init m d):=by rw [P1,j0g,<-J];exact em.symm
  exact ⟨_,rfl,_,rfl,_,rfl,_,rfl,F,a,c,bk,B7,u,S.1,d,900,rfl,j,X.same e,g.n6,W,ok,by decide,V,f,λ L Y Z I=>q B7 L Y ⟨t,e,D,Z,I,M⟩⟩
theorem stepN {pl:List (List (Option Int))} {bk:Bool} {h t:Nat} :∀l:List (Nat×Bool),l.foldl (stepP pl bk h t) none=none
 | []=>rfl
 | _ :: l=>stepN l
theorem zju {pl:List (List (Option Int))} {bk:Bool} {h t:Nat} {S S':LM×List Nat} {x:Nat×Bool} (e:stepP pl bk h t (some S) x=some S'):S.2.length<=S'.2.length:=by
 change (if opR S.1 h=some t then (S.1.place pl h x.2 x.1).map (madeP pl bk S) else some S)=some S' at e;split at e
 ·obtain ⟨c,_,a⟩:=Option.map_eq_some_iff.mp e;rw [<-a];show _<=(S.2++[c]).length;rw [I0];omega
 ·cases e;exact J0 _
theorem z5c {pl:List (List (Option Int))} {bk:Bool} {h t:Nat} :∀(l:List (Nat×Bool)) {S S':LM×List Nat},l.foldl (stepP pl bk h t) (some S)=some S'->S.2.length<=S'.2.length
 | [],S,S',e=>by cases e;exact J0 _
 | x :: l,S,S',e=>by
  rw [W2] at e;cases z:stepP pl bk h t (some S) x with
  | none=>rw [z,stepN] at e;cases e
  | some S1=>rw [z] at e;exact L0 (zju z) (z5c l e)
theorem zji {N:LM} {h t:Nat} (e:opR N h=some t) :∃D,N.opn[h]? = some (some D)/\D.round=t:=by
 unfold opR at e;split at e
 ·rename_i D hD;cases e;exact ⟨D,hD,rfl⟩
 ·cases e
theorem zdf {N:LM} {pl:List (List (Option Int))} {h c n:Nat} {to:Bool} (e:N.place pl h to c=some n):n < (N.free pl).length + 2 * N.under.length:=by
 unfold LM.place at e;cases z:opR N h with
 | none=>rw [z] at e;cases e
 | some t=>rw [z] at e;change (N.under.findIdx? (isPl h c t to)).map _=some n at e;obtain ⟨j,a,d⟩:=Option.map_eq_some_iff.mp e;obtain ⟨b,_⟩:=List.findIdx?_eq_some_iff_getElem.mp a;omega
def z58 (K:j0):Sp:=λ vs H Q _=>∃(A:La) (a lc cp:Addr) (h m:Nat) (bk:Bool) (H0 B:Hp) (es:List (Option OE)) (S S':LM×List Nat) (pl:List (List (Option Int))) (cs:List Nat),vs=[.ref A.st,.ref a,.ref lc,.int (h:Nat),.ref cp,.bl bk]/\Wk K H0 pl m bk A lc B H es S/\PlR H0 a pl/\PlG pl/\(m=3\/m=5)/\H0 cp=some (.lst (natV cs))/\roundP pl bk h cs S=some S'/\S'.2.length<=400/\
 ∀B' es' H',Wk K H0 pl m bk A lc B' H' es' S'->Q .non H'
theorem z9h (T:TX (kx w) mg) (c5:Ca P w mg base "_law_place" ["state","plan","hand","side","copy"] 2 (z2s (kx w))) (c6:Ca P w mg base "_law_made" ["state","plan","choices","choice","back"] 5 (z28 (kx w))):Fo P w mg base CX0 6 476 y0x ["state","plan","choices","hand","copies","back"] (z58 (kx w)):=by
 refine (z3c w.params).ok sc__law_round (λ vs H Q E h=>?_) (λ c7 A c8 s H vs Q E J h=>?_)
 ·obtain ⟨A,a,O,R,h,m,bk,F,B,r,S,L,f,x,rfl,_⟩:=h;rfl
 ·obtain ⟨b,a,O,R,h,m,bk,F,B,r,S,L,f,x,rfl,k,pr,g,a2,ec,I,l4,q⟩:=h;refine ⟨_,(z02 (ps_set (i:=6) sc__law_round.nd rfl (Z1 rfl) (z0c (hu_of J) (pe_ix ix_seq (z0c (hu_of J) (pv 0) pe_str (λ _ _=>rfl)) (pv 3) (λ _ _=>rfl)) pe_str (λ _ _=>rfl)))
   (z05 (ps_for w4 rfl (z1e (pv 4)) (z0s (i:=7) sc__law_round.nd rfl (Z1 rfl))
   (z05 (ps_for w4 rfl (pi_tup (pe_tup (z01 pe_str (z01 pe_str pa_nil)))) (z0s (i:=8) sc__law_round.nd rfl (Z1 rfl))
   (z05 (ps_if (PW.pt (pw_and (z0b z66 (pe_ix ix_seq (z0c (hu_of J) (pv 0) pe_str (λ _ _=>rfl)) (pv 3) (λ _ _=>rfl)) pe_non (nomark _)) (z4z (z0b opEq (z0c (hu_of J) (pe_ix ix_seq (z0c (hu_of J) (pv 0) pe_str (λ _ _=>rfl)) (pv 3) (λ _ _=>rfl)) pe_str (λ _ _=>rfl)) (pv 6) (nomark _)))))
   (z05 (z0d (pe_cal c6 (J.mono (by decide)) rfl (z01 (pv 0) (z01 (pv 1) (z01 (pv 2) (z01 (pe_cal c5 (J.mono (by decide)) rfl (z01 (pv 0) (z01 (pv 1) (z01 (pv 3) (z01 (pv 8) (z01 (pv 7) pa_nil)))))) (z01 (pv 5) pa_nil))))))))
   z0j))))))),?_⟩
  unfold roundP at I;cases hR:opR S.1 h with
  | none=>rw [hR] at I;cases I
  | some t=>
  rw [hR] at I;change (x.flatMap λ c=>[(c,true),(c,false)]).foldl (stepP f bk h t) (some S)=some L at I;have lS:=z5c _ I;have a5:=k.ok g a2 (by omega);obtain ⟨D,Y,rD⟩:=zji hR;have hh:h < f.length:=by rw [<-a5.ol];exact (List.getElem?_eq_some_iff.mp Y).1
  obtain ⟨y,hy,oy⟩:=k.lw.open_ Y;obtain ⟨_,ed,_⟩:=k.lw.nest hy;have rd:=(oy.2.2.2.2 (a5.op h D Y).1).1;have hm:(r.map oeV)[h]? = some (.ref y.d):=by rw [K0,hy];rfl
  obtain ⟨b5,hv,uv,vv,c0,c1,c2,c3,c4⟩:=id k.lw.ct;have b6:H b.st=some (.dK b5):=c1.at (a:=[]);have b1:H b.op=some (.lst (r.map oeV)):=c1.at (a:=[_,_,_,_,_]);refine z0e ⟨_,rfl,b.st,_,rfl,c0.gop b6,_,rfl,.inl ⟨b.op,_,_,.ref y.d,rfl,rfl,SqL.of b1,z06 hm,y.d,_,rfl,dg ed rd,g_name ?_⟩⟩;rw [rD];refine ⟨_,rfl,R,rfl,⟨_,SqL.of (k.s _ _ (k.hB _ _ ec))⟩,?_⟩;refine z5n (K:=KX w.params) (a:=R) (xs:=natV x) (λ i σ N=>∃B r p U C,Wk (kx w) F f m bk b O B N r p/\((x.drop i).flatMap λ c=>[(c,true),(c,false)]).foldl (stepP f bk h t) (some p)=some L/\σ=[some (.ref b.st),some (.ref a),some (.ref O),some (.int (h:Nat)),some (.ref R),some (.bl bk),some (.int (t:Nat)),U,C]) ⟨B,r,S,_,_,k,I,rfl⟩ (λ _ σ N _ h=>by obtain ⟨B,r,p,U,C,l,_⟩:=h;exact SqL.of (l.s _ _ (l.hB _ _ ec))) ?_ ?_;rotate_left
  ·rintro σ H1 ⟨B1,es1,p,U,C,l,e1,rfl⟩;rw [show (natV x).length=x.length from B0 ..,j3j (J0 _)] at e1;cases e1;exact q _ _ _ l
  rintro i v σ H1 Z ⟨B1,es1,p,U,C,l,e1,rfl⟩;unfold natV at Z;rw [K0] at Z;obtain ⟨c,hc,rfl⟩:=Option.map_eq_some_iff.mp Z;have hi:i < x.length:=(List.getElem?_eq_some_iff.mp hc).1;rw [y8 hi,(List.getElem?_eq_some_iff.mp hc).2,j0h] at e1;refine g_name ?_;refine ⟨w_2,λ u a6=>?_⟩;have M:=l.new (o:=.tup [.str "to",.str "from"]) a6;have f0:F u=none:=l.hB.free (l.s.free a6);have X:Same F (upd F u (.tup [.str "to",.str "from"])):=Same.upd f0;have e0:upd F u (.tup [.str "to",.str "from"]) u=some (.tup [.str "to",.str "from"]):=z04;generalize upd H1 u (.tup [.str "to",.str "from"])=H2 at M⊢;generalize upd F u (.tup [.str "to",.str "from"])=H0' at M X e0⊢;generalize upd B1 u (.tup [.str "to",.str "from"])=B2 at M;refine ⟨u,rfl,⟨_,SqT.of (M.s _ _ (M.hB _ _ e0))⟩,?_⟩;refine zkc (K:=KX w.params) (a:=u) (xs:=[.str "to",.str "from"]) (λ j σ N=>∃B r p C,Wk (kx w) H0' f m bk b O B N r p/\(([(c,true),(c,false)].drop j)++((x.drop (i + 1)).flatMap λ c=>[(c,true),(c,false)])).foldl (stepP f bk h t) (some p)=some L/\σ=[some (.ref b.st),some (.ref a),some (.ref O),some (.int (h:Nat)),some (.ref R),some (.bl bk),some (.int (t:Nat)),some (.int (c:Nat)),C]) ⟨B2,es1,p,_,M,e1,rfl⟩ (λ _ σ N _ h=>by obtain ⟨B,r,p,C,l,_⟩:=h;exact SqT.of (l.s _ _ (l.hB _ _ e0))) ?_ ?_;rotate_left
  ·rintro σ H3 ⟨B3,es3,S3,C,k3,e3,rfl⟩;exact ⟨B3,es3,S3,_,_,k3.less X,e3,rfl⟩
  rintro j v σ H3 hj ⟨B3,es3,S3,C,k3,e3,rfl⟩;obtain ⟨G,rfl,hd⟩ :∃G:Bool,v=.str (sideS G)/\([(c,true),(c,false)].drop j:List (Nat×Bool))=(c,G) :: [(c,true),(c,false)].drop (j + 1):=by
   match j,hj with
   | 0,e=>cases e;exact ⟨true,rfl,rfl⟩
   | 1,e=>cases e;exact ⟨false,rfl,rfl⟩
  rw [hd,j1b,W2] at e3;refine g_name ?_;have l3:S3.2.length<=L.2.length:=z5c ((c,G) :: (([(c,true),(c,false)].drop (j + 1))++((x.drop (i + 1)).flatMap λ c=>[(c,true),(c,false)]))) e3;have a0:=k3.ok g a2 (by omega);have hl:h < S3.1.opn.length:=by rw [a0.ol];exact hh
  obtain ⟨b2,b8,b9,b7,d0,d1,d2,d3,d4⟩:=id k3.lw.ct;have a1:H3 b.st=some (.dK b2):=d1.at (a:=[]);have a3:H3 b.op=some (.lst (es3.map oeV)):=d1.at (a:=[_,_,_,_,_]);change List.foldl _ (if opR S3.1 h=some t then (S3.1.place f h G c).map (madeP f bk S3) else some S3) _=some L at e3;cases ho:S3.1.opn[h]? with
  | none=>rw [v0 hl] at ho;cases ho
  | some o=>
  cases o with
  | none=>
   have nR:opR S3.1 h=none:=by unfold opR;rw [ho]
   rw [nR,if_neg (by simp)] at e3;have le:es3.length=S3.1.opn.length:=z03 k3.lw.oe;obtain ⟨z,hz⟩ :∃z,es3[h]? = some z:=⟨_,v0 (by omega)⟩
   obtain ⟨o',a4,a9⟩:=z0f k3.lw.oe hz;rw [ho] at a4;cases a4;cases z with
   | some z=>cases a9
   | none=>
    have W:(es3.map oeV)[h]? = some .non:=by rw [K0,hz];rfl
    exact z1y (t_and ⟨_,rfl,b.st,_,rfl,d0.gop a1,_,rfl,.inl ⟨b.op,_,_,.non,rfl,rfl,SqL.of a3,z06 W,rfl,_,rfl,iteN (by decide) (iteF ⟨B3,es3,S3,_,k3,e3,rfl⟩)⟩⟩)
  | some D3=>
   have nR:opR S3.1 h=some D3.round:=by unfold opR;rw [ho]
   rw [nR] at e3;obtain ⟨V,a7,b0⟩:=k3.lw.open_ ho;obtain ⟨_,b4,_⟩:=k3.lw.nest a7;have b3:=(b0.2.2.2.2 (a0.op h D3 ho).1).1;have W:(es3.map oeV)[h]? = some (.ref V.d):=by rw [K0,a7];rfl
   refine z1y (t_and ⟨_,rfl,b.st,_,rfl,d0.gop a1,_,rfl,.inl ⟨b.op,_,_,.ref V.d,rfl,rfl,SqL.of a3,z06 W,rfl,_,rfl,iteP (by simp) ?_⟩⟩);refine ⟨_,rfl,b.st,_,rfl,d0.gop a1,_,rfl,.inl ⟨b.op,_,_,.ref V.d,rfl,rfl,SqL.of a3,z06 W,V.d,_,rfl,dg b4 b3,_,rfl,rfl,_,rfl,?_⟩⟩;refine ite2 (λ z=>?_) λ z=>?_
   ·have z:=of_decide_eq_true z;injection z with z;have z:D3.round=t:=Int.ofNat_inj.mp z;rw [if_pos (by rw [z])] at e3;cases hpl:S3.1.place f h G c with
    | none=>rw [hpl] at e3;exact absurd ((stepN _).symm.trans e3) (by simp)
    | some n=>rw [hpl] at e3;exact ⟨_,rfl,_,rfl,_,rfl,_,rfl,_,rfl,_,rfl,_,rfl,_,rfl,b,a,h,G,c,B3,es3,S3.1,f,900,n,rfl,k3.lw,(pr.same X).same k3.hB,g.n6,a0,by decide,k3.s,hpl,λ H4 s4=>⟨_,rfl,b,a,O,n,m,bk,H0',B3,es3,S3,f,rfl,k3.same s4,pr.same X,g,a2,by omega,zdf hpl,λ B' a8 N k'=>⟨B',a8,_,_,k',e3,rfl⟩⟩⟩
   ·rw [if_neg (λ y=>z (by cases y;exact decide_eq_true rfl))] at e3;exact ⟨B3,es3,S3,_,k3,e3,rfl⟩
end
section
def zi6:V->List V->Hp->VK->Prop:=λ x vs H Q=>∃(l:Addr) (ss:List Int) (z:Int) (j:Nat),x=.ref l/\vs=[.int z]/\H l=some (.lst (ss.map V.int))/\ss.length<=1000/\ss[j]? = some z/\(∀m,m < j->ss[m]?≠some z)/\Q (.int (j:Nat)) H
variable {X:Cx}
theorem zld {ss:List Int} :∀{us:List Value},Vals (ss.map V.int) us->∀(j:Nat) (u:Value),us[j]? = some u->∃y t,ss[j]? = some y/\u=S7 y t:=by
 induction ss with
 | nil=>intro us r j u e;rw [w5] at r;cases r;simp at e
 | cons n ss ih=>
  intro us r j u e;rw [L1] at r;cases r with
  | cons r1 r2=>
   obtain ⟨t,rfl⟩:=r1;cases j with
   | zero=>rw [E4] at e;cases e;exact ⟨n,t,rfl,rfl⟩
   | succ j=>rw [Z2] at e;exact ih r2 j u e
theorem zgp:MtM X "list.index" zi6:=by
 intro O s σ H x L v P Q I D J h;obtain ⟨l,C,z,j,rfl,rfl,B,N,o,g,q⟩:=h;cases D;obtain ⟨u,rfl,w⟩:=J.one;obtain ⟨t,rfl⟩:=w;obtain ⟨K,c,n,r,M,e⟩:=I.lstM B;have lt:j < c.length:=by rw [<-r.length,B0];exact (List.getElem?_eq_some_iff.mp o).1
 let ev:Value->Bool:=λ y=>match y with | .int a _=>a == z|_=>false
 have k :∀m (g:m < c.toArray.size),∃y f,C[m]? = some y/\c.toArray[m]=S7 y f:=λ m g=>zld r m _ ((v0 (show m < c.length by simpa using g)).trans (by simp));refine L9 F.slot_list_index ⟨_,e,rfl⟩ F.entry_list_index (F.args_list_index_2 _ _) (SeqAt.list_indexAt l c.toArray n none #[] (.int z t) ev j (by simpa using lt) ?_ ?_ ?_) ⟨e,λ y A=>?_,?_⟩
 ·have:=(List.getElem?_eq_some_iff.mp o).1;have:(j:Int) < 1000:=by omega
  exact Int.lt_trans this (by decide)
 ·obtain ⟨y,f,b,d⟩:=k j (by simpa using lt);rw [d];rw [o] at b;cases b;exact beq_self_eq_true z
 ·intro m i E;obtain ⟨y,f,b,d⟩:=k m i;rw [d];refine beq_eq_false_iff_ne.mpr λ e=>g m E ?_;rw [b,e]
 ·obtain ⟨m,i,p⟩:=Array.mem_iff_getElem.mp A;obtain ⟨G,f,b,d⟩:=k m i;rw [d] at p;subst p;exact m9 G f z t
 ·exact ⟨.int (j:Nat),H,I.tok _,⟨_,rfl⟩,q⟩
theorem zgm {o e:Expr} {es:List Expr} {to:TE} {t:TA} {apos cpos:Pos} (ho:PE X o to) (ha:PA X (e :: es) t)
  (hbase:E5 o "index" X.env (Z3 o X.env)=Z3 o X.env:=by rfl)
  (hfew:((V4 cpos (E1 (e :: es) X.env)).all (λ x=>!x.1) && (v9 cpos (f7 [] X.env)).all (λ x=>x.1.isSome) && decide ((e :: es).length + ([]:List R6).length + (if ([]:List R6).isEmpty then 0 else 1) < 30))=true:=by rfl)
  (hline:(apos.endLine == cpos.line)=true:=by rfl) (hs:E1 (e :: es) X.env=(false,Z3 e X.env) :: E1 es X.env:=by rfl) (hplain:(V4 cpos (E1 es X.env)).any (·.1)=false:=by rfl) :
  PE X (.Call (.Attribute o "index" apos) (e :: es) [] cpos) (tBM X.K "list" zi6 to t):=pe_bm N6 PySem.F.slot_list_index PySem.F.type_list_index zgp ho ha hbase hfew hline hs hplain
end
section
variable {P:Program} {w:W0} {mg:Str->Option Value} {base:Heap}
noncomputable def rdF (pl:List (List (Option Int))) (bk:Bool) (h:Nat) (S:Option (LM×List Nat)) (cs:List Nat):Option (LM×List Nat):=S.bind λ S=>if (opR S.1 h).isSome then roundP pl bk h cs S else some S
theorem rdN {pl:List (List (Option Int))} {bk:Bool} {h:Nat} :∀l:List (List Nat),l.foldl (rdF pl bk h) none=none
 | []=>rfl
 | _ :: l=>rdN l
theorem zgy {pl:List (List (Option Int))} {bk:Bool} {h:Nat} {cs:List Nat} {S S':LM×List Nat} (e:roundP pl bk h cs S=some S'):S.2.length<=S'.2.length:=by
 unfold roundP at e;cases z:opR S.1 h with
 | none=>rw [z] at e;cases e
 | some t=>rw [z] at e;exact z5c _ e
theorem z8l {pl:List (List (Option Int))} {bk:Bool} {h:Nat} :∀(l:List (List Nat)) {S S':LM×List Nat},l.foldl (rdF pl bk h) (some S)=some S'->S.2.length<=S'.2.length
 | [],S,S',e=>by cases e;exact J0 _
 | x :: l,S,S',e=>by
  rw [W2] at e;cases z:rdF pl bk h (some S) x with
  | none=>rw [z,rdN] at e;cases e
  | some S1=>
   rw [z] at e;refine L0 ?_ (z8l l e);change (if (opR S.1 h).isSome=true then roundP pl bk h x S else some S)=some S1 at z;split at z
   ·exact zgy z
   ·cases z;exact J0 _
theorem zi1 (ns:List Nat):natV ns=(ns.map λ (n:Nat)=>(n:Int)).map V.int:=by unfold natV;rw [V2];rfl
def z5i (K:j0):Sp:=λ vs H Q _=>∃(A:La) (a lc rl:Addr) (h m:Nat) (bk:Bool) (H0 B:Hp) (es:List (Option OE)) (S S':LM×List Nat) (pl:List (List (Option Int))) (rs:List (List Nat)) (ys:List V),vs=[.ref A.st,.ref a,.ref lc,.int (h:Nat),.ref rl,.bl bk]/\Wk K H0 pl m bk A lc B H es S/\PlR H0 a pl/\PlG pl/\(m=3\/m=5)/\H0 rl=some (.lst ys)/\All2 (λ cs y=>∃p,y=.ref p/\H0 p=some (.lst (natV cs))) rs ys/\dealP pl bk h rs S=some S'/\S'.2.length<=400/\
 ∀B' es' H',Wk K H0 pl m bk A lc B' H' es' S'->Q .non H'
theorem zb5 (T:TX (kx w) mg) (c0:Ca P w mg base "_law_free" ["state","plan"] 1 (z27 (kx w))) (c1:Ca P w mg base "_law_made" ["state","plan","choices","choice","back"] 5 (z28 (kx w))) (c2:Ca P w mg base "_law_round" ["state","plan","choices","hand","copies","back"] 6 (z58 (kx w))):Fo P w mg base CX0 7 483 y15 ["state","plan","choices","hand","rounds","back"] (z5i (kx w)):=by
 refine (z4c w.params).ok sc__law_deed (λ vs H Q E h=>?_) (λ b1 A b2 s H vs Q E C h=>?_)
 ·obtain ⟨A,a,r,G,h,m,bk,u,B,f,S,t,b,l,ys,rfl,_⟩:=h;rfl
 ·obtain ⟨c,a,r,G,h,m,bk,u,B,f,S,t,b,l,ys,rfl,k,N,g,F,W,al,d,l4,q⟩:=h;refine ⟨_,(z02 (z0d (pe_cal c1 (C.mono (by decide)) rfl (z01 (pv 0) (z01 (pv 1) (z01 (pv 2) (z01 (zgm (pe_cal c0 (C.mono (by decide)) rfl (z01 (pv 0) (z01 (pv 1) pa_nil))) (z01 (pv 3) pa_nil)) (z01 (pv 5) pa_nil)))))))
   (z05 (ps_for w4 rfl (z1e (pv 4)) (z0s (i:=6) sc__law_deed.nd rfl (Z1 rfl))
   (z05 (ps_if (z0b z66 (pe_ix ix_seq (z0c (hu_of C) (pv 0) pe_str (λ _ _=>rfl)) (pv 3) (λ _ _=>rfl)) pe_non (nomark _))
   (z05 (z0d (pe_cal c2 (C.mono (by decide)) rfl (z01 (pv 0) (z01 (pv 1) (z01 (pv 2) (z01 (pv 3) (z01 (pv 6) (z01 (pv 5) pa_nil)))))))))
   z0j))))),?_⟩
  unfold dealP at d;cases hI:(S.1.free b).findIdx? (· == h) with
  | none=>rw [hI] at d;cases d
  | some n=>
  rw [hI] at d;change l.foldl (rdF b bk h) (some (madeP b bk S n))=some t at d;have lS:=z8l l d;have l1:(madeP b bk S n).2.length=S.2.length + 1:=by show (S.2++[n]).length=_;rw [I0];rfl
  have ok:=k.ok g F (by omega);obtain ⟨V,pn,nn⟩:=List.findIdx?_eq_some_iff_getElem.mp hI;refine ⟨_,rfl,_,rfl,_,rfl,_,rfl,_,rfl,c,a,B,f,S.1,b,rfl,k.lw,(N.same k.hB).same k.s,g.n6,ok.ol,ok.nl,λ lf H1 s1 a9 L=>?_⟩;have l6:(S.1.free b).length<=6:=L0 (p7 _ _) (by rw [W1];exact g.n6);rw [zi1] at L;refine ⟨.inl ⟨rfl,_,SqL.of L⟩,_,rfl,lf,_,(h:Int),n,rfl,rfl,L,by rw [B0];omega,?_,?_,?_⟩
  ·rw [K0,v0 V];exact congrArg (λ x:Nat=>some (x:Int)) (beq_iff_eq.mp pn)
  ·intro j Y e;rw [K0,v0 (Z6 Y V)] at e;injection e with e;exact nn j Y (beq_iff_eq.mpr (Int.ofNat_inj.mp e))
  refine ⟨_,rfl,c,a,r,n,m,bk,u,B,f,S,b,rfl,k.same s1,N,g,F,by omega,by omega,λ B2 a4 H2 J=>t_nx ?_⟩;refine ⟨_,rfl,G,rfl,⟨_,SqL.of (J.s _ _ (J.hB _ _ W))⟩,?_⟩;have hh:h < b.length:=by have:(S.1.free b)[n]∈S.1.free b:=J3 V;rw [beq_iff_eq.mp pn] at this;exact List.mem_range.mp (List.mem_filter.mp this).1
  have ly:=z03 al;refine z5n (K:=KX w.params) (a:=G) (xs:=ys) (λ i σ O=>∃B f I y,Wk (kx w) u b m bk c r B O f I/\(l.drop i).foldl (rdF b bk h) (some I)=some t/\σ=[some (.ref c.st),some (.ref a),some (.ref r),some (.int (h:Nat)),some (.ref G),some (.bl bk),y]) ⟨B2,a4,_,_,J,d,rfl⟩ (λ _ σ O _ h=>by obtain ⟨B,f,I,y,k1,_⟩:=h;exact SqL.of (k1.s _ _ (k1.hB _ _ W))) ?_ ?_;rotate_left
  ·rintro σ U ⟨B3,es3,S3,y,k3,e3,rfl⟩;rw [ly,j3j (J0 _)] at e3;cases e3;exact q _ _ _ k3
  rintro i v σ U hv ⟨B3,es3,S3,y,k3,e3,rfl⟩;obtain ⟨R,hc,p,rfl,ep⟩:=z0f al hv;have hi:i < l.length:=(List.getElem?_eq_some_iff.mp hc).1;have l3:=z8l _ e3;rw [y8 hi,(List.getElem?_eq_some_iff.mp hc).2,W2] at e3;refine g_name ?_;have a1:=k3.ok g F (by omega);have hl:h < S3.1.opn.length:=by rw [a1.ol];exact hh
  obtain ⟨a2,a8,b0,a7,d0,d1,d2,d3,d4⟩:=id k3.lw.ct;have a3:U c.st=some (.dK a2):=d1.at (a:=[]);have a6:U c.op=some (.lst (es3.map oeV)):=d1.at (a:=[_,_,_,_,_]);change List.foldl _ (if (opR S3.1 h).isSome=true then roundP b bk h R S3 else some S3) _=some t at e3;have le:es3.length=S3.1.opn.length:=z03 k3.lw.oe;obtain ⟨z,hz⟩ :∃z,es3[h]? = some z:=⟨_,v0 (by omega)⟩
  obtain ⟨o,Z,X⟩:=z0f k3.lw.oe hz;have a5:(es3.map oeV)[h]? = some (oeV z):=by rw [K0,hz];rfl
  refine z1y ⟨_,rfl,c.st,_,rfl,d0.gop a3,_,rfl,.inl ⟨c.op,_,_,oeV z,rfl,rfl,SqL.of a6,z06 a5,rfl,_,rfl,?_⟩⟩;cases o with
  | none=>
   cases z with
   | some z=>cases X
   | none=>
    have M:opR S3.1 h=none:=by unfold opR;rw [Z]
    rw [M,if_neg (by simp)] at e3;exact iteN (by decide) ⟨B3,es3,S3,_,k3,e3,rfl⟩
  | some D=>
   cases z with
   | none=>cases X
   | some z=>
    have M:opR S3.1 h=some D.round:=by unfold opR;rw [Z]
    rw [M,if_pos (show (some D.round).isSome=true from rfl)] at e3;refine iteP (by simp [oeV]) ?_;cases hr3:roundP b bk h R S3 with
    | none=>rw [hr3] at e3;exact absurd ((rdN _).symm.trans e3) (by simp)
    | some S4=>rw [hr3] at e3;have l5:=z8l _ e3;exact ⟨_,rfl,_,rfl,_,rfl,_,rfl,_,rfl,_,rfl,c,a,r,p,h,m,bk,u,B3,es3,S3,S4,b,R,rfl,k3,N,g,F,ep,hr3,by omega,λ B' a0 O k'=>⟨B',a0,_,_,k',e3,rfl⟩⟩
theorem cm_of {m:Nat} {pl:List (List (Option Int))} (bk:Bool) (m35:m=3\/m=5) (cs:List Int):(cs.foldl CM.go (CM.init m bk pl)).events=(cs.foldl (λ N c=>N.go pl bk c) (LM.init m pl)).events:=((zbm (by omega) cs).ev).symm
theorem ev_of {H:Hp} {e:CEv} {y:V} (h:HPd H (evP e) y):EvV H e y:=by
 cases e with
 | beg k d=>obtain ⟨p,u,rfl,c,f,s,rfl,j,g,q,rfl,m,b,n,rfl,i,t,x,rfl,w,o,r,rfl,v,l⟩:=h;cases (show r=[] from l);cases (show f=_ from j);cases (show g=_ from m);cases (show b=_ from i);cases (show t=_ from w);refine ⟨p,rfl,?_⟩;cases d<;>(cases (show o=_ from v);exact c)
 | fin k a=>obtain ⟨p,u,rfl,c,f,s,rfl,j,g,q,rfl,m,b,n,rfl,i,l⟩:=h;cases (show n=[] from l);cases (show f=_ from j);cases (show g=_ from m);refine ⟨p,rfl,?_⟩;cases a<;>(cases (show b=_ from i);exact c)
theorem z83 {pl:List (List (Option Int))} {bk:Bool} {h:Nat} {rs:List (List Nat)} {S S':LM×List Nat} (e:dealP pl bk h rs S=some S'):S.2.length<=S'.2.length:=by
 unfold dealP at e;obtain ⟨n,_,e⟩:=Option.bind_eq_some_iff.mp e;change rs.foldl (rdF pl bk h) (some (madeP pl bk S n))=some S' at e;have:=z8l rs e;have:(madeP pl bk S n).2.length=S.2.length + 1:=by show (S.2++[n]).length=_;rw [I0];rfl
 omega
theorem zas {α:Type} (g:α->Option α) (n:Nat) (a:Option α):(O0 (n + 1)).foldl (λ S _=>S.bind g) a=(O0 n).foldl (λ S _=>S.bind g) (a.bind g):=by rw [List.range_succ_eq_map,W2,List.foldl_map]
theorem z9s {α:Type} (g:α->Option α) :∀n:Nat,(O0 n).foldl (λ S _=>S.bind g) (none:Option α)=none
 | 0=>rfl
 | n + 1=>by rw [zas];exact z9s g n
theorem zhv {g:LM×List Nat->Option (LM×List Nat)} (hg :∀S S',g S=some S'->S.2.length<=S'.2.length) :∀(n:Nat) {S S':LM×List Nat},(O0 n).foldl (λ S _=>S.bind g) (some S)=some S'->S.2.length<=S'.2.length
 | 0,S,S',e=>by cases e;exact J0 _
 | n + 1,S,S',e=>by
  rw [zas] at e;cases z:g S with
  | none=>rw [show (some S).bind g=g S from rfl,z,z9s] at e;cases e
  | some S1=>rw [show (some S).bind g=g S from rfl,z] at e;exact L0 (hg _ _ z) (zhv hg n e)
theorem zln (xs:List V) (n:Nat):cutV xs none (some (n:Int))=xs.take n:=by unfold cutV;rw [HT.sIx_nat,show HT.sIx xs.length 0 none=0 from rfl,V6,Nat.sub_zero,j4e];omega
theorem zko (xs:List V) (n:Nat) (h:1<=xs.length):cutV xs (some 1) (some ((n + 1:Nat):Int))=(xs.drop 1).take n:=by unfold cutV;rw [HT.sIx_nat,show HT.sIx xs.length 0 (some 1)=min 1 xs.length from HT.sIx_nat _ _ 1,Nat.min_eq_left h,j4e,N8];omega
theorem Wk.put {K:j0} {H0:Hp} {pl:List (List (Option Int))} {m:Nat} {bk:Bool} {A:La} {lc:Addr} {B H:Hp} {es:List (Option OE)} {S:LM×List Nat} {p:Addr} (o:HO) (k:Wk K H0 pl m bk A lc B H es S) (hp:H p=none) :∃H0' B',Same H0 H0'/\H0' p=some o/\Wk K H0' pl m bk A lc B' (upd H p o) es S:=⟨upd H0 p o,upd B p o,Same.upd (k.hB.free (k.s.free hp)),z04,k.new hp⟩
theorem fm_rng {α β:Type} (f:α->Option β) (es:List α):es.filterMap f=(O0 es.length).filterMap λ i=>(es[i]?).bind f:=by
 have a :∀n,n<=es.length->(es.take n).filterMap f=(O0 n).filterMap λ i=>(es[i]?).bind f:=by
  intro n;induction n with
  | zero=>intro _;rfl
  | succ n ih=>
   intro h;rw [List.take_succ,u7,ih (by omega),K7,u7,v0 (by omega)];congr 1;show _=match (es[n]?).bind f with|none=>_|some b=>_
   rw [v0 (by omega)];rfl
 have:=a es.length (J0 _)
 rwa [U6 (J0 _)] at this
theorem fa_fm (g:Nat->Option (Option Int)) :∀(is:List Nat) {zs:List V},All2 (λ i y=>∃z,g i=some z/\y=avD z) (is.filter λ i=>(g i).isSome) zs->zs=(is.filterMap g).map avD
 | [],zs,h=>by cases h;rfl
 | i :: is,zs,h=>by
  cases e:g i with
  | none=>rw [W4 (by rw [e];exact D1)] at h;rw [List.filterMap_cons_none e];exact fa_fm g is h
  | some z=>
   rw [R3 (by rw [e];rfl)] at h;rw [List.filterMap_cons_some e];cases h with
   | cons h1 h2=>obtain ⟨c,a,b⟩:=h1;rw [e] at a;cases a;rw [b,fa_fm g is h2];rfl
def z5h (K:j0):Sp:=λ vs H Q _=>∃(a rd:Addr) (m turn elder r0 r1:Nat) (bk:Bool) (S:LM×List Nat) (pl:List (List (Option Int))),vs=[.int m,.ref a,.int turn,.int elder,.ref rd,.bl bk]/\HPd H (.list (rowsP pl)) (.ref a)/\PlG pl/\(m=3\/m=5)/\turn < m/\elder<=5/\H rd=some (.lst [.int r0,.int r1])/\toldP m pl turn elder r0 r1 bk=some S/\S.2.length<=400/\
 ∀l H',Same H H'->H' l=some (.lst ((S.1.events.filterMap endsP).map avD))->Q (.ref l) H'
theorem za6 (T:TX (kx w) mg) (c0:Ca P w mg base "_law_begun" ["many","plan"] 1 (z4s (kx w))) (c1:Ca P w mg base "_law_deed" ["state","plan","choices","hand","rounds","back"] 7 (z5i (kx w))) (c2:Ca P w mg base "_law_place" ["state","plan","hand","side","copy"] 2 (z2s (kx w))) (c4:Ca P w mg base "_law_made" ["state","plan","choices","choice","back"] 5 (z28 (kx w))) (c5:CaE P w mg base "run_copies" ["many","plan","choices","back"] 9 (z4x (kx w))):Fo P w mg base CX0 10 488 y16 ["many","plan","turn","elder","readers","back"] (z5h (kx w)):=by
 refine (z4q w.params).ok sc__law_told (λ vs H Q E h=>?_) (λ g7 A h0 s H vs Q E J h=>?_)
 ·obtain ⟨a,rd,m,turn,elder,r0,r1,bk,S,f,rfl,_⟩:=h;rfl
 ·obtain ⟨a,rd,m,turn,elder,r0,r1,bk,S,f,rfl,I,g,F,ht,he,d1,G,l4,q⟩:=h;refine ⟨_,(z02 (ps_set (i:=6) sc__law_told.nd rfl (Z1 rfl) (pe_cal c0 (J.mono (by decide)) rfl (z01 (pv 0) (z01 (pv 1) pa_nil))))
   (z02 (ps_set (i:=7) sc__law_told.nd rfl (Z1 rfl) (pe_lst pa_nil))
   (z02 (zbg (i:=8) sc__law_told.nd rfl (Z1 rfl) (xs:=["k"]) (g:=gName 0) (fr:=[(0,"many"),(2,"turn")]) rfl (z1c rfl (T.no (z36 _)) (z01 (pv 0) pa_nil)) (by intro p I;simp only [M3,N0,or_false] at I;rcases I with rfl|rfl<;>first|exact ⟨rfl,.inl rfl⟩|exact ⟨rfl,.inr rfl⟩) (zhy (ns:=["many","turn"]) (by decide +kernel) (by intro n hn k;simp only [M3,N0,or_false] at hn;rcases hn with rfl|rfl<;>first|exact .inl rfl|exact .inr rfl)) (by intro p I;simp only [M3,N0,or_false] at I;rcases I with rfl|rfl<;>exact ⟨by decide +kernel,by first|exact .inl rfl|exact .inr rfl⟩) (by decide +kernel) rfl (by decide +kernel) (λ _ _ _ _ _=>(pg_cn (N:=["k","many","turn"]) 0)) (λ _ _ _ _ _=>pf_nil) (λ _ _ _ _ _=>(pe_op op_mod (pe_op (opAddK (K:=KX w.params) rfl) (pv 2) (pv 0)) (pv 1))))
   (z02 (ps_set (i:=9) sc__law_told.nd rfl (Z1 rfl) (zdr slSeq (pv 8) zl1 (zei (pe_op opAdd (pe_op z63 (pv 0) pe_int) pe_int))))
   (z02 (ps_set (i:=10) sc__law_told.nd rfl (Z1 rfl) (zdr slSeq (pv 8) (zei pe_int) (zei (pe_op opAdd (pe_op z63 (pv 0) pe_int) pe_int))))
   (z02 (ps_for w4 rfl (z1c rfl (T.no (z36 _)) (z01 (pv 3) pa_nil)) (z0s (i:=11) sc__law_told.nd rfl (Z1 rfl))
   (z05 (z0d (pe_cal c1 (J.mono (by decide)) rfl (z01 (pv 6) (z01 (pv 1) (z01 (pv 7) (z01 pe_int (z01 (pe_lst (z01 (pv 8) (z01 (pv 8) pa_nil))) (z01 (pv 5) pa_nil))))))))))
   (z02 (z0d (pe_cal c1 (J.mono (by decide)) rfl (z01 (pv 6) (z01 (pv 1) (z01 (pv 7) (z01 pe_int (z01 (pe_lst (z01 (pv 8) pa_nil)) (z01 (pv 5) pa_nil))))))))
   (z02 (z0d (pe_cal c4 (J.mono (by decide)) rfl (z01 (pv 6) (z01 (pv 1) (z01 (pv 7) (z01 (pe_cal c2 (J.mono (by decide)) rfl (z01 (pv 6) (z01 (pv 1) (z01 pe_int (z01 pe_str (z01 (pe_ix ix_seq (pv 8) pe_int (λ _ _=>rfl)) pa_nil)))))) (z01 (pv 5) pa_nil)))))))
   (z02 (z0d (pe_cal c1 (J.mono (by decide)) rfl (z01 (pv 6) (z01 (pv 1) (z01 (pv 7) (z01 (pe_ix ix_seq (pv 4) pe_int (λ _ _=>rfl)) (z01 (pe_lst (z01 (pv 9) (z01 (pv 9) pa_nil))) (z01 (pv 5) pa_nil))))))))
   (z02 (z0d (pe_cal c1 (J.mono (by decide)) rfl (z01 (pv 6) (z01 (pv 1) (z01 (pv 7) (z01 (pe_ix ix_seq (pv 4) pe_int (λ _ _=>rfl)) (z01 (pe_lst (z01 (pv 10) (z01 (pv 10) pa_nil))) (z01 (pv 5) pa_nil))))))))
   (z02 (ps_set (i:=12) sc__law_told.nd rfl (Z1 rfl) (pe_ix ix_seq (zl4 c5 (J.mono (by decide)) rfl (z01 (pv 0) (z01 (pv 1) (z01 (pv 7) (z01 (pv 5) pa_nil))))) pe_int (λ _ _=>rfl)))
   (z05 (ps_ret (pe_cg (xs:=["event"]) (g:=gName 0) (fr:=[]) (pi_tup (pv 12)) (λ _ _ _ _ _=>(pg_cn (N:=["event"]) 0)) (λ _ _ _ _ _=>(pf_one (PW.pt (pw_and (z0b opEq (pe_ix (z2n (K:=KX w.params) rfl) (pv 0) pe_int (λ _ _=>rfl)) pe_str (nomark _)) (z4z (z0b op_gt (pe_ix (z2n (K:=KX w.params) rfl) (pv 0) pe_int (λ _ _=>rfl)) pe_int (nomark _))))))) (λ _ _ _ _ _=>(pe_ix (z2n (K:=KX w.params) rfl) (pv 0) pe_int (λ _ _=>rfl))))))))))))))))),?_⟩
  unfold toldP at G;obtain ⟨S4,G,o5⟩:=Option.bind_eq_some_iff.mp G;obtain ⟨S3,G,o4⟩:=Option.bind_eq_some_iff.mp G;obtain ⟨S2,G,o3⟩:=Option.bind_eq_some_iff.mp G;obtain ⟨S1,o1,o2⟩:=Option.bind_eq_some_iff.mp G;have l5:=z83 o5;have f8:=z83 o4;obtain ⟨c3,o3,c7⟩:=Option.map_eq_some_iff.mp o3;have g6:S3.2.length=S2.2.length + 1:=by rw [<-c7];show (S2.2++[c3]).length=_;rw [I0];rfl
  have g0:=z83 o2;have l6:=g.n6;have pr:=plR_of I;obtain ⟨os,f6,d3⟩:=id pr;refine z0e ⟨_,rfl,_,rfl,m,a,os,f,rfl,by omega,f6,z03 d3,l6,λ C H1 s1 e4=>?_⟩;refine g_name ?_;refine z0e ⟨w_0,λ r a8=>g_name ?_⟩;have fl:=s1.free a8;have k2:Wk (kx w) H f m bk C r (upd H r (.lst [])) (upd H1 r (.lst [])) (f.map λ _=>none) (LM.init m f,[]):=⟨fl,Same.upd fl,z04,Same.upd2 s1,e4.rb (Imm.of (Same.upd (o:=.lst []) a8)) (λ p x _ e z=>by rw [z,a8] at e;cases e),rfl⟩
  generalize upd H1 r (.lst [])=H2 at k2⊢;generalize upd H r (.lst [])=B2 at k2;refine z0e ?_;refine z3w (S:=Same) (n:=m) (λ _=>true) (λ i y _=>y=.int (((turn + i) % m:Nat):Int)) (Same.refl _) (λ _ _ _ a b=>a.trans b) (λ _ _=>Same.refl _) (λ _ _ _ _ s z=>z) (λ R h=>⟨_,rfl,h⟩) (L0 (m:=5) (by omega) (by decide)) (λ k hk H7 s7 KT KF O Y=>?_) λ lo H3 ov s3 f7 fa=>?_
  ·refine ⟨[some (.int (k:Nat))],rfl,rfl,iteT ⟨_,rfl,_,rfl,.inl ⟨_,_,rfl,rfl,_,rfl,_,_,rfl,rfl,(by omega),O rfl _ _ (Same.refl _) ?_⟩⟩⟩;rfl
  have eo:ov=natV (orderP m turn):=by have c6:=z03 fa;rw [List.filter_eq_self.mpr (λ _ _=>rfl),W1] at c6;unfold natV orderP;rw [V2];refine Q5 (by rw [B0,W1,c6]) λ i O Y=>?_;obtain ⟨n,hn,z⟩:=z0f fa (v0 O);rw [List.filter_eq_self.mpr (λ _ _=>rfl),a5 (by omega)] at hn;cases hn;rw [z,O8,j04];rfl
  subst eo;have e6:(orderP m turn).length=m:=by unfold orderP;rw [B0,W1]
  have e2:(natV (orderP m turn))[0]? = some (.int (turn:Nat)):=by unfold natV orderP;rw [V2,K0,a5 (by omega)];show some (V.int (((turn + 0) % m:Nat):Int))=_;rw [Nat.add_zero,Nat.mod_eq_of_lt ht]
  have g3:(natV (orderP m turn)).length=m:=by unfold natV;rw [B0,e6]
  obtain ⟨h4,B4,e5,b6,k4⟩:=(k2.same s3).put (.lst (natV (orderP m turn))) f7;generalize upd H3 lo (.lst (natV (orderP m turn)))=H4 at k4⊢;refine g_name ?_;refine z0e ⟨_,rfl,_,rfl,_,_,rfl,rfl,⟨by decide,by decide⟩,.inl ⟨_,_,rfl,rfl,_,rfl,.inl ⟨lo,_,rfl,SqL.of (k4.s _ _ (k4.hB _ _ b6)),λ L e1=>g_name ?_⟩⟩⟩;rw [show (m:Int) / 2 + 1=((m / 2 + 1:Nat):Int) by omega,zln,show (natV (orderP m turn)).take (m / 2 + 1)=natV ((orderP m turn).take (m / 2 + 1)) from List.map_take.symm];obtain ⟨g2,B5,d0,e9,k5⟩:=k4.put (.lst (natV ((orderP m turn).take (m / 2 + 1)))) e1;generalize upd H4 L (.lst (natV ((orderP m turn).take (m / 2 + 1))))=H5 at k5⊢;have b8:=d0 _ _ b6;refine z0e ⟨_,rfl,_,rfl,_,rfl,_,_,rfl,rfl,⟨by decide,by decide⟩,.inl ⟨_,_,rfl,rfl,_,rfl,.inl ⟨lo,_,rfl,SqL.of (k5.s _ _ (k5.hB _ _ b8)),λ lt d6=>g_name ?_⟩⟩⟩;rw [show (m:Int) / 2 + 2=((m / 2 + 1 + 1:Nat):Int) by omega,zko _ _ (by omega),show ((natV (orderP m turn)).drop 1).take (m / 2 + 1)=natV (((orderP m turn).drop 1).take (m / 2 + 1)) by unfold natV;rw [List.map_take,List.map_drop]];obtain ⟨b4,B6,a6,b3,k6⟩:=k5.put (.lst (natV (((orderP m turn).drop 1).take (m / 2 + 1)))) d6;generalize upd H5 lt (.lst (natV (((orderP m turn).drop 1).take (m / 2 + 1))))=H6 at k6⊢;have a4:=a6 _ _ b8;have b7:=a6 _ _ e9;have a3:=e5.trans (d0.trans a6);have Z:=pr.same a3;have c8:=a3 _ _ d1;refine ⟨_,rfl,_,rfl,by omega,by omega,?_⟩;refine z44 (lo:=0) (n:=elder) (λ i σ H'=>∃B es S0 x11,Wk (kx w) b4 f m bk C r B H' es S0/\(O0 (elder - i)).foldl (λ S _=>S.bind (dealP f bk 0 [orderP m turn,orderP m turn])) (some S0)=some S1/\σ=[some (.int m),some (.ref a),some (.int turn),some (.int elder),some (.ref rd),some (.bl bk),some (.ref C.st),some (.ref r),some (.ref lo),some (.ref L),some (.ref lt),x11,none]) ⟨B6,_,_,_,k6,o1,rfl⟩ ?_ ?_
  ·rintro i σ H7 hi ⟨B7,es7,S0,x11,k7,e7,rfl⟩;refine g_name ?_;rw [show elder - i=elder - (i + 1) + 1 by omega,zas] at e7;cases z:dealP f bk 0 [orderP m turn,orderP m turn] S0 with
   | none=>rw [show (some S0).bind (dealP f bk 0 [orderP m turn,orderP m turn])=_ from z,z9s] at e7;cases e7
   | some S0'=>
   rw [show (some S0).bind (dealP f bk 0 [orderP m turn,orderP m turn])=_ from z] at e7;have l0:=zhv (λ _ _=>z83) _ e7;refine ⟨_,rfl,_,rfl,_,rfl,_,rfl,_,rfl,w_2,λ rl b0=>?_⟩;obtain ⟨X,W,c,U,u⟩:=k7.put (.lst [.ref lo,.ref lo]) b0;generalize upd H7 rl (.lst [.ref lo,.ref lo])=H8 at u⊢;have b9:=c _ _ a4;exact ⟨_,rfl,C,a,r,rl,0,m,bk,X,W,es7,S0,S0',f,_,_,rfl,u,Z.same c,g,F,U,.cons ⟨lo,rfl,b9⟩ (.cons ⟨lo,rfl,b9⟩ .nil),z,by omega,λ B' d4 H' k'=>⟨B',d4,S0',_,k'.less c,e7,rfl⟩⟩
  rintro σ H7 ⟨B7,es7,S0,x11,k7,e7,rfl⟩;rw [Y7] at e7;cases e7;refine ⟨_,rfl,_,rfl,_,rfl,_,rfl,w_1,λ rl b0=>?_⟩;obtain ⟨X,W,c,U,u⟩:=k7.put (.lst [.ref lo]) b0;generalize upd H7 rl (.lst [.ref lo])=H8 at u⊢;refine ⟨_,rfl,C,a,r,rl,0,m,bk,X,W,es7,S1,S2,f,_,_,rfl,u,Z.same c,g,F,U,.cons ⟨lo,rfl,c _ _ a4⟩ .nil,o2,by omega,λ B9 b2 H9 D=>t_nx ?_⟩;have D:=D.less c;have e3:=D.ok g F (by omega);refine ⟨_,rfl,_,rfl,_,rfl,_,rfl,_,rfl,_,rfl,.inl ⟨lo,_,0,.int (turn:Nat),rfl,rfl,SqL.of (D.s _ _ (D.hB _ _ a4)),z06 (j:=0) e2,C,a,0,true,turn,B9,b2,S2.1,f,900,c3,rfl,D.lw,Z.same D.hB,l6,e3,by decide,D.s,o3,λ g4 f0=>?_⟩⟩;refine ⟨_,rfl,C,a,r,c3,m,bk,b4,B9,b2,S2,f,rfl,D.same f0,Z,g,F,by omega,zdf o3,λ f9 d7 d5 a2=>t_nx ?_⟩;rw [c7] at a2;refine ⟨_,rfl,_,rfl,_,rfl,_,rfl,.inl ⟨rd,_,0,.int (r0:Nat),rfl,rfl,SqL.of (a2.s _ _ (a2.hB _ _ c8)),z06 (j:=0) rfl,_,rfl,_,rfl,w_2,λ r2 f1=>?_⟩⟩;obtain ⟨X,W,c,U,u⟩:=a2.put (.lst [.ref L,.ref L]) f1;generalize upd d5 r2 (.lst [.ref L,.ref L])=H8 at u⊢;refine ⟨_,rfl,C,a,r,r2,r0,m,bk,X,W,d7,S3,S4,f,_,_,rfl,u,Z.same c,g,F,U,.cons ⟨L,rfl,c _ _ b7⟩ (.cons ⟨L,rfl,c _ _ b7⟩ .nil),o4,by omega,λ g1 d9 f3 a0=>t_nx ?_⟩;have a0:=a0.less c;refine ⟨_,rfl,_,rfl,_,rfl,_,rfl,.inl ⟨rd,_,1,.int (r1:Nat),rfl,rfl,SqL.of (a0.s _ _ (a0.hB _ _ c8)),z06 (j:=1) rfl,_,rfl,_,rfl,w_2,λ r3 f5=>?_⟩⟩;obtain ⟨X,W,c,U,u⟩:=a0.put (.lst [.ref lt,.ref lt]) f5;generalize upd f3 r3 (.lst [.ref lt,.ref lt])=H8 at u⊢;refine ⟨_,rfl,C,a,r,r3,r1,m,bk,X,W,d9,S4,S,f,_,_,rfl,u,Z.same c,g,F,U,.cons ⟨lt,rfl,c _ _ b3⟩ (.cons ⟨lt,rfl,c _ _ b3⟩ .nil),o5,by omega,λ g8 g9 g5 M=>t_nx ?_⟩;have M:=M.less c;have b5:=a3.trans (M.hB.trans M.s);have ec:=M.s _ _ M.el;rw [zi1] at ec;refine z0e ⟨_,rfl,_,rfl,_,rfl,_,rfl,m,a,r,bk,S.2.map λ (n:Nat)=>(n:Int),f,rfl,F,I.same b5,g,ec,by rw [B0];omega,λ t a7 d2 c9=>?_⟩;rw [cm_of bk F,<-M.wk] at c9;have vl:=(M.ok g F (by omega)).vl;obtain ⟨tp,xs,rfl,et,x1,r1,rfl,O,x2,r2,rfl,Y,h3⟩:=c9;cases (show r2=[] from h3);obtain ⟨ep,ys,rfl,ee,b1⟩:=Y;have al:All2 (EvV a7) S.1.events ys:=z00 (λ _ _ z=>ev_of z) (z85 b1);have f4:=z03 al;refine .inr (.inl ⟨tp,_,1,.ref ep,rfl,rfl,SqT.of et,z06 (j:=1) rfl,g_name ?_⟩);have e0:Same H a7:=b5.trans d2;have d8:ys.length<=1000:=by omega
  clear b1 et O;refine sq_ret ?_;refine zbs (K:=KX w.params) (a:=ep) (xs:=ys) (H1:=a7) (λ i=>((S.1.events[i]?).bind endsP).isSome) (λ i y _=>∃z,(S.1.events[i]?).bind endsP=some z/\y=avD z) (λ _ _ _ _ _ z=>z) (λ R h=>⟨_,rfl,h⟩) (SqT.of ee) (L0 d8 (by decide)) (λ i hi v f2 a9 hv KT KF O Y=>?_) λ l f2 zs a9 hl fa=>?_
  ·obtain ⟨e,he,hd⟩:=z0f al hv;have hd:=hd.imm (Imm.of a9);rw [he] at O Y;refine ⟨[some v],rfl,rfl,?_⟩;cases e with
   | beg k d=>obtain ⟨p,rfl,a1⟩:=hd;exact t_and ⟨_,rfl,.inr (.inl ⟨p,_,0,_,rfl,rfl,SqT.of a1,z06 (j:=0) rfl,rfl,_,rfl,iteK (iteF (Y rfl _ (Same.refl _)))⟩)⟩
   | fin k z=>
    obtain ⟨p,rfl,a1⟩:=hd;refine t_and ⟨_,rfl,.inr (.inl ⟨p,_,0,_,rfl,rfl,SqT.of a1,z06 (j:=0) rfl,rfl,_,rfl,iteP (decide_eq_true rfl) ?_⟩)⟩;refine ⟨_,rfl,.inr (.inl ⟨p,_,1,_,rfl,rfl,SqT.of a1,z06 (j:=1) rfl,_,_,rfl,rfl,_,rfl,?_⟩)⟩;refine ite2 (λ y=>?_) λ y=>?_
    ·have y:=of_decide_eq_true y;have ez:endsP (.fin k z)=some z:=if_neg (by omega);exact ⟨_,rfl,.inr (.inl ⟨p,_,2,_,rfl,rfl,SqT.of a1,z06 (j:=2) rfl,O (by show (endsP (.fin k z)).isSome=true;rw [ez];rfl) _ _ (Same.refl _) ⟨z,ez,rfl⟩⟩)⟩
    ·have y:¬ (0:Int) < (k:Nat):=λ z=>y (decide_eq_true z);have ez:endsP (.fin k z)=none:=if_pos (by omega);exact Y (by show (endsP (.fin k z)).isSome=false;rw [ez];rfl) _ (Same.refl _)
  ·refine q _ _ (e0.trans (a9.trans (Same.upd hl))) ?_;rw [z04,fa_fm (λ i=>(S.1.events[i]?).bind endsP) _ fa,fm_rng endsP S.1.events,f4]
section
variable {X:Cx}
noncomputable def rEqS:R2:=λ x y H Q=>∃ds,HPd H (.list ds) x/\HPd H (.list ds) y/\C4 ds<=49/\Q (.bl true) H
theorem op_eqS {k:Nat} (hr:Room k X.A):OpR X (E3 .Eq) rEqS:=by
 intro O s σ H x y u v Q I D r h;obtain ⟨d,t,o,P,q⟩:=h;have N:=hr.units;obtain ⟨a,G,rfl,E,f⟩:=t;obtain ⟨b,m,rfl,p,c⟩:=o;cases (show u=.ref a from D);cases (show v=.ref b from r);obtain ⟨J,i,C,_⟩:=I.list (SqL.of E);obtain ⟨B,g,z,_⟩:=I.list (SqL.of p);have M:=i.length;have L:=g.length;have R:=f.length;have K:=c.length;have l:SeqAt.RcAt X.A s (.ref a) (.ref b) true:=by
  have:=j3h (A:=X.A) (e:=λ _=>true) C.isList z.isList (by simp;omega) (by omega) (λ j n F=>?_)
  ·rwa [z88] at this
  ·have:=z4n I d X.A.in1 G m J B f c i g (show X.A.units + 1 + C4 d + 1 < cLine by omega) j (by simpa using n) (by simpa using F);simpa using this
 exact l X.prog X.w _ _ ⟨.bl _,H,I,rfl,q⟩
end
theorem zio (ws:List Int) (r:Nat):(plnP ws r).flatten.filterMap id=ws/\(plnP ws r).length=3/\(plnP ws r).flatten.length=ws.length + 2:=by
 unfold plnP;have a:(ws.map some).filterMap id=ws:=by rw [j06];exact List.filterMap_some
 split
 ·refine ⟨?_,rfl,?_⟩
  ·rw [D8,u7,a];exact C3 _
  ·rw [D8,I0,B0];rfl
 ·refine ⟨?_,rfl,?_⟩
  ·rw [D8,u7,a];exact C3 _
  ·rw [D8,I0,B0];rfl
theorem pln_g {a s:Int} {e r:Nat} (ha:0 < a) (hs:0 < s) (he:e < 5) (hb:a + 4 * s<=1000000000):PlG (plnP (wsOf a s e) r):=by
 obtain ⟨c,j,n⟩:=zio (wsOf a s e) r;have g:(wsOf a s e).length=e + 1:=by unfold wsOf;rw [B0,W1]
 have d :∀i∈wsOf a s e,0 < i/\i<=1000000000:=λ i b=>by obtain ⟨k,f,rfl⟩:=List.mem_map.mp b;have f:=List.mem_range.mp f;have m:0<=(k:Int) * s:=Int.mul_nonneg (by omega) (by omega);have l:(k:Int) * s<=4 * s:=Int.mul_le_mul_of_nonneg_right (by omega) (by omega);omega
 refine ⟨by omega,by omega,by omega,?_,?_,?_⟩
 ·rw [c];refine List.pairwise_map.mpr (List.nodup_range.imp λ h z=>h ?_);have z:_ * s=_ * s:=Int.add_left_cancel z;have:=Int.eq_of_mul_eq_mul_right (by omega) z;omega
 ·rw [c];exact λ z=>absurd (d 0 z).1 (by decide)
 ·rw [c];exact λ i b=>⟨by have:=(d i b).1;omega,(d i b).2⟩
theorem lst_c {t:TE} {r:TA} {σ:L2.St} {H:Hp} {Q:VK} (h:t σ H λ x H1=>r σ H1 λ xs H2=>(x :: xs).length<=sizeLine/\∀p,H2 p=none->Q (.ref p) (upd H2 p (.lst (x :: xs)))):tLst (tCons t r) σ H Q:=h
theorem row_w {H:Hp} {b:Addr} {ws:List Int} {pv:List V} (eb:H b=some (.lst pv)) (fa:All2 (λ (i:Nat) y=>∃z,ws[i]? = some z/\HPd H (ddP (some z)) y) ((O0 ws.length).filter λ _=>true) pv):HPd H (.list ((ws.map some).map ddP)) (.ref b):=by rw [List.filter_eq_self.mpr (λ _ _=>rfl)] at fa;have c:=z03 fa;rw [W1] at c;refine ⟨b,pv,rfl,eb,z9j (z1j (by rw [B0,c]) λ i z v d g=>?_)⟩;rw [K0] at d;obtain ⟨t,e,rfl⟩:=Option.map_eq_some_iff.mp d;obtain ⟨j,f,k,a,h⟩:=z0f fa g;rw [a5 (List.getElem?_eq_some_iff.mp e).1] at f;cases f;rw [e] at a;cases a;exact h
theorem zfb (a s:Int) (e:Nat):atI ((wsOf a s e).map V.int) (-1)=some (.int (wAt a s ((e:Int) + 1))):=by unfold wsOf;rw [K7,P1,P1];refine (ziw _ _).trans ?_;unfold wAt;rw [if_neg (by omega),Int.add_sub_cancel]
theorem zjq (a s:Int) (e:Nat):([V.int 0]++(wsOf a s e).map V.int)[e]? = some (.int (wAt a s (e:Int))):=by
 cases e with
 | zero=>rfl
 | succ k=>unfold wsOf wAt;rw [if_neg (by omega),List.singleton_append,Z2,V2,K0,a5 (by omega)];show some (V.int (a + (k:Int) * s))=_;rw [show ((k + 1:Nat):Int) - 1=(k:Int) by omega]
def sp_law (K:j0):Sp:=λ vs H Q _=>∃(sc:Addr) (ns:List Int),vs=[.ref sc]/\SqL K H sc (ns.map V.int)/\ns.length<=63/\∀H',Q (.bl true) H'
theorem ok_law (T:TX (kx w) mg) (c1:Ca P w mg base "_law_cell_at" ["script","k"] 1 (z37 (kx w))) (c2:Ca P w mg base "_law_parts" ["cell","least"] 2 z52) (c3:Ca P w mg base "_law_told" ["many","plan","turn","elder","readers","back"] 10 (z5h (kx w))):Fo P w mg base CX0 11 493 fd_law ["script"] (sp_law (kx w)):=by
 refine (F_law w.params).ok sc_law (λ vs H Q E h=>?_) (λ g2 A g3 s H vs Q E hr h=>?_)
 ·obtain ⟨sc,ns,rfl,_⟩:=h;rfl
 ·obtain ⟨sc,ns,rfl,sq,hn,q⟩:=h;refine q_of (z2r (QS.mk (ps_set (i:=1) sc_law.nd rfl (Y1 rfl) (pe_cal c2 (hr.mono (by decide)) rfl (z01 (pe_cal c1 (hr.mono (by decide)) rfl (z01 (pv 0) (z01 pe_int pa_nil))) (z01 (pe_lst (z01 pe_int (z01 pe_int (z01 pe_int (z01 pe_int (z01 pe_int (z01 pe_int pa_nil))))))) pa_nil)))))
   (z2r (QS.mk (ps_set (i:=2) sc_law.nd rfl (Z1 rfl) (pe_op opAdd pe_int (pe_op op_mul pe_int (pe_ix ix_seq (pv 1) pe_int (λ _ _=>rfl))))))
   (z2r (QS.mk (zbg (i:=3) sc_law.nd rfl (Z1 rfl) (xs:=["k"]) (g:=gName 0) (fr:=[(1,"xs")]) rfl (z1c rfl (T.no (z36 _)) (z01 (pe_op opAdd (pe_ix ix_seq (pv 1) pe_int (λ _ _=>rfl)) pe_int) pa_nil)) (by intro p hp;obtain rfl:=List.mem_singleton.mp hp;first|exact ⟨rfl,.inl rfl⟩|exact ⟨rfl,.inr rfl⟩) (ze1 (n:="xs") (by decide +kernel) (λ _=>by first|exact .inl rfl|exact .inr rfl)) (by intro p hp;obtain rfl:=List.mem_singleton.mp hp;exact ⟨by decide +kernel,by first|exact .inl rfl|exact .inr rfl⟩) (by decide +kernel) rfl (by decide +kernel) (λ _ _ _ _ _=>(pg_cn (N:=["k","xs"]) 0)) (λ _ _ _ _ _=>pf_nil) (λ _ _ _ _ _=>(pe_op (opAddK (K:=KX w.params) rfl) (pe_op (opAddK (K:=KX w.params) rfl) pe_int (pe_ix (z2n (K:=KX w.params) rfl) (pv 1) pe_int (λ _ _=>rfl))) (pe_op op_mul (pv 0) (pe_op (opAddK (K:=KX w.params) rfl) pe_int (pe_ix (z2n (K:=KX w.params) rfl) (pv 1) pe_int (λ _ _=>rfl))))))))
   (z2r (QS.mk (ps_set (i:=4) sc_law.nd rfl (Z1 rfl) (pe_lst (z01 pe_int (z01 (pe_op opAdd pe_int (pe_ix ix_seq (pv 1) pe_int (λ _ _=>rfl))) pa_nil)))))
   (z2r (QS.mk (ps_set (i:=5) sc_law.nd rfl (Z1 rfl) (pe_lst (z01 (pe_cg (xs:=["worth"]) (g:=gName 0) (fr:=[]) (z1e (pv 3)) (λ _ _ _ _ _=>(pg_cn (N:=["worth"]) 0)) (λ _ _ _ _ _=>pf_nil) (λ _ _ _ _ _=>(pe_tup (z01 pe_str (z01 (pv 0) pa_nil))))) (z01 (pe_lst (z01 (pe_tup (z01 pe_str (z01 pe_non pa_nil))) pa_nil)) (z01 (pe_lst (z01 (pe_tup (z01 pe_str (z01 pe_non pa_nil))) pa_nil)) pa_nil))))))
   (z2r (QS.mk (ps_if (z0b opEq (pe_ix ix_seq (pv 1) pe_int (λ _ _=>rfl)) pe_int (nomark _))
   (z05 (ps_set (i:=5) sc_law.nd rfl (Z1 rfl) (pe_lst (z01 (pe_ix ix_seq (pv 5) pe_int (λ _ _=>rfl)) (z01 (pe_lst (z01 (pe_tup (z01 pe_str (z01 pe_non pa_nil))) (z01 (pe_tup (z01 pe_str (z01 pe_non pa_nil))) pa_nil))) (z01 (pe_lst pa_nil) pa_nil))))))
   z0j))
   (z2r (qs_set (i:=6) sc_law.nd rfl (Z1 rfl) (qe_ix ix_seq (qe_op opAdd (qe_lst (zkj (QE.mk pe_int) qa_nil)) (QE.mk (pv 3))) (QE.mk (pe_ix ix_seq (pv 1) pe_int (λ _ _=>rfl))) (λ _ _=>rfl)))
   (z2r (QS.mk (ps_if (z0b (op_neS hr) (pe_cal c3 (hr.mono (by decide)) rfl (z01 (pv 2) (z01 (pv 5) (z01 (pe_op op_mod (pe_ix ix_seq (pv 1) pe_int (λ _ _=>rfl)) (pv 2)) (z01 (pe_ix ix_seq (pv 1) pe_int (λ _ _=>rfl)) (z01 (pv 4) (z01 pe_bl pa_nil))))))) (pe_lst (z01 (pe_ix ix_seq (pv 3) (pe_un un_neg pe_int) (λ _ _=>rfl)) (z01 (pv 6) pa_nil))) (nomark _))
   (z05 (ps_ret pe_bl))
   z0j))
   (zk6 (QS.mk (ps_ret (z33 (op_eqS hr) (pe_cal c3 (hr.mono (by decide)) rfl (z01 (pv 2) (z01 (pv 5) (z01 (pe_op op_mod (pe_ix ix_seq (pv 1) pe_int (λ _ _=>rfl)) (pv 2)) (z01 (pe_ix ix_seq (pv 1) pe_int (λ _ _=>rfl)) (z01 (pv 4) (z01 pe_bl pa_nil))))))) (pe_lst (z01 (pe_ix ix_seq (pv 3) (pe_un un_neg pe_int) (λ _ _=>rfl)) (z01 (pe_ix ix_seq (pv 3) (pe_un un_neg pe_int) (λ _ _=>rfl)) pa_nil))) (nomark _))))))))))))) ?_
  refine z0e ?_;refine ⟨_,rfl,sc,ns,0,rfl,sq,λ c0=>⟨w_6,λ l1 f0=>?_⟩⟩;have s1:=Same.upd (o:=.lst [V.int 2,.int 5,.int 5,.int 2,.int 400000000,.int 2000000]) f0;have e1:upd H l1 (.lst [V.int 2,.int 5,.int 5,.int 2,.int 400000000,.int 2000000]) l1=some (.lst (([2,5,5,2,400000000,2000000]:List Int).map V.int)):=z04;generalize upd H l1 (.lst [V.int 2,.int 5,.int 5,.int 2,.int 400000000,.int 2000000])=H1 at s1 e1⊢;refine ⟨c0,l1,[2,5,5,2,400000000,2000000],rfl,e1,by decide,by decide,λ u xs H2 s2 _ ex f1 W=>g_name ?_⟩;obtain ⟨x0,x1,x2,x3,U,x5,rfl⟩ :∃x0 x1 x2 x3 U x5,xs=[x0,x1,x2,x3,U,x5]:=by
   match xs,f1 with
   | [x0,x1,x2,x3,U,x5],_=>exact ⟨_,_,_,_,_,_,rfl⟩
  have b0:=W 0 x0 _ rfl rfl;have b1:=W 1 x1 _ rfl rfl;have b2:=W 2 x2 _ rfl rfl;have b3:=W 3 x3 _ rfl rfl;have b4:=W 4 U _ rfl rfl;have b5:=W 5 x5 _ rfl rfl;clear W;obtain ⟨c,rfl⟩ :∃m:Nat,x0=(m:Nat):=⟨x0.toNat,by omega⟩
  obtain ⟨e,rfl⟩ :∃m:Nat,x2=(m:Nat):=⟨x2.toNat,by omega⟩
  obtain ⟨r,rfl⟩ :∃m:Nat,x3=(m:Nat):=⟨x3.toNat,by omega⟩
  have d6:r < 2:=by omega
  have b8:e < 5:=by omega
  have e2:c < 2:=by omega
  refine z0e ⟨_,rfl,.inl ⟨u,_,0,.int (c:Nat),rfl,rfl,SqL.of ex,z06 (j:=0) rfl,2,_,rfl,rfl,.inl ⟨by decide,by decide⟩,.inl ⟨_,_,rfl,rfl,g_name ?_⟩⟩⟩;rw [show (3:Int) + 2 * (c:Int)=((3 + 2 * c:Nat):Int) by omega];refine z0e ?_;refine z3w (S:=Same) (n:=e + 1) (λ _=>true) (λ i y _=>y=.int (1 + U + (i:Int) * (1 + x5))) (Same.refl _) (λ _ _ _ a b=>a.trans b) (λ _ _=>Same.refl _) (λ _ _ _ _ s z=>z) (λ R h=>⟨_,rfl,.inl ⟨u,_,2,.int (e:Nat),rfl,rfl,SqL.of ex,z06 (j:=2) rfl,.inl ⟨_,_,rfl,rfl,h⟩⟩⟩) (L0 (m:=5) (by omega) (by decide)) (λ k hk H7 s7 KT KF l x=>?_) λ D H3 wv s3 e4 L=>?_
  ·refine ⟨[some (.int (k:Nat))],rfl,rfl,iteT ⟨_,rfl,.inl ⟨u,_,4,.int U,rfl,rfl,SqL.of (s7 _ _ ex),z06 (j:=4) rfl,.inl ⟨_,_,rfl,rfl,_,rfl,_,rfl,.inl ⟨u,_,5,.int x5,rfl,rfl,SqL.of (s7 _ _ ex),z06 (j:=5) rfl,.inl ⟨_,_,rfl,rfl,_,_,rfl,rfl,.inl ⟨by omega,by omega⟩,.inl ⟨_,_,rfl,rfl,l rfl _ _ (Same.refl _) rfl⟩⟩⟩⟩⟩⟩⟩
  obtain ⟨a,ha⟩ :∃a,a=1 + U:=⟨_,rfl⟩
  obtain ⟨s,hs⟩ :∃s,s=1 + x5:=⟨_,rfl⟩
  rw [<-ha,<-hs] at L;have ew:wv=(wsOf a s e).map V.int:=by have d9:=z03 L;rw [List.filter_eq_self.mpr (λ _ _=>rfl),W1] at d9;unfold wsOf;rw [V2];refine Q5 (by rw [B0,W1,d9]) λ i l x=>?_;obtain ⟨n,hn,z⟩:=z0f L (v0 l);rw [List.filter_eq_self.mpr (λ _ _=>rfl),a5 (by omega)] at hn;cases hn;rw [z,O8,j04];rfl
  subst ew;have s4:=s3.trans (Same.upd (o:=.lst ((wsOf a s e).map V.int)) e4);have ew:upd H3 D (.lst ((wsOf a s e).map V.int)) D=some (.lst ((wsOf a s e).map V.int)):=z04;generalize upd H3 D (.lst ((wsOf a s e).map V.int))=H4 at s4 ew⊢;have c5:=s4 _ _ ex;clear L s3 e4;refine g_name ?_;refine z0e ⟨_,rfl,.inl ⟨u,_,3,.int (r:Nat),rfl,rfl,SqL.of c5,z06 (j:=3) rfl,.inl ⟨_,_,rfl,rfl,w_2,λ lr f8=>g_name ?_⟩⟩⟩;rw [show (1:Int) + (r:Int)=((1 + r:Nat):Int) by omega];have s5:=Same.upd (o:=.lst [.int 1,.int ((1 + r:Nat):Int)]) f8;have er:upd H4 lr (.lst [.int 1,.int ((1 + r:Nat):Int)]) lr=some (.lst [.int ((1:Nat):Int),.int ((1 + r:Nat):Int)]):=z04;generalize upd H4 lr (.lst [.int 1,.int ((1 + r:Nat):Int)])=H5 at s5 er⊢;have d2:=s5 _ _ ew;have e8:(wsOf a s e).length=e + 1:=by unfold wsOf;rw [B0,W1]
  refine z0e ?_;refine lst_c ?_;refine z1v (K:=KX w.params) (a:=D) (xs:=(wsOf a s e).map V.int) (H1:=H5) (λ _=>true) (λ i y H'=>∃z,(wsOf a s e)[i]? = some z/\HPd H' (ddP (some z)) y) (λ _ _ _ _ s z=>z.elim λ z h=>⟨z,h.1,h.2.same s⟩) (λ R h=>⟨_,rfl,h⟩) (SqL.of d2) (L0 (m:=5) (by rw [B0];omega) (by decide)) (λ i hi v H9 s9 hv KT KF l x=>?_) λ F H6 pv s6 d5 L=>?_
  ·rw [K0] at hv;obtain ⟨z,hz,rfl⟩:=Option.map_eq_some_iff.mp hv;exact ⟨[some (.int z)],rfl,rfl,iteT ⟨_,rfl,w_2,λ p hp=>l rfl _ _ (Same.upd hp) ⟨z,hz,p,_,rfl,z04,_,_,rfl,rfl,_,_,rfl,rfl,rfl⟩⟩⟩
  rw [B0] at L;have t6:=Same.upd (o:=.lst pv) d5;have a8:=row_w (b:=F) (z04 (H:=H6)) (z00 (λ _ _ z=>z.elim λ z h=>⟨z,h.1,h.2.same t6⟩) L);have s7:=s6.trans t6;generalize upd H6 F (.lst pv)=H7 at a8 s7⊢;clear L t6 s6 d5;refine ⟨w_2,λ p1 e7=>⟨w_1,λ J e0=>⟨w_2,λ M b9=>⟨w_1,λ G a6=>⟨w_3,λ lq a2=>g_name ?_⟩⟩⟩⟩⟩;have d:=Same.upd (o:=.tup [.str "read",.non]) e7;have l:HPd (upd H7 p1 (.tup [.str "read",.non])) (ddP none) (.ref p1):=⟨p1,_,rfl,z04,_,_,rfl,rfl,_,_,rfl,rfl,rfl⟩
  generalize upd H7 p1 (.tup [.str "read",.non])=H8 at d l e0 b9 a6 a2⊢;have f:=Same.upd (o:=.lst [.ref p1]) e0;have x:HPd (upd H8 J (.lst [.ref p1])) (.list ([none].map ddP)) (.ref J):=⟨J,_,rfl,z04,_,_,rfl,l.same f,rfl⟩
  generalize upd H8 J (.lst [.ref p1])=H9 at f x b9 a6 a2⊢;have t:=Same.upd (o:=.tup [.str "read",.non]) b9;have O:HPd (upd H9 M (.tup [.str "read",.non])) (ddP none) (.ref M):=⟨M,_,rfl,z04,_,_,rfl,rfl,_,_,rfl,rfl,rfl⟩
  generalize upd H9 M (.tup [.str "read",.non])=H10 at t O a6 a2⊢;have C:=Same.upd (o:=.lst [.ref M]) a6;have I:HPd (upd H10 G (.lst [.ref M])) (.list ([none].map ddP)) (.ref G):=⟨G,_,rfl,z04,_,_,rfl,O.same C,rfl⟩
  generalize upd H10 G (.lst [.ref M])=H11 at C I a2⊢;have B:=Same.upd (o:=.lst [.ref F,.ref J,.ref G]) a2;have Z:=d.trans (f.trans (t.trans (C.trans B)));have a4:upd H11 lq (.lst [.ref F,.ref J,.ref G]) lq=some (.lst [.ref F,.ref J,.ref G]):=z04;generalize upd H11 lq (.lst [.ref F,.ref J,.ref G])=H12 at B a4 Z⊢;have c4:=a8.same Z;have x:=x.same (t.trans (C.trans B));have I:=I.same B;have b6:=s7.trans Z;have e9:=s5.trans b6;have e3:=e9 _ _ c5;refine zdw (λ σ' H'=>∃pa,Same H12 H'/\HPd H' (.list (rowsP (plnP (wsOf a s e) r))) (.ref pa)/\σ'=[some (.ref sc),some (.ref u),some (.int ((3 + 2 * c:Nat):Int)),some (.ref D),some (.ref lr),some (.ref pa),none]) ?_ λ go=>?_;rotate_left
  ·refine z1y ⟨_,rfl,.inl ⟨u,_,3,.int (r:Nat),rfl,rfl,SqL.of e3,z06 (j:=3) rfl,rfl,_,rfl,?_⟩⟩;refine ite2 (λ z=>?_) λ z=>?_
   ·have z:r=0:=by have z:=of_decide_eq_true z;injection z with z;omega
    refine ⟨_,rfl,.inl ⟨lq,_,0,.ref F,rfl,rfl,SqL.of a4,z06 (j:=0) rfl,w_2,λ X f7=>⟨w_2,λ Y e6=>⟨w_2,λ u3 b7=>⟨w_0,λ u4 a3=>⟨w_3,λ u5 a1=>g_name ?_⟩⟩⟩⟩⟩⟩;clear l O d f t C B;have d:=Same.upd (o:=.tup [.str "read",.non]) f7;have l:HPd (upd H12 X (.tup [.str "read",.non])) (ddP none) (.ref X):=⟨X,_,rfl,z04,_,_,rfl,rfl,_,_,rfl,rfl,rfl⟩
    generalize upd H12 X (.tup [.str "read",.non])=G1 at d l e6 b7 a3 a1⊢;have f:=Same.upd (o:=.tup [.str "read",.non]) e6;have x:HPd (upd G1 Y (.tup [.str "read",.non])) (ddP none) (.ref Y):=⟨Y,_,rfl,z04,_,_,rfl,rfl,_,_,rfl,rfl,rfl⟩
    generalize upd G1 Y (.tup [.str "read",.non])=G2 at f x b7 a3 a1⊢;have t:=Same.upd (o:=.lst [.ref X,.ref Y]) b7;have O:HPd (upd G2 u3 (.lst [.ref X,.ref Y])) (.list ([none,none].map ddP)) (.ref u3):=⟨u3,_,rfl,z04,_,_,rfl,l.same (f.trans t),_,_,rfl,x.same t,rfl⟩
    generalize upd G2 u3 (.lst [.ref X,.ref Y])=G3 at t O a3 a1⊢;have C:=Same.upd (o:=.lst []) a3;have I:HPd (upd G3 u4 (.lst [])) (.list (([]:List (Option Int)).map ddP)) (.ref u4):=⟨u4,_,rfl,z04,rfl⟩
    generalize upd G3 u4 (.lst [])=G4 at C I a1⊢;have B:=Same.upd (o:=.lst [.ref F,.ref u3,.ref u4]) a1;have Z:=d.trans (f.trans (t.trans (C.trans B)));refine go _ _ ⟨u5,Z,?_,rfl⟩;rw [show plnP (wsOf a s e) r=[(wsOf a s e).map some,[none,none],[]] from if_pos z];exact ⟨u5,_,rfl,z04,_,_,rfl,c4.same Z,_,_,rfl,O.same (C.trans B),_,_,rfl,I.same B,rfl⟩
   ·have nz:r≠0:=λ y=>z (by rw [y];exact decide_eq_true rfl);refine go _ _ ⟨lq,Same.refl _,?_,rfl⟩;rw [show plnP (wsOf a s e) r=[(wsOf a s e).map some,[none],[none]] from if_neg nz];exact ⟨lq,_,rfl,a4,_,_,rfl,c4,_,_,rfl,x,_,_,rfl,I,rfl⟩
  clear l x O I d f t C B a8 c4 a4 Z;rintro σ f4 ⟨pa,s13,hpl,rfl⟩;have d7:=s13 _ _ e3;have e5:=s13 _ _ (b6 _ _ d2);have f6:=s13 _ _ (b6 _ _ er);refine z0e ⟨w_1,λ z1 c6=>⟨_,rfl,.inr (.inr (.inl ⟨z1,D,_,_,rfl,rfl,z04,(Same.upd c6) _ _ e5,L0 (m:=6) (by rw [B0,e8];show 1 + (e + 1)<=6;omega) (by decide),λ z2 f3=>?_⟩))⟩⟩;have d:=(Same.upd (o:=.lst [.int 0]) c6).trans (Same.upd (o:=.lst ([V.int 0]++(wsOf a s e).map V.int)) f3);refine ⟨_,rfl,.inl ⟨u,_,2,.int (e:Nat),rfl,rfl,SqL.of (d _ _ d7),z06 (j:=2) rfl,.inl ⟨z2,_,_,_,rfl,rfl,SqL.of z04,z06 (zjq a s e),g_name ?_⟩⟩⟩;generalize upd (upd f4 z1 (.lst [.int 0])) z2 (.lst ([V.int 0]++(wsOf a s e).map V.int))=H14 at d⊢;have a7:=d _ _ d7;have d3:=d _ _ e5;have d0:=d _ _ f6;have c9:=hpl.same d;obtain ⟨n1,rfl⟩ :∃m:Nat,x1=(m:Nat):=⟨x1.toNat,by omega⟩
  have mp:(0:Int) < ((3 + 2 * c:Nat):Int):=by omega
  have tl:n1 % (3 + 2 * c) < 3 + 2 * c:=j0c _ (by omega);have gd:PlG (plnP (wsOf a s e) r):=pln_g (by omega) (by omega) b8 (by omega);have d8:3 + 2 * c=3\/3 + 2 * c=5:=by omega
  obtain ⟨S1,o1,g1,v1⟩:=zi9 (a:=a) (s:=s) (by omega) (by omega) false e2 tl b8 d6;obtain ⟨S2,o2,g0,v2⟩:=zi9 (a:=a) (s:=s) (by omega) (by omega) true e2 tl b8 d6;refine sq_if ⟨_,rfl,_,rfl,_,rfl,.inl ⟨u,_,1,.int (n1:Nat),rfl,rfl,SqL.of a7,z06 (j:=1) rfl,_,rfl,_,_,rfl,rfl,mp,_,rfl,.inl ⟨u,_,2,.int (e:Nat),rfl,rfl,SqL.of a7,z06 (j:=2) rfl,_,rfl,pa,lr,3 + 2 * c,n1 % (3 + 2 * c),e,1,1 + r,false,S1,_,rfl,c9,gd,d8,tl,by omega,d0,o1,by omega,λ l7 f5 d4 c7=>?_⟩⟩⟩;rw [v1] at c7;refine ⟨_,rfl,1,rfl,.inl ⟨D,_,_,_,rfl,rfl,SqL.of (d4 _ _ d3),zfb a s e,_,rfl,w_2,λ l8 a9=>?_⟩⟩;have f:=Same.upd (o:=.lst [.int (wAt a s ((e:Int) + 1)),.int (wAt a s (e:Int))]) a9;refine ⟨[.int (wAt a s ((e:Int) + 1)),.int (wAt a s (e:Int))],.inl ⟨⟨l7,_,rfl,f _ _ c7,_,_,rfl,rfl,_,_,rfl,rfl,rfl⟩,⟨l8,_,rfl,z04,_,_,rfl,rfl,_,_,rfl,rfl,rfl⟩⟩,E2 _,_,rfl,iteN (by decide) (t_nx ?_)⟩;generalize upd f5 l8 (.lst [.int (wAt a s ((e:Int) + 1)),.int (wAt a s (e:Int))])=H16 at f⊢;have a0:=d4.trans f;refine sq_ret ⟨_,rfl,_,rfl,_,rfl,.inl ⟨u,_,1,.int (n1:Nat),rfl,rfl,SqL.of (a0 _ _ a7),z06 (j:=1) rfl,_,rfl,_,_,rfl,rfl,mp,_,rfl,.inl ⟨u,_,2,.int (e:Nat),rfl,rfl,SqL.of (a0 _ _ a7),z06 (j:=2) rfl,_,rfl,pa,lr,3 + 2 * c,n1 % (3 + 2 * c),e,1,1 + r,true,S2,_,rfl,c9.same a0,gd,d8,tl,by omega,a0 _ _ d0,o2,by omega,λ l9 f9 f2 c8=>?_⟩⟩⟩;rw [v2,if_pos rfl] at c8;have d1:=f2 _ _ (a0 _ _ d3);refine ⟨_,rfl,1,rfl,.inl ⟨D,_,_,_,rfl,rfl,SqL.of d1,zfb a s e,_,rfl,1,rfl,.inl ⟨D,_,_,_,rfl,rfl,SqL.of d1,zfb a s e,w_2,λ l8 a9=>?_⟩⟩⟩;have t:=Same.upd (o:=.lst [.int (wAt a s ((e:Int) + 1)),.int (wAt a s ((e:Int) + 1))]) a9;exact ⟨[.int (wAt a s ((e:Int) + 1)),.int (wAt a s ((e:Int) + 1))],⟨l9,_,rfl,t _ _ c8,_,_,rfl,rfl,_,_,rfl,rfl,rfl⟩,⟨l8,_,rfl,z04,_,_,rfl,rfl,_,_,rfl,rfl,rfl⟩,E2 _,q _⟩
end
theorem all_law {P:Program} {w:W0} {mg:Str->Option Value} {base:Heap} (T:TX (kx w) mg):Fo P w mg base CX0 11 493 fd_law ["script"] (sp_law (kx w)):=by have m:=@cal_mk P w (kx w) mg base;have n:=@zlt P w (kx w) mg base;have b:=m T (z60 _) (zer _) (zfh _) (zch T );have r:=m T (z48 _) (zcf _) (zcn _) (zar T b);have M:=m T (z5m _) (zff _) (ze0 _) (zd5 T r);have a:=m T (z2o _) (z9b _) (z9d _) (z7p T );have l:=m T (z7m _) (zg1 _) (zhc _) (zdn T );have i:=m T (z7s _) (zfu _) (zh1 _) (zf0 T l M a);have p:=m T (z7i _) (zgb _) (zfw _) (zfi T );have Q:=m T (z5k _) (zfl _) (zdm _) (zc7 T a p l);have J:=m T (z2p _) (z9e _) (z9g _) (z7g T Q);have I:=m T (z79 _) (zhf _) (zh5 _) (zeb T b);have e:=m T (z5z _) (zdq _) (zfo _) (zc5 T a I);have z:=m T (z49 _) (zct _) (zce _) (za7 T r);have K:=m T (z5q _) (zfd _) (zfq _) (zcm T e p i);have t:=m T (z9m _) (zjg _) (zjr _) (zgs T e z);have x:=m T (z2t _) (z93 _) (z97 _) (z86 T );have F:=m T (z2v _) (z8h _) (z96 _) (z7d T K t x);have y:=m T (z4a _) (zcd _) (zd4 _) (z9u T J F);have q:=m T (z7t _) (zgt _) (zgc _) (zdc T );have D:=m T (z3d _) (z9o _) (zad _) (z8r T a i);have a0:=m T (z81 _) (zgk _) (zfr _) (zed T q D);have V:=n T (z3n _) (za5 _) (z9x _) (z8b T b a0 q);have R:=m T (z22 _) (z80 _) (z7z _) (z6r T );have S:=m T (z5p _) (zfk _) (ze5 _) (zcy T );have G:=m T (z3k _) (zaf _) (zay _) (z91 T S);have k:=zgu (P:=P) (w:=w) (base:=base) T;have h:=zhd (P:=P) (w:=w) (base:=base) T;have o:=z7y (P:=P) (w:=w) (base:=base) T h;have g:=z4r (P:=P) (w:=w) (base:=base) T;have H:=z1o (P:=P) (w:=w) (base:=base) T k o g;have Z:=z3l (P:=P) (w:=w) (base:=base) T g H;have N:=z2i (P:=P) (w:=w) (base:=base) T h;have W:=z6m (P:=P) (w:=w) (base:=base) T N Z;have v:=z3r (P:=P) (w:=w) (base:=base) T k o;have L:=z6t (P:=P) (w:=w) (base:=base) T v W;have A:=zfs (P:=P) (w:=w) (base:=base) T;have U:=n T (z3m _) (z9w _) (za9 _) (z8m T V A L y);have u:=m T (z3o _) (zaa _) (zaj _) (z8o T );have d:=m T (z4j _) (zci _) (zc4 _) (zag T );have j:=m T (z4e _) (zcq _) (zcs _) (zb4 T );have B:=m T (z3s _) (zaz _) (za4 _) (z8t T );have C:=m T (z26 _) (z78 _) (z7e _) (z6p T j B);have E:=m T (z4b _) (zd6 _) (zc6 _) (zai T C);have s:=m T (z3e _) (zam _) (za0 _) (z8v T d j E);have f:=m T (z39 _) (zaq _) (z9n _) (z8p T d);have c:=m T (z47 _) (zcj _) (zcg _) (zau T s);have O:=m T (z3c _) (zax _) (zaw _) (z9h T f c);have X:=m T (z4c _) (zcu _) (zc8 _) (zb5 T d c O);have Y:=m T (z4q _) (zcb _) (zcv _) (za6 T u X f c U);exact ok_law T R G Y
end K33
open PySem PySem.W PyProof.Rows
set_option maxRecDepth 100000 in
set_option maxHeartbeats 0 in
theorem PySem.Challenge.cw_talejudge_k33_turned_without_back_holds : PySem.Challenge.rw_talejudge_k33_turned_without_back.Holds := by
 w_on;o_law
 refine holds_open (q:=K33.viewX) (loose:=K33.looseX) (Xt:=K33.XtX) (XP:=XL K33.viewX []) (Yf:=Hook.obs K33.HX) (Ya:=Hook.val K33.HX) (YP:=Hook.says K33.HX) (N:=200000) K33.leftX (Hook.of K33.HX) (Hook.keeps K33.HX) (λ s e=>xl_of s (Bool.and_eq_true_iff.mp e).1) XL.keeps (by rfl) (by rfl) (by rfl) (λ s e=>recFacts_of (Bool.and_eq_true_iff.mp e).2) (by rfl) (by assumption) (by decide +kernel) ⟨rfl,rfl,rfl,rfl,rfl,by decide +kernel⟩ ?hw ?hc
 case hw=>w_witness2
 case hc=>
  refine L2.walk_of (l:=PySem.Challenge.rw_talejudge_k33_turned_without_back) (n:=63) (k:=11) (x:="script") (K:=K33.KX) (CX:=λ _=>L2.CX0) (sp:=λ w=>K33.sp_law (K33.KX w.params)) rfl (by decide) rfl ⟨rfl,by decide,by decide,rfl⟩ (λ w h Y=>PySem.W.kIn_of Y) ?F ?S ?C
  case F=>intro w o m h KX G d;have T:=L2.TX.mk' KX G;have f:=d.symm.trans (T.of (K33.g_law _));cases f;exact ⟨K33.fd_law,λ s u=>.of_eq rfl,λ j p i=>K33.all_law T⟩
  case S=>exact λ w H a b g r c=>⟨a,b,rfl,c,g,λ _=>rfl⟩
  case C=>exact λ _ _ _ _ _ z=>z
