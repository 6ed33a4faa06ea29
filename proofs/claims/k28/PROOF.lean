import PyProof.Rows.All
import Wide.All
import OpenK.AllK
import Wide.FinOn
import Lean
import PyProof.EqAt
import PyProof.EqKinds
import PyProof.TupleCall
import Open.Tops
import KE.KIntText
import PyProof.ZipIter
import PyProof.ReprRoads
import PyProof.Draws
import KE.KDictSum
import KE.KSortedM
import OpenK.KRaise
import OpenK.KOwn
import PyProof.ExcBaseAll.ValueError
import KE.KTryMore
import PyProof.NsDelKeeps
import KE.KDictOf
import KE.KEqDict
import PyProof.DictWalks
import PyProof.TupleKey
import PyProof.MinMaxWalk
import KE.KSortTup
import PyProof.StrWalks
import KE.KRevIter
import KE.KListMore
import PyProof.StrLawsTight
import PyProof.StrLawsChain
import PySem.Challenge.RW_talejudge_k28_as_letters_go
open PySem.PyData renaming keyHash->g0,depthAll->E2,depth->j27,int->j41
open PySem.W renaming Frag->j0,nsIn->N3,kia_one->P3,findIn->U3,instObj->S4,keepIn->X4,kas_sort->T5,fnOf->B6,hideAll_get->a7,plainGet->W7,lookIn->J8,codeIn->K8,plainGet_of->X8,excIn->f9,callWith_K->o9,methodObj->z9,hasDictIn->A9,takerIn->X9,hideAll->Y9,isFn->j1b,cellsFrom_some->j1c,KasT->j1d,of_hideAll->j3b,specialIn->j3h,plainOver->j3i,kitx_list->j3j,kitx_dict->j40
open PySem renaming wpAny_bind->o0,Shared->B0,wpAny_pure->C0,Params->O0,wpAny->S0,World->Z0,starEach->G1,model->J1,reduceHash->Q1,wpAny_holding->V1,boot_len->C2,Around->K2,mainGlobals->P2,compareOp->X2,codeAny_builtin->J3,OsState->K3,wpAny_truthy_bool->L3,eval->R3,treeTable->S3,wpAny_pyNext_list_item->Z3,wpAny_mono->b4,wpAny_Call_Name_kw->D4,backTo->O4,wpAny_pyNext_list_end->U4,strKind->W4,wpAny_pyIter_list->Y4,intKind->Z4,bootBuiltins->a5,sysModules->v5,attributeBase->w5,codeAny->A5,wpAny_newObj_type->X5,foldedSetIterable->Y5,mem_of_lookup->Z5,binaryOp->o6,NameKind->v6,wpAny_isInstance->y6,codeAny_mono->z6,Keyword->G6,intKind_is->N6,tupleKind->O6,keywordEach->P6,eqIsQuiet->Q6,wpAny_tryCatch->W6,placesWithHash->X6,wpAny_rule->o7,pyNext->p7,assignEach->y7,plainId_quiet->C7,sliceBounds->G7,callSpecialIfBoundUnlessNone?->J7,SetTable->K7,wpAny_passesOwn->R7,importedModules->S7,wpAny_typeOf->U7,wpAny_tupleItemsOf->f8,tupleKind_room_in1->g8,getattributeRaised->j8,call_meets->n8,richCompare->B8,relabel->C8,behindInMarks->G8,wpAny_call_entry->T8,swapsWith->U8,backToKw->W8,strKind_is->k9,holding->n9,Paired->p9,Builtin->r9,letOwnedTupleGo->u9,getAttrByItsOwn->v9,wpAny_seqItems->L9,codeAny_call_builtin->N9,boundAndCalled->O9,getItem->Q9,Fin->Z9,wpAny_standAt->j03,wpAny_attempt->j04,atKey->j05,IsPart->j0c,valueAt->j0f,getAttr?->j0g,callerA->j0h,Result->j1a,wpAny_of_eq->j20,wpAny_letGo->j21,subscripted->j22,wpAny_updateSeq->j29,wpAny_execs_nil->j2a,Within->j2c,wpAny_richCompare_same_room->j2f,standAt->j2g,spliced->j2h,dictSet->j2i,wpAny_call->j32,typeLookup->j33,relayAll->j34,isInstance->j35,hookBehind->j36,Thread->j3a
open List renaming getElem?_eq_getElem->v0,length_map->G0,length_append->I0,not_mem_nil->K0,replicate->N0,getElem?_set_self->P0,getElem?_map->R0,size_toArray->T0,length_set->U0,range->V0,length_cons->X0,mem_of_getElem?->A1,getElem?_append_right->D1,getElem?_append_left->F1,getD_eq_getElem?_getD->L1,mem_cons_of_mem->O1,mem_append_right->P1,mem_cons_self->R1,map_cons->U1,map_append->W1,getElem?_set_ne->Y1,length_replicate->Z1,append_assoc->D2,forall_mem_cons->N2,length_range->W2,getElem?_cons_succ->Z2,append_nil->C3,mem_cons->D3,getElem_mem->E3,length_singleton->Q3,filter_cons_of_pos->T3,length_nil->X3,getElem?_cons_zero->E4,foldl_cons->J4,find?_cons->T4,lookup_cons->b5,filter_cons_of_neg->o5,map_map->B5,nodup_cons->D5,all_cons->F5,mem_or_eq_of_mem_set->a6,replicate_succ->b6,getElem_of_mem->g6,getElem?_replicate->C6,take_of_length_le->D6,foldl_append->E6,drop_zero->F6,length_filter_le->S6,length_take->U6,ext_getElem->V6,mem_append_left->b7,lookup->f7,forIn_cons->k7,mem_map_of_mem->z7,filterMap_cons->A7,map_nil->D7,forIn_nil->O7,nodup_append->Y7,flatten_cons->Z7,any_cons->a8,length_eraseIdx_le->o8,pairwise_lt_range->D8,all_map->E8,zip_cons_cons->G9,filter_append->J9,pairwise_map->R9,map_set->S9,tail->j06,length_drop->j07,range_succ->j0d,of_mem_zip->j0e,sublist_append_right->j1h,drop_eq_getElem_cons->j1i,length_filterMap_le->j28,length_pos_of_mem->j2j,take_append_drop->j3e,getElem?_eq_none->j3f,range'->j43,mem_erase_of_ne->j44,length_eraseIdx->j45,length->j46
open PySem.Builtin.Tuple renaming tupleHashOf->A0,tupleExact->M5
open PySem.Heap renaming get?_push_of_some->F0,lt_size->Q0,get?_push_size->C1,DictOf->Y3,get?_update_other->N4,size_push->J6,SameBut->K6,get?_update_self->T6,SetOf->P7
open Nat renaming le_refl->J0,le_trans->L0,lt_of_le_of_lt->W0,ne_of_lt->Y0,zero_le->A2,lt_of_lt_of_le->G2,lt_succ_of_lt->Q2,le_succ->A3,lt_succ_self->G3,ne_of_gt->W3,lt_irrefl->y4,add_sub_cancel_left->G4,zero_add->C5,lt_trans->L7,sub_self->L8,mul_le_mul_right->q9,le_of_lt->j00,add_comm->j01,le_of_not_lt->j0a,le_add_right->j0b,not_lt_zero->j12,mod_lt->j1g,lt_of_succ_lt_succ->j3d
open Bool renaming false_ne_true->B1,false_eq_true->T2,and_eq_true_iff->C4,and_eq_true->P4,not_true->J5,true_and->w6,false_and->Q7,not_false->j9,or_false->E9,not_eq_true->j09,and_false->j18
open PySem.Value renaming ref->E1,type->F3,none->M3,isStrOf->V7,str->b9,int->d9,bool->y9,isInt->j38,float->j39
open Or renaming inr->K1,inl->N1
open Ne renaming symm->X1
open PySem.NameKind renaming free->F2
open Array renaming length_toList->J2,getElem?_eq_none->L4,getElem?_eq_getElem->j19,mem_of_getElem?->j31
open Option.some renaming inj->O2
open PyProof.Rows renaming boot_isinstance->U2,callWith_type1->B4,envOfC->K4,IntsAre->V4,callWith_builtin1->A6,boot_tuple->v7,AllBare->F8,boot_list->V8,slot_tuple_getitem->Y8,seqObj->m9,boot_all->j0i,boot_str->j37
open PySem.SetTable renaming below->V2,grown->K5,insertAt->w9,advance->j3g
open PySem.PassesOwn renaming never->Y2
open PySem.Str renaming ofString->O3
open Pure renaming pure->V3,pure->j2d
open PySem.Obj renaming mapSeq->w4,mapDictKeys->Q8,putSet->P9
open ForInStep renaming yield->A4
open False renaming elim->F4
open PySem.Calls renaming spliced_cons->Q4,spliced_nil->L5,evalArgs_plain->Z8,Name_function_global->j14,callWith_builtin->j2e
open Int renaming emod_lt_of_pos->R4,emod_nonneg->G5,toNat_natCast->R5,toNat_of_nonneg->E7,zero_add->N8
open PySem.F renaming plain_max_loop->z5,plainAttrs_list->X7,slot_dict_get->z8,slot_tuple_gt->i9,excBase_ValueError->C9,args_tuple_add_2->j11,entry_max_loop->j13,entry_tuple_add->j16,args_dict_get_3->j17,slot_tuple_add->j1e,entry_dict_get->j1f
open PySem.Builtin.Slice renaming slicePlaces->E5,sliceAdjust->Z6,sliceApplied->D9
open PySem.W.Fast renaming tw16697807410369149715->N5,tw13926502685295537346->O5,tw13383273872528276517->P5,te14364793385576792824->Q5,tw4214721358667687652->U5,tw14364793385576792824->y8
open PySem.Builtin.List renaming listTooLong->S5
open PySem.SeqAt.EqAt renaming same->V5,of_refs->P8,str_str->j23,str_int->j24,int_str->j25,int_int->j26
open PySem.Builtin.Dict renaming updateFrom->W5,selfAndRest->U9,addKeywords->V9,pairItems->j08
open PyProof.Rows.F renaming entry_set_update_loop->L6
open PySem.Shared renaming TypeIs->R6
open PySem.SetTable.below renaming go->Y6
open List.Pairwise renaming nil->g7
open PySem.Code renaming builtin->F7,isFrame->T9,frames->j47
open PySem.Builtin.Str renaming occurrences->N7
open PySem.Paired renaming length->T7
open List.Sublist renaming append->p8,refl->R8
open PySem.Heap.SameBut renaming update->v8,refl->j1j
open Option renaming map_some->A8,isSome_map->F9,some_ne_none->j3c
open PySem.Builtin.Frozenset renaming updateFrom->O8
open PySem.Around renaming under_plainId->S8,under->K9,under_plain->j48
open PySem.Builtin.Builtins renaming bindParams->a9
open Prod.mk renaming injEq->g9
open PUnit renaming unit->B9
open Sum renaming inl->W9
open List.Perm renaming refl->j02
open PySem.SetTable.probe renaming go->j0j
open PySem.SeqAt renaming EqAt->j10
open PySem.SeqAt.RcNeAt renaming lists->j15
open Sum.inr renaming inj->j2b
open PySem.Heap.DictOf renaming new->j30
open Prod renaming ext->j42
set_option maxRecDepth 100000
set_option maxHeartbeats 0
namespace PySem.W.Fast
noncomputable def tw14210744081403905078:=0
noncomputable def tw2122043914039559125:=0
noncomputable def tw9583930861863669419:=0
noncomputable def tw7758916951284042483:=0
noncomputable def tw6605566811132457742:=0
noncomputable def tw14627438222998273913:=0
noncomputable def tw9004120852183935730:=0
noncomputable def tw1706429568646730686:=0
noncomputable def tw9184495048260790251:=0
noncomputable def tw18054179431247565709:=0
noncomputable def tw5790058480096570299:=0
noncomputable def tw1539440136035839409:=0
noncomputable def tw392830037695559324:=0
noncomputable def tw8465535234149499941:=0
noncomputable def tw1615066640083497332:=0
end PySem.W.Fast
namespace K28
open_shared pre for PySem.Challenge.pw_talejudge_k28_as_letters_go leaving 51
end K28
set_option maxHeartbeats 200000
-- CHANGE: your row's module here,as the last of these rows
set_option Elab.async false
set_option linter.all false
namespace L2
open PySem PySem.Spec PyProof.Rows
noncomputable abbrev Key:=Sum Int Str
noncomputable def keyIs:Key->Value->Bool
 | .inl k,v=>j38 k v
 | .inr x,v=>V7 x v
noncomputable def keyH (w:Z0):Key->Int
 | .inl k=>hashInt k
 | .inr x=>hashStr w x
theorem z0x :∀{k:Key} {v:Value},keyIs k v=true->(∃i t,k=W9 i/\v=d9 i t)\/(∃x t,k=Sum.inr x/\v=b9 x t)
 | .inl i,v,h=>by obtain ⟨t,e⟩:=Value.isInt_shape (k:=i) (v:=v) h;exact .inl ⟨i,t,rfl,e⟩
 | .inr x,v,h=>by obtain ⟨t,e⟩:=Value.isStrOf_shape (x:=x) (v:=v) h;exact .inr ⟨x,t,rfl,e⟩
theorem zhg (i:Int) (t:Tok):keyIs (.inl i) (.int i t)=true:=by simp [keyIs,j38]
theorem zfy (x:Str) (t:Tok):keyIs (.inr x) (.str x t)=true:=by simp [keyIs,V7]
theorem key_ll (a b:Int):decide ((W9 a:Key)=W9 b)=(a == b):=by
 by_cases e:a=b
 ·subst e;simp
 ·have h:¬ (W9 a:Key)=W9 b:=λ q=>e (Sum.inl.inj q);rw [decide_eq_false h];exact (beq_eq_false_iff_ne.mpr e).symm
theorem key_rr (a b:Str):decide ((Sum.inr a:Key)=Sum.inr b)=decide (a=b):=by
 by_cases e:a=b
 ·subst e;simp
 ·have h:¬ (Sum.inr a:Key)=Sum.inr b:=λ q=>e (j2b q);rw [decide_eq_false h,decide_eq_false e]
theorem key_lr (a:Int) (b:Str):decide ((W9 a:Key)=Sum.inr b)=false:=decide_eq_false (λ q=>nomatch q)
theorem key_rl (a:Str) (b:Int):decide ((Sum.inr a:Key)=W9 b)=false:=decide_eq_false (λ q=>nomatch q)
noncomputable def z0k (prog:Program) (w:Z0):PySem.KeyKind prog w Key where
 is:=keyIs
 hash:=keyH w
 inj:=λ v a b ha hb=>by
  rcases z0x ha with ⟨i,t,rfl,rfl⟩|⟨x,t,rfl,rfl⟩
  ·rcases z0x hb with ⟨j,u,rfl,e⟩|⟨y,u,rfl,e⟩
   ·injection e with e1 _;rw [e1]
   ·exact nomatch e
  ·rcases z0x hb with ⟨j,u,rfl,e⟩|⟨y,u,rfl,e⟩
   ·exact nomatch e
   ·injection e with e1 _;rw [e1]
 byValue:=λ k v h=>by rcases z0x h with ⟨i,t,rfl,rfl⟩|⟨x,t,rfl,rfl⟩<;>rfl
 pyHash:=λ hv h=>by
  rcases z0x hv with ⟨i,t,rfl,rfl⟩|⟨x,t,rfl,rfl⟩
  ·exact wpAny_pyHash_int h
  ·exact wpAny_pyHash_str h
 eqBool:=λ hu hv h=>by
  rcases z0x hu with ⟨i,t,rfl,rfl⟩|⟨x,t,rfl,rfl⟩
  ·rcases z0x hv with ⟨j,u,rfl,rfl⟩|⟨y,u,rfl,rfl⟩
   ·rw [key_ll] at h;exact wpAny_eqBool_int h
   ·rw [key_lr] at h;exact j25 i t y u _ _ _ _ h
  ·rcases z0x hv with ⟨j,u,rfl,rfl⟩|⟨y,u,rfl,rfl⟩
   ·rw [key_rl] at h;exact j24 x t j u _ _ _ _ h
   ·rw [key_rr] at h;exact wpAny_eqBool_str h
 «strs»:=λ k x t v h=>by
  rcases z0x h with ⟨i,u,rfl,e⟩|⟨y,u,rfl,e⟩
  ·exact nomatch e
  ·injection e with e1 _;subst e1;cases v<;>rfl
theorem zd6 (prog:Program) (w:Z0) (i:Int) (t:Tok):(z0k prog w).is (.inl i) (.int i t)=true:=zhg i t
theorem zdh (prog:Program) (w:Z0) (x:Str) (t:Tok):(z0k prog w).is (.inr x) (.str x t)=true:=zfy x t
inductive V where
 | non|bl (b:Bool)|int (i:Int)|str (x:Str)|byt (b:Array UInt8)|flt (b:UInt64)|ref (a:Addr)|ty (n:String)
 deriving DecidableEq
noncomputable def RelV:V->Value->Prop
 | .non,u=>u=M3
 | .bl b,u=>u=y9 b
 | .int i,u=>∃t,u=d9 i t
 | .str x,u=>∃t,u=b9 x t
 | .byt b,u=>∃t,u=Value.bytes b t
 | .flt b,u=>∃t,u=j39 b t
 | .ref a,u=>u=E1 a
 | .ty n,u=>u=F3 n
abbrev Vals:List V->List Value->Prop:=p9 RelV
theorem Vals.length {xs:List V} {us:List Value} (r:Vals xs us):xs.length=us.length:=T7 r
theorem Vals.get :∀{xs:List V} {us:List Value} {i:Nat} {x:V},Vals xs us->xs[i]? = some x->∃u,us[i]? = some u/\RelV x u
 | _,_,_,_,.nil,e=>by simp at e
 | _,_,0,_,.cons r _,e=>by simp at e;subst e;exact ⟨_,rfl,r⟩
 | _,_,i + 1,x,.cons _ t,e=>by obtain ⟨u,a,b⟩:=Vals.get (i:=i) (x:=x) t (by simpa using e);exact ⟨u,by simpa using a,b⟩
theorem Vals.set {x:V} {u:Value} (r:RelV x u) :∀{xs:List V} {us:List Value} (i:Nat),Vals xs us->Vals (xs.set i x) (us.set i u)
 | _,_,_,.nil=>.nil
 | _,_,0,.cons _ t=>.cons r t
 | _,_,i + 1,.cons q t=>.cons q (Vals.set r i t)
theorem Vals.append :∀{xs ys:List V} {us ws:List Value},Vals xs us->Vals ys ws->Vals (xs++ys) (us++ws)
 | _,_,_,_,.nil,s=>s
 | _,_,_,_,.cons r t,s=>.cons r (Vals.append t s)
theorem Vals.take :∀{xs:List V} {us:List Value} (n:Nat),Vals xs us->Vals (xs.take n) (us.take n)
 | _,_,0,_=>.nil
 | _,_,_ + 1,.nil=>.nil
 | _,_,n + 1,.cons r t=>.cons r (Vals.take n t)
theorem Vals.drop :∀{xs:List V} {us:List Value} (n:Nat),Vals xs us->Vals (xs.drop n) (us.drop n)
 | _,_,0,r=>r
 | _,_,_ + 1,.nil=>.nil
 | _,_,n + 1,.cons _ t=>Vals.drop n t
noncomputable def RelO:Option V->Option Value->Prop
 | some v,some u=>RelV v u
 | none,none=>True
 | _,_=>False
def KV {κ:Type}:List (κ×V)->List (κ×Value)->Prop:=p9 λ (p:κ×V) (q:κ×Value)=>p.1=q.1/\RelV p.2 q.2
noncomputable def kV:Key->V
 | .inl i=>.int i
 | .inr x=>.str x
inductive HO where
 | lst (xs:List V)
 | tup (xs:List V)
 | dK (kvs:List (Key×V))|dT (kvs:List (List Key×V))
 | set (S:Int->Bool) (n:Nat)
 | ins (C dx:Addr) (fs:List (Str×V))
 | own (x:Addr)
 | xd (fs:List (Str×V))
 | met (f x:Addr)
 | rng (lo hi:Int)
 | frz (o:Obj) (u:HO)
 | tbl (ps:Array Value)
 | ext (φ:Heap->Prop)
noncomputable abbrev Hp:=Addr->Option HO
noncomputable def upd (H:Hp) (a:Addr) (o:HO):Hp:=λ b=>if b=a then some o else H b
theorem z03 {H:Hp} {a:Addr} {o:HO}:upd H a o a=some o:=by unfold upd;rw [if_pos rfl]
theorem upd_ne {H:Hp} {a b:Addr} {o:HO} (h:b≠a):upd H a o b=H b:=by unfold upd;rw [if_neg h]
theorem ne_of {H:Hp} {a b:Addr} {o u:HO} (h:H a=some o) (h':H b=some u) (d:o≠u):a≠b:=by intro e;subst e;rw [h] at h';exact d (O2 h')
theorem z0o {H:Hp} {a b:Addr} {o:HO} (h:H a=some o) (h':H b=none):a≠b:=by intro e;subst e;rw [h] at h';cases h'
section
variable (P:Program) (w:Z0)
def IsTupN (h:Heap) (a:Addr) (items:Array Value):Prop:=IsTup h a items/\∃o,h.get? a=some o/\o.dict=none
theorem IsTupN.new (h:Heap) (items:Array Value):IsTupN (h.push { cls:=.type "tuple",data:=.seq items }) h.objs.size items:=⟨IsTup.new _ _,_,C1 _ rfl,rfl⟩
noncomputable def ObjOk (H:Hp) (h:Heap) (a:Addr):HO->Prop
 | .lst xs=>xs.length<=sizeLine/\∃(its:List Value) (n:Nat),Vals xs its/\h.get? a=some { cls:=.type "list",data:=.seq its.toArray n }
 | .tup xs=>xs.length<=sizeLine/\∃its:List Value,Vals xs its/\IsTupN h a its.toArray
 | .dK kvs=>kvs.length<=sizeLine/\(a == v5)=false/\∃vs,KV kvs vs/\h.DictOf (z0k P w) a vs
 | .dT kvs=>kvs.length<=sizeLine/\(a == v5)=false/\∃xs:List (List Key×Addr×Value),
   p9 (λ (p:List Key×V) (q:List Key×Addr×Value)=>p.1=q.1/\H q.2.1=some (.tup (p.1.map kV))/\RelV p.2 q.2.2) kvs xs/\
   ∃o es ep,h.get? a=some o/\o.ExactDict/\o.data=.dict es ep/\es.toList=xs.map (entryOfKey (O6 (z0k P w)))/\(xs.map (·.1)).Nodup
 | .set S n=>h.SetOf (Z4 P w) a S n
 | .ins C dx fs=>H dx=some (.own a)/\fs.length<=1000/\dx≠a/\h.get? a=some (S4 C dx)/\
   ∃mA,h.Ns1 dx mA/\(∀f,RelO (fs.lookup f) (mA f))/\j2c mA (fs.map (·.1))
 | .own _=>∃o,h.get? a=some o
 | .xd fs=>∃mA,h.Ns1 a mA/\∀f,RelO (fs.lookup f) (mA f)
 | .rng lo hi=>∃t u v,h.get? a=some { cls:=.type "range",data:=.fields #[.int lo t,.int hi u,.int 1 v] }
 | .frz o u=>h.get? a=some o/\ObjOk H h a u
 | .tbl ps=>h.get? a=some { cls:=.none,data:=.fields ps }
 | .met f x=>h.get? a=some (z9 (.ref f) (.ref x))
 | .ext φ=>φ h/\(∃o,h.get? a=some o)/\∀h1 h2:Heap,φ h1->(∀o,h1.get? a=some o->h2.get? a=some o)->φ h2
def HOk (H:Hp) (h:Heap):Prop:=∀a o,H a=some o->ObjOk P w H h a o
end
section
variable {P:Program} {w:Z0} {H H':Hp} {h h':Heap} {a:Addr} {o:HO}
theorem ObjOk.lt (x:ObjOk P w H h a o):a < h.objs.size:=by
 cases o with
 | lst xs=>obtain ⟨_,_,_,_,e⟩:=x;exact Q0 e
 | tup xs=>obtain ⟨_,_,_,p⟩:=x;exact p.1.lt
 | dK kvs=>obtain ⟨_,_,_,_,o,_,_,e,_⟩:=x;exact Q0 e
 | dT kvs=>obtain ⟨_,_,_,_,o,_,_,e,_⟩:=x;exact Q0 e
 | set S n=>obtain ⟨o,_,_,_,e,_⟩:=x;exact Q0 e
 | ins C dx fs=>obtain ⟨_,_,_,e,_⟩:=x;exact Q0 e
 | own y=>obtain ⟨_,e⟩:=x;exact Q0 e
 | xd fs=>obtain ⟨_,⟨_,_,_,e,_⟩,_⟩:=x;exact Q0 e
 | rng lo hi=>obtain ⟨_,_,_,e⟩:=x;exact Q0 e
 | frz ob u=>obtain ⟨e,_⟩:=x;exact Q0 e
 | tbl ps=>exact Q0 (show h.get? a=some _ from x)
 | met f y=>exact Q0 (show h.get? a=some _ from x)
 | ext φ=>obtain ⟨_,⟨_,e⟩,_⟩:=x;exact Q0 e
theorem Paired.mapP {α β:Type} {F G:α->β->Prop} :∀{l₁:List α} {l₂:List β},p9 F l₁ l₂->(∀a b,F a b->G a b)->p9 G l₁ l₂
 | _,_,.nil,_=>.nil
 | _,_,.cons r t,f=>.cons (f _ _ r) (Paired.mapP t f)
theorem ObjOk.stay (x:ObjOk P w H h a o) (k :∀b u,(b=a\/H b=some (.own a))->h.get? b=some u->h'.get? b=some u)
  (ho :∀b,H b=some (.own a)->H' b=some (.own a)) (ht :∀b xs,H b=some (.tup xs)->H' b=some (.tup xs)):ObjOk P w H' h' a o:=by
 induction o with
 | lst xs=>obtain ⟨z,l,n,r,e⟩:=x;exact ⟨z,l,n,r,k _ _ (.inl rfl) e⟩
 | tup xs=>obtain ⟨z,l,r,⟨g,e,c⟩,G,s,D⟩:=x;exact ⟨z,l,r,⟨g,k _ _ (.inl rfl) e,c⟩,G,k _ _ (.inl rfl) s,D⟩
 | dK kvs=>obtain ⟨z,y,E,r,g,j,i,e,c⟩:=x;exact ⟨z,y,E,r,g,j,i,k _ _ (.inl rfl) e,c⟩
 | dT kvs=>obtain ⟨z,y,xs,r,g,j,i,e,c⟩:=x;exact ⟨z,y,xs,Paired.mapP r λ p q z=>⟨z.1,ht _ _ z.2.1,z.2.2⟩,g,j,i,k _ _ (.inl rfl) e,c⟩
 | set S n=>obtain ⟨g,j,i,t,e,c⟩:=x;exact ⟨g,j,i,t,k _ _ (.inl rfl) e,c⟩
 | ins C dx fs=>obtain ⟨d,z,F,e,m,⟨A,j,i,s,c⟩,r⟩:=x;exact ⟨ho _ d,z,F,k _ _ (.inl rfl) e,m,⟨A,j,i,k _ _ (.inr d) s,c⟩,r⟩
 | own y=>obtain ⟨g,e⟩:=x;exact ⟨g,k _ _ (.inl rfl) e⟩
 | xd fs=>obtain ⟨m,⟨A,j,i,e,c⟩,r⟩:=x;exact ⟨m,⟨A,j,i,k _ _ (.inl rfl) e,c⟩,r⟩
 | rng lo hi=>obtain ⟨t,u,v,e⟩:=x;exact ⟨t,u,v,k _ _ (.inl rfl) e⟩
 | frz g u ih=>obtain ⟨e,q⟩:=x;exact ⟨k _ _ (.inl rfl) e,ih q⟩
 | tbl ps=>have e:h.get? a=some { cls:=.none,data:=.fields ps }:=x;show h'.get? a=some { cls:=.none,data:=.fields ps };exact k a _ (.inl rfl) e
 | met f y=>have e:h.get? a=some (z9 (.ref f) (.ref y)):=x;show h'.get? a=some (z9 (.ref f) (.ref y));exact k a _ (.inl rfl) e
 | ext φ=>obtain ⟨p,⟨o,e⟩,B⟩:=x;exact ⟨B _ _ p λ o q=>k _ _ (.inl rfl) q,⟨o,k _ _ (.inl rfl) e⟩,B⟩
theorem HOk.lt (x:HOk P w H h) (e:H a=some o):a < h.objs.size:=(x a o e).lt
theorem HOk.fresh (x:HOk P w H h) (e:h.objs.size<=a):H a=none:=by
 cases q:H a with
 | none=>rfl
 | some u=>exact absurd (G2 (x.lt q) e) (y4 _)
theorem HOk.kept (x:HOk P w H h) (k :∀b u,h.get? b=some u->h'.get? b=some u):HOk P w H h':=λ a o e=>(x a o e).stay (λ b u _ q=>k b u q) (λ _ q=>q) λ _ _ q=>q
theorem HOk.laid (x:HOk P w H h) (k :∀b u,h.get? b=some u->h'.get? b=some u) (hp:h.objs.size<=a) (new:ObjOk P w (upd H a o) h' a o):HOk P w (upd H a o) h':=λ b u e=>by
 have d:=x.fresh hp;by_cases hb:b=a
 ·subst hb;rw [z03] at e;cases e;exact new
 ·rw [upd_ne hb] at e;exact (x b u e).stay (λ c v _ q=>k c v q) (λ c q=>by rw [upd_ne (z0o q d)];exact q) λ c f q=>by rw [upd_ne (z0o q d)];exact q
end
def Rd (H:Hp) (a:Addr) (u:HO):Prop:=H a=some u\/∃o,H a=some (.frz o u)
theorem Rd.ok {P:Program} {w:Z0} {H:Hp} {h:Heap} {a:Addr} {u:HO} (r:Rd H a u) (x:HOk P w H h):ObjOk P w H h a u:=by
 rcases r with r|⟨o,r⟩
 ·exact x a u r
 ·obtain ⟨_,q⟩:=x a _ r;exact q
noncomputable def Mut:Option HO->Prop
 | some (.lst _)=>True
 | some (.dK _)=>True
 | some (.dT _)=>True
 | some (.set _ _)=>True
 | some (.ins _ _ _)=>True
 | some (.ext _)=>True
 | _=>False
section
variable {P:Program} {w:Z0} {H:Hp} {h h':Heap} {x e:Addr} {o':HO}
theorem HOk.write (ok:HOk P w H h) (mu:Mut (H x)) (he:e=x\/H e=some (.own x)) (k :∀b u,b≠e->h.get? b=some u->h'.get? b=some u) (heo :∃u,h'.get? e=some u)
  (new:ObjOk P w (upd H x o') h' x o'):HOk P w (upd H x o') h':=λ b u q=>by
 have g :∀c y,H c=some (.own y)->c≠x:=λ c y r z=>by subst z;rw [r] at mu;exact mu
 have i :∀c d,H c=some (.tup d)->c≠x:=λ c d r z=>by subst z;rw [r] at mu;exact mu
 by_cases hb:b=x
 ·subst hb;rw [z03] at q;cases q;exact new
 ·rw [upd_ne hb] at q;by_cases hbe:b=e
  ·have f:H b=some (.own x):=by
    rcases he with z|z
    ·exact absurd (hbe.trans z) hb
    ·rw [hbe];exact z
   rw [q] at f;cases f;obtain ⟨v,j⟩:=heo;exact ⟨v,by rw [hbe];exact j⟩
  ·refine (ok b u q).stay (λ c v a r=>k c v ?_ r) (λ c r=>by rw [upd_ne (g c b r)];exact r) λ c d r=>by rw [upd_ne (i c d r)];exact r
   rcases a with rfl|a
   ·exact hbe
   ·rintro rfl;rcases he with z|z
    ·exact g c b a z
    ·rw [a] at z;cases z;exact hb rfl
end
structure Un (fs ex:List Addr) (H H':Hp) (h h':Heap):Prop where
 keep :∀b o,h.get? b=some o->H b=none->b∉fs->b∉ex->h'.get? b=some o
 slot :∀b o,h.get? b=some o->H b=none->b∈fs->b∉ex->∃sl,h'.get? b=some { o with slots:=sl }
 free :∀b o,h.get? b=some o->H b=none->b∉ex->H' b=none
 there :∀b o,h.get? b=some o->b∉ex->∃o',h'.get? b=some o'
 tups :∀b xs,H b=some (.tup xs)->H' b=some (.tup xs)
 frzs :∀b o u,H b=some (.frz o u)->H' b=some (.frz o u)
 tbls :∀b ps,H b=some (.tbl ps)->∃more,H' b=some (.tbl (ps++more))
section
variable {fs fs' ex ex':List Addr} {H H1 H2:Hp} {h h1 h2 h':Heap} {a x e:Addr} {o:HO}
theorem Un.any (u:Un fs ex H H1 h h1) {b:Addr} {ob:Obj} (q:h.get? b=some ob) (n:H b=none) (hx:b∉ex) :∃sl,h1.get? b=some { ob with slots:=sl }:=by
 by_cases hb:b∈fs
 ·exact u.slot b ob q n hb hx
 ·exact ⟨ob.slots,u.keep b ob q n hb hx⟩
theorem Un.kept (k :∀b u,h.get? b=some u->h'.get? b=some u):Un fs ex H H h h':=
 ⟨λ b a q _ _ _=>k b a q,λ b a q _ _ _=>⟨a.slots,k b a q⟩,λ _ _ _ n _=>n,λ b a q _=>⟨a,k b a q⟩,λ _ _ q=>q,λ _ _ _ q=>q,λ _ c q=>⟨#[],by rw [q];simp⟩⟩
theorem Un.refl:Un fs ex H H h h:=Un.kept λ _ _ q=>q
theorem Un.laid (k :∀b u,h.get? b=some u->h'.get? b=some u) (hp:h.objs.size<=a) (hn:H a=none):Un fs ex H (upd H a o) h h' where
 keep:=λ b u q _ _ _=>k b u q
 slot:=λ b u q _ _ _=>⟨u.slots,k b u q⟩
 free:=λ b u q n _=>by rw [upd_ne (Y0 (G2 (Q0 q) hp))];exact n
 there:=λ b u q _=>⟨u,k b u q⟩
 tups:=λ b c q=>by rw [upd_ne (z0o q hn)];exact q
 frzs:=λ b u c q=>by rw [upd_ne (z0o q hn)];exact q
 tbls:=λ b d q=>⟨#[],by rw [upd_ne (z0o q hn),q];simp⟩
theorem Un.write (mu:Mut (H x)) (he:e=x\/H e=some (.own x)) (k :∀b u,b≠e->h.get? b=some u->h'.get? b=some u) (heo :∃u,h'.get? e=some u):Un fs ex H (upd H x o) h h':=by
 have d :∀b,H b=none->b≠x:=λ b n z=>by subst z;rw [n] at mu;exact mu
 have c :∀b,H b=none->b≠e:=λ b n z=>by
  subst z;rcases he with r|r
  ·exact d b n r
  ·rw [n] at r;cases r
 have a :∀b u,H b=some u->¬ Mut (some u)->b≠x:=λ b u q g z=>by subst z;rw [q] at mu;exact g mu
 refine ⟨λ b u q n _ _=>k b u (c b n) q,λ b u q n _ _=>⟨u.slots,k b u (c b n) q⟩,λ b u q n _=>by rw [upd_ne (d b n)];exact n,λ b u q _=>?_,
  λ b f q=>by rw [upd_ne (a b _ q λ z=>z)];exact q,λ b u f q=>by rw [upd_ne (a b _ q λ z=>z)];exact q,λ b i q=>⟨#[],by rw [upd_ne (a b _ q λ z=>z),q];simp⟩⟩
 by_cases hbe:b=e
 ·subst hbe;exact heo
 ·exact ⟨u,k b u hbe q⟩
end
noncomputable def trk (h:Heap) (H:Hp):List Addr:=(V0 h.objs.size).filter λ a=>(H a).isSome
noncomputable def hidT (h:Heap) (H:Hp):Heap:=Y9 h (trk h H)
theorem zgd (h:Heap) (H:Hp):(hidT h H).objs.size=h.objs.size:=PySem.W.hideAll_size _ _
theorem zie {h:Heap} {H:Hp} {b:Addr} {o:Obj} (e:h.get? b=some o) (n:H b=none):(hidT h H).get? b=some o:=
 a7 _ e λ a=>by have q:(H b).isSome=true:=(List.mem_filter.mp a).2;rw [n] at q;simp at q
theorem zke {h:Heap} {H:Hp} {b:Addr} {o:Obj} (e:(hidT h H).get? b=some o):h.get? b=some o/\H b=none:=by
 have a:h.get? b=some o:=j3b (trk h H) e;refine ⟨a,?_⟩;cases q:H b with
 | none=>rfl
 | some x=>have c:b∈trk h H:=List.mem_filter.mpr ⟨List.mem_range.mpr (Q0 a),by simp [q]⟩;have z:(hidT h H).get? b=none:=PySem.W.hideAll_none (trk h H) c;rw [z] at e;cases e
noncomputable def zjw (g h:Heap) (L:Addr):List (Addr×Obj):=(V0 h.objs.size).filterMap λ a=>if a=L\/(g.get? a).isSome=true then none else (h.get? a).map λ o=>(a,o)
noncomputable def rest (g h:Heap) (L d:Addr):List (Addr×Obj):=(zjw g h L).filter λ p=>decide (p.1≠d)
structure Mod (K:j0) (mg:Str->Option Value) (base:Heap):Prop where
 kin:K.In base
 glob:base.Ns P2 mg
 blt :∃mb,base.Ns builtinsNs mb/\∀x:Str,x≠"__name__"->mb x=a5 x
 nolimit:base.NoLimit
structure Cx where
 prog:Program
 w:Z0
 K:j0
 mg:Str->Option Value
 base:Heap
 A:K2
 N:List Str
 s₀:B0
 H₀:Hp
 env:Env
 outer:List Env
 stack:List Env
 ex:List Addr
 fn:Str->Bool
 calm:Bool
 pn:List (Addr×Obj)
 xe:Value->B0->Prop
noncomputable def frs (l:List Env):List Addr:=l.filterMap (·.frame)
noncomputable abbrev Cx.fs (X:Cx):List Addr:=frs X.outer
def Vis (sc:Scope) (x:Str):Prop:=sc.names.lookup x=some .local\/sc.names.lookup x=some .cell\/sc.names.lookup x=some .free
def Loc (sc:Scope) (x:Str):Prop:=sc.names.lookup x=some .local\/sc.names.lookup x=some .cell
def Look (env:Env) (h:Heap) (m:Str->Option Value) (x:Str) (u:Value):Prop:=
 (env.kindOf x=some .local/\m x=some u)\/((env.kindOf x=some .cell\/env.kindOf x=some .free)/\∃c,env.cells.lookup x=some c/\h.IsCell c (some u))
structure Cx.Ok (X:Cx):Prop where
 mod:Mod X.K X.mg X.base
 kind:X.env.scope.kind=.function
 glob:X.env.globals=P2
 blt:X.env.builtins=builtinsNs
 above:X.s₀.heap.objs.size<=X.env.locals
 inj :∀x y c,X.env.cells.lookup x=some c->X.env.cells.lookup y=some c->x=y
 has :∀x,(X.env.kindOf x=some .cell\/X.env.kindOf x=some .free)->∃c,X.env.cells.lookup x=some c
 cab :∀x c,X.fn x=true->X.env.cells.lookup x=some c->X.s₀.heap.objs.size<=c
 hd:X.calm=true->X.A.handled=none
 frames:X.A.frames=some X.stack
 stk:X.stack=X.outer\/(X.stack=X.env :: X.outer/\X.env.frame=some X.env.locals)
 exf :∀b∈X.ex,b≠X.env.locals/\∀x c,X.env.cells.lookup x=some c->c≠b
 bs :∀b o,X.base.get? b=some o->X.s₀.heap.get? b=some o/\X.H₀ b=none
 bsz:X.base.objs.size<=X.s₀.heap.objs.size
 noex :∀b o,X.base.get? b=some o->b∉X.ex
 exfs :∀b∈X.ex,b∉X.fs
 funs:X.s₀.heap.FunFrames X.base X.outer
 frf :∀b∈X.fs,X.H₀ b=none
structure Inv (X:Cx) (pins:List (Addr×Obj)) (σ:List (Option V)) (H:Hp) (s:B0):Prop where
 ok:X.Ok
 os:s.os=X.s₀.os
 bare:F8 s.gens
 base:Un X.fs X.ex X.H₀ H X.s₀.heap s.heap
 loc :∃m,s.heap.Ns X.env.locals m/\∀(i:Nat) (x:Str) (v:V),X.N[i]? = some x->σ[i]? = some (some v)->Vis X.env.scope x->∃u,RelV v u/\Look X.env s.heap m x u
 cell :∀x c,X.env.cells.lookup x=some c->∃v,s.heap.IsCell c v
 free:H X.env.locals=none
 freeC :∀x c,X.env.cells.lookup x=some c->H c=none
 pin :∀p∈X.pn++pins,s.heap.get? p.1=some p.2/\H p.1=none/\p.1≠X.env.locals/\p.1∉X.fs/\∀v,p.2.data≠.cell v
 hok:HOk X.prog X.w H s.heap
 len:σ.length=X.N.length
section
variable {X:Cx} {pins:List (Addr×Obj)} {σ:List (Option V)} {H H':Hp} {s:B0} {h':Heap}
theorem Cx.Ok.nofr (ok:X.Ok) {b:Addr} {o:Obj} (e:X.base.get? b=some o):b∉X.fs:=λ a=>by have:=(ok.funs.mem a).1;rw [e] at this;cases this
theorem Inv.bs (I:Inv X pins σ H s) :∀b o,X.base.get? b=some o->s.heap.get? b=some o/\H b=none:=λ b o e=>⟨I.base.keep b o (I.ok.bs b o e).1 (I.ok.bs b o e).2 (I.ok.nofr e) (I.ok.noex b o e),I.base.free b o (I.ok.bs b o e).1 (I.ok.bs b o e).2 (I.ok.noex b o e)⟩
theorem Inv.bk (I:Inv X pins σ H s) :∀b o,X.base.get? b=some o->s.heap.get? b=some o:=λ b o e=>(I.bs b o e).1
theorem Inv.mod (I:Inv X pins σ H s):Mod X.K X.mg X.base:=I.ok.mod
theorem Inv.kIn (I:Inv X pins σ H s):X.K.In s.heap:=I.ok.mod.kin.keeps I.bk
theorem Inv.lt (I:Inv X pins σ H s):X.env.locals < s.heap.objs.size:=let ⟨_,hn,_⟩:=I.loc;hn.lt
theorem Inv.sz (I:Inv X pins σ H s):X.s₀.heap.objs.size<=s.heap.objs.size:=L0 I.ok.above (j00 I.lt)
theorem Inv.nofs (I:Inv X pins σ H s) {a:Addr} (h:s.heap.objs.size<=a):a∉X.fs:=λ c=>by obtain ⟨_,o,b,_⟩:=I.ok.funs.mem c;exact absurd (G2 (Q0 b) (L0 I.sz h)) (y4 _)
theorem Inv.cne (I:Inv X pins σ H s) :∀x c,X.env.cells.lookup x=some c->c≠X.env.locals:=λ x c e z=>by obtain ⟨v,o,b,a⟩:=I.cell x c e;obtain ⟨m,⟨g,h,i,d,f,_⟩,_⟩:=I.loc;rw [z,d] at b;cases b;rw [f] at a;cases a
theorem Inv.funs (I:Inv X pins σ H s):s.heap.FunFrames X.base X.outer:=by
 have all :∀(l:List Env),(∀b∈frs l,b∈X.fs)->X.s₀.heap.FunFrames X.base l->s.heap.FunFrames X.base l:=by
  intro l;induction l with
  | nil=>intro _ _;trivial
  | cons env r ih=>intro f i;obtain ⟨k,⟨L,o,d,g,m,h⟩,j⟩:=i;have a:L∈X.fs:=f L (by unfold frs;rw [A7,d];exact R1);obtain ⟨n,e⟩:=I.base.slot L o m (I.ok.frf L a) a λ z=>I.ok.exfs L z a;exact ⟨k,⟨L,_,d,g,e,h⟩,ih (λ b c=>f b (by unfold frs;rw [A7,d];exact O1 _ c)) j⟩
 exact all X.outer (λ _ c=>c) I.ok.funs
theorem Inv.stack (I:Inv X pins σ H s):s.heap.FunFrames X.base X.stack:=by
 rcases I.ok.stk with e|⟨e,hf⟩
 ·rw [e];exact I.funs
 ·rw [e];obtain ⟨m,a,_⟩:=I.loc;refine .cons (by rw [I.ok.kind];decide) hf a ?_ I.funs;exact Heap.get?_none_of_le (L0 I.ok.bsz I.ok.above)
theorem Inv.stkSub (I:Inv X pins σ H s) :∀b∈frs X.stack,b∈X.env.locals :: X.fs:=λ b a=>by
 rcases I.ok.stk with e|⟨e,hf⟩
 ·rw [e] at a;exact O1 _ a
 ·rw [e] at a;unfold frs at a;rw [A7,hf] at a;exact a
theorem Inv.stkFree (I:Inv X pins σ H s) :∀b∈frs X.stack,H b=none:=λ b a=>by
 rcases List.mem_cons.mp (I.stkSub b a) with e|a
 ·rw [e];exact I.free
 ·obtain ⟨_,o,c,_⟩:=I.ok.funs.mem a;exact I.base.free b o c (I.ok.frf b a) λ z=>I.ok.exfs b z a
theorem Inv.step {g':Array GenState} {t':Nat} {d':Drawn} {ch:List Addr} (I:Inv X pins σ H s)
  (hch :∀b∈ch,(b∈X.ex\/X.s₀.heap.objs.size<=b)/\b≠X.env.locals/\(∀x c,X.env.cells.lookup x=some c->c≠b)/\∀p∈X.pn++pins,p.1≠b)
  (keep :∀b o,b≠X.env.locals->b∉X.fs->b∉ch->s.heap.get? b=some o->H b=none->h'.get? b=some o)
  (slot :∀b o,b≠X.env.locals->b∈X.fs->b∉ch->s.heap.get? b=some o->H b=none->∃sl,h'.get? b=some { o with slots:=sl }) (free :∀b o,b∉ch->s.heap.get? b=some o->H b=none->H' b=none)
  (there :∀b o,b∉ch->s.heap.get? b=some o->∃o',h'.get? b=some o')
  (tups :∀b xs,H b=some (.tup xs)->H' b=some (.tup xs)) (frzs :∀b o u,H b=some (.frz o u)->H' b=some (.frz o u)) (tbls :∀b ps,H b=some (.tbl ps)->∃more,H' b=some (.tbl (ps++more)))
  (ns :∀m,s.heap.Ns X.env.locals m->h'.Ns X.env.locals m) (hok:HOk X.prog X.w H' h') (hg:F8 g') :
  Inv X pins σ H' { s with heap:=h',gens:=g',drawn:=d',toks:=t' }:=by
 have F :∀b o,X.s₀.heap.get? b=some o->b≠X.env.locals:=λ b o e=>Y0 (G2 (Q0 e) I.ok.above);have y :∀b o,X.s₀.heap.get? b=some o->b∉X.ex->b∉ch:=λ b o e a g=>by
  rcases (hch b g).1 with z|z
  ·exact a z
  ·exact absurd (G2 (Q0 e) z) (y4 _)
 have D :∀x c,X.env.cells.lookup x=some c->∀v,s.heap.IsCell c v->h'.IsCell c v:=λ x c e v ⟨o,h,A⟩=>by
  have t:c∉ch:=λ z=>(hch c z).2.2.1 x c e rfl;by_cases hc:c∈X.fs
  ·obtain ⟨sl,q⟩:=slot c o (I.cne x c e) hc t h (I.freeC x c e);exact ⟨_,q,A⟩
  ·exact ⟨o,keep c o (I.cne x c e) hc t h (I.freeC x c e),A⟩
 refine ⟨I.ok,I.os,hg,⟨λ b o e n g a=>?_,λ b o e n g a=>?_,λ b o e n a=>?_,λ b o e a=>?_,λ b xs e=>tups b xs (I.base.tups b xs e),λ b o xs e=>frzs b o xs (I.base.frzs b o xs e),λ b ps e=>?_⟩,?_,λ x c e=>?_,?_,λ x c e=>?_,λ p B=>?_,hok,I.len⟩
 ·exact keep b o (F b o e) g (y b o e a) (I.base.keep b o e n g a) (I.base.free b o e n a)
 ·obtain ⟨sl,f⟩:=I.base.slot b o e n g a;obtain ⟨L,j⟩:=slot b _ (F b o e) g (y b o e a) f (I.base.free b o e n a);exact ⟨L,j⟩
 ·obtain ⟨o',f⟩:=I.base.there b o e a;exact free b o' (y b o e a) f (I.base.free b o e n a)
 ·obtain ⟨o',f⟩:=I.base.there b o e a;exact there b o' (y b o e a) f
 ·obtain ⟨K,f⟩:=I.base.tbls b ps e;obtain ⟨J,j⟩:=tbls b _ f;exact ⟨K++J,by rw [j,Array.append_assoc]⟩
 ·obtain ⟨m,G,M⟩:=I.loc;refine ⟨m,ns m G,λ i x v f j N=>?_⟩;obtain ⟨u,r,l⟩:=M i x v f j N;refine ⟨u,r,?_⟩;rcases l with l|⟨k,c,e,z⟩
  ·exact .inl l
  ·exact .inr ⟨k,c,e,D x c e _ z⟩
 ·obtain ⟨v,z⟩:=I.cell x c e;exact ⟨v,D x c e v z⟩
 ·obtain ⟨m,⟨o,_,_,h,_⟩,_⟩:=I.loc;exact free _ o (λ z=>(hch _ z).2.1 rfl) h I.free
 ·obtain ⟨v,o,h,A⟩:=I.cell x c e;exact free c o (λ z=>(hch c z).2.2.1 x c e rfl) h (I.freeC x c e)
 ·obtain ⟨e,n,E,C,d⟩:=I.pin p B;have t:p.1∉ch:=λ z=>(hch p.1 z).2.2.2 p B rfl;exact ⟨keep p.1 p.2 E C t e n,free p.1 p.2 t e n,E,C,d⟩
theorem Inv.un {t':Nat} (I:Inv X pins σ H s) (u:Un X.fs [] H H' s.heap h') (hok:HOk X.prog X.w H' h'):Inv X pins σ H' { s with heap:=h',toks:=t' }:=by obtain ⟨m,⟨o,q,l,c,r⟩,_⟩:=id I.loc;obtain ⟨t,i⟩:=u.any c I.free (by simp);exact I.step (g':=s.gens) (d':=s.drawn) (ch:=[]) (λ _ z=>nomatch z) (λ b o _ a _ e n=>u.keep b o e n a (by simp)) (λ b o _ a _ e n=>u.slot b o e n a (by simp)) (λ b o _ e n=>u.free b o e n (by simp)) (λ b o _ e=>u.there b o e (by simp)) u.tups u.frzs u.tbls (λ p j=>by obtain ⟨k,h,f,d,g⟩:=j;rw [c] at d;cases d;exact ⟨_,h,f,i,g⟩) hok I.bare
theorem Inv.call {g':Array GenState} {t':Nat} {d':Drawn} {ch:List Addr} (I:Inv X pins σ H s) (u:Un (frs X.stack) ch H H' s.heap h') (hok:HOk X.prog X.w H' h') (hg:F8 g')
  (hch :∀b∈ch,(b∈X.ex\/X.s₀.heap.objs.size<=b)/\b≠X.env.locals/\(∀x c,X.env.cells.lookup x=some c->c≠b)/\∀p∈X.pn++pins,p.1≠b) :
  Inv X pins σ H' { s with heap:=h',gens:=g',drawn:=d',toks:=t' }:=by
 obtain ⟨m,⟨o,y,t,f,r⟩,_⟩:=id I.loc;obtain ⟨A,d⟩:=u.any f I.free λ z=>(hch _ z).2.1 rfl;exact I.step (ch:=ch) hch (λ b o d h a e n=>u.keep b o e n (λ z=>(List.mem_cons.mp (I.stkSub b z)).elim d h) a) (λ b o _ _ a e n=>u.any e n a) (λ b o a e n=>u.free b o e n a) (λ b o a e=>u.there b o e a) u.tups u.frzs u.tbls (λ v l=>by obtain ⟨q,k,i,g,j⟩:=l;rw [f] at g;cases g;exact ⟨_,k,i,d,j⟩) hok hg
theorem Inv.turned {t':Nat} {it:Addr} (I:Inv X pins σ H s) (k :∀b o,b≠it->s.heap.get? b=some o->h'.get? b=some o) (hn:H it=none) (hL:it≠X.env.locals)
  (h1:it∈X.ex\/X.s₀.heap.objs.size<=it) (h2 :∀x c,X.env.cells.lookup x=some c->c≠it) (h3 :∀p∈X.pn++pins,p.1≠it):Inv X pins σ H { s with heap:=h',toks:=t' }:=by
 have d :∀b u,H b=some u->b≠it:=λ b u e z=>by rw [z,hn] at e;cases e
 refine I.step (g':=s.gens) (d':=s.drawn) (ch:=[it]) (λ b i=>?_) (λ b o _ _ a e _=>k b o (λ z=>a (by simp [z])) e) (λ b o _ _ a e _=>⟨o.slots,k b o (λ z=>a (by simp [z])) e⟩) (λ _ _ _ _ n=>n)
  (λ b o a e=>⟨o,k b o (λ z=>a (by simp [z])) e⟩) (λ _ _ e=>e) (λ _ _ _ e=>e) (λ b l e=>⟨#[],by rw [e];simp⟩) (λ m f=>?_) (λ b u e=>?_) I.bare
 ·have e:b=it:=by simpa using i
  subst e;exact ⟨h1,hL,h2,h3⟩
 ·obtain ⟨o,g,h,j,r⟩:=f;exact ⟨o,g,h,k _ o (X1 hL) j,r⟩
 ·refine (I.hok b u e).stay (λ c v a q=>k c v ?_ q) (λ _ q=>q) λ _ _ q=>q;rcases a with z|z
  ·rw [z];exact d b u e
  ·exact d c _ z
theorem Inv.tok (I:Inv X pins σ H s) (t:Nat):Inv X pins σ H { s with toks:=t }:=I.un (h':=s.heap) (t':=t) Un.refl I.hok
theorem Inv.kept {t':Nat} (I:Inv X pins σ H s) (k :∀b u,s.heap.get? b=some u->h'.get? b=some u):Inv X pins σ H { s with heap:=h',toks:=t' }:=I.un (Un.kept k) (I.hok.kept k)
theorem Inv.laid {a:Addr} {o:HO} {t':Nat} (I:Inv X pins σ H s) (k :∀b u,s.heap.get? b=some u->h'.get? b=some u) (hp:s.heap.objs.size<=a) (new:ObjOk X.prog X.w (upd H a o) h' a o) :
  Inv X pins σ (upd H a o) { s with heap:=h',toks:=t' }:=I.un (Un.laid k hp (I.hok.fresh hp)) (I.hok.laid k hp new)
theorem Inv.write {x e:Addr} {o:HO} {t':Nat} (I:Inv X pins σ H s) (mu:Mut (H x)) (he:e=x\/H e=some (.own x)) (k :∀b u,b≠e->s.heap.get? b=some u->h'.get? b=some u) (heo :∃u,h'.get? e=some u)
  (new:ObjOk X.prog X.w (upd H x o) h' x o):Inv X pins σ (upd H x o) { s with heap:=h',toks:=t' }:=I.un (Un.write mu he k heo) (I.hok.write mu he k heo new)
theorem Inv.weak {σ':List (Option V)} (I:Inv X pins σ H s) (hl:σ'.length=σ.length) (w :∀(i:Nat) v,σ'[i]? = some (some v)->σ[i]? = some (some v)):Inv X pins σ' H s:=
 ⟨I.ok,I.os,I.bare,I.base,let ⟨m,hn,hl'⟩:=I.loc;⟨m,hn,λ i x v b a c=>hl' i x v b (w i v a) c⟩,I.cell,I.free,I.freeC,I.pin,I.hok,hl.trans I.len⟩
theorem Inv.pins_of {pins':List (Addr×Obj)} (I:Inv X pins σ H s) (h :∀p∈pins',s.heap.get? p.1=some p.2/\H p.1=none/\p.1≠X.env.locals/\p.1∉X.fs/\∀v,p.2.data≠.cell v):Inv X pins' σ H s:=
 ⟨I.ok,I.os,I.bare,I.base,I.loc,I.cell,I.free,I.freeC,λ p a=>(List.mem_append.mp a).elim (λ z=>I.pin p (b7 _ z)) (h p),I.hok,I.len⟩
theorem zf0 {N:List Str} (hN:N.Nodup) {i j:Nat} {x:Str} (a:N[i]? = some x) (b:N[j]? = some x):i=j:=by obtain ⟨e,d⟩:=List.getElem?_eq_some_iff.mp a;obtain ⟨f,c⟩:=List.getElem?_eq_some_iff.mp b;exact (List.getElem_inj hN).mp (d.trans c.symm)
theorem zh3 {M:Model} {A:K2} {E:Value->B0->Prop} {i:Nat} {x:Str} {v:V} {u:Value} {Q:Unit->B0->Prop} (I:Inv X pins σ H s) (hN:X.N.Nodup) (hi:X.N[i]? = some x) (hx:Loc X.env.scope x) (r:RelV v u)
  (h :∀s',Inv X pins (σ.set i (some v)) H s'->(∃a,K6 a s.heap s'.heap/\(a=X.env.locals\/X.env.cells.lookup x=some a))->Q () s') (hf:X.fn x=true\/X.env.scope.names.lookup x=some .local:=by first|exact .inl rfl|exact .inr rfl|assumption):S0 M A (storeName X.env x u) Q E s:=by
 obtain ⟨m,L,hl⟩:=id I.loc;have a4:(X.env.scope.kind == .class || (X.env.scope.kind == .module && X.env.locals != X.env.globals))=false:=by rw [I.ok.kind];rfl
 have a1:i < σ.length:=by rw [I.len];exact (List.getElem?_eq_some_iff.mp hi).1
 have cne:=I.cne;have a2 :∀{a:Addr} {C:Heap},(∃o,s.heap.get? a=some o/\H a=none)->K6 a s.heap C->HOk X.prog X.w H C:=λ {a C} ha f b ob e=>by
  obtain ⟨_,_,a0⟩:=ha;refine (I.hok b ob e).stay (λ c F l q=>(f.2 c ?_).trans q) (λ _ q=>q) λ _ _ q=>q;rintro rfl;rcases l with rfl|l
  ·rw [a0] at e;cases e
  ·rw [a0] at l;cases l
 rcases hx with hk|hk
 ·refine wpAny_storeName_local hk L (λ C a6 f=>?_) a4;obtain ⟨oL,_,_,a5,_⟩:=id L;refine h _ ⟨I.ok,I.os,I.bare,⟨λ b o e n B hx=>?_,λ b o e n B hx=>?_,I.base.free,λ b o e hx=>?_,I.base.tups,I.base.frzs,I.base.tbls⟩,⟨_,a6,λ j y U g t W=>?_⟩,λ y c e=>?_,I.free,I.freeC,λ p O=>?_,a2 ⟨oL,a5,I.free⟩ f,by simpa using I.len⟩ ⟨_,f,.inl rfl⟩
  ·exact (f.2 b (Y0 (G2 (Q0 e) I.ok.above))).trans (I.base.keep b o e n B hx)
  ·obtain ⟨S,g⟩:=I.base.slot b o e n B hx;exact ⟨S,(f.2 b (Y0 (G2 (Q0 e) I.ok.above))).trans g⟩
  ·obtain ⟨K,g⟩:=I.base.there b o e hx;exact ⟨K,(f.2 b (Y0 (G2 (Q0 e) I.ok.above))).trans g⟩
  ·by_cases hj:j=i
   ·subst hj;rw [hi] at g;cases g;rw [P0 a1] at t;cases t;exact ⟨u,r,.inl ⟨hk,by simp⟩⟩
   ·rw [Y1 (X1 hj)] at t;obtain ⟨R,T,q⟩:=hl j y U g t W;refine ⟨R,T,?_⟩;rcases q with ⟨k,e⟩|⟨k,c,e,z⟩
    ·refine .inl ⟨k,?_⟩;have:y≠x:=λ e=>hj (zf0 hN g (e ▸ hi));simp [this,e]
    ·exact .inr ⟨k,c,e,z.sameBut f (cne y c e)⟩
  ·obtain ⟨F,z⟩:=I.cell y c e;exact ⟨F,z.sameBut f (cne y c e)⟩
  ·obtain ⟨e,n,G,P,d⟩:=I.pin p O;exact ⟨(f.2 p.1 G).trans e,n,G,P,d⟩
 ·have J:X.fn x=true:=by
   rcases hf with z|z
   ·exact z
   ·rw [z] at hk;cases hk
  obtain ⟨c,l⟩:=I.ok.has x (.inl hk);obtain ⟨F,z⟩:=I.cell x c l;refine wpAny_storeName_cell I.ok.kind hk l z (λ C a3 f=>?_);obtain ⟨Z,Y,a7⟩:=id z;refine h { s with heap:=C } ⟨I.ok,I.os,I.bare,⟨λ b o e n B hx=>?_,λ b o e n B hx=>?_,I.base.free,λ b o e hx=>?_,I.base.tups,I.base.frzs,I.base.tbls⟩,⟨m,L.sameBut f (X1 (cne x c l)),λ j y U g t W=>?_⟩,λ y D e=>?_,I.free,I.freeC,λ p O=>?_,a2 ⟨Z,Y,I.freeC x c l⟩ f,by simpa using I.len⟩ ⟨c,f,.inr l⟩
  ·exact (f.2 b (Y0 (G2 (Q0 e) (I.ok.cab x c J l)))).trans (I.base.keep b o e n B hx)
  ·obtain ⟨S,g⟩:=I.base.slot b o e n B hx;exact ⟨S,(f.2 b (Y0 (G2 (Q0 e) (I.ok.cab x c J l)))).trans g⟩
  ·obtain ⟨K,g⟩:=I.base.there b o e hx;exact ⟨K,(f.2 b (Y0 (G2 (Q0 e) (I.ok.cab x c J l)))).trans g⟩
  ·by_cases hj:j=i
   ·subst hj;rw [hi] at g;cases g;rw [P0 a1] at t;cases t;exact ⟨u,r,.inr ⟨.inl hk,c,l,a3⟩⟩
   ·rw [Y1 (X1 hj)] at t;obtain ⟨R,T,q⟩:=hl j y U g t W;refine ⟨R,T,?_⟩;rcases q with q|⟨k,D,e,z'⟩
    ·exact .inl q
    ·refine .inr ⟨k,D,e,z'.sameBut f ?_⟩;rintro rfl;exact hj (zf0 hN g (I.ok.inj _ _ _ e l ▸ hi))
  ·by_cases hcc:D=c
   ·subst hcc;exact ⟨_,a3⟩
   ·obtain ⟨w2,z2⟩:=I.cell y D e;exact ⟨w2,z2.sameBut f hcc⟩
  ·obtain ⟨e,n,G,P,d⟩:=I.pin p O;refine ⟨(f.2 p.1 ?_).trans e,n,G,P,d⟩;intro q;rw [q,Y] at e;have q':Z=p.2:=O2 e;exact d F (by rw [<-q'];exact a7)
theorem zdn {M:Model} {A:K2} {E:Value->B0->Prop} {i:Nat} {x:Str} {v:V} {u:Value} {Q:Unit->B0->Prop} (I:Inv X pins σ H s) (hN:X.N.Nodup) (hi:X.N[i]? = some x) (hx:Loc X.env.scope x) (r:RelV v u)
  (h :∀s',Inv X pins (σ.set i (some v)) H s'->Q () s') (hf:X.fn x=true\/X.env.scope.names.lookup x=some .local:=by first|exact .inl rfl|exact .inr rfl|assumption):S0 M A (storeName X.env x u) Q E s:=
 zh3 I hN hi hx r (λ s' a _=>h s' a) hf
theorem Inv.call' {s':B0} {ch:List Addr} (I:Inv X pins σ H s) (ho:s'.os=s.os) (u:Un (frs X.stack) ch H H' s.heap s'.heap) (hok:HOk X.prog X.w H' s'.heap) (hg:F8 s'.gens)
  (hch :∀b∈ch,(b∈X.ex\/X.s₀.heap.objs.size<=b)/\b≠X.env.locals/\(∀x c,X.env.cells.lookup x=some c->c≠b)/\∀p∈X.pn++pins,p.1≠b):Inv X pins σ H' s':=by
 obtain ⟨d,g',d',t',a⟩:=s';have e:a=s.os:=ho;subst e;exact I.call (g':=g') (t':=t') (d':=d') u hok hg hch
end
noncomputable abbrev XK:=Value->Option Addr->Hp->Prop
noncomputable abbrev St:=List (Option V)
noncomputable abbrev VK:=V->Hp->Prop
noncomputable abbrev TE:=St->Hp->VK->Prop
noncomputable abbrev TT:=St->Hp->(Bool->Hp->Prop)->Prop
noncomputable abbrev TA:=St->Hp->(List V->Hp->Prop)->Prop
structure Ends where
 nx:St->Hp->Prop
 rt:VK
 bk:St->Hp->Prop:=λ _ _=>False
 ct:St->Hp->Prop:=λ _ _=>False
noncomputable abbrev TS:=Ends->St->Hp->Prop
def EP (X:Cx) (pins:List (Addr×Obj)) (σ:St) (Q:VK) (u:Value) (s':B0):Prop:=∃v H',Inv X pins σ H' s'/\RelV v u/\Q v H'
def TP (X:Cx) (pins:List (Addr×Obj)) (σ:St) (Q:Bool->Hp->Prop) (b:Bool) (s':B0):Prop:=∃H',Inv X pins σ H' s'/\Q b H'
def AP (X:Cx) (pins:List (Addr×Obj)) (σ:St) (Q:List V->Hp->Prop) (us:List Value) (s':B0):Prop:=∃vs H',Inv X pins σ H' s'/\Vals vs us/\Q vs H'
def SP (X:Cx) (pins:List (Addr×Obj)) (D:Ends) (f:Flow) (s':B0):Prop:=
 match f with
 | .next=>∃σ' H',Inv X pins σ' H' s'/\D.nx σ' H'
 | .brk=>∃σ' H',Inv X pins σ' H' s'/\D.bk σ' H'
 | .cont=>∃σ' H',Inv X pins σ' H' s'/\D.ct σ' H'
 | .ret u=>∃v σ' H',Inv X pins σ' H' s'/\RelV v u/\D.rt v H'
def PE (X:Cx) (e:Expr) (t:TE):Prop:=
 ∀(pins:List (Addr×Obj)) (s:B0) (σ:St) (H:Hp) (Q:VK),Inv X pins σ H s->t σ H Q->S0 (J1 X.prog X.w) X.A (R3 e X.env) (EP X pins σ Q) X.xe s
def PT (X:Cx) (e:Expr) (t:TT):Prop:=
 ∀(pins:List (Addr×Obj)) (s:B0) (σ:St) (H:Hp) (Q:Bool->Hp->Prop),Inv X pins σ H s->t σ H Q->S0 (J1 X.prog X.w) X.A (isTrue e X.env (R3 e X.env)) (TP X pins σ Q) X.xe s
def PW (X:Cx) (e:Expr) (t:TT):Prop:=
 ∀(whole:Sem Value) (pins:List (Addr×Obj)) (s:B0) (σ:St) (H:Hp) (Q:Bool->Hp->Prop),Inv X pins σ H s->t σ H Q->S0 (J1 X.prog X.w) X.A (isTrue e X.env whole) (TP X pins σ Q) X.xe s
theorem PW.pt {X:Cx} {e:Expr} {t:TT} (h:PW X e t):PT X e t:=h _
def PA (X:Cx) (es:List Expr) (t:TA):Prop:=
 ∀(pos:Pos) (pins:List (Addr×Obj)) (s:B0) (σ:St) (H:Hp) (Q:List V->Hp->Prop),Inv X pins σ H s->t σ H Q->S0 (J1 X.prog X.w) X.A (j2h (O4 pos (G1 es X.env))) (AP X pins σ Q) X.xe s
def PS (X:Cx) (st:Stmt) (t:TS):Prop:=
 ∀(pins:List (Addr×Obj)) (s:B0) (σ:St) (H:Hp) (D:Ends),Inv X pins σ H s->t D σ H->S0 (J1 X.prog X.w) X.A (exec st X.env) (SP X pins D) X.xe s
def PSs (X:Cx) (st:List Stmt) (t:TS):Prop:=
 ∀(pins:List (Addr×Obj)) (s:B0) (σ:St) (H:Hp) (D:Ends),Inv X pins σ H s->t D σ H->S0 (J1 X.prog X.w) X.A (execs st X.env) (SP X pins D) X.xe s
theorem thn {α:Type} {t:Sem α} {Q Q':α->B0->Prop} {M:Model} {A:K2} {E:Value->B0->Prop} {s:B0} (h:S0 M A t Q E s) (hQ :∀a s,Q a s->Q' a s):S0 M A t Q' E s:=b4 h hQ λ _ _ x=>x
section
variable {X:Cx}
noncomputable def tVar (i:Nat):TE:=λ σ H Q=>∃v,σ[i]? = some (some v)/\Q v H
noncomputable def tC (v:V):TE:=λ _ H Q=>Q v H
theorem pe_var {i:Nat} {x:Str} {pos:Pos} (hN:X.N[i]? = some x) (hv:Vis X.env.scope x) (hd:(x == ("__debug__" : Str))=false:=by decide) (hcd:(x == ("__classdict__" : Str))=false:=by decide):PE X (.Name x pos) (tVar i):=by
 intro g s σ H Q I h;obtain ⟨v,e,h⟩:=h;obtain ⟨m,d,f⟩:=I.loc;obtain ⟨u,r,l⟩:=f i x v hN e hv;have b:EP X g σ Q u s:=⟨v,H,I,r,h⟩
 rcases l with ⟨a,j⟩|⟨a,c,hc,hcell⟩
 ·exact wpAny_Name (wpAny_loadName_local I.ok.kind a d j b) hd
 ·rcases a with a|a
  ·exact wpAny_Name (wpAny_loadName_cell I.ok.kind a hc hcell b) hd
  ·exact wpAny_Name (wpAny_loadName_free I.ok.kind a hc hcell b hcd) hd
theorem pe_int {i j pos}:PE X (.Constant (.int i) j pos) (tC (.int i)):=λ _ _ _ H _ I h=>wpAny_Constant_int ⟨.int i,H,I.tok _,⟨_,rfl⟩,h⟩
theorem pe_bl {b j pos}:PE X (.Constant (.bool b) j pos) (tC (.bl b)):=λ _ _ _ H _ I h=>Constant_bool ⟨.bl b,H,I,rfl,h⟩
theorem pe_non {j pos}:PE X (.Constant .none j pos) (tC .non):=λ _ _ _ H _ I h=>Constant_none ⟨.non,H,I,rfl,h⟩
theorem pe_str {x j pos}:PE X (.Constant (.str x) j pos) (tC (.str x)):=λ _ _ _ H _ I h=>Calls.Constant_str ⟨.str x,H,I.tok _,⟨_,rfl⟩,h⟩
def Gl (X:Cx) (x:Str):Prop:=X.env.kindOf x=some .globalImplicit
theorem zcb {E:Value->B0->Prop} {pins:List (Addr×Obj)} {s:B0} {σ:St} {H:Hp} {x:Str} {u:Value} {pos:Pos} {Q:Value->B0->Prop} (I:Inv X pins σ H s) (hg:Gl X x) (hm:X.mg x=some u) (h:Q u s)
  (hd:(x == ("__debug__" : Str))=false:=by decide):S0 (J1 X.prog X.w) X.A (R3 (.Name x pos) X.env) Q E s:=
 j14 I.ok.kind hg (Calls.loadGlobal_global (by rw [I.ok.glob];exact I.mod.glob.keeps I.bk) hm h) hd
theorem ld_blt {E:Value->B0->Prop} {pins:List (Addr×Obj)} {s:B0} {σ:St} {H:Hp} {x:Str} {u:Value} {pos:Pos} {Q:Value->B0->Prop} (I:Inv X pins σ H s) (hg:Gl X x) (hm:X.mg x=none) (hv:a5 x=some u) (h:Q u s)
  (hn:x≠"__name__":=by decide) (hd:(x == ("__debug__" : Str))=false:=by decide):S0 (J1 X.prog X.w) X.A (R3 (.Name x pos) X.env) Q E s:=by
 obtain ⟨c,a,b⟩:=I.mod.blt;exact j14 I.ok.kind hg (Calls.loadGlobal_builtin (by rw [I.ok.glob];exact I.mod.glob.keeps I.bk) hm (by rw [I.ok.blt];exact a.keeps I.bk) ((b x hn).trans hv) h) hd
theorem z1t {x:Str} {v:V} {u:Value} {pos:Pos} (hg:Gl X x) (hm:X.mg x=some u) (r:RelV v u) (hd:(x == ("__debug__" : Str))=false:=by decide):PE X (.Name x pos) (tC v):=
 λ _ _ _ H _ I h=>zcb I hg hm ⟨v,H,I,r,h⟩ hd
theorem z1h {x:Str} {v:V} {u:Value} {pos:Pos} (hg:Gl X x) (hm:X.mg x=none) (hv:a5 x=some u) (r:RelV v u) (hn:x≠"__name__":=by decide) (hd:(x == ("__debug__" : Str))=false:=by decide):PE X (.Name x pos) (tC v):=
 λ _ _ _ H _ I h=>ld_blt I hg hm hv ⟨v,H,I,r,h⟩ hn hd
variable {a b:Expr} {ta tb:TE} {pos:Pos}
def PC (X:Cx) (op:CmpOp) (a b:Expr) (t:TE):Prop:=
 ∀(pins:List (Addr×Obj)) (s:B0) (σ:St) (H:Hp) (Q:VK),Inv X pins σ H s->t σ H Q->
  S0 (J1 X.prog X.w) X.A (R3 a X.env) (λ v s₁=>S0 (J1 X.prog X.w) X.A (R3 b X.env) (λ u s₂=>S0 (J1 X.prog X.w) X.A (X2 op v u) (EP X pins σ Q) X.xe s₂) X.xe s₁) X.xe s
noncomputable def tB (t:TE):TT:=λ σ H Q=>t σ H λ x H1=>∃c,x=.bl c/\Q c H1
theorem pt_cmp {op:CmpOp} {t:TE} (h:PC X op a b t) (h1:G8 op b=false:=by first|exact nobehind _ (by decide) (by decide)|rfl):PT X (.Compare a [op] [b] pos) (tB t):=by intro f s σ H Q I e;refine wpAny_isTrue_Compare1 (thn (h f s σ H _ I e) λ v i h1=>thn h1 λ u j g=>thn g λ c k ⟨x,H1,I1,r1,q1⟩=>?_) h1;obtain ⟨d,rfl,q⟩:=q1;cases r1;exact L3 ⟨H1,I1,q⟩
theorem pt_val {e:Expr} {t:TE} (h:PE X e t) (he :∀whole,isTrue e X.env whole=(do let v <-whole;j2g e.pos;n9 [v] (truthy v)):=by intro _;rfl):PT X e (tB t):=by intro b s σ H Q I a;refine isTrue_plain (thn (h b s σ H _ I a) λ v c ⟨x,H1,I1,r1,q1⟩=>?_) (he _);obtain ⟨d,rfl,q⟩:=q1;cases r1;exact L3 ⟨H1,I1,q⟩
variable {tA tB':TT} {rest:List Expr}
noncomputable def tAnd (t u:TT):TT:=λ σ H Q=>t σ H λ c H1=>if c=true then u σ H1 Q else Q false H1
noncomputable def tOr (t u:TT):TT:=λ σ H Q=>t σ H λ c H1=>if c=true then Q true H1 else u σ H1 Q
noncomputable def tNot (t:TT):TT:=λ σ H Q=>t σ H λ c H1=>Q (!c) H1
theorem z6k (ha:PT X a tA):PW X (.BoolOp .And [a] pos) tA:=by
 intro d b s σ H Q I h;refine isTrue_and (thn (ha b s σ H Q I h) λ c f e=>?_);cases c with
 | true=>exact isTrue_and_nil e
 | false=>exact e
theorem pw_or1 (ha:PT X a tA):PW X (.BoolOp .Or [a] pos) tA:=by
 intro d b s σ H Q I h;refine isTrue_or (thn (ha b s σ H Q I h) λ c f e=>?_);cases c with
 | false=>exact isTrue_or_nil e
 | true=>exact e
theorem pw_and (ha:PT X a tA) (hb:PW X (.BoolOp .And (b :: rest) pos) tB'):PW X (.BoolOp .And (a :: b :: rest) pos) (tAnd tA tB'):=by
 intro e d s σ H Q I h;refine isTrue_and (thn (ha d s σ H _ I h) λ c f ⟨H1,I1,q1⟩=>?_);cases c with
 | true=>exact hb e d f σ H1 Q I1 q1
 | false=>exact ⟨H1,I1,q1⟩
theorem pw_or (ha:PT X a tA) (hb:PW X (.BoolOp .Or (b :: rest) pos) tB'):PW X (.BoolOp .Or (a :: b :: rest) pos) (tOr tA tB'):=by
 intro e d s σ H Q I h;refine isTrue_or (thn (ha d s σ H _ I h) λ c f ⟨H1,I1,q1⟩=>?_);cases c with
 | true=>exact ⟨H1,I1,q1⟩
 | false=>exact hb e d f σ H1 Q I1 q1
theorem pt_not (ha:PT X a tA):PT X (.UnaryOp .Not a pos) (tNot tA):=by intro d s σ H Q I h;exact isTrue_not (ha d s σ H (λ c b=>Q (!c) b) I h)
noncomputable def tAndV (ta tb:TE):TE:=λ σ H Q=>ta σ H λ x H1=>∃c,x=.bl c/\if c=true then tb σ H1 Q else Q (.bl false) H1
noncomputable def tOrV (ta tb:TE):TE:=λ σ H Q=>ta σ H λ x H1=>∃c,x=.bl c/\if c=true then Q (.bl true) H1 else tb σ H1 Q
noncomputable def tNotV (ta:TE):TE:=λ σ H Q=>ta σ H λ x H1=>∃c,x=.bl c/\Q (.bl (!c)) H1
theorem pe_one {op} {t:TE} (h:PE X a t):PE X (.BoolOp op [a] pos) t:=λ c s σ H Q I b=>BoolOp_one (h c s σ H Q I b)
theorem pe_and (ha:PE X a ta) (hb:PE X (.BoolOp .And (b :: rest) pos) tb):PE X (.BoolOp .And (a :: b :: rest) pos) (tAndV ta tb):=by
 intro e s σ H Q I h;refine BoolOp_and (thn (ha e s σ H _ I h) λ v f ⟨x,H1,I1,r1,d⟩=>?_);obtain ⟨c,rfl,d⟩:=d;cases r1;refine L3 ?_;cases c with
 | true=>exact hb e f σ H1 Q I1 d
 | false=>exact ⟨.bl false,H1,I1,rfl,d⟩
theorem pe_or (ha:PE X a ta) (hb:PE X (.BoolOp .Or (b :: rest) pos) tb):PE X (.BoolOp .Or (a :: b :: rest) pos) (tOrV ta tb):=by
 intro e s σ H Q I h;refine BoolOp_or (thn (ha e s σ H _ I h) λ v f ⟨x,H1,I1,r1,d⟩=>?_);obtain ⟨c,rfl,d⟩:=d;cases r1;refine L3 ?_;cases c with
 | false=>exact hb e f σ H1 Q I1 d
 | true=>exact ⟨.bl true,H1,I1,rfl,d⟩
theorem pe_not (ha:PE X a ta):PE X (.UnaryOp .Not a pos) (tNotV ta):=by intro d s σ H Q I h;refine UnaryOp_ (thn (ha d s σ H _ I h) λ v e ⟨x,H1,I1,r1,b⟩=>?_);obtain ⟨c,rfl,b⟩:=b;cases r1;exact not_of (L3 ⟨.bl (!c),H1,I1,rfl,b⟩)
noncomputable def tIf (t:TT) (ta tb:TE):TE:=λ σ H Q=>t σ H λ c H1=>if c=true then ta σ H1 Q else tb σ H1 Q
theorem zji {c:Expr} (hc:PT X c tA) (ha:PE X a ta) (hb:PE X b tb):PE X (.IfExp c a b pos) (tIf tA ta tb):=by
 intro e s σ H Q I h;refine wpAny_IfExp (thn (hc e s σ H _ I h) λ d f ⟨H1,I1,q1⟩=>?_);cases d with
 | true=>exact ha e f σ H1 Q I1 q1
 | false=>exact hb e f σ H1 Q I1 q1
end
def SqL (K:j0) (H:Hp) (a:Addr) (xs:List V):Prop:=
 Rd H a (.lst xs)\/
  ∃(o:Obj) (its:Array Value) (n:Nat),K.lookup a=some o/\o.cls=.type "list"/\o.dict=none/\o.data=.seq its n/\its.size<=sizeLine/\Vals xs its.toList
def SqT (K:j0) (H:Hp) (a:Addr) (xs:List V):Prop:=
 Rd H a (.tup xs)\/
  ∃(o:Obj) (its:Array Value) (n:Nat),K.lookup a=some o/\o.cls=.type "tuple"/\o.data=.seq its n/\its.size<=sizeLine/\Vals xs its.toList
noncomputable def absV:Value->Option V
 | .none=>some .non
 | .bool b=>some (.bl b)
 | .int i _=>some (.int i)
 | .str x _=>some (.str x)
 | .bytes b _=>some (.byt b)
 | .float b _=>some (.flt b)
 | .ref a=>some (.ref a)
 | .type n=>some (.ty n)
 | _=>none
theorem RelV.abs {x:V} {u:Value} (r:RelV x u):absV u=some x:=by
 cases x with
 | non=>cases r;rfl
 | bl _=>cases r;rfl
 | int _=>obtain ⟨t,rfl⟩:=r;rfl
 | str _=>obtain ⟨t,rfl⟩:=r;rfl
 | byt _=>obtain ⟨t,rfl⟩:=r;rfl
 | flt _=>obtain ⟨t,rfl⟩:=r;rfl
 | ref _=>cases r;rfl
 | ty _=>cases r;rfl
theorem RelV.inj {x y:V} {u:Value} (r:RelV x u) (q:RelV y u):x=y:=O2 (r.abs.symm.trans q.abs)
theorem Vals.inj :∀{xs ys:List V} {us:List Value},Vals xs us->Vals ys us->xs=ys
 | _,_,_,.nil,.nil=>rfl
 | _,_,_,.cons r t,.cons r' t'=>by rw [r.inj r',Vals.inj t t']
section
variable {X:Cx} {pins:List (Addr×Obj)} {σ:St} {H:Hp} {s:B0} {a:Addr} {xs ys:List V}
theorem SqL.of {K:j0} (h:H a=some (.lst xs)):SqL K H a xs:=.inl (.inl h)
theorem SqT.of {K:j0} (h:H a=some (.tup xs)):SqT K H a xs:=.inl (.inl h)
theorem Inv.list (I:Inv X pins σ H s) (h:SqL X.K H a xs) :∃its:List Value,Vals xs its/\PlainL s.heap a its.toArray/\xs.length<=sizeLine:=by
 rcases h with h|⟨o,its,n,hk,hc,hd,hs,hz,r⟩
 ·obtain ⟨z,its,n,r,e⟩:=h.ok I.hok;exact ⟨its,r,⟨_,n,e,rfl,rfl,rfl⟩,z⟩
 ·refine ⟨its.toList,r,⟨o,n,I.kIn a o hk,hc,hd,by simpa using hs⟩,?_⟩;have e:=r.length;simp only [J2] at e;omega
theorem Inv.tuple (I:Inv X pins σ H s) (h:SqT X.K H a xs) :∃its:List Value,Vals xs its/\IsTup s.heap a its.toArray/\xs.length<=sizeLine:=by
 rcases h with h|⟨o,its,n,hk,hc,hs,hz,r⟩
 ·obtain ⟨z,its,r,p⟩:=h.ok I.hok;exact ⟨its,r,p.1,z⟩
 ·refine ⟨its.toList,r,⟨o,I.kIn a o hk,hc,n,by simpa using hs⟩,?_⟩;have e:=r.length;simp only [J2] at e;omega
theorem Inv.list_inj (I:Inv X pins σ H s) (h:SqL X.K H a xs) (h':SqL X.K H a ys):xs=ys:=by
 obtain ⟨g,r,⟨o,n,e,_,_,d⟩,_⟩:=I.list h;obtain ⟨i,f,⟨j,k,c,_,_,b⟩,_⟩:=I.list h';rw [e] at c;cases c;rw [d] at b;injection b with d1 _;have:g=i:=by simpa using congrArg Array.toList d1
 subst this;exact r.inj f
theorem Inv.tuple_inj (I:Inv X pins σ H s) (h:SqT X.K H a xs) (h':SqT X.K H a ys):xs=ys:=by
 obtain ⟨g,r,⟨o,e,_,n,d⟩,_⟩:=I.tuple h;obtain ⟨i,f,⟨j,c,_,k,b⟩,_⟩:=I.tuple h';rw [e] at c;cases c;rw [d] at b;injection b with d1 _;have:g=i:=by simpa using congrArg Array.toList d1
 subst this;exact r.inj f
end
noncomputable abbrev Cx.wish (X:Cx) (E:Value->B0->Prop):Cx:={ X with xe:=E }
noncomputable abbrev Cx.nox (X:Cx):Cx:=X.wish λ _ _=>False
theorem Cx.Ok.wish {X:Cx} (ok:X.Ok) (E:Value->B0->Prop):(X.wish E).Ok:=
 ⟨ok.mod,ok.kind,ok.glob,ok.blt,ok.above,ok.inj,ok.has,ok.cab,ok.hd,ok.frames,ok.stk,ok.exf,ok.bs,ok.bsz,ok.noex,ok.exfs,ok.funs,ok.frf⟩
theorem Cx.Ok.unwish {X:Cx} {E:Value->B0->Prop} (ok:(X.wish E).Ok):X.Ok:=
 ⟨ok.mod,ok.kind,ok.glob,ok.blt,ok.above,ok.inj,ok.has,ok.cab,ok.hd,ok.frames,ok.stk,ok.exf,ok.bs,ok.bsz,ok.noex,ok.exfs,ok.funs,ok.frf⟩
section
variable {X:Cx} {pins:List (Addr×Obj)} {σ:St} {H:Hp} {s:B0} {E:Value->B0->Prop}
theorem Inv.wish (I:Inv X pins σ H s) (E:Value->B0->Prop):Inv (X.wish E) pins σ H s:=⟨I.ok.wish E,I.os,I.bare,I.base,I.loc,I.cell,I.free,I.freeC,I.pin,I.hok,I.len⟩
theorem Inv.unwish (I:Inv (X.wish E) pins σ H s):Inv X pins σ H s:=⟨I.ok.unwish,I.os,I.bare,I.base,I.loc,I.cell,I.free,I.freeC,I.pin,I.hok,I.len⟩
theorem SP.unwish {D:Ends} {f:Flow} {s':B0} (h:SP (X.wish E) pins D f s'):SP X pins D f s':=by
 cases f with
 | next=>obtain ⟨a,b,I,q⟩:=h;exact ⟨a,b,I.unwish,q⟩
 | brk=>obtain ⟨a,b,I,q⟩:=h;exact ⟨a,b,I.unwish,q⟩
 | cont=>obtain ⟨a,b,I,q⟩:=h;exact ⟨a,b,I.unwish,q⟩
 | ret u=>obtain ⟨v,a,b,I,r,q⟩:=h;exact ⟨v,a,b,I.unwish,r,q⟩
theorem PSs.nox {st:List Stmt} {t:TS} (h:PSs X.nox st t):PSs X st t:=λ b s σ H D I a=>b4 (h b s σ H D (I.wish _) a) (λ _ _ q=>q.unwish) λ _ _ z=>F4 z
end
section
variable {X:Cx} {st:Stmt} {rest:List Stmt} {t u:TS} {e:Expr} {te:TE} {pos:Pos}
noncomputable def tNext:TS:=λ D σ H=>D.nx σ H
noncomputable def tSeq (t u:TS):TS:=λ D σ H=>t { D with nx:=u D } σ H
theorem z0f:PSs X [] tNext:=λ _ _ σ H _ I h=>j2a ⟨σ,H,I,h⟩
theorem z02 (h1:PS X st t) (h2:PSs X rest u):PSs X (st :: rest) (tSeq t u):=by
 intro a s σ H D I h;refine wpAny_execs_cons (thn (h1 a s σ H { D with nx:=u D } I h) λ f b q=>?_);cases f with
 | next=>obtain ⟨c,d,e,q⟩:=q;exact h2 a b c d D e q
 | ret v=>exact q
 | brk=>exact q
 | cont=>exact q
theorem z05 (h1:PS X st t):PSs X [st] t:=by
 intro a s σ H D I h;refine wpAny_execs_cons (thn (h1 a s σ H D I h) λ f b q=>?_);cases f with
 | next=>exact j2a q
 | ret v=>exact q
 | brk=>exact q
 | cont=>exact q
theorem Inv.quiet {pins:List (Addr×Obj)} {σ:St} {H:Hp} {s:B0} (I:Inv X pins σ H s):interactive X.env=false:=by simp [interactive,I.ok.kind]
noncomputable def tDrop (te:TE):TS:=λ D σ H=>te σ H λ _ H1=>D.nx σ H1
theorem z0i (he:PE X e te) (hs:U8 e none pos.line X.env=V3 false:=by rfl):PS X (.Expr e pos) (tDrop te):=by intro a s σ H D I h;exact wpAny_Expr_any (thn (he a s σ H _ I h) λ v b ⟨x,H1,I1,r1,q1⟩=>⟨σ,H1,I1,q1⟩) I.quiet hs
noncomputable def tRet (te:TE):TS:=λ D σ H=>te σ H D.rt
theorem ps_ret (he:PE X e te):PS X (.Return (some e) pos) (tRet te):=by intro a s σ H D I h;exact wpAny_Return_some (thn (he a s σ H _ I h) λ v b ⟨x,H1,I1,r1,q1⟩=>⟨x,σ,H1,I1,r1,q1⟩)
noncomputable def tRetN:TS:=λ D _ H=>D.rt .non H
theorem z7e:PS X (.Return none pos) tRetN:=λ _ _ σ H _ I h=>wpAny_Return_none ⟨.non,σ,H,I,rfl,h⟩
noncomputable def tIfS (c:TT) (t u:TS):TS:=λ D σ H=>c σ H λ b H1=>if b=true then t D σ H1 else u D σ H1
theorem ps_if {c:Expr} {a b:List Stmt} {tc:TT} (hc:PT X c tc) (ha:PSs X a t) (hb:PSs X b u):PS X (.If c a b pos) (tIfS tc t u):=by
 intro e s σ H D I h;refine wpAny_If (thn (hc e s σ H _ I h) λ d f ⟨H1,I1,q1⟩=>?_);cases d with
 | true=>exact ha e f σ H1 D I1 q1
 | false=>exact hb e f σ H1 D I1 q1
noncomputable def tNever:TS:=λ _ _ _=>False
theorem z4r:PS X st tNever:=λ _ _ _ _ _ _ h=>h.elim
end
noncomputable abbrev TG:=V->St->Hp->(St->Hp->Prop)->Prop
noncomputable abbrev TGs:=List V->St->Hp->(St->Hp->Prop)->Prop
def PG (X:Cx) (target:Expr) (t:TG):Prop:=
 ∀(pins:List (Addr×Obj)) (s:B0) (σ:St) (H:Hp) (v:V) (u:Value) (Q:St->Hp->Prop),Inv X pins σ H s->RelV v u->t v σ H Q->
  S0 (J1 X.prog X.w) X.A (assign target X.env u) (λ _ s'=>∃σ' H',Inv X pins σ' H' s'/\Q σ' H') X.xe s
def PGs (X:Cx) (ts:List Expr) (t:TGs):Prop:=
 ∀(pins:List (Addr×Obj)) (s:B0) (σ:St) (H:Hp) (vs:List V) (us:List Value) (Q:St->Hp->Prop),Inv X pins σ H s->Vals vs us->t vs σ H Q->
  S0 (J1 X.prog X.w) X.A (assignInOrder ((y7 ts X.env).map (·.2)) us) (λ _ s'=>∃σ' H',Inv X pins σ' H' s'/\Q σ' H') X.xe s
noncomputable abbrev TSet:=V->V->V->Hp->(Hp->Prop)->Prop
def PSet (X:Cx) (t:TSet):Prop:=
 ∀(pins:List (Addr×Obj)) (s:B0) (σ:St) (H:Hp) (o i v:V) (ov iv u:Value) (Q:Hp->Prop),Inv X pins σ H s->RelV o ov->RelV i iv->RelV v u->t o i v H Q->
  S0 (J1 X.prog X.w) X.A (setItem ov iv u) (λ _ s'=>∃H',Inv X pins σ H' s'/\Q H') X.xe s
section
variable {X:Cx} {pos:Pos}
noncomputable def gName (i:Nat):TG:=λ v σ H Q=>Q (σ.set i (some v)) H
theorem z0m {i:Nat} {x:Str} (hN:X.N.Nodup) (hi:X.N[i]? = some x) (hx:Loc X.env.scope x) (hf:X.fn x=true\/X.env.scope.names.lookup x=some .local:=by first|exact .inl rfl|exact .inr rfl|assumption):PG X (.Name x pos) (gName i):=by intro c s σ H v u Q I r h;exact wpAny_assign_Name (zdn I hN hi hx r (λ b a=>⟨_,H,a,h⟩) hf)
noncomputable def gNil:TGs:=λ vs σ H Q=>vs=[]/\Q σ H
noncomputable def gCons (t:TG) (u:TGs):TGs:=λ vs σ H Q=>∃v r,vs=v :: r/\t v σ H λ σ' H'=>u r σ' H' Q
theorem z74:PGs X [] gNil:=by intro c s σ H a b Q I r h;obtain ⟨e,h⟩:=h;subst e;cases r;exact assignInOrder_nil ⟨σ,H,I,h⟩
theorem z0u {e:Expr} {es:List Expr} {t:TG} {u:TGs} (h1:PG X e t) (h2:PGs X es u)
  (hs:(y7 (e :: es) X.env).map (·.2)=assign e X.env :: (y7 es X.env).map (·.2):=by rfl):PGs X (e :: es) (gCons t u):=by
 intro a s σ H d f Q I r h;obtain ⟨v,g,c,h⟩:=h;subst c;cases r with
 | cons r rr=>rw [hs];refine assignInOrder_cons (thn (h1 a s σ H _ _ _ I r h) λ _ b ⟨σ1,H1,I1,q1⟩=>?_);exact h2 a b σ1 H1 _ _ Q I1 rr q1
noncomputable def gTup (K:j0) (n:Nat) (t:TGs):TG:=λ v σ H Q=>∃a xs,v=.ref a/\SqT K H a xs/\xs.length=n/\t xs σ H Q
theorem pg_tup {es:List Expr} {k:Nat} {t:TGs} {n:Nat} (hc:X.calm=true) (h:PGs X es t)
  (hn:(y7 es X.env).length=n:=by rfl) (hst:(y7 es X.env).findIdx? (·.1)=none:=by rfl):PG X (.Tuple es k pos) (gTup X.K n t):=by
 intro d s σ H v u Q I r c;obtain ⟨a,l,m,p,w,c⟩:=c;subst m;cases r;obtain ⟨x,f,i,y⟩:=I.tuple p;refine assign_Tuple_tuple (I.ok.hd hc) i (by simp [hn,<-w,f.length]) hst λ j q=>?_;have g:Inv X d σ H { s with heap:=j }:=I.kept (t':=s.toks) λ b o e=>q b o (Y0 (Q0 e)) e;exact h d _ σ H l _ Q g (by simpa using f) c
noncomputable def gSub (to ti:TE) (t:TSet):TG:=λ v σ H Q=>to σ H λ o H1=>ti σ H1 λ i H2=>t o i v H2 λ H3=>Q σ H3
theorem pg_sub {o i:Expr} {to ti:TE} {t:TSet} (ho:PE X o to) (hi:PE X i ti) (hs:PSet X t)
  (ha :∀v,assign (.Subscript o i pos) X.env v=(do
   let ov <-n9 [v] (R3 o X.env)
   let iv <-n9 [v,ov] (R3 i X.env)
   j2g pos
   n9 [v,ov,iv] (setItem ov iv v)
   release [v,ov,iv] []):=by intro _;rfl):PG X (.Subscript o i pos) (gSub to ti t):=by
 intro a s σ H v u Q I r h;rw [ha];refine o0 (V1 (thn (ho a s σ H _ I h) λ ov b ⟨x,H1,I1,r1,q1⟩=>?_));refine o0 (V1 (thn (hi a b σ H1 _ I1 q1) λ iv c ⟨y,H2,I2,r2,q2⟩=>?_));refine o0 (j03 (o0 (V1 (thn (hs a c σ H2 x y v ov iv u _ I2 r1 r2 r q2) λ _ d ⟨H3,I3,q3⟩=>?_))));exact wpAny_release ⟨σ,H3,I3,q3⟩
noncomputable def tAsg (te:TE) (g:TG):TS:=λ D σ H=>te σ H λ x H1=>g x σ H1 D.nx
theorem ps_asg {tg e:Expr} {te:TE} {g:TG} (he:PE X e te) (hg:PG X tg g) (hs:swapsWithSole [tg] e pos.line X.env=V3 false:=by rfl) (hw:swappedStores [tg] e X.env=V3 none:=by rfl)
  (h1:(y7 [tg] X.env).map (·.2)=[assign tg X.env]:=by rfl):PS X (.Assign [tg] e pos) (tAsg te g):=by
 intro a s σ H D I h;refine wpAny_Assign_stores (thn (he a s σ H _ I h) λ v b ⟨x,H1,I1,r1,q1⟩=>?_) hs hw;rw [h1];exact thn (hg a b σ H1 x v _ I1 r1 q1) λ _ c q=>q
theorem ps_set {i:Nat} {x:Str} {e:Expr} {te:TE} {pos':Pos} (hN:X.N.Nodup) (hi:X.N[i]? = some x) (hx:Loc X.env.scope x) (he:PE X e te) (hs:U8 e (some (.Name x pos')) pos.line X.env=V3 false:=by rfl) (hf:X.fn x=true\/X.env.scope.names.lookup x=some .local:=by first|exact .inl rfl|exact .inr rfl|assumption) :
  PS X (.Assign [.Name x pos'] e pos) (tAsg te (gName i)):=by
 intro b s σ H D I h;refine wpAny_Assign_Name (thn (he b s σ H _ I h) λ v c ⟨y,H1,I1,r1,q1⟩=>?_) hs;exact zdn I1 hN hi hx r1 (λ d a=>⟨_,H1,a,q1⟩) hf
end
structure It where
 go:Nat->Hp->Prop
 yld:Nat->Hp->V->Hp->Prop
 stop:Nat->Hp->Prop
def FpOk (X:Cx) (pins:List (Addr×Obj)) (H:Hp) (b:Addr):Prop:=
 H b=none/\b≠X.env.locals/\b∉X.fs/\(b∈X.ex\/X.s₀.heap.objs.size<=b)/\(∀x c,X.env.cells.lookup x=some c->c≠b)/\∀p∈X.pn++pins,p.1≠b
theorem Inv.fpOk {X:Cx} {pins:List (Addr×Obj)} {σ:St} {H H':Hp} {s:B0} {b:Addr} (I:Inv X pins σ H s) (hb:s.heap.objs.size<=b) (hn:H' b=none):FpOk X pins H' b:=by
 refine ⟨hn,W3 (G2 I.lt hb),I.nofs hb,.inr (L0 I.sz hb),λ x c e z=>?_,λ p a z=>?_⟩
 ·obtain ⟨v,q⟩:=I.cell x c e;exact absurd (G2 q.lt (by rw [z];exact hb)) (y4 _)
 ·exact absurd (G2 (Q0 (I.pin p a).1) (by rw [z];exact hb)) (y4 _)
structure Turn (P:Program) (w:Z0) (K:j0) (tg:Expr) (J:It) (fp:List Addr) (it:Addr) (tn:Nat->Heap->Prop):Prop where
 mem:it∈fp
 obj :∀i h,tn i h->∀b∈fp,∃o,h.get? b=some o/\∀v,o.data≠.cell v
 keep :∀i h h',tn i h->(∀b∈fp,∀o,h.get? b=some o->h'.get? b=some o)->tn i h'
 item :∀(X:Cx),X.prog=P->X.w=w->X.K=K->X.calm=true->∀(i:Nat) (pins:List (Addr×Obj)) (s:B0) (σ:St) (H:Hp) (E:Value->B0->Prop),Inv X pins σ H s->(∀b∈fp,FpOk X pins H b)->tn i s.heap->J.go i H->
  S0 (J1 P w) X.A (p7 (.ref it)) (λ r s1=>∃u,r=some u/\
   S0 (J1 P w) X.A (u9 tg (.ref it) u) (λ _ s2=>∃x H',Inv X pins σ H' s2/\RelV x u/\J.yld i H x H'/\tn (i + 1) s2.heap/\∀b∈fp,H' b=none) E s1) E s
 done :∀(X:Cx),X.prog=P->X.w=w->X.K=K->X.calm=true->∀(i:Nat) (pins:List (Addr×Obj)) (s:B0) (σ:St) (H:Hp) (E:Value->B0->Prop),Inv X pins σ H s->(∀b∈fp,FpOk X pins H b)->tn i s.heap->J.stop i H->
  S0 (J1 P w) X.A (p7 (.ref it)) (λ r s1=>r=none/\Inv X pins σ H s1) E s
 self :∀(A:K2) (i:Nat) (s:B0) (Q:Value->B0->Prop) (E:Value->B0->Prop),tn i s.heap->Q (.ref it) s->S0 (J1 P w) A (pyIter (.ref it)) Q E s
noncomputable abbrev TI:=St->Hp->(It->Hp->Prop)->Prop
def PIE (X:Cx) (pins:List (Addr×Obj)) (σ:St) (tg:Expr) (R:It->Hp->Prop) (itv:Value) (s2:B0):Prop:=
 ∃(it:Addr) (fp:List Addr) (tn:Nat->Heap->Prop) (J:It) (H':Hp),itv=.ref it/\Inv X pins σ H' s2/\Turn X.prog X.w X.K tg J fp it tn/\tn 0 s2.heap/\(∀b∈fp,FpOk X pins H' b)/\R J H'
def PI (X:Cx) (tg iter:Expr) (wi:TI):Prop:=
 ∀(pins:List (Addr×Obj)) (s:B0) (σ:St) (H:Hp) (R:It->Hp->Prop),Inv X pins σ H s->wi σ H R->
  S0 (J1 X.prog X.w) X.A (R3 iter X.env) (λ v s1=>S0 (J1 X.prog X.w) X.A (pyIter v) (PIE X pins σ tg R) X.xe s1) X.xe s
theorem go_of {M:Model} {A:K2} {E:Value->B0->Prop} {s:B0} {tg:Expr} {it:Addr} {u:Value} {o:Obj} {n:String} {vs:Array Value} {Q:Unit->B0->Prop} (ho:s.heap.get? it=some o) (hc:o.cls=.type n) (hd:o.data=.fields vs)
    (hn:["enumerate","zip","dict_itemiterator","dict_reverseitemiterator","odict_iterator","itertools.zip_longest","itertools.pairwise"].contains n=false) (hQ:Q () s):S0 M A (u9 tg (.ref it) u) Q E s:=by
  unfold u9;cases tg<;>first
    | exact C0 hQ
    | (cases u<;>first
        | exact C0 hQ
        | (refine o0 (wpAny_load ho ?_)
           rw [hc,hd];show S0 M A (if (["enumerate","zip","dict_itemiterator","dict_reverseitemiterator","odict_iterator","itertools.zip_longest","itertools.pairwise"].contains n && vs[0]? == some (rawInt _))=true then _ else _) Q E s;rw [if_neg (by intro h;rw [hn,Q7] at h;cases h)];exact C0 hQ))
noncomputable def Itl (K:j0) (a:Addr):It:=
 ⟨λ i H=>∃xs x,SqL K H a xs/\xs[i]? = some x,λ i H x H'=>H'=H/\∀xs,SqL K H a xs->xs[i]? = some x,λ i H=>∃xs,SqL K H a xs/\xs.length<=i⟩
noncomputable def Itt (K:j0) (a:Addr):It:=
 ⟨λ i H=>∃xs x,SqT K H a xs/\xs[i]? = some x,λ i H x H'=>H'=H/\∀xs,SqT K H a xs->xs[i]? = some x,λ i H=>∃xs,SqT K H a xs/\xs.length<=i⟩
noncomputable def Itr (lo:Int) (n:Nat):It:=⟨λ i _=>i < n,λ i H x H'=>H'=H/\x=.int (lo + i),λ i _=>n<=i⟩
theorem zh8 {P:Program} {w:Z0} {K:j0} {tg:Expr} (a it:Addr):Turn P w K tg (Itl K a) [it] it (λ i h=>h.IsListIter it a i) where
 mem:=by simp
 obj:=λ i h f b g=>by
  have e:b=it:=by simpa using g
  subst e;obtain ⟨o,e,c,d⟩:=f;exact ⟨o,e,λ v z=>by rw [d] at z;cases z⟩
 keep:=λ i h j f k=>f.at λ o e=>k it (by simp) o e
 item:=by intro X t y G J i M s σ H E I m f r;subst t y G;obtain ⟨T,x,l,B⟩:=r;obtain ⟨O,D,p,U⟩:=I.list l;obtain ⟨u,W,Q⟩:=D.get B;obtain ⟨q,C,R,A,n,F⟩:=m it (by simp);refine Z3 f p.isList (x:=u) (by simpa using W) λ j L Y=>?_;have N:Inv X M σ H { s with heap:=j }:=I.turned (t':=s.toks) (λ b o g e=>(Y.2 b g).trans e) q C A n F;obtain ⟨o,e,c,d⟩:=id L;exact ⟨u,rfl,go_of (s:={ s with heap:=j }) e c d (by decide) ⟨x,H,N,Q,⟨rfl,λ Z S=>by rw [I.list_inj S l];exact B⟩,L,λ b g=>(m b g).1⟩⟩
 done:=by intro X t y G J i M s σ H E I m f r;subst t y G;obtain ⟨T,l,B⟩:=r;obtain ⟨O,D,p,U⟩:=I.list l;obtain ⟨q,C,R,A,n,F⟩:=m it (by simp);have hl:=D.length;exact U4 (I.ok.hd J) f p.isList (by simp;omega) λ j V=>⟨rfl,I.turned (t':=s.toks) (λ b o g e=>V b o g e) q C A n F⟩
 self:=λ _ _ _ _ _ f h=>wpAny_pyIter_listiter f h
theorem zf8 {P:Program} {w:Z0} {K:j0} {tg:Expr} (a it:Addr):Turn P w K tg (Itt K a) [it] it (λ i h=>h.IsTupleIter it a i) where
 mem:=by simp
 obj:=λ i h f b g=>by
  have e:b=it:=by simpa using g
  subst e;obtain ⟨o,e,c,d⟩:=f;exact ⟨o,e,λ v z=>by rw [d] at z;cases z⟩
 keep:=λ i h j f k=>f.at λ o e=>k it (by simp) o e
 item:=by intro X y A J L i N s σ H E I m f t;subst y A J;obtain ⟨T,x,l,C⟩:=t;obtain ⟨q,F,p,U⟩:=I.tuple l;obtain ⟨u,W,Q⟩:=F.get C;obtain ⟨r,D,R,B,n,G⟩:=m it (by simp);refine wpAny_pyNext_tuple_item f (show s.heap.IsTuple a q.toArray from p) (x:=u) (by simpa using W) λ j M Y=>?_;have O:Inv X N σ H { s with heap:=j }:=I.turned (t':=s.toks) (λ b o g e=>(Y.2 b g).trans e) r D B n G;obtain ⟨o,e,c,d⟩:=id M;exact ⟨u,rfl,go_of (s:={ s with heap:=j }) e c d (by decide) ⟨x,H,O,Q,⟨rfl,λ Z S=>by rw [I.tuple_inj S l];exact C⟩,M,λ b g=>(m b g).1⟩⟩
 done:=by intro X y A J L i N s σ H E I m f t;subst y A J;obtain ⟨T,l,C⟩:=t;obtain ⟨q,F,p,U⟩:=I.tuple l;obtain ⟨r,D,R,B,n,G⟩:=m it (by simp);have hl:=F.length;exact wpAny_pyNext_tuple_end (I.ok.hd L) f (show s.heap.IsTuple a q.toArray from p) (by simp;omega) λ j V=>⟨rfl,I.turned (t':=s.toks) (λ b o g e=>V b o g e) r D B n G⟩
 self:=λ _ _ _ _ _ f h=>wpAny_pyIter_tupleiter f h
theorem ze3 {P:Program} {w:Z0} {K:j0} {tg:Expr} (it:Addr) (lo:Int) (n:Nat):Turn P w K tg (Itr lo n) [it] it (λ i h=>IsRangeIter h it (lo + (i:Nat) * 1) ((n:Int) - (i:Nat)) 1) where
 mem:=by simp
 obj:=λ i h a b c=>by
  have e:b=it:=by simpa using c
  subst e;exact ⟨_,a,λ v z=>by have J:Data.fields _=Data.cell v:=z;cases J⟩
 keep:=λ i h d a k=>k it (by simp) _ a
 item:=by intro X p r y m i C s σ H E I f a l;subst p r y;obtain ⟨j,u,F,q,g,x⟩:=f it (by simp);have W:=Walks.range (prog:=X.prog) (w:=X.w) (I.ok.hd m) it lo 1 n;refine W.item i s _ _ l a λ v d A G B M=>?_;obtain ⟨t,rfl⟩:=G;have D:Inv X C σ H { s with heap:=d,toks:=A }:=I.turned (λ b o c e=>M b o (by simpa using c) e) j u q g x;refine ⟨_,rfl,go_of (s:={ s with heap:=d,toks:=A }) (n:="range_iterator") B rfl rfl (by decide) ⟨.int (lo + i),H,D,⟨t,?_⟩,⟨rfl,rfl⟩,B,λ b c=>(f b c).1⟩⟩;rw [Int.mul_one]
 done:=by intro X p r y m i C s σ H E I f a l;subst p r y;obtain ⟨j,u,F,q,g,x⟩:=f it (by simp);exact wpAny_pyNext_range_end (I.ok.hd m) a (by have:n<=i:=l;omega) λ d L=>⟨rfl,I.turned (t':=s.toks) (λ b o c e=>L b o c e) j u q g x⟩
 self:=λ _ _ _ _ _ a h=>wpAny_pyIter_rangeiter a h
section
variable {X:Cx} {tg:Expr}
noncomputable def iList (K:j0) (tl:TE):TI:=λ σ H R=>tl σ H λ x H1=>∃a,x=.ref a/\(∃xs,SqL K H1 a xs)/\R (Itl K a) H1
noncomputable def iTup (K:j0) (tl:TE):TI:=λ σ H R=>tl σ H λ x H1=>∃a,x=.ref a/\(∃xs,SqT K H1 a xs)/\R (Itt K a) H1
theorem z14 {l:Expr} {tl:TE} (hl:PE X l tl):PI X tg l (iList X.K tl):=by
 intro g s σ H R I h;refine thn (hl g s σ H _ I h) λ v c ⟨x,H1,I1,r1,q1⟩=>?_;obtain ⟨a,e,⟨j,f⟩,q⟩:=q1;subst e;cases r1;obtain ⟨i,m,p,k⟩:=I1.list f;refine Y4 p.isList ?_;refine ⟨c.heap.objs.size,[c.heap.objs.size],_,_,H1,rfl,I1.kept (t':=c.toks) λ b o e=>F0 _ e,zh8 a _,⟨_,C1 _ rfl,rfl,rfl⟩,λ b d=>?_,q⟩;have e:b=c.heap.objs.size:=by simpa using d
 subst e;exact I1.fpOk (J0 _) (I1.hok.fresh (J0 _))
theorem pi_tup {l:Expr} {tl:TE} (hl:PE X l tl):PI X tg l (iTup X.K tl):=by
 intro i s σ H R I h;refine thn (hl i s σ H _ I h) λ v c ⟨x,H1,I1,r1,q1⟩=>?_;obtain ⟨a,e,⟨j,g⟩,q⟩:=q1;subst e;cases r1;obtain ⟨d,m,p,k⟩:=I1.tuple g;refine wpAny_pyIter_tuple (show c.heap.IsTuple a d.toArray from p) ?_;refine ⟨c.heap.objs.size,[c.heap.objs.size],_,_,H1,rfl,I1.kept (t':=c.toks) λ b o e=>F0 _ e,zf8 a _,⟨_,C1 _ rfl,rfl,rfl⟩,λ b f=>?_,q⟩;have e:b=c.heap.objs.size:=by simpa using f
 subst e;exact I1.fpOk (J0 _) (I1.hok.fresh (J0 _))
theorem zii {pins:List (Addr×Obj)} {σ:St} {H:Hp} {s:B0} {R:It->Hp->Prop} {E:Value->B0->Prop} {lo hi:Int} {t u v:Tok} {tk:Nat} (I:Inv X pins σ H s) (h1:-(2 ^ 62)<=lo) (h2:lo < 2 ^ 62) (h3:-(2 ^ 62)<=hi) (h4:hi < 2 ^ 62)
  (q:R (Itr lo (hi - lo).toNat) H):S0 (J1 X.prog X.w) X.A (pyIter (.ref s.heap.objs.size)) (PIE X pins σ tg R) E { s with heap:=s.heap.push { cls:=.type "range",data:=.fields #[.int lo t,.int hi u,.int 1 v] },toks:=tk }:=by
 refine wpAny_pyIter_range (IsRange.new ..) (small_one h1 h2 h3 h4) ?_;have a:Inv X pins σ H { s with heap:=s.heap.push { cls:=.type "range",data:=.fields #[.int lo t,.int hi u,.int 1 v] },toks:=tk }:=I.kept λ b o e=>F0 _ e;refine ⟨(s.heap.push { cls:=.type "range",data:=.fields #[.int lo t,.int hi u,.int 1 v] }).objs.size,[(s.heap.push { cls:=.type "range",data:=.fields #[.int lo t,.int hi u,.int 1 v] }).objs.size],_,_,H,rfl,
  a.kept (t':=tk) λ b o e=>F0 _ e,ze3 _ lo (hi - lo).toNat,?_,λ b d=>?_,q⟩
 ·have f:lo + ((0:Nat):Int) * 1=lo:=by simp
  have c:(((hi - lo).toNat:Nat):Int) - ((0:Nat):Int)=Builtin.Range.rangeSize lo hi 1:=by rw [rangeSize_one];split<;>omega
  show IsRangeIter _ _ (lo + ((0:Nat):Int) * 1) ((((hi - lo).toNat:Nat):Int) - ((0:Nat):Int)) 1;rw [f,c];exact C1 _ rfl
 ·have e:b=(s.heap.push { cls:=.type "range",data:=.fields #[.int lo t,.int hi u,.int 1 v] }).objs.size:=by simpa using d
  subst e;exact a.fpOk (J0 _) (a.hok.fresh (J0 _))
noncomputable def iRng1 (ta:TA):TI:=λ σ H R=>ta σ H λ vs H1=>∃j:Int,vs=[.int j]/\-(2 ^ 62)<=j/\j < 2 ^ 62/\R (Itr 0 j.toNat) H1
theorem z1d {a:Expr} {ta:TA} {p pos:Pos} (hg:Gl X "range") (hm:X.mg "range" = none) (ha:PA X [a] ta) (hs:G1 [a] X.env=[(false,R3 a X.env)]:=by rfl):PI X tg (.Call (.Name "range" p) [a] [] pos) (iRng1 ta):=by
 intro c s σ H R I h;refine Call_ (ld_blt I hg hm boot_range (B4 (thn (ha pos c s σ H _ I h) λ f g ⟨vs,H1,I1,r1,b⟩=>?_) hs rfl));obtain ⟨j,e,b,d,q⟩:=b;subst e;cases r1 with
 | cons r rr=>cases rr;obtain ⟨t,rfl⟩:=r;exact call_range_1 (zii I1 (by omega) (by omega) b d (by simpa using q))
noncomputable def tFor (wi:TI) (g:TG) (tb:TS):TS:=λ D σ H=>wi σ H λ J H1=>∃W:Nat->Nat->St->Hp->Prop,(∃m,W 0 m σ H1)/\∀i m σ H,W i m σ H->
 (J.stop i H/\D.nx σ H)\/(J.go i H/\∃N:St->Hp->Prop,(∀σ' H',N σ' H'->∃m',m' < m/\W (i + 1) m' σ' H')/\∀x H',J.yld i H x H'->g x σ H' λ σ2 H2=>tb { D with nx:=N,ct:=N,bk:=D.nx } σ2 H2)
noncomputable def pinsAt (fp:List Addr) (h:Heap):List (Addr×Obj):=fp.filterMap λ b=>(h.get? b).map λ o=>(b,o)
theorem z4d {fp:List Addr} {h:Heap} {b:Addr} {o:Obj} (hb:b∈fp) (e:h.get? b=some o):(b,o)∈pinsAt fp h:=List.mem_filterMap.mpr ⟨b,hb,by rw [e];rfl⟩
theorem zbp {fp:List Addr} {h:Heap} {p:Addr×Obj} (hp:p∈pinsAt fp h):p.1∈fp/\h.get? p.1=some p.2:=by
 obtain ⟨b,a,e⟩:=List.mem_filterMap.mp hp;cases q:h.get? b with
 | none=>rw [q] at e;cases e
 | some o=>rw [q] at e;have c:(b,o)=p:=O2 e;subst c;exact ⟨a,q⟩
theorem Inv.pinned {pins:List (Addr×Obj)} {σ:St} {H:Hp} {s:B0} {fp:List Addr} (I:Inv X pins σ H s) (hf :∀b∈fp,FpOk X pins H b) (ho :∀b∈fp,∃o,s.heap.get? b=some o/\∀v,o.data≠.cell v):Inv X (pins++pinsAt fp s.heap) σ H s:=
 I.pins_of λ p g=>(List.mem_append.mp g).elim (λ z=>I.pin p (P1 _ z)) λ z=>by obtain ⟨a,e⟩:=zbp z;obtain ⟨h,i,f,_⟩:=hf p.1 a;obtain ⟨o,c,d⟩:=ho p.1 a;rw [e] at c;cases c;exact ⟨e,h,i,f,d⟩
theorem Inv.unpinned {pins pl:List (Addr×Obj)} {σ:St} {H:Hp} {s:B0} (I:Inv X (pins++pl) σ H s):Inv X pins σ H s:=I.pins_of λ p a=>I.pin p (P1 _ (b7 _ a))
theorem ps_for {iter:Expr} {body:List Stmt} {wi:TI} {g:TG} {tb:TS} {pos:Pos} (hp:PassesOwn (J1 X.prog X.w) X.A X.env X.xe) (hc:X.calm=true) (hi:PI X tg iter wi) (hg:PG X tg g) (hb:PSs X body tb)
  (hs :∀x,Y5 iter X.env x=V3 x:=by intro _;rfl):PS X (.For tg iter body [] pos) (tFor wi g tb):=by
 intro l s σ H D I h;refine wpAny_For (thn (hi l s σ H _ I h) λ v s1 h1=>thn h1 λ a0 s2 h2=>?_) hs;obtain ⟨it,p,E,J,H2,e,Q,T,K,B,W,⟨m0,M⟩,V⟩:=h2;subst e
 -- what stays true of the iterator's objects through the loop
 have t :∀{H':Hp},(∀b∈p,H' b=none)->∀b∈p,FpOk X l H' b:=λ L b hb=>⟨L b hb,(B b hb).2⟩
 refine codeAny_forLoop_any (λ n F=>∃i σ' H',Inv X l σ' H' F/\E i F.heap/\(∀b∈p,H' b=none)/\W i n σ' H') ?_ m0 ⟨0,σ,H2,Q,K,λ b hb=>(B b hb).1,M⟩;rintro n z ⟨i,σ3,H3,I3,st3,fr3,w3⟩;rcases V i n σ3 H3 w3 with ⟨stop,qn⟩|⟨go,N,hN,step⟩
 ·refine R7 hp (thn (T.done X rfl rfl rfl hc i l z σ3 H3 X.xe I3 (t fr3) st3 stop) λ r O ⟨hr,I4⟩=>?_);subst hr;exact j2a ⟨σ3,H3,I4,qn⟩
 ·refine R7 hp (thn (T.item X rfl rfl rfl hc i l z σ3 H3 X.xe I3 (t fr3) st3 go) λ r O ⟨u,hr,h4⟩=>?_);subst hr;refine R7 hp (thn h4 λ _ C ⟨x,H5,I5,r5,y5,st5,fr5⟩=>?_);have P:=I5.pinned (t fr5) (T.obj _ _ st5);refine R7 hp (thn (hg _ C σ3 H5 x u _ P r5 (step x H5 y5)) λ _ Z ⟨σ6,H6,I6,q6⟩=>?_);refine R7 hp (thn (hb _ Z σ6 H6 _ I6 q6) λ f y k=>?_);have G :∀{c:St} {j:Hp},Inv X (l++pinsAt p C.heap) c j y->N c j->∃m,m < n/\∃i σ' H',Inv X l σ' H' y/\E i y.heap/\(∀b∈p,H' b=none)/\W i m σ' H':=λ {c j} a q=>by obtain ⟨R,hm,U⟩:=hN c j q;refine ⟨R,hm,i + 1,c,j,a.unpinned,T.keep _ _ _ st5 λ b hb o e=>(a.pin (b,o) (P1 _ (P1 _ (z4d hb e)))).1,λ b hb=>?_,U⟩;obtain ⟨o,e,d⟩:=T.obj _ _ st5 b hb;exact (a.pin (b,o) (P1 _ (P1 _ (z4d hb e)))).2.1
  cases f with
  | next=>obtain ⟨c,j,a,q⟩:=k;exact G a q
  | cont=>obtain ⟨c,j,a,q⟩:=k;exact G a q
  | brk=>obtain ⟨c,j,a,k⟩:=k;exact ⟨c,j,a.unpinned,k⟩
  | ret v=>obtain ⟨Y,c,j,a,S,k⟩:=k;exact ⟨Y,c,j,a.unpinned,S,k⟩
end
theorem z4y {K:j0} {a:Addr} {xs:List V} {g:TG} {tb:TS} {D:Ends} {σ:St} {H:Hp} (Pv:Nat->St->Hp->Prop) (h0:Pv 0 σ H) (hl :∀i σ H,i<=xs.length->Pv i σ H->SqL K H a xs)
  (hs :∀i x σ H,xs[i]? = some x->Pv i σ H->g x σ H λ σ2 H2=>tb { D with nx:=Pv (i + 1),ct:=Pv (i + 1),bk:=D.nx } σ2 H2) (hd :∀σ H,Pv xs.length σ H->D.nx σ H) :
  ∃W:Nat->Nat->St->Hp->Prop,(∃m,W 0 m σ H)/\∀i m σ H,W i m σ H->
   ((Itl K a).stop i H/\D.nx σ H)\/((Itl K a).go i H/\∃N:St->Hp->Prop,(∀σ' H',N σ' H'->∃m',m' < m/\W (i + 1) m' σ' H')/\∀x H',(Itl K a).yld i H x H'->g x σ H' λ σ2 H2=>tb { D with nx:=N,ct:=N,bk:=D.nx } σ2 H2):=by
 refine ⟨λ i m σ H=>m=xs.length - i/\i<=xs.length/\Pv i σ H,⟨xs.length,by simp,A2 _,h0⟩,?_⟩;rintro i m σ H ⟨rfl,hi,p⟩;have q:=hl i σ H hi p;by_cases hlt:i < xs.length
 ·refine .inr ⟨⟨xs,xs[i],q,by simp [hlt]⟩,Pv (i + 1),λ σ' H' b=>⟨xs.length - (i + 1),by omega,rfl,hlt,b⟩,λ x H' y=>?_⟩;obtain ⟨e,y⟩:=y;subst e;exact hs i x σ _ (y xs q) p
 ·have e:i=xs.length:=by omega
  subst e;exact .inl ⟨⟨xs,q,J0 _⟩,hd σ H p⟩
theorem zhp {K:j0} {a:Addr} {xs:List V} {g:TG} {tb:TS} {D:Ends} {σ:St} {H:Hp} (Pv:Nat->St->Hp->Prop) (h0:Pv 0 σ H) (hl :∀i σ H,i<=xs.length->Pv i σ H->SqT K H a xs)
  (hs :∀i x σ H,xs[i]? = some x->Pv i σ H->g x σ H λ σ2 H2=>tb { D with nx:=Pv (i + 1),ct:=Pv (i + 1),bk:=D.nx } σ2 H2) (hd :∀σ H,Pv xs.length σ H->D.nx σ H) :
  ∃W:Nat->Nat->St->Hp->Prop,(∃m,W 0 m σ H)/\∀i m σ H,W i m σ H->
   ((Itt K a).stop i H/\D.nx σ H)\/((Itt K a).go i H/\∃N:St->Hp->Prop,(∀σ' H',N σ' H'->∃m',m' < m/\W (i + 1) m' σ' H')/\∀x H',(Itt K a).yld i H x H'->g x σ H' λ σ2 H2=>tb { D with nx:=N,ct:=N,bk:=D.nx } σ2 H2):=by
 refine ⟨λ i m σ H=>m=xs.length - i/\i<=xs.length/\Pv i σ H,⟨xs.length,by simp,A2 _,h0⟩,?_⟩;rintro i m σ H ⟨rfl,hi,p⟩;have q:=hl i σ H hi p;by_cases hlt:i < xs.length
 ·refine .inr ⟨⟨xs,xs[i],q,by simp [hlt]⟩,Pv (i + 1),λ σ' H' b=>⟨xs.length - (i + 1),by omega,rfl,hlt,b⟩,λ x H' y=>?_⟩;obtain ⟨e,y⟩:=y;subst e;exact hs i x σ _ (y xs q) p
 ·have e:i=xs.length:=by omega
  subst e;exact .inl ⟨⟨xs,q,J0 _⟩,hd σ H p⟩
theorem z33 {lo:Int} {n:Nat} {g:TG} {tb:TS} {D:Ends} {σ:St} {H:Hp} (Pv:Nat->St->Hp->Prop) (h0:Pv 0 σ H)
  (hs :∀i σ H,i < n->Pv i σ H->g (.int (lo + i)) σ H λ σ2 H2=>tb { D with nx:=Pv (i + 1),ct:=Pv (i + 1),bk:=D.nx } σ2 H2) (hd :∀σ H,Pv n σ H->D.nx σ H) :
  ∃W:Nat->Nat->St->Hp->Prop,(∃m,W 0 m σ H)/\∀i m σ H,W i m σ H->
   ((Itr lo n).stop i H/\D.nx σ H)\/((Itr lo n).go i H/\∃N:St->Hp->Prop,(∀σ' H',N σ' H'->∃m',m' < m/\W (i + 1) m' σ' H')/\∀x H',(Itr lo n).yld i H x H'->g x σ H' λ σ2 H2=>tb { D with nx:=N,ct:=N,bk:=D.nx } σ2 H2):=by
 refine ⟨λ i m σ H=>m=n - i/\i<=n/\Pv i σ H,⟨n,by simp,A2 _,h0⟩,?_⟩;rintro i m σ H ⟨rfl,hi,p⟩;by_cases hlt:i < n
 ·refine .inr ⟨hlt,Pv (i + 1),λ σ' H' a=>⟨n - (i + 1),by omega,rfl,hlt,a⟩,λ x H' y=>?_⟩;obtain ⟨e,y⟩:=y;subst e y;exact hs i σ _ hlt p
 ·have e:i=n:=by omega
  subst e;exact .inl ⟨J0 _,hd σ H p⟩
noncomputable abbrev R2:=V->V->Hp->VK->Prop
def OpR (X:Cx) (f:Value->Value->Sem Value) (r:R2):Prop:=
 ∀(pins:List (Addr×Obj)) (s:B0) (σ:St) (H:Hp) (x y:V) (v u:Value) (Q:VK),Inv X pins σ H s->RelV x v->RelV y u->r x y H Q->
  S0 (J1 X.prog X.w) X.A (f v u) (EP X pins σ Q) X.xe s
def UnR (X:Cx) (f:Value->Sem Value) (r:V->Hp->VK->Prop):Prop:=
 ∀(pins:List (Addr×Obj)) (s:B0) (σ:St) (H:Hp) (x:V) (v:Value) (Q:VK),Inv X pins σ H s->RelV x v->r x H Q->
  S0 (J1 X.prog X.w) X.A (f v) (EP X pins σ Q) X.xe s
def CallR (X:Cx) (f:Value) (r:List V->Hp->VK->Prop):Prop:=
 ∀(pins:List (Addr×Obj)) (s:B0) (σ:St) (H:Hp) (xs:List V) (us:List Value) (Q:VK),Inv X pins σ H s->Vals xs us->r xs H Q->
  S0 (J1 X.prog X.w) X.A (call f us) (EP X pins σ Q) X.xe s
noncomputable def tOp (r:R2) (ta tb:TE):TE:=λ σ H Q=>ta σ H λ x H1=>tb σ H1 λ y H2=>r x y H2 Q
noncomputable def tUn (r:V->Hp->VK->Prop) (ta:TE):TE:=λ σ H Q=>ta σ H λ x H1=>r x H1 Q
noncomputable def rI (C:Int->Int->Prop) (g:Int->Int->V):R2:=λ x y H Q=>∃i j,x=.int i/\y=.int j/\C i j/\Q (g i j) H
noncomputable def rI0 (g:Int->Int->V):R2:=λ x y H Q=>∃i j,x=.int i/\y=.int j/\Q (g i j) H
def rU (g:Int->V):V->Hp->VK->Prop:=λ x H Q=>∃i,x=.int i/\Q (g i) H
section
variable {X:Cx} {a b c:Expr} {ta tb tc:TE} {pos:Pos}
theorem binT (ha:PE X a ta) (hb:PE X b tb) {pins:List (Addr×Obj)} {s:B0} {σ:St} {H:Hp} {R:V->V->Hp->Prop} (I:Inv X pins σ H s)
  (h:ta σ H λ x H1=>tb σ H1 λ y H2=>R x y H2) {Q:Value->B0->Prop} {f:Value->Value->Sem Value}
  (hf :∀v u s2 x y H2,Inv X pins σ H2 s2->RelV x v->RelV y u->R x y H2->S0 (J1 X.prog X.w) X.A (f v u) Q X.xe s2) :
  S0 (J1 X.prog X.w) X.A (R3 a X.env) (λ v s₁=>S0 (J1 X.prog X.w) X.A (R3 b X.env) (λ u s₂=>S0 (J1 X.prog X.w) X.A (f v u) Q X.xe s₂) X.xe s₁) X.xe s:=by
 refine thn (ha pins s σ H _ I h) λ v c ⟨x,H1,I1,r1,q1⟩=>?_;refine thn (hb pins c σ H1 _ I1 q1) λ u s2 ⟨y,H2,I2,r2,q2⟩=>?_;exact hf v u s2 x y H2 I2 r1 r2 q2
theorem pe_op {op:Operator} {r:R2} (ho:OpR X (o6 op) r) (ha:PE X a ta) (hb:PE X b tb):PE X (.BinOp a op b pos) (tOp r ta tb):=by intro f s σ H Q I h;exact wpAny_BinOp (binT ha hb I h λ v u i x y e c g d q=>ho f i σ e x y v u Q c g d q)
theorem pe_un {op:UnaryOp} {r:V->Hp->VK->Prop} (ho:UnR X (unaryOp op) r) (ha:PE X a ta):PE X (.UnaryOp op a pos) (tUn r ta):=by intro b s σ H Q I h;exact UnaryOp_ (thn (ha b s σ H _ I h) λ v c ⟨x,H1,I1,r1,q1⟩=>ho b c σ H1 x v Q I1 r1 q1)
theorem opI {f:Value->Value->Sem Value} {C:Int->Int->Prop} {g:Int->Int->Int}
  (rule :∀(i j:Int) (t u:Tok) (s:B0) (Q:Value->B0->Prop) (E:Value->B0->Prop),C i j->Q (.int (g i j) s.toks) { s with toks:=s.toks + 1 }->S0 (J1 X.prog X.w) X.A (f (.int i t) (.int j u)) Q E s) :
  OpR X f (rI C λ i j=>.int (g i j)):=by
 intro e s σ H x y v u Q I d b h;obtain ⟨i,j,rfl,rfl,a,q⟩:=h;obtain ⟨t,rfl⟩:=d;obtain ⟨c,rfl⟩:=b;exact rule i j t c s _ _ a ⟨.int (g i j),H,I.tok _,⟨_,rfl⟩,q⟩
theorem opI0 {f:Value->Value->Sem Value} {g:Int->Int->Int}
  (rule :∀(i j:Int) (t u:Tok) (s:B0) (Q:Value->B0->Prop) (E:Value->B0->Prop),Q (.int (g i j) s.toks) { s with toks:=s.toks + 1 }->S0 (J1 X.prog X.w) X.A (f (.int i t) (.int j u)) Q E s) :
  OpR X f (rI0 λ i j=>.int (g i j)):=by
 intro d s σ H x y v u Q I c a h;obtain ⟨i,j,rfl,rfl,q⟩:=h;obtain ⟨t,rfl⟩:=c;obtain ⟨b,rfl⟩:=a;exact rule i j t b s _ _ ⟨.int (g i j),H,I.tok _,⟨_,rfl⟩,q⟩
theorem opB0 {f:Value->Value->Sem Value} {g:Int->Int->Bool}
  (rule :∀(i j:Int) (t u:Tok) (s:B0) (Q:Value->B0->Prop) (E:Value->B0->Prop),Q (.bool (g i j)) s->S0 (J1 X.prog X.w) X.A (f (.int i t) (.int j u)) Q E s) :
  OpR X f (rI0 λ i j=>.bl (g i j)):=by
 intro d s σ H x y v u Q I c a h;obtain ⟨i,j,rfl,rfl,q⟩:=h;obtain ⟨t,rfl⟩:=c;obtain ⟨b,rfl⟩:=a;exact rule i j t b s _ _ ⟨.bl (g i j),H,I,rfl,q⟩
def CPow (i j:Int):Prop:=0<=j/\j<=1000000/\i.natAbs < 2 ^ 64
def CMul (i j:Int):Prop:=(-(2 ^ 64) < i/\i < 2 ^ 64)\/(-(2 ^ 64) < j/\j < 2 ^ 64)
theorem CMul.ok {i j:Int} (h:CMul i j):IntMulOk i j:=by
 rcases h with ⟨a,b⟩|⟨a,b⟩
 ·exact .of_left (intBits_le_64 a b)
 ·exact .of_right (intBits_le_64 a b)
theorem op_add:OpR X (o6 .Add) (rI0 λ i j=>.int (i + j)):=opI0 λ _ _ _ _ _ _ _ q=>add_int q
theorem op_sub:OpR X (o6 .Sub) (rI0 λ i j=>.int (i - j)):=opI0 λ _ _ _ _ _ _ _ q=>sub_int q
theorem op_mul:OpR X (o6 .Mult) (rI CMul λ i j=>.int (i * j)):=opI λ _ _ _ _ _ _ _ a q=>mul_int q a.ok
theorem op_mod:OpR X (o6 .Mod) (rI (λ _ j=>0 < j) λ i j=>.int (i % j)):=opI λ i j _ _ _ _ _ a q=>by have b:(0:Int) < j:=a;exact mod_int' (by omega) (by rw [Int.fmod_eq_emod_of_nonneg i (by omega)];exact q)
theorem op_pow:OpR X (o6 .Pow) (rI CPow λ i j=>.int (i ^ j.toNat)):=opI λ _ _ _ _ _ _ _ a q=>pow_int_small a.1 a.2.1 a.2.2 q
theorem unI {f:Value->Sem Value} {g:Int->Int}
  (rule :∀(i:Int) (t:Tok) (s:B0) (Q:Value->B0->Prop) (E:Value->B0->Prop),Q (.int (g i) s.toks) { s with toks:=s.toks + 1 }->S0 (J1 X.prog X.w) X.A (f (.int i t)) Q E s) :
  UnR X f (rU λ i=>.int (g i)):=by
 intro b s σ H x v Q I a h;obtain ⟨i,rfl,q⟩:=h;obtain ⟨t,rfl⟩:=a;exact rule i t s _ _ ⟨.int (g i),H,I.tok _,⟨_,rfl⟩,q⟩
theorem un_neg:UnR X (unaryOp .USub) (rU λ i=>.int (-i)):=unI λ _ _ _ _ _ q=>neg_int q
end
noncomputable def scal:V->V->Bool
 | .non,.non=>true | .non,.int _=>true | .int _,.non=>true | .non,.bl _=>true | .bl _,.non=>true | .non,.str _=>true | .str _,.non=>true
 | .int _,.int _=>true | .bl _,.bl _=>true | .str _,.str _=>true | .byt _,.byt _=>true
 | .int _,.str _=>true | .str _,.int _=>true | .bl _,.str _=>true | .str _,.bl _=>true
 | _,_=>false
noncomputable def rEq:R2:=λ x y H Q=>scal x y=true/\Q (.bl (decide (x=y))) H
noncomputable def rNe:R2:=λ x y H Q=>scal x y=true/\Q (.bl (!decide (x=y))) H
theorem zi5 {i j:Int}:decide (V.int i=V.int j)=(i == j):=by rw [Bool.eq_iff_iff];simp
theorem dec_bl {i j:Bool}:decide (V.bl i=V.bl j)=(i == j):=by rw [Bool.eq_iff_iff];simp
theorem zbn {i j:Str}:decide (V.str i=V.str j)=(i == j):=by rw [Bool.eq_iff_iff];simp
theorem zi7 {i j:Array UInt8}:decide (V.byt i=V.byt j)=(i.toList == j.toList):=by rw [Bool.eq_iff_iff];cases i;cases j;simp
section
variable {X:Cx} {a b c:Expr} {ta tb tc:TE} {pos:Pos}
theorem fin_bl {pins:List (Addr×Obj)} {σ:St} {H:Hp} {s:B0} {Q:VK} {k k':Bool} (I:Inv X pins σ H s) (q:Q (.bl k) H) (e:k=k'):EP X pins σ Q (.bool k') s:=by subst e;exact ⟨.bl k,H,I,rfl,q⟩
theorem op_eq:OpR X (X2 .Eq) rEq:=by
 intro e s σ H x y v u Q I d a h;obtain ⟨c,q⟩:=h;cases x with
 | non=>
  cases d;cases y with
  | non=>cases a;exact PySem.EqNone.eq_none_none (fin_bl I q (by simp))
  | bl j=>cases a;exact PySem.EqNone.eq_none_bool (fin_bl I q (by simp))
  | int j=>obtain ⟨b,rfl⟩:=a;exact PySem.EqNone.eq_none_int (fin_bl I q (by simp))
  | str j=>obtain ⟨b,rfl⟩:=a;exact PySem.EqNone.eq_none_str (fin_bl I q (by simp))
  | _=>exact absurd (show false=true from c) B1
 | bl i=>
  cases d;cases y with
  | non=>cases a;exact PySem.EqNone.eq_bool_none (fin_bl I q (by simp))
  | bl j=>cases a;exact eq_bool (fin_bl I q dec_bl)
  | str j=>obtain ⟨b,rfl⟩:=a;exact PySem.EqMixed.eq_bool_str (fin_bl I q (by simp))
  | _=>exact absurd (show false=true from c) B1
 | int i=>
  obtain ⟨t,rfl⟩:=d;cases y with
  | non=>cases a;exact PySem.EqNone.eq_int_none (fin_bl I q (by simp))
  | int j=>obtain ⟨b,rfl⟩:=a;exact eq_int (fin_bl I q zi5)
  | str j=>obtain ⟨b,rfl⟩:=a;exact PySem.EqMixed.eq_int_str (fin_bl I q (by simp))
  | _=>exact absurd (show false=true from c) B1
 | str i=>
  obtain ⟨t,rfl⟩:=d;cases y with
  | non=>cases a;exact PySem.EqNone.eq_str_none (fin_bl I q (by simp))
  | bl j=>cases a;exact PySem.EqMixed.eq_str_bool (fin_bl I q (by simp))
  | int j=>obtain ⟨b,rfl⟩:=a;exact PySem.EqMixed.eq_str_int (fin_bl I q (by simp))
  | str j=>obtain ⟨b,rfl⟩:=a;exact eq_str (fin_bl I q zbn)
  | _=>exact absurd (show false=true from c) B1
 | byt i=>
  obtain ⟨t,rfl⟩:=d;cases y with
  | byt j=>obtain ⟨b,rfl⟩:=a;exact PySem.W.eq_bytes (fin_bl I q zi7)
  | _=>exact absurd (show false=true from c) B1
 | _=>cases y<;>exact absurd (show false=true from c) B1
theorem op_ne:OpR X (X2 .NotEq) rNe:=by
 intro e s σ H x y v u Q I d a h;obtain ⟨c,q⟩:=h;cases x with
 | non=>
  cases d;cases y with
  | non=>cases a;exact PySem.EqNone.ne_none_none (fin_bl I q (by simp))
  | bl j=>cases a;exact PySem.EqNone.ne_none_bool (fin_bl I q (by simp))
  | int j=>obtain ⟨b,rfl⟩:=a;exact PySem.EqNone.ne_none_int (fin_bl I q (by simp))
  | str j=>obtain ⟨b,rfl⟩:=a;exact PySem.EqNone.ne_none_str (fin_bl I q (by simp))
  | _=>exact absurd (show false=true from c) B1
 | bl i=>
  cases d;cases y with
  | non=>cases a;exact PySem.EqNone.ne_bool_none (fin_bl I q (by simp))
  | bl j=>cases a;exact ne_bool (fin_bl I q (congrArg not dec_bl))
  | str j=>obtain ⟨b,rfl⟩:=a;exact PySem.EqMixed.ne_bool_str (fin_bl I q (by simp))
  | _=>exact absurd (show false=true from c) B1
 | int i=>
  obtain ⟨t,rfl⟩:=d;cases y with
  | non=>cases a;exact PySem.EqNone.ne_int_none (fin_bl I q (by simp))
  | int j=>obtain ⟨b,rfl⟩:=a;exact ne_int (fin_bl I q (congrArg not zi5))
  | str j=>obtain ⟨b,rfl⟩:=a;exact PySem.EqMixed.ne_int_str (fin_bl I q (by simp))
  | _=>exact absurd (show false=true from c) B1
 | str i=>
  obtain ⟨t,rfl⟩:=d;cases y with
  | non=>cases a;exact PySem.EqNone.ne_str_none (fin_bl I q (by simp))
  | bl j=>cases a;exact PySem.EqMixed.ne_str_bool (fin_bl I q (by simp))
  | int j=>obtain ⟨b,rfl⟩:=a;exact PySem.EqMixed.ne_str_int (fin_bl I q (by simp))
  | str j=>obtain ⟨b,rfl⟩:=a;exact ne_str (fin_bl I q (congrArg not zbn))
  | _=>exact absurd (show false=true from c) B1
 | byt i=>
  obtain ⟨t,rfl⟩:=d;cases y with
  | byt j=>obtain ⟨b,rfl⟩:=a;exact PySem.W.ne_bytes (fin_bl I q (congrArg not zi7))
  | _=>exact absurd (show false=true from c) B1
 | _=>cases y<;>exact absurd (show false=true from c) B1
theorem op_lt:OpR X (X2 .Lt) (rI0 λ i j=>.bl (decide (i < j))):=opB0 λ _ _ _ _ _ _ _ q=>lt_int q
theorem op_le:OpR X (X2 .LtE) (rI0 λ i j=>.bl (decide (i<=j))):=opB0 λ _ _ _ _ _ _ _ q=>le_int q
theorem op_gt:OpR X (X2 .Gt) (rI0 λ i j=>.bl (decide (j < i))):=opB0 λ _ _ _ _ _ _ _ q=>gt_int q
theorem zhk:OpR X (X2 .In) (λ x y H Q=>∃i j,x=.str i/\y=.str j/\Q (.bl (!(N7 j i 0 j.length 1).isEmpty)) H):=by intro c s σ H x y v u Q I b a h;obtain ⟨i,j,rfl,rfl,q⟩:=h;obtain ⟨t,rfl⟩:=b;obtain ⟨d,rfl⟩:=a;exact in_str (fin_bl I q rfl)
theorem op_isN:OpR X (X2 .Is) (λ x y H Q=>y=.non/\Q (.bl (decide (x=.non))) H):=by
 intro c s σ H x y v u Q I a b h;obtain ⟨rfl,q⟩:=h;cases b;refine is_none_gen (fin_bl I q ?_);cases x<;>first
  | (cases a;rfl)
  | (obtain ⟨t,rfl⟩:=a;rfl)
theorem z8s:OpR X (X2 .IsNot) (λ x y H Q=>y=.non/\Q (.bl (!decide (x=.non))) H):=by
 intro c s σ H x y v u Q I a b h;obtain ⟨rfl,q⟩:=h;cases b;refine isnot_none_gen (fin_bl I q ?_);cases x<;>first
  | (cases a;rfl)
  | (obtain ⟨t,rfl⟩:=a;rfl)
theorem OpR.or {f:Value->Value->Sem Value} {r r':R2} (h:OpR X f r) (h':OpR X f r'):OpR X f (λ x y H Q=>r x y H Q\/r' x y H Q):=by
 intro b s σ H x y v u Q I c a q;rcases q with q|q
 ·exact h b s σ H x y v u Q I c a q
 ·exact h' b s σ H x y v u Q I c a q
theorem nomark (b:Expr) {op:CmpOp} (h:op≠.In:=by decide) (h2:op≠.NotIn:=by decide):G8 op b=false:=by
 have c:(op == CmpOp.In)=false:=by cases op<;>first|rfl|exact absurd rfl h
 have a:(op == CmpOp.NotIn)=false:=by cases op<;>first|rfl|exact absurd rfl h2
 cases b<;>simp [G8,c,a]
theorem z47 {op:CmpOp} {r:R2} (ho:OpR X (X2 op) r) (ha:PE X a ta) (hb:PE X b tb) (hm:G8 op b=false):PE X (.Compare a [op] [b] pos) (tOp r ta tb):=by intro f s σ H Q I h;exact wpAny_Compare1 (binT ha hb I h λ v u i x y e c g d q=>ho f i σ e x y v u Q c g d q) hm
noncomputable def tTest (t:TE):TT:=λ σ H Q=>t σ H λ x H'=>∃k,x=.bl k/\Q k H'
theorem z0a {op:CmpOp} {r:R2} (ho:OpR X (X2 op) r) (ha:PE X a ta) (hb:PE X b tb) (hm:G8 op b=false):PT X (.Compare a [op] [b] pos) (tTest (tOp r ta tb)):=by
 intro d s σ H Q I h;refine wpAny_isTrue_Compare1 (thn (ha d s σ H _ I h) λ v f ⟨x,H1,I1,r1,q1⟩=>thn (hb d f σ H1 _ I1 q1) λ u g ⟨y,H2,I2,r2,q2⟩=>thn (ho d g σ H2 x y v u _ I2 r1 r2 q2) λ c i ⟨z,H3,I3,r3,k,e,q3⟩=>?_) hm;subst e;cases r3;exact L3 ⟨H3,I3,q3⟩
noncomputable def tChain (r r':R2) (ta tb tc:TE):TE:=λ σ H Q=>ta σ H λ x H1=>tb σ H1 λ y H2=>r x y H2 λ z H3=>∃k,z=.bl k/\
 (if k=true then tc σ H3 λ w' H4=>r' y w' H4 Q else Q (.bl false) H3)
theorem zft {op op':CmpOp} {r r':R2} (ho:OpR X (X2 op) r) (ho':OpR X (X2 op') r') (ha:PE X a ta) (hb:PE X b tb) (hc:PE X c tc)
  (hm:lastMarks [op,op'] [b,c]=false:=by with_unfolding_all rfl):PE X (.Compare a [op,op'] [b,c] pos) (tChain r r' ta tb tc):=by
 intro f s σ H Q I h;refine Compare_chain (thn (ha f s σ H _ I h) λ v g ⟨x,H1,I1,r1,q1⟩=>chain_link (thn (hb f g σ H1 _ I1 q1) λ u m ⟨y,H2,I2,r2,q2⟩=>thn (ho f m σ H2 x y v u _ I2 r1 r2 q2) λ d i ⟨z,H3,I3,r3,k,e,q3⟩=>?_)) hm;subst e;cases r3;refine L3 ?_;cases k with
 | false=>exact ite_ff ⟨.bl false,H3,I3,rfl,q3⟩
 | true=>exact ite_tt (chain_last (thn (hc f i σ H3 _ I3 q3) λ l j ⟨z',H4,I4,r4,q4⟩=>ho' f j σ H4 y z' u l Q I4 r2 r4 q4))
theorem ziv {op op':CmpOp} {r r':R2} (ho:OpR X (X2 op) r) (ho':OpR X (X2 op') r') (ha:PE X a ta) (hb:PE X b tb) (hc:PE X c tc)
  (hm:lastMarks [op,op'] [b,c]=false:=by with_unfolding_all rfl):PT X (.Compare a [op,op'] [b,c] pos) (tTest (tChain r r' ta tb tc)):=by
 intro f s σ H Q I h;refine isTrue_chain (thn (ha f s σ H _ I h) λ v g ⟨x,H1,I1,r1,q1⟩=>test_link (thn (hb f g σ H1 _ I1 q1) λ u n ⟨y,H2,I2,r2,q2⟩=>thn (ho f n σ H2 x y v u _ I2 r1 r2 q2) λ d i ⟨z,H3,I3,r3,k,e,q3⟩=>?_)) hm;subst e;cases r3;refine L3 ?_;cases k with
 | false=>obtain ⟨t,m,o⟩:=q3;cases m;exact ite_ff ⟨H3,I3,o⟩
 | true=>refine ite_tt (test_last (thn (hc f i σ H3 _ I3 q3) λ l j ⟨z',H4,I4,r4,q4⟩=>thn (ho' f j σ H4 y z' u l _ I4 r2 r4 q4) λ p q ⟨z2,H5,I5,r5,k2,e2,q5⟩=>?_));subst e2;cases r5;exact L3 ⟨H5,I5,q5⟩
theorem line63:(sizeLine:Nat) < 2 ^ 63:=by rw [sizeLine_eq];decide
theorem op_add_str:OpR X (o6 .Add) (λ x y H Q=>∃i j,x=.str i/\y=.str j/\i.length + j.length<=sizeLine/\Q (.str (i++j)) H):=by intro f s σ H x y v u Q I d a h;obtain ⟨i,j,rfl,rfl,b,q⟩:=h;obtain ⟨t,rfl⟩:=d;obtain ⟨c,rfl⟩:=a;exact add_str (λ c e=>⟨.str (i++j),H,I.tok _,⟨_,rfl⟩,q⟩) b
theorem vals1 {x:V} {us:List Value} (r:Vals [x] us) :∃u,us=[u]/\RelV x u:=by
 cases r with
 | cons r1 r2=>cases r2;exact ⟨_,rfl,r1⟩
theorem vals2 {x y:V} {us:List Value} (r:Vals [x,y] us) :∃u w',us=[u,w']/\RelV x u/\RelV y w':=by
 cases r with
 | cons r1 r2=>
  cases r2 with
  | cons r3 r4=>cases r4;exact ⟨_,_,rfl,r1,r3⟩
end
structure ObjM (h:Heap) (x dx C:Addr) (mA:Str->Option Value):Prop where
 obj:h.get? x=some (S4 C dx)
 ns:h.Ns1 dx mA
 ne:dx≠x
theorem zg1 {h:Heap} {dx:Addr} {mA:Str->Option Value} (n:h.Ns1 dx mA) :∃od,h.get? dx=some od/\∀name,J8 name od=some (mA name):=by
 obtain ⟨o,b,l,j,d,g,_,k⟩:=n;refine ⟨o,j,λ name=>?_⟩;have e:=k name;unfold nsFind findBy at e;rw [<-Array.find?_toList] at e;unfold J8;rw [d];dsimp only;split
 ·rename_i y q;rw [q] at e;exact congrArg some e
 ·rename_i q;rw [q] at e;have a:b.toList.any (·.refKey)=false:=by rw [List.any_eq_false];intro y c;obtain ⟨z,t,f⟩:=g y (Array.mem_toList_iff.mp c);simp [DictEntry.refKey,f]
  have i:¬ b.toList.any (·.refKey)=true:=by rw [a];exact B1
  rw [if_neg i];exact congrArg some e
theorem ObjM.look {h:Heap} {x dx C:Addr} {mA:Str->Option Value} (I:ObjM h x dx C mA) :∃od,PySem.W.InstAt h x (S4 C dx) C (some od)/\∀name,J8 name od=some (mA name):=
 let ⟨od,ho,hl⟩:=zg1 I.ns
 ⟨od,⟨I.obj,rfl,rfl,ho⟩,hl⟩
section
variable {prog:Program} {w:Z0} {A:K2} {E:Value->B0->Prop} {s:B0} {K:j0} {x dx C f:Addr} {mA:Str->Option Value} {name:Str} {v:Value}
theorem zjp {expr:Bool} {Q:Value->B0->Prop} (X:K.In s.heap) (I:ObjM s.heap x dx C mA) (hg:W7 K C name=true) (hh:A9 K C=true)
  (ha:U3 K (.ref C) name=some none) (hv:mA name=some v) (hv':PySem.W.handedIn v=true) (h:Q v { s with toks:=s.toks + 1 }) :
  S0 (J1 prog w) A (getAttr (.ref x) name expr) Q E s:=by
 obtain ⟨b,J,a⟩:=I.look;exact PySem.W.get_value X J (X8 hg).1 (PySem.W.findObj_own hh ha rfl (by rw [a,hv])) hv' h
theorem zj1 {pl:Sem Bool} {Q:Value×List Value->B0->Prop} (X:K.In s.heap) (I:ObjM s.heap x dx C mA) (hg:W7 K C name=true)
  (hf:U3 K (.ref C) name=some (some (.ref f))) (ht:j1b K (.ref f)=true) (hv:mA name=none) (h:Q (.ref f,[.ref x]) s) :
  S0 (J1 prog w) A (getMethod (.ref x) name pl) Q E s:=by
 obtain ⟨a,J,b⟩:=I.look;exact PySem.W.method_fn X J (X8 hg).1 (X8 hg).2 hf (beq_iff_eq.mp ht) (by show (J8 name a).map (·.isSome)=some false;rw [b,hv];rfl) h
theorem zkm {ns:List Str} {Q:Unit->B0->Prop} (X:K.In s.heap) (I:ObjM s.heap x dx C mA)
  (hs:U3 K (.ref C) "__setattr__" = some (some (.builtin "object.__setattr__"))) (hp:j3i K C=true) (ht:X9 K C name=some none) (hh:A9 K C=true)
  (hw:j2c mA ns) (hsz:ns.length<=sizeLine)
  (h :∀h',ObjM h' x dx C (λ y=>if y=name then some v else mA y)->K6 dx s.heap h'->Q () { s with heap:=h',toks:=s.toks + 2 }) :
  S0 (J1 prog w) A (setAttr (.ref x) name v) Q E s:=by
 obtain ⟨m,J,l⟩:=I.look;refine PySem.W.set_plain X J hs (PySem.W.osa_open (s:={ s with toks:=s.toks + 1 }) (r:=none) X J hp ht λ b=>?_);obtain ⟨q,e,j⟩:=PySem.W.any_some hh;have i:s.heap.get? x=some ⟨.ref C,some dx,.plain,#[]⟩:=I.obj;refine o0 (C0 (o0 (o0 (wpAny_loadPart i (o0 (PySem.W.Looks.here (s:={ s with toks:=s.toks + 1 }) (PySem.W.looks_clsIn X e) ?_))))));rw [j];refine C0 (a:=some dx) (o0 (C0 (o0 ?_)));refine wpAny_nsSet1 (s:={ s with toks:=s.toks + 1 }) I.ns λ h' d c=>?_;obtain ⟨o,n,p,k,g,f⟩:=d.count (PySem.Within.cons name v hw);refine o0 (wpAny_lookBehind k (by rw [g];exact pastItsLine_dict (L0 f (by rw [X0];omega))) ?_);exact C0 (h _ ⟨(c.2 _ (X1 I.ne)).trans I.obj,d,I.ne⟩ c)
theorem zjg {R:j1a->B0->Prop} {vs:List Value} {kw:List (Str×Value)} (X:K.In s.heap) (hm:PySem.W.makesIn K C=true)
  (hi:U3 K (.ref C) "__init__" = some (some (.ref f))) (hf:PySem.W.typeIn K (.ref f)=some (.type "function"))
  (h:A5 (J1 prog w) (A.under (.builtin "type.__call__" ⟨.ref C :: vs,kw⟩)) (.call (.ref f) ⟨.ref (s.heap.objs.size + 1) :: vs,kw⟩) (PySem.W.InitBack (s.heap.objs.size + 1) R)
   { s with heap:=(s.heap.push PySem.W.emptyDict).push (S4 C s.heap.objs.size) }) :
  A5 (J1 prog w) A (.call (.ref C) ⟨vs,kw⟩) R s:=by
 obtain ⟨b,g,d,t,c⟩:=s;exact PySem.W.make_core (PySem.W.makes_of X hm) (PySem.W.looks_findIn X hi) (λ a=>PySem.W.bind_fn X a hf) (.inl rfl) h
end
noncomputable def putF (f:Str) (v:V):List (Str×V)->List (Str×V)
 | []=>[(f,v)]
 | (g,x) :: r=>if g=f then (g,v) :: r else (g,x) :: putF f v r
theorem z37 (f g:Str) (v:V) :∀fs:List (Str×V),(putF f v fs).lookup g=if g=f then some v else fs.lookup g
 | []=>by
  show f7 g [(f,v)]=_;by_cases h:g=f
  ·have a:(g == f)=true:=beq_iff_eq.mpr h;simp only [f7,a,if_pos h]
  ·have a:(g == f)=false:=beq_eq_false_iff_ne.mpr h;simp only [f7,a,if_neg h]
 | (k,x) :: r=>by
  have b:=z37 f g v r;rw [show putF f v ((k,x) :: r)=(if k=f then (k,v) :: r else (k,x) :: putF f v r) from rfl];by_cases hk:k=f
  ·rw [if_pos hk];by_cases h:g=k
   ·have a:(g == k)=true:=beq_iff_eq.mpr h;simp only [f7,a,if_pos (h.trans hk)]
   ·have a:(g == k)=false:=beq_eq_false_iff_ne.mpr h;simp only [f7,a,if_neg (λ e:g=f=>h (e.trans hk.symm))]
  ·rw [if_neg hk];by_cases h:g=k
   ·have a:(g == k)=true:=beq_iff_eq.mpr h;simp only [f7,a,if_neg (λ e:g=f=>hk (h.symm.trans e))]
   ·have a:(g == k)=false:=beq_eq_false_iff_ne.mpr h;simp only [f7,a];exact b
theorem z7h (f:Str) (v:V) :∀fs:List (Str×V),f∈(putF f v fs).map (·.1)/\∀g,g∈fs.map (·.1)->g∈(putF f v fs).map (·.1)
 | []=>⟨by simp [putF],λ g h=>by simp at h⟩
 | (k,x) :: r=>by
  obtain ⟨a,b⟩:=z7h f v r;rw [show putF f v ((k,x) :: r)=(if k=f then (k,v) :: r else (k,x) :: putF f v r) from rfl];by_cases hk:k=f
  ·rw [if_pos hk];subst hk;exact ⟨by simp,λ g h=>by simpa using h⟩
  ·rw [if_neg hk];refine ⟨?_,λ g h=>?_⟩
   ·rw [U1];exact O1 _ a
   ·rw [U1] at h⊢;rcases List.mem_cons.mp h with e|e
    ·exact List.mem_cons.mpr (.inl e)
    ·exact O1 _ (b g e)
theorem z72 (f:Str) (v:V) :∀fs:List (Str×V),(putF f v fs).length<=fs.length + 1
 | []=>by simp [putF]
 | (k,x) :: r=>by
  have a:=z72 f v r;rw [show putF f v ((k,x) :: r)=(if k=f then (k,v) :: r else (k,x) :: putF f v r) from rfl];by_cases hk:k=f
  ·rw [if_pos hk,X0,X0];omega
  ·rw [if_neg hk,X0,X0];omega
theorem RelO.some_of {v:V} {o:Option Value} (r:RelO (some v) o) :∃u,o=some u/\RelV v u:=by
 cases o with
 | none=>exact (show False from r).elim
 | some u=>exact ⟨u,rfl,r⟩
theorem RelO.none_of {o:Option Value} (r:RelO none o):o=none:=by
 cases o with
 | none=>rfl
 | some u=>exact (show False from r).elim
theorem zgq {v:V} {u:Value} (r:RelV v u):PySem.W.handedIn u=true:=by
 cases v with
 | non=>cases (show u=M3 from r);rfl
 | bl b=>cases (show u=y9 b from r);rfl
 | int i=>obtain ⟨t,e⟩:=(show∃t,u=d9 i t from r);cases e;rfl
 | str x=>obtain ⟨t,e⟩:=(show∃t,u=b9 x t from r);cases e;rfl
 | byt b=>obtain ⟨t,e⟩:=(show∃t,u=Value.bytes b t from r);cases e;rfl
 | flt b=>obtain ⟨t,e⟩:=(show∃t,u=j39 b t from r);cases e;rfl
 | ref a=>cases (show u=E1 a from r);rfl
 | ty n=>cases (show u=F3 n from r);rfl
section
variable {P:Program} {w:Z0} {H H':Hp} {h h':Heap} {a C dx:Addr} {fs fs':List (Str×V)}
theorem zc1 (hok:HOk P w H h) (e:H a=some (.ins C dx fs)) :∃mA,ObjM h a dx C mA/\(∀f,RelO (fs.lookup f) (mA f))/\j2c mA (fs.map (·.1))/\fs.length<=1000/\H dx=some (.own a):=by
 obtain ⟨d,z,c,b,mA,n,r,q⟩:=(show ObjOk P w H h a (.ins C dx fs) from hok a _ e)
 exact ⟨mA,⟨b,n,c⟩,r,q,z,d⟩
end
structure Cls (K:j0) (C:Addr):Prop where
 pg:W7 K C Str.empty=true
 hd:A9 K C=true
 po:j3i K C=true
 sa:U3 K (.ref C) "__setattr__" = some (some (.builtin "object.__setattr__"))
theorem Cls.get {K:j0} {C:Addr} (c:Cls K C) (f:Str):W7 K C f=true:=c.pg
def NoAttr (K:j0) (C:Addr) (f:Str):Prop:=U3 K (.ref C) f=some none
theorem NoAttr.taker {K:j0} {C:Addr} {f:Str} (n:NoAttr K C f):X9 K C f=some none:=by unfold X9;rw [show U3 K (.ref C) f=some none from n];rfl
structure Con (K:j0) (C:Addr) (f:Str) (v:V) (u:Value):Prop where
 at_:U3 K (.ref C) f=some (some u)
 rel:RelV v u
 get:j3h K u "__get__" = some none
 cp:PySem.W.copiedNames.contains f=false
structure Meth (K:j0) (C:Addr) (m:Str) (f:Addr):Prop where
 at_:U3 K (.ref C) m=some (some (.ref f))
 fn:j1b K (.ref f)=true
 kp:X4 K (.ref f)=true
section
variable {X:Cx} {pins:List (Addr×Obj)} {σ:St} {H:Hp} {s:B0} {a C dx:Addr} {fs:List (Str×V)} {f:Str} {v:V} {A:K2} {E:Value->B0->Prop}
theorem zf1 {b:Bool} {Q:Value->B0->Prop} (I:Inv X pins σ H s) (e:H a=some (.ins C dx fs)) (c:Cls X.K C) (n:NoAttr X.K C f) (l:fs.lookup f=some v)
  (h :∀u s',Inv X pins σ H s'->RelV v u->Q u s'):S0 (J1 X.prog X.w) A (getAttr (.ref a) f b) Q E s:=by
 obtain ⟨i,O,r,_,_,_⟩:=zc1 I.hok e;obtain ⟨u,g,d⟩:=RelO.some_of (v:=v) (o:=i f) (by rw [<-l];exact r f);exact zjp I.kIn O (c.get f) c.hd n g (zgq d) (h u _ (I.tok _) d)
theorem zds {m:Str} {g:Addr} {pl:Sem Bool} {Q:Value×List Value->B0->Prop} (I:Inv X pins σ H s) (e:H a=some (.ins C dx fs)) (c:Cls X.K C) (k:Meth X.K C m g) (l:fs.lookup m=none)
  (h:Q (.ref g,[.ref a]) s):S0 (J1 X.prog X.w) A (getMethod (.ref a) m pl) Q E s:=by
 obtain ⟨d,O,r,_,_,_⟩:=zc1 I.hok e;have b:d m=none:=RelO.none_of (by rw [<-l];exact r m);exact zj1 I.kIn O (c.get m) k.at_ k.fn b h
theorem zfj {y:V} {u:Value} {Q:Unit->B0->Prop} (I:Inv X pins σ H s) (e:H a=some (.ins C dx fs)) (c:Cls X.K C) (n:NoAttr X.K C f) (hl:fs.length < 1000) (ry:RelV y u)
  (h :∀s',Inv X pins σ (upd H a (.ins C dx (putF f y fs))) s'->Q () s'):S0 (J1 X.prog X.w) A (setAttr (.ref a) f u) Q E s:=by
 obtain ⟨j,O,r,i,_,k⟩:=zc1 I.hok e;have m:(fs.map (·.1)).length<=sizeLine:=by rw [G0,sizeLine_eq];omega
 refine zkm I.kIn O c.sa c.po n.taker c.hd i m λ B d v=>h _ ?_;have l :∃o,B.get? dx=some o:=let ⟨o,_,_,e',_⟩:=d.ns;⟨o,e'⟩;refine I.write (x:=a) (e:=dx) (by rw [e];exact True.intro) (.inr k) (λ b q t z=>(v.2 b t).trans z) l ?_;refine ⟨by rw [upd_ne O.ne];exact k,?_,O.ne,d.obj,_,d.ns,λ g=>?_,λ g p=>?_⟩
 ·have:=z72 f y fs;omega
 ·show RelO ((putF f y fs).lookup g) (if g=f then some u else j g);rw [z37];by_cases q:g=f
  ·rw [if_pos q,if_pos q];exact ry
  ·rw [if_neg q,if_neg q];exact r g
 ·by_cases q:g=f
  ·rw [q];exact (z7h f y fs).1
  ·refine (z7h f y fs).2 g (i g λ z=>p ?_);show (if g=f then some u else j g)=none;rw [if_neg q];exact z
theorem Inv.made (I:Inv X pins σ H s):Inv X pins σ (upd (upd H s.heap.objs.size (.own (s.heap.objs.size + 1))) (s.heap.objs.size + 1) (.ins C s.heap.objs.size []))
  { s with heap:=(s.heap.push PySem.W.emptyDict).push (S4 C s.heap.objs.size) }:=by
 have d:(s.heap.push PySem.W.emptyDict).get? s.heap.objs.size=some PySem.W.emptyDict:=C1 s.heap rfl;have f:((s.heap.push PySem.W.emptyDict).push (S4 C s.heap.objs.size)).get? (s.heap.objs.size + 1)=some (S4 C s.heap.objs.size):=by
  have:=C1 (s.heap.push PySem.W.emptyDict) (o:=S4 C s.heap.objs.size) rfl
  rwa [J6] at this
 have j:(s.heap.push PySem.W.emptyDict).Ns s.heap.objs.size (λ _=>none):=⟨PySem.W.emptyDict,#[],_,d,rfl,(λ e i=>absurd i (by simp)),λ _=>rfl⟩
 have h:=I.laid (a:=s.heap.objs.size) (o:=.own (s.heap.objs.size + 1)) (h':=s.heap.push PySem.W.emptyDict) (t':=s.toks) (λ b u q=>F0 _ q) (J0 _) ⟨_,d⟩;refine h.laid (a:=s.heap.objs.size + 1) (o:=.ins C s.heap.objs.size []) (t':=s.toks) (λ b u q=>F0 _ q) (Nat.le_of_eq (J6 _ _)) ?_;have c:s.heap.objs.size≠s.heap.objs.size + 1:=Y0 (G3 _);refine ⟨by rw [upd_ne c,z03],A2 _,c,f,λ _=>none,(Heap.Ns1.of_empty j).at λ o q=>F0 _ q,λ _=>True.intro,λ y g=>absurd rfl g⟩
theorem zk8 {prog:Program} {w:Z0} {env:Env} {e:Expr} {f:Str} {pos:Pos} {s:B0} {Q:Value->B0->Prop} (hb:w5 e f env (R3 e env)=R3 e env)
  (h:S0 (J1 prog w) A (R3 e env) (λ o s₁=>S0 (J1 prog w) A (getAttr o f true) Q E s₁) E s):S0 (J1 prog w) A (R3 (.Attribute e f pos) env) Q E s:=
 Attribute_any_ h (by rw [arm_eval_Attribute,hb])
end
noncomputable def tFld (K:j0) (ta:TE) (f:Str):TE:=λ σ H Q=>ta σ H λ x H1=>∃a C dx fs v,x=.ref a/\H1 a=some (.ins C dx fs)/\Cls K C/\NoAttr K C f/\fs.lookup f=some v/\Q v H1
noncomputable def sFld (K:j0) (ta tv:TE) (f:Str):TS:=λ D σ H=>tv σ H λ y H1=>ta σ H1 λ x H2=>∃a C dx fs,x=.ref a/\H2 a=some (.ins C dx fs)/\Cls K C/\NoAttr K C f/\fs.length < 1000/\
 D.nx σ (upd H2 a (.ins C dx (putF f y fs)))
section
variable {X:Cx} {o e value:Expr} {f:Str} {pos pos' tpos:Pos} {ta tv:TE}
theorem pe_fld (he:PE X e ta) (hb:w5 e f X.env (R3 e X.env)=R3 e X.env):PE X (.Attribute e f pos) (tFld X.K ta f):=by intro d s σ H Q I h;refine zk8 hb (thn (he d s σ H _ I h) λ u j ⟨x,H1,I1,rx,a,C,dx,fs,v,ex,ea,c,n,l,q⟩=>?_);subst ex;obtain rfl:u=E1 a:=rx;exact zf1 I1 ea c n l λ i k b g=>⟨v,H1,b,g,q⟩
theorem ps_fld (ha:PE X o ta) (hv:PE X value tv) (hs:U8 value (some (.Attribute o f pos')) pos.line X.env=V3 false):PS X (.Assign [.Attribute o f pos'] value pos) (sFld X.K ta tv f):=by intro b s σ H D I h;refine plainObj_wpAny_Assign_Attribute (thn (hv b s σ H _ I h) λ u e ⟨y,H1,I1,ry,q⟩=>thn (ha b e σ H1 _ I1 q) λ d i ⟨x,H2,I2,rx,a,C,dx,fs,ex,ea,c,n,l,q2⟩=>?_) hs;subst ex;obtain rfl:d=E1 a:=rx;exact zfj I2 ea c n l ry λ j g=>⟨σ,_,g,q2⟩
end
section
variable {X:Cx} {pins:List (Addr×Obj)} {σ:St} {H:Hp} {s:B0} {A:K2} {E:Value->B0->Prop} {Q:Value->B0->Prop} {c:Value} {b:Bool}
inductive TyOf (K:j0) (H:Hp):V->Value->Prop where
 | non:TyOf K H .non (.type "NoneType")
 | bl (x:Bool):TyOf K H (.bl x) (.type "bool")
 | int (i:Int):TyOf K H (.int i) (.type "int")
 | str (x:Str):TyOf K H (.str x) (.type "str")
 | flt (x:UInt64):TyOf K H (.flt x) (.type "float")
 | lst {a:Addr} {xs:List V} (e:H a=some (.lst xs)):TyOf K H (.ref a) (.type "list")
 | frz {a:Addr} {o:Obj} {xs:List V} (e:H a=some (.frz o (.lst xs))):TyOf K H (.ref a) (.type "list")
 | tup {a:Addr} {xs:List V} (e:H a=some (.tup xs)):TyOf K H (.ref a) (.type "tuple")
 | dK {a:Addr} {kvs:List (Key×V)} (e:H a=some (.dK kvs)):TyOf K H (.ref a) (.type "dict")
 | dT {a:Addr} {kvs:List (List Key×V)} (e:H a=some (.dT kvs)):TyOf K H (.ref a) (.type "dict")
 | ins {a C dx:Addr} {fs:List (Str×V)} (e:H a=some (.ins C dx fs)) (cl:Cls K C) (ha:U3 K (.ref C) "__class__" = some (some (.builtin "object.__class__")))
   (hn:j3h K (.builtin "object.__class__") "__get__" = some (some (.builtin "getset_descriptor.__get__"))) (htk:PySem.W.takesIn K (.builtin "object.__class__")=some true)
   (hm:PySem.W.mroIn K C (.type "object")=some true):TyOf K H (.ref a) (.ref C)
theorem zhe {x:V} {u t:Value} (I:Inv X pins σ H s) (rx:RelV x u) (ty:TyOf X.K H x t) (e:PySem.W.kitOne X.K t c=some b) (h :∀tk,Q (.bool b) { s with toks:=tk }) :
  S0 (J1 X.prog X.w) A (call (.builtin "isinstance") [u,c]) Q E s:=by
 cases ty with
 | non=>cases (show u=M3 from rx);exact P3 PySem.W.kitx_none I.kIn True.intro e (λ z=>nomatch z) h
 | bl y=>cases (show u=y9 y from rx);exact P3 PySem.W.kitx_bool I.kIn True.intro e (λ z=>nomatch z) h
 | int i=>obtain ⟨t,q⟩:=(show∃t,u=d9 i t from rx);cases q;exact P3 PySem.W.kitx_int I.kIn True.intro e (λ z=>nomatch z) h
 | str y=>obtain ⟨t,q⟩:=(show∃t,u=b9 y t from rx);cases q;exact P3 PySem.W.kitx_str I.kIn True.intro e (λ z=>nomatch z) h
 | flt y=>obtain ⟨t,q⟩:=(show∃t,u=j39 y t from rx);cases q;exact P3 PySem.W.kitx_float I.kIn True.intro e (λ z=>nomatch z) h
 | @lst a f ea=>
  cases (show u=E1 a from rx);obtain ⟨_,_,n,_,d⟩:=(show ObjOk X.prog X.w H s.heap a (.lst f) from I.hok a _ ea)
  exact P3 j3j I.kIn ⟨_,d,rfl⟩ e (λ z=>nomatch z) h
 | @frz a ob f ea=>
  cases (show u=E1 a from rx);obtain ⟨_,_,_,n,_,d⟩:=(show ObjOk X.prog X.w H s.heap a (.frz ob (.lst f)) from I.hok a _ ea)
  exact P3 j3j I.kIn ⟨_,d,rfl⟩ e (λ z=>nomatch z) h
 | @tup a f ea=>
  cases (show u=E1 a from rx);obtain ⟨_,_,_,p,_⟩:=(show ObjOk X.prog X.w H s.heap a (.tup f) from I.hok a _ ea)
  obtain ⟨o,d,g,_⟩:=p;exact P3 PySem.W.kitx_tuple I.kIn ⟨o,d,g⟩ e (λ z=>nomatch z) h
 | @dK a kvs ea=>
  cases (show u=E1 a from rx);obtain ⟨_,_,l,_,p⟩:=(show ObjOk X.prog X.w H s.heap a (.dK kvs) from I.hok a _ ea)
  obtain ⟨o,j,k,d,g,_⟩:=p;exact P3 j40 I.kIn ⟨o,d,g.1⟩ e (λ z=>nomatch z) h
 | @dT a kvs ea=>
  cases (show u=E1 a from rx);obtain ⟨_,_,f,_,o,j,k,d,g,_⟩:=(show ObjOk X.prog X.w H s.heap a (.dT kvs) from I.hok a _ ea)
  exact P3 j40 I.kIn ⟨o,d,g.1⟩ e (λ z=>nomatch z) h
 | @ins a C dx fs ea cl ha hn htk hm=>cases (show u=E1 a from rx);obtain ⟨r,O,_⟩:=zc1 I.hok ea;obtain ⟨m,J,_⟩:=O.look;exact P3 (PySem.W.kitx_own (cl.get _) cl.hd ha hn htk hm) I.kIn J e (λ z=>nomatch z) h
end
structure Room (k:Nat) (A:K2):Prop where
 hd:A.handled=none
 dp:A.depth + 3 * k + 5 < recursionLimit
 un:A.units + 16 * k + 200 < cLine
 gd:A.guards=some []
theorem Room.mono {j k:Nat} {A:K2} (r:Room k A) (h:j<=k):Room j A:=⟨r.hd,by have:=r.dp;omega,by have:=r.un;omega,r.gd⟩
theorem Room.deeper {k:Nat} {A:K2} (r:Room (k + 1) A) (env:Env):Room k (A.deeper env):=
 ⟨r.hd,by have:=r.dp;show A.depth + 1 + 3 * k + 5 < _;omega,by have:=r.un;show A.units + 3 + 16 * k + 200 < _;omega,r.gd⟩
theorem zel {A:K2} {C:Addr} {us:List Value} {kw:List (Str×Value)}:(A.under (.builtin "type.__call__" ⟨.ref C :: us,kw⟩)).depth=A.depth + 1:=by first|rfl|simp [K9,Code.weight,Code.isCreation,Code.isGuard,Code.isCaller,j47,T9,guardIds]
theorem zdi {A:K2} {C:Addr} {us:List Value} {kw:List (Str×Value)}:(A.under (.builtin "type.__call__" ⟨.ref C :: us,kw⟩)).units=A.units + 1:=by first|rfl|simp [K9,Code.cUnits,j47,T9]
theorem Room.make {k:Nat} {A:K2} (r:Room (k + 1) A) (C:Addr) (us:List Value) (kw:List (Str×Value)):Room k (A.under (.builtin "type.__call__" ⟨.ref C :: us,kw⟩)):=
 ⟨r.hd,by have:=r.dp;rw [zel];omega,by have:=r.un;rw [zdi];omega,by have h:=r.gd;first|exact h|simp [K9,h,Code.weight,Code.isCreation,Code.isGuard,Code.isCaller,j47,T9,guardIds]⟩
theorem Room.depth {k:Nat} {A:K2} (r:Room k A):A.depth < recursionLimit:=by have:=r.dp;omega
theorem Room.units {k:Nat} {A:K2} (r:Room k A):A.units + 64 < cLine:=by have:=r.un;omega
noncomputable def tNil:TA:=λ _ H Q=>Q [] H
noncomputable def tCons (ta:TE) (tr:TA):TA:=λ σ H Q=>ta σ H λ x H1=>tr σ H1 λ xs H2=>Q (x :: xs) H2
section
variable {X:Cx} {e:Expr} {es:List Expr} {te:TE} {t:TA} {pos:Pos}
theorem pa_nil:PA X [] tNil:=λ _ _ _ _ H Q I h=>L5 ⟨[],H,I,.nil,h⟩
theorem z01 (ha:PE X e te) (hr:PA X es t) (hs:G1 (e :: es) X.env=(false,R3 e X.env) :: G1 es X.env:=by rfl):PA X (e :: es) (tCons te t):=by intro b a s σ H Q I h;rw [hs];show S0 _ _ (j2h ((false,R3 e X.env) :: O4 b (G1 es X.env))) _ _ s;refine Q4 (thn (ha a s σ H _ I h) λ u c ⟨x,H1,I1,r1,q1⟩=>?_);exact thn (hr b a c σ H1 _ I1 q1) λ d f ⟨xs,H2,I2,r2,q2⟩=>⟨x :: xs,H2,I2,.cons r1 r2,q2⟩
noncomputable def tTup (t:TA):TE:=λ σ H Q=>t σ H λ xs H1=>xs.length<=sizeLine/\∀p,H1 p=none->Q (.ref p) (upd H1 p (.tup xs))
noncomputable def tLst (t:TA):TE:=λ σ H Q=>t σ H λ xs H1=>xs.length<=sizeLine/\∀p,H1 p=none->Q (.ref p) (upd H1 p (.lst xs))
theorem pe_tup {x1} (h:PA X es t):PE X (.Tuple es x1 pos) (tTup t):=by intro f s σ H Q I d;refine wpAny_Tuple_spliced (thn (h pos f s σ H _ I d) λ c a ⟨xs,H1,I1,r,z,q⟩=>⟨by rw [<-r.length];exact z,?_⟩);have g:H1 a.heap.objs.size=none:=I1.hok.fresh (J0 _);refine ⟨.ref a.heap.objs.size,upd H1 a.heap.objs.size (.tup xs),I1.laid (t':=a.toks) (λ b u e=>F0 _ e) (J0 _) ?_,rfl,q _ g⟩;exact ⟨z,c,r,IsTupN.new _ _⟩
theorem pe_lst (h:PA X es t):PE X (.List es pos) (tLst t):=by intro f s σ H Q I d;refine wpAny_List_spliced (thn (h pos f s σ H _ I d) λ c a ⟨xs,H1,I1,r,z,q⟩=>⟨by rw [<-r.length];exact z,?_⟩);have g:H1 a.heap.objs.size=none:=I1.hok.fresh (J0 _);refine ⟨.ref a.heap.objs.size,upd H1 a.heap.objs.size (.lst xs),I1.laid (t':=a.toks) (λ b u e=>F0 _ e) (J0 _) ?_,rfl,q _ g⟩;exact ⟨z,c,0,r,C1 _ rfl⟩
end
noncomputable abbrev Sp:=List V->Hp->VK->XK->Prop
noncomputable abbrev CXT:=List Env->Hp->B0->XK->Value->B0->Prop
structure Env0 (P:Program) (w:Z0) (K:j0) (mg:Str->Option Value) (base:Heap) (A:K2) (outer:List Env) (s:B0) (H:Hp):Prop where
 frames:A.frames=some outer
 mod:Mod K mg base
 bs :∀b o,base.get? b=some o->s.heap.get? b=some o/\H b=none
 bsz:base.objs.size<=s.heap.objs.size
 funs:s.heap.FunFrames base outer
 frf :∀b∈frs outer,H b=none
 hok:HOk P w H s.heap
 bare:F8 s.gens
def CE (outer:List Env) (P:Program) (w:Z0) (H:Hp) (s:B0) (Q:VK) (u:Value) (s':B0):Prop:=
 ∃v H',s'.os=s.os/\F8 s'.gens/\Un (frs outer) [] H H' s.heap s'.heap/\HOk P w H' s'.heap/\RelV v u/\Q v H'
def CR (CX:CXT) (outer:List Env) (P:Program) (w:Z0) (H:Hp) (s:B0) (Q:VK) (E:XK) (r:j1a) (s':B0):Prop:=
 match r with
 | .ok (.ret u)=>CE outer P w H s Q u s'
 | .ok _=>False
 | .error e=>CX outer H s E e s'
structure FnOk (P:Program) (w:Z0) (K:j0) (mg:Str->Option Value) (base:Heap) (CX:CXT) (k:Nat) (f:Addr) (fd:FuncData) (ps:List Str) (sp:Sp):Prop where
 len :∀vs H Q E,sp vs H Q E->vs.length=ps.length
 run :∀(A:K2) (outer:List Env) (s:B0) (H:Hp) (args:Args) (us:List Value) (vs:List V) (Q:VK) (E:XK),Room k A->Env0 P w K mg base A outer s H->BindsTo s fd args (ps.zip us)->Vals vs us->sp vs H Q E->
  A5 (J1 P w) A (.call (.ref f) args) (CR CX outer P w H s Q E) s
theorem Env0.make {P:Program} {w:Z0} {K:j0} {mg:Str->Option Value} {base:Heap} {A:K2} {outer:List Env} {s:B0} {H:Hp} (e:Env0 P w K mg base A outer s H) (C:Addr) (us:List Value) (kw:List (Str×Value)) :
  Env0 P w K mg base (A.under (.builtin "type.__call__" ⟨.ref C :: us,kw⟩)) outer s H:=⟨by first|exact e.frames|(simpa [K9,Code.envs,T9,pushEnvs] using e.frames),e.mod,e.bs,e.bsz,e.funs,e.frf,e.hok,e.bare⟩
section
variable {X:Cx} {pins:List (Addr×Obj)} {σ:St} {H:Hp} {s s':B0}
theorem Inv.env0 (I:Inv X pins σ H s):Env0 X.prog X.w X.K X.mg X.base X.A X.stack s H:=
 ⟨I.ok.frames,I.ok.mod,I.bs,L0 I.ok.bsz I.sz,I.stack,I.stkFree,I.hok,I.bare⟩
theorem Inv.after {Q:VK} {u:Value} (I:Inv X pins σ H s) (h:CE X.stack X.prog X.w H s Q u s'):EP X pins σ Q u s':=by obtain ⟨v,i,e,c,un,f,r,q⟩:=h;obtain ⟨a,g,d,t,j⟩:=s';obtain rfl:j=s.os:=e;exact ⟨v,i,I.call (h':=a) (g':=g) (d':=d) (t':=t) (ch:=[]) un f c (λ b z=>absurd z (by simp)),r,q⟩
end
noncomputable def tCall (sp:Sp) (dvs:List V) (E:XK) (t:TA):TE:=λ σ H Q=>t σ H λ vs H1=>sp (vs++dvs) H1 Q E
noncomputable def tMeth (C:Addr) (m:Str) (sp:Sp) (dvs:List V) (E:XK) (ta:TE) (t:TA):TE:=λ σ H Q=>ta σ H λ x H1=>∃a dx fs,x=.ref a/\H1 a=some (.ins C dx fs)/\fs.lookup m=none/\
 t σ H1 λ vs H2=>sp (x :: (vs++dvs)) H2 Q E
noncomputable def tMake (C:Addr) (sp:Sp) (dvs:List V) (E:XK) (t:TA):TE:=λ σ H Q=>t σ H λ vs H1=>∀x dx,H1 x=none->H1 dx=none->dx≠x->
 sp (.ref x :: (vs++dvs)) (upd (upd H1 dx (.own x)) x (.ins C dx [])) (λ v H2=>v=.non/\Q (.ref x) H2) E
def Binds (K:j0) (fd:FuncData) (ps:List Str) (ds:List Value):Prop:=
 ∀(s:B0) (us:List Value),K.In s.heap->(us++ds).length=ps.length->BindsTo s fd ⟨us,[]⟩ (ps.zip (us++ds))
theorem Binds.all {K:j0} {fd:FuncData} {ps:List Str} (h :∀us:List Value,us.length=ps.length->bindArgs fd ⟨us,[]⟩=V3 (ps.zip us)):Binds K fd ps []:=λ s us _ a=>by rw [C3] at a⊢;exact .of_eq (h us a)
def Passes (CX:CXT) (X:Cx) (E:XK):Prop:=∀(pins:List (Addr×Obj)) (σ:St) (H:Hp) (s:B0) (e:Value) (s':B0),Inv X pins σ H s->CX X.stack H s E e s'->X.xe e s'
section
variable {X:Cx} {CX:CXT} {k:Nat} {f C:Addr} {fd:FuncData} {ps:List Str} {sp:Sp} {dvs:List V} {ds:List Value} {E:XK} {x m:Str} {p pos apos:Pos} {e o:Expr} {es:List Expr} {ta:TE} {t:TA}
theorem run_fn {pins:List (Addr×Obj)} {σ:St} {H:Hp} {s:B0} {Q:VK} {us:List Value} {vs:List V} (F:FnOk X.prog X.w X.K X.mg X.base CX k f fd ps sp) (hr:Room k X.A) (hb:Binds X.K fd ps ds) (hd:Vals dvs ds) (hx:Passes CX X E)
  (I:Inv X pins σ H s) (r:Vals vs us) (h:sp (vs++dvs) H Q E):S0 (J1 X.prog X.w) X.A (call (.ref f) us) (EP X pins σ Q) X.xe s:=by
 have b:Vals (vs++dvs) (us++ds):=r.append hd;have c:(us++ds).length=ps.length:=by rw [<-b.length];exact F.len _ _ _ _ h
 refine j32 (z6 (F.run X.A X.stack s H ⟨us,[]⟩ (us++ds) (vs++dvs) Q E hr I.env0 (hb s us I.kIn c) b h) λ r d a=>?_);cases r with
 | error e=>exact hx pins σ H s e d I a
 | ok fl=>
  cases fl with
  | ret u=>exact I.after a
  | next=>exact F4 a
  | brk=>exact F4 a
  | cont=>exact F4 a
theorem zf3 (F:FnOk X.prog X.w X.K X.mg X.base CX k f fd ps sp) (hr:Room k X.A) (hg:Gl X x) (hm:X.mg x=some (.ref f)) (hk:X4 X.K (.ref f)=true) (hb:Binds X.K fd ps ds) (hd:Vals dvs ds) (hx:Passes CX X E)
  (ha:PA X (e :: es) t) (hdb:(x == ("__debug__" : Str))=false:=by decide) (he:G1 (e :: es) X.env=(false,R3 e X.env) :: G1 es X.env:=by rfl) (hpl:(O4 pos (G1 es X.env)).any (·.1)=false:=by rfl) :
  PE X (.Call (.Name x p) (e :: es) [] pos) (tCall sp dvs E t):=by
 intro a s σ H Q I h;refine D4 (zcb I hg hm ?_ hdb);refine o9 (h₀:=X.base) I.ok.mod.kin hk (thn (ha pos a s σ H _ I h) λ b c ⟨vs,H1,I1,r,q⟩=>⟨I1.kIn,?_⟩) he hpl;exact run_fn F hr hb hd hx I1 r q
theorem z2v {pl:Sem Bool} (he:PE X o ta) (c:Cls X.K C) (hm:Meth X.K C m f) (F:FnOk X.prog X.w X.K X.mg X.base CX k f fd ps sp) (hr:Room k X.A) (hb:Binds X.K fd ps ds) (hd:Vals dvs ds) (hx:Passes CX X E) (ha:PA X (e :: es) t)
  (hst:G1 (e :: es) X.env=(false,R3 e X.env) :: G1 es X.env:=by rfl) (hpl:(O4 pos (G1 es X.env)).any (·.1)=false:=by rfl)
  (ht:R3 (.Call (.Attribute o m apos) (e :: es) [] pos) X.env=(do
   let ov <-R3 o X.env
   j2g apos.atName
   let (f,first) <-n9 [ov] (getMethod ov m pl)
   callWith pos f first (O4 pos (G1 (e :: es) X.env)) (W8 pos (P6 [] X.env))):=by rfl) :
  PE X (.Call (.Attribute o m apos) (e :: es) [] pos) (tMeth C m sp dvs E ta t):=by
 intro b s σ H Q I h;refine PySem.W.methodCall_KW (pl:=pl) (thn (he b s σ H _ I h) λ u d ⟨x,H1,I1,rx,a,dx,fs,ex,ea,l,q⟩=>?_) ht;subst ex;obtain rfl:u=E1 a:=rx;refine zds I1 ea c hm l ?_;refine o9 (first:=[.ref a]) (h₀:=X.base) I.ok.mod.kin hm.kp (thn (ha pos b d σ H1 _ I1 q) λ us g ⟨vs,H2,I2,r,q2⟩=>⟨I2.kIn,?_⟩) hst hpl;exact run_fn (us:=.ref a :: us) (vs:=.ref a :: vs) F hr hb hd hx I2 (.cons rfl r) q2
structure Mk (K:j0) (C f:Addr):Prop where
 makes:PySem.W.makesIn K C=true
 init:U3 K (.ref C) "__init__" = some (some (.ref f))
 fn:j1b K (.ref f)=true
 kp:X4 K (.ref C)=true
theorem zjj {pins:List (Addr×Obj)} {σ:St} {H:Hp} {s:B0} {Q:VK} {us:List Value} {vs:List V} (M:Mk X.K C f) (F:FnOk X.prog X.w X.K X.mg X.base CX k f fd ps sp) (hr:Room (k + 1) X.A) (hb:Binds X.K fd ps ds) (hd:Vals dvs ds)
  (hx:Passes CX X E) (I:Inv X pins σ H s) (r:Vals vs us)
  (h :∀x dx,H x=none->H dx=none->dx≠x->sp (.ref x :: (vs++dvs)) (upd (upd H dx (.own x)) x (.ins C dx [])) (λ v H2=>v=.non/\Q (.ref x) H2) E) :
  S0 (J1 X.prog X.w) X.A (call (.ref C) us) (EP X pins σ Q) X.xe s:=by
 have d:=h (s.heap.objs.size + 1) s.heap.objs.size (I.hok.fresh (A3 _)) (I.hok.fresh (J0 _)) (Y0 (G3 _));have b:=Inv.made (C:=C) I;have c:Vals (V.ref (s.heap.objs.size + 1) :: (vs++dvs)) (E1 (s.heap.objs.size + 1) :: (us++ds)):=.cons rfl (r.append hd);have j:(E1 (s.heap.objs.size + 1) :: us++ds).length=ps.length:=by have e:=c.length;rw [F.len _ _ _ _ d] at e;exact e.symm
 refine j32 (zjg (f:=f) I.kIn M.makes M.init (beq_iff_eq.mp M.fn) (z6 (F.run _ X.stack _ _ ⟨E1 (s.heap.objs.size + 1) :: us,[]⟩ (E1 (s.heap.objs.size + 1) :: (us++ds)) _ _ E (hr.make C us [])
  (b.env0.make C us []) (hb _ (E1 (s.heap.objs.size + 1) :: us) b.kIn j) c d) λ r o a=>?_))
 cases r with
 | error e=>exact hx pins σ _ _ e o b a
 | ok fl=>
  cases fl with
  | ret u=>obtain ⟨v,l,m,i,n,g⟩:=b.after a;subst n;exact ⟨i,⟨V.ref (s.heap.objs.size + 1),l,m,rfl,g⟩⟩
  | next=>exact F4 a
  | brk=>exact F4 a
  | cont=>exact F4 a
theorem z78 (M:Mk X.K C f) (F:FnOk X.prog X.w X.K X.mg X.base CX k f fd ps sp) (hr:Room (k + 1) X.A) (hg:Gl X x) (hm:X.mg x=some (.ref C)) (hb:Binds X.K fd ps ds) (hd:Vals dvs ds) (hx:Passes CX X E)
  (ha:PA X (e :: es) t) (hdb:(x == ("__debug__" : Str))=false:=by decide) (he:G1 (e :: es) X.env=(false,R3 e X.env) :: G1 es X.env:=by rfl) (hpl:(O4 pos (G1 es X.env)).any (·.1)=false:=by rfl) :
  PE X (.Call (.Name x p) (e :: es) [] pos) (tMake C sp dvs E t):=by
 intro a s σ H Q I h;refine D4 (zcb I hg hm ?_ hdb);refine o9 (h₀:=X.base) I.ok.mod.kin M.kp (thn (ha pos a s σ H _ I h) λ b c ⟨vs,H1,I1,r,q⟩=>⟨I1.kIn,?_⟩) he hpl;exact zjj M F hr hb hd hx I1 r q
end
def PK (X:Cx) (kws:List G6) (t:TA):Prop:=
 ∀(pos:Pos) (pins:List (Addr×Obj)) (s:B0) (σ:St) (H:Hp) (Q:List V->Hp->Prop),Inv X pins σ H s->t σ H Q->S0 (J1 X.prog X.w) X.A (evalAll ((W8 pos (P6 kws X.env)).map (·.2))) (AP X pins σ Q) X.xe s
section
variable {X:Cx} {CX:CXT} {k:Nat} {f C:Addr} {fd:FuncData} {ps ks:List Str} {sp:Sp} {E:XK} {x m:Str} {p pos apos kpos:Pos} {e o:Expr} {es:List Expr} {kws:List G6} {te ta:TE} {t tk:TA} {nm:Option Str}
structure KBinds (K:j0) (fd:FuncData) (ps ks:List Str) (g:List Value->List Value->List Value) (gV:List V->List V->List V):Prop where
 to :∀(s:B0) (us ws:List Value),K.In s.heap->(g us ws).length=ps.length->BindsTo s fd ⟨us,ks.zip ws⟩ (ps.zip (g us ws))
 rel :∀{vs:List V} {us:List Value} {zs:List V} {ws:List Value},Vals vs us->Vals zs ws->Vals (gV vs zs) (g us ws)
variable {g:List Value->List Value->List Value} {gV:List V->List V->List V}
end
structure FnScope (N P:List Str) (sc:Scope):Prop where
 kind:sc.kind=.function
 co:sc.isCoroutine=false
 gen:sc.isGenerator=false
 nd:N.Nodup
 pre:N.take P.length=P
 par :∀x∈P,sc.names.lookup x=some .local\/sc.names.lookup x=some .cell
 nofree :∀y∈sc.names,y.2≠.free
theorem zce {kindOf:Str->Option v6} {x:Str} :∀{binds:List (Str×Value)} {m:Str->Option Value},(∀v,(x,v)∉binds)->bindL kindOf binds m x=m x
 | [],_,_=>rfl
 | (n,v) :: r,m,h=>by
  unfold bindL;rw [zce λ w a=>h w (O1 _ a)];split
  ·have:x≠n:=by rintro rfl;exact h v R1
   simp [this]
  ·rfl
theorem zbk {kindOf:Str->Option v6} {x:Str} :∀{binds:List (Str×Value)} {m:Str->Option Value},(∀v,(x,v)∉binds)->bindC kindOf binds m x=m x
 | [],_,_=>rfl
 | (n,v) :: r,m,h=>by
  unfold bindC;rw [zbk λ w a=>h w (O1 _ a)];split
  ·rfl
  ·have:x≠n:=by rintro rfl;exact h v R1
   simp [this]
theorem zcg {kindOf:Str->Option v6} {x:Str} {v:Value} :∀{P:List Str} {vs:List Value} {i:Nat} {m:Str->Option Value},P.Nodup->P[i]? = some x->vs[i]? = some v->kindOf x=some .local->
  bindL kindOf (P.zip vs) m x=some v
 | [],_,_,_,_,h,_,_=>by simp at h
 | _ :: _,[],_,_,_,_,h,_=>by simp at h
 | p :: P,w :: vs,0,m,nd,h1,h2,hk=>by simp at h1 h2;subst h1;subst h2;show bindL kindOf ((p,w) :: P.zip vs) m p=_;unfold bindL;rw [zce λ v a=>(List.nodup_cons.mp nd).1 (j0e a).1,if_pos hk];simp
 | p :: P,w :: vs,i + 1,m,nd,h1,h2,hk=>by show bindL kindOf ((p,w) :: P.zip vs) m x=_;unfold bindL;exact zcg (i:=i) (List.nodup_cons.mp nd).2 (by simpa using h1) (by simpa using h2) hk
theorem zc7 {kindOf:Str->Option v6} {x:Str} {v:Value} :∀{P:List Str} {vs:List Value} {i:Nat} {m:Str->Option Value},P.Nodup->P[i]? = some x->vs[i]? = some v->kindOf x≠some .local->
  bindC kindOf (P.zip vs) m x=some v
 | [],_,_,_,_,h,_,_=>by simp at h
 | _ :: _,[],_,_,_,_,h,_=>by simp at h
 | p :: P,w :: vs,0,m,nd,h1,h2,hk=>by simp at h1 h2;subst h1;subst h2;show bindC kindOf ((p,w) :: P.zip vs) m p=_;unfold bindC;rw [zbk λ v a=>(List.nodup_cons.mp nd).1 (j0e a).1,if_neg hk];simp
 | p :: P,w :: vs,i + 1,m,nd,h1,h2,hk=>by show bindC kindOf ((p,w) :: P.zip vs) m x=_;unfold bindC;exact zc7 (i:=i) (List.nodup_cons.mp nd).2 (by simpa using h1) (by simpa using h2) hk
noncomputable def start (N:List Str) (vs:List V):St:=vs.map some++N0 (N.length - vs.length) none
noncomputable def cxOf (CX:CXT) (P:Program) (w:Z0) (K:j0) (mg:Str->Option Value) (base:Heap) (N:List Str) (qual:Str) (scope:Scope) (f:Addr) (cd:Value) (A:K2) (outer:List Env) (s:B0) (H:Hp) (E:XK):Cx where
 prog:=P
 w:=w
 K:=K
 mg:=mg
 base:=base
 A:=A.deeper (K4 qual scope s.heap.objs.size f cd)
 N:=N
 s₀:=s
 H₀:=H
 env:=K4 qual scope s.heap.objs.size f cd
 outer:=outer
 stack:=K4 qual scope s.heap.objs.size f cd :: outer
 ex:=[]
 calm:=true
 fn:=λ _=>true
 pn:=[]
 xe:=λ e s'=>S0 (J1 P w) (A.deeper (K4 qual scope s.heap.objs.size f cd)) («leaving» (K4 qual scope s.heap.objs.size f cd) e) (λ _ s''=>CX outer H s E e s'') (λ e' s''=>CX outer H s E e' s'') s'
theorem zep {sc:Scope} {n:Nat} {x:Str} (h:sc.names.lookup x=some .cell) :∃c,(cellsFrom n sc.names []).lookup x=some c:=by have q:=j1c sc.names n [] (.inl h);exact Option.isSome_iff_exists.mp q
theorem zg7 {CX:CXT} {P:Program} {w:Z0} {K:j0} {mg:Str->Option Value} {base:Heap} {N ps:List Str} {qual:Str} {scope:Scope} {f:Addr} {cd:Value} {A:K2} {outer:List Env} {s s1:B0} {H:Hp} {E:XK} {us:List Value} {vs:List V}
  (S:FnScope N ps scope) (hd:A.handled=none) (e0:Env0 P w K mg base A outer s H) (hl:vs.length=ps.length) (r:Vals vs us)
  (x:InCallC s s.heap.objs.size (bindL (K4 qual scope s.heap.objs.size f cd).kindOf (ps.zip us) λ _=>none) (cellsFrom (s.heap.objs.size + 1) scope.names []) (bindC (K4 qual scope s.heap.objs.size f cd).kindOf (ps.zip us) λ _=>none) s1) :
  Inv (cxOf CX P w K mg base N qual scope f cd A outer s H E) [] (start N vs) H s1:=by
 have J:ps.length<=N.length:=by have:=congrArg j46 S.pre;rw [U6] at this;omega
 obtain ⟨l,G,rfl,t⟩:=x.done;have o :∀b:Addr,b∉(cxOf CX P w K mg base N qual scope f cd A outer s H E).ex:=λ b z=>absurd (show b∈([]:List Addr) from z) (by simp);refine ⟨⟨e0.mod,S.kind,rfl,rfl,J0 _,λ y z c l d=>?_,λ y g=>?_,λ y c _ h=>?_,λ _=>hd,Around.frames_deeper e0.frames,.inr ⟨rfl,rfl⟩,λ b z=>absurd z (o b),e0.bs,e0.bsz,λ b _ _=>o b,λ b z=>absurd z (o b),e0.funs,e0.frf⟩,
  rfl,e0.bare,Un.kept t,⟨_,x.toInCall.ns,λ i y v l d I=>?_⟩,λ y c h=>⟨_,x.cell y c h⟩,e0.hok.fresh (J0 _),λ y c h=>?_,λ p j=>absurd (show p∈([]:List (Addr×Obj)) from j) (by simp),e0.hok.kept t,?_⟩
 ·exact name_of_addr x.apart (Z5 l) (Z5 d)
 ·have g:scope.names.lookup y=some .cell\/scope.names.lookup y=some .free:=g;rcases g with g|g
  ·exact zep g
  ·exact absurd rfl (S.nofree _ (Z5 g))
 ·exact j00 (x.above y c (Z5 h))
 ·have m:i < vs.length:=by
   unfold start at d;by_cases m:i < vs.length
   ·exact m
   ·rw [D1 (by simpa using m)] at d;rw [C6] at d;split at d<;>cases d
  have D:vs[i]? = some v:=by
   unfold start at d;rw [F1 (by simpa using m),R0] at d;cases e:vs[i]? with
   | none=>rw [e] at d;cases d
   | some a=>rw [e] at d;cases d;rfl
  obtain ⟨u,C,F⟩:=r.get D;have j:ps[i]? = some y:=by rw [<-S.pre,List.getElem?_take_of_lt (by omega)];exact l
  have B:ps.Nodup:=by rw [<-S.pre];exact S.nd.sublist (List.take_sublist _ _)
  refine ⟨u,F,?_⟩;rcases S.par y (A1 j) with k|k
  ·exact .inl ⟨k,zcg B j C k⟩
  ·obtain ⟨c,e⟩:=zep (n:=s.heap.objs.size + 1) k;refine .inr ⟨.inl k,c,e,?_⟩;have q:=x.cell y c e;rw [zc7 B j C (by show scope.names.lookup y≠_;rw [k];decide)] at q;exact q
 ·exact e0.hok.fresh (j00 (x.above y c (Z5 h)))
 ·unfold start;show _=N.length;rw [I0,G0,Z1];omega
theorem fn_of {CX:CXT} {P:Program} {w:Z0} {K:j0} {mg:Str->Option Value} {base:Heap} {k:Nat} {f:Addr} {name qual:Str} {params:Arguments} {body:List Stmt} {scope:Scope} {dV kV doc pm cdv ct oc:Value} {an od:Option Addr}
  {osl:Array (Option Value)} {N ps:List Str} {sp:Sp} (lk:K.lookup f=some ⟨oc,od,.func (B6 name qual params body scope dV kV doc pm an cdv ct),osl⟩) (hcd:K8 K cdv qual=true) (S:FnScope N ps scope)
  (len :∀vs H Q E,sp vs H Q E->vs.length=ps.length)
  (hbody :∀(A:K2) (outer:List Env) (s:B0) (H:Hp) (vs:List V) (Q:VK) (E:XK),Room k (A.deeper (K4 qual scope s.heap.objs.size f cdv))->sp vs H Q E->
   ∃t,PSs (cxOf CX P w K mg base N qual scope f cdv A outer s H E) body t/\t { nx:=λ _ H'=>Q .non H',rt:=Q } (start N vs) H) :
  FnOk P w K mg base CX (k + 1) f (B6 name qual params body scope dV kV doc pm an cdv ct) ps sp:=by
 refine ⟨len,λ A outer s H O D vs Q E g c B r m=>?_⟩;have M:=len _ _ _ _ m;have KX:K.In s.heap:=c.mod.kin.keeps λ b o e=>(c.bs b o e).1;have F:s.heap.NoLimit:=c.mod.nolimit.keeps λ b o e=>(c.bs b o e).1;have p :∀y∈ps.zip D,scope.names.lookup y.1=some .local\/(scope.names.lookup y.1=some .cell/\((cellsFrom (s.heap.objs.size + 1) scope.names []).lookup y.1).isSome=true):=λ ⟨n,v⟩ hy=>by
  rcases S.par n (j0e hy).1 with q|q
  ·exact .inl q
  ·exact .inr ⟨q,j1c _ _ _ (.inl q)⟩
 refine codeAny_call_function g.depth (KX _ _ lk) rfl S.co S.gen rfl (PySem.W.codeRec_of KX hcd) (B _ _ _ _ ?_);refine wpAny_newFunctionEnv_cells S.kind p λ R G j x=>?_;subst G;refine ⟨F.keeps x.toInCall.keep,codeAny_func ?_⟩;obtain ⟨t,C,L⟩:=hbody A outer s H vs Q E (g.deeper _) m;have I:Inv (cxOf CX P w K mg base N qual scope f cdv A outer s H E) [] (start N vs) H j:=zg7 S g.hd c M r x;refine b4 (C [] j (start N vs) H _ I L) (λ z i a=>?_) λ e i a=>a;have l :∀{d:St} {H':Hp} {v:V} {u:Value},Inv (cxOf CX P w K mg base N qual scope f cdv A outer s H E) [] d H' i->RelV v u->Q v H'->CE outer P w H s Q u i:=
  λ {d H' v u} J h q=>⟨v,H',J.os,J.bare,J.base,J.hok,h,q⟩
 cases z with
 | ret u=>obtain ⟨v,d,H',J,h,q⟩:=a;exact l J h q
 | next=>obtain ⟨d,H',J,q⟩:=a;exact l (v:=V.non) (u:=M3) J rfl q
 | brk=>obtain ⟨_,_,_,q⟩:=a;exact F4 q
 | cont=>obtain ⟨_,_,_,q⟩:=a;exact F4 q
section
variable {X:Cx} {x:Str} {p pos:Pos} {e:Expr} {es:List Expr} {t:TA} {id T:String} {r:List V->Hp->VK->Prop}
noncomputable def tCB (r:List V->Hp->VK->Prop) (t:TA):TE:=λ σ H Q=>t σ H λ vs H1=>r vs H1 Q
theorem z06 (hc:CallR X (.builtin id) r) (hg:Gl X x) (hm:X.mg x=none) (hv:a5 x=some (.builtin id)) (ha:PA X (e :: es) t) (hn:x≠"__name__":=by decide) (hdb:(x == ("__debug__" : Str))=false:=by decide)
  (he:G1 (e :: es) X.env=(false,R3 e X.env) :: G1 es X.env:=by rfl) (hpl:(O4 pos (G1 es X.env)).any (·.1)=false:=by rfl):PE X (.Call (.Name x p) (e :: es) [] pos) (tCB r t):=by
 intro a s σ H Q I h;refine D4 (ld_blt I hg hm hv ?_ hn hdb);exact A6 (thn (ha pos a s σ H _ I h) λ b c ⟨vs,H1,I1,r1,q1⟩=>hc a c σ H1 vs b Q I1 r1 q1) he hpl
theorem z1u (hc:CallR X (.type T) r) (hg:Gl X x) (hm:X.mg x=none) (hv:a5 x=some (.type T)) (ha:PA X (e :: es) t) (hn:x≠"__name__":=by decide) (hdb:(x == ("__debug__" : Str))=false:=by decide)
  (he:G1 (e :: es) X.env=(false,R3 e X.env) :: G1 es X.env:=by rfl) (hpl:(O4 pos (G1 es X.env)).any (·.1)=false:=by rfl):PE X (.Call (.Name x p) (e :: es) [] pos) (tCB r t):=by
 intro a s σ H Q I h;refine D4 (ld_blt I hg hm hv ?_ hn hdb);exact B4 (thn (ha pos a s σ H _ I h) λ b c ⟨vs,H1,I1,r1,q1⟩=>hc a c σ H1 vs b Q I1 r1 q1) he hpl
end
end L2
namespace HT
open PySem PyProof.Rows
section
variable {prog:Program} {w:Z0} {A:K2} {E:Value->B0->Prop} {s:B0}
theorem cat_tup {t b:Addr} {vs ws:List Value} {Q:Value->B0->Prop} (ht:IsTup s.heap t vs.toArray) (hb:IsTup s.heap b ws.toArray) (hv:vs≠[])
  (h1:ws=[]->Q (.ref t) s) (h2:ws≠[]->Q (.ref s.heap.objs.size) { s with heap:=s.heap.push { cls:=.type "tuple",data:=.seq (vs++ws).toArray } })
  (hsz:vs.length + ws.length<=sizeLine):S0 (J1 prog w) A (o6 .Add (.ref t) (.ref b)) Q E s:=by
 obtain ⟨⟨cls,i,data,m⟩,c,g,n,d⟩:=id ht;obtain ⟨⟨p,l,o,j⟩,a,f,k,h⟩:=id hb;simp only at g d f h;subst g d f h;have e:vs.toArray++ws.toArray=(vs++ws).toArray:=by simp
 by_cases hw:ws=[]
 ·exact concat_meets ⟨_,c,rfl⟩ ⟨_,a,rfl⟩ noFill_tuple_add seq_tuple_add j1e j16 (j11 _ _)
   (tuple_addW1 t b vs.toArray ws.toArray n k i l m j (by simpa using hv) (by simp [hw])) ⟨c,a,h1 hw⟩
 ·refine concat_meets ⟨_,c,rfl⟩ ⟨_,a,rfl⟩ noFill_tuple_add seq_tuple_add j1e j16 (j11 _ _)
   (tuple_addW2 t b vs.toArray ws.toArray n k i l m j (by simpa using hv) (by simpa using hw) (by rw [T0,T0];exact hsz)) ⟨c,a,?_⟩
  rw [e];exact h2 hw
noncomputable def sIx (n d:Nat):Option Int->Nat
 | none=>d
 | some v=>if v < 0 then (v + (n:Int)).toNat else min v.toNat n
theorem sIx_nat (n d k:Nat):sIx n d (some (k:Int))=min k n:=by show (if (k:Int) < 0 then ((k:Int) + (n:Int)).toNat else min (k:Int).toNat n)=min k n;rw [if_neg (by omega),R5]
theorem sIx_le (n d:Nat) (hd:d<=n) (o:Option Int):sIx n d o<=n:=by
 cases o with
 | none=>exact hd
 | some v=>
  show (if v < 0 then (v + (n:Int)).toNat else min v.toNat n)<=n;by_cases hv:v < 0
  ·rw [if_pos hv];omega
  ·rw [if_neg hv];exact Nat.min_le_right _ _
theorem zhy (v:Int) (n d:Nat):(if v < 0 then max (v + (n:Int)) 0 else min v (n:Int))=((sIx n d (some v):Nat):Int):=by
 show (if v < 0 then max (v + (n:Int)) 0 else min v (n:Int))=(((if v < 0 then (v + (n:Int)).toNat else min v.toNat n):Nat):Int);by_cases hv:v < 0
 ·simp only [if_pos hv];omega
 ·simp only [if_neg hv];omega
theorem zdp (lo hi:Option Int) (n:Nat):Z6 lo hi 1 (n:Int)=(((sIx n 0 lo:Nat):Int),((sIx n n hi:Nat):Int)):=by
 have a:¬ ((1:Int) < 0):=by omega
 unfold Z6;simp only [a,if_false];refine j42 ?_ ?_
 ·cases lo with
  | none=>rfl
  | some v=>exact zhy v n 0
 ·cases hi with
  | none=>rfl
  | some v=>exact zhy v n n
theorem zfk (i j:Nat):E5 (i:Int) (j:Int) 1=j - i:=by
 unfold E5;have a:(1:Int) > 0:=by omega
 simp only [a,if_true,Int.ediv_one];split<;>omega
theorem z8y {v:Value} {o:Option Int} {Q:Option Int->B0->Prop} (p:j0c v o) (h:Q o s):S0 (J1 prog w) A (Builtin.Slice.slicePartIndex v) Q E s:=by
 cases p with
 | none=>exact slicePart_none h
 | int i t=>exact slicePart_int h
theorem z5r {sl:Addr} {vl vu:Value} {lo hi:Option Int} {n:Nat} {Q:Int×Int×Nat->B0->Prop} (hs:s.heap.IsSliceOf sl vl vu .none) (pl:j0c vl lo) (pu:j0c vu hi)
  (h:Q (((sIx n 0 lo:Nat):Int),1,sIx n n hi - sIx n 0 lo) s):S0 (J1 prog w) A (D9 (.ref sl) (V3 (n:Int))) Q E s:=by
 obtain ⟨d,b,c,a⟩:=id hs;unfold D9 Builtin.Slice.sliceFields;refine o0 (o0 (wpAny_field b a (x:=vl) rfl (o0 (wpAny_field b a (x:=vu) rfl (o0 (wpAny_field b a (x:=.none) rfl (C0 ?_)))))));refine o0 (slicePart_none ?_);show S0 _ _ (if ((1:Int) == 0)=true then _ else _) _ _ s;rw [if_neg (by decide)];refine o0 (z8y pl (o0 (z8y pu (o0 (C0 ?_)))));show S0 _ _ (match Z6 lo hi 1 (n:Int) with|(lo,hi)=>V3 (lo,(1:Int),E5 lo hi 1)) _ _ s;rw [zdp lo hi n];show S0 _ _ (V3 (((sIx n 0 lo:Nat):Int),(1:Int),E5 ((sIx n 0 lo:Nat):Int) ((sIx n n hi:Nat):Int) 1)) _ _ s;rw [zfk];exact C0 h
theorem zj9 (xs:Array Value) (i k:Nat):((V0 k).filterMap λ (m:Nat)=>xs[((i:Int) + (m:Int) * 1).toNat]?).toArray=((xs.toList.drop i).take k).toArray:=by
 have e:(λ (m:Nat)=>xs[((i:Int) + (m:Int) * 1).toNat]?)=λ m=>xs[i + m]?:=by
  funext m;have:((i:Int) + (m:Int) * 1).toNat=i + m:=by omega
  rw [this]
 rw [e];have:=pick_run xs i k;rw [List.filterMap_map] at this;have a:((λ x=>xs[x]?) ∘ λ x=>i + x)=λ m=>xs[i + m]?:=rfl;rw [a] at this;rw [this]
theorem getItem_tuple_cut {t sl:Addr} {items:Array Value} {vl vu:Value} {lo hi:Option Int} {Q:Value->B0->Prop} (ht:IsTup s.heap t items) (hs:s.heap.IsSliceOf sl vl vu .none) (pl:j0c vl lo) (pu:j0c vu hi)
  (hw:¬ (sIx items.size 0 lo=0/\sIx items.size items.size hi=items.size))
  (h:Q (.ref s.heap.objs.size) { s with heap:=s.heap.push { cls:=.type "tuple",data:=.seq ((items.toList.drop (sIx items.size 0 lo)).take (sIx items.size items.size hi - sIx items.size 0 lo)).toArray } })
  (hsz:items.size<=sizeLine):S0 (J1 prog w) A (Q9 (.ref t) (.ref sl)) Q E s:=by
 have a:sizeOk (.seq ((items.toList.drop (sIx items.size 0 lo)).take (sIx items.size items.size hi - sIx items.size 0 lo)).toArray):=by show ((items.toList.drop (sIx items.size 0 lo)).take (sIx items.size items.size hi - sIx items.size 0 lo)).toArray.size<=sizeLine;rw [T0,U6,j07,J2];omega
 have j:sIx items.size items.size hi<=items.size:=sIx_le _ _ (J0 _) hi;obtain ⟨d,f,e,g⟩:=id hs;have b:s.TypeIs (.ref sl) "slice":=⟨d,f,e⟩
 unfold Q9
 try with_reducible refine V1 ?_
 first|refine o0 (C0 ?_)|skip
 refine o0 (wpAny_sequenceKey ht.typeIs (by decide) ?_);refine o0 (wpAny_callSpecial?_slot (name:=O3 "__getitem__") ht.typeIs Y8
  (T8 Y8 ht.typeIs entry_tuple_getitem ?_ (args_tuple_getitem _ _)))
 show S0 _ _ (Builtin.Tuple.tupleItemsOf (.ref t) >>= _) _ _ s;refine o0 (tupleItemsOf_ ht ?_);refine o0 (U7 b ?_);rw [if_pos (by decide)];refine o0 (z5r hs pl pu ?_);have c:¬ ((((sIx items.size 0 lo:Nat):Int) == 0 && (1:Int) == 1 && (sIx items.size items.size hi - sIx items.size 0 lo) == items.size)=true):=by intro q;rw [P4,P4] at q;have i:((sIx items.size 0 lo:Nat):Int)=0:=eq_of_beq q.1.1;have k:sIx items.size items.size hi - sIx items.size 0 lo=items.size:=eq_of_beq q.2;exact hw ⟨by omega,by omega⟩
 show S0 _ _ (if (((sIx items.size 0 lo:Nat):Int) == 0 && (1:Int) == 1 && (sIx items.size items.size hi - sIx items.size 0 lo) == items.size)=true then _ else _) _ _ s;rw [if_neg c,zj9];first
  | exact o0 (m:=M5 _) (X5 (C0 ⟨_,rfl,C0 h⟩) a)
  | exact o0 (m:=M5 _) (X5 (o0 (C0 (C0 ⟨_,rfl,C0 h⟩))) a)
  | exact o0 (o0 (m:=M5 _) (X5 (C0 (C0 ⟨_,rfl,C0 h⟩)) a))
  | exact o0 (o0 (m:=M5 _) (X5 (C0 ⟨_,rfl,C0 h⟩) a))
end
end HT
namespace L2
open PySem PySem.Spec PyProof.Rows
noncomputable abbrev TO:=St->Hp->(Option Int->Hp->Prop)->Prop
def PO (X:Cx) (e:Option Expr) (t:TO):Prop:=
 ∀(pins:List (Addr×Obj)) (s:B0) (σ:St) (H:Hp) (Q:Option Int->Hp->Prop),Inv X pins σ H s->t σ H Q->
  S0 (J1 X.prog X.w) X.A (evalPart e X.env) (λ u s'=>∃o H',Inv X pins σ H' s'/\j0c u o/\Q o H') X.xe s
noncomputable def zjs:TO:=λ _ H Q=>Q none H
noncomputable def tPart (t:TE):TO:=λ σ H Q=>t σ H λ x H1=>∃i,x=.int i/\Q (some i) H1
theorem zdr {ns:List Int} :∀{us:List Value},Vals (ns.map V.int) us->V4 us ns:=by
 induction ns with
 | nil=>intro us r;rw [D7] at r;cases r;exact .nil
 | cons n ns ih=>
  intro us r;rw [U1] at r;cases r with
  | cons r1 r2=>obtain ⟨t,e⟩:=r1;subst e;exact .cons n t (ih r2)
section
variable {X:Cx} {e:Expr} {te:TE} {lo hi:Option Expr} {tl th:TO} {pos p2:Pos}
theorem zki:PO X none zjs:=by intro a s σ H Q I h;rw [evalPart_none];exact C0 ⟨none,H,I,.none,h⟩
theorem z9e (h:PE X e te):PO X (some e) (tPart te):=by intro b s σ H Q I a;rw [evalPart_some];refine thn (h b s σ H _ I a) λ u c ⟨x,H1,I1,r1,q1⟩=>?_;obtain ⟨i,rfl,q⟩:=q1;obtain ⟨t,rfl⟩:=r1;exact ⟨some i,H1,I1,.int i t,q⟩
def SlR (X:Cx) (r:V->Option Int->Option Int->Hp->VK->Prop):Prop:=
 ∀(pins:List (Addr×Obj)) (s:B0) (σ:St) (H:Hp) (x:V) (v vl vu:Value) (lo hi:Option Int) (sl:Addr) (Q:VK),Inv X pins σ H s->RelV x v->s.heap.IsSliceOf sl vl vu .none->j0c vl lo->j0c vu hi->r x lo hi H Q->
  ∃T id,j33 (.type T) "__getitem__" = V3 (some (.builtin id))/\s.TypeIs v T/\S0 (J1 X.prog X.w) X.A (Q9 v (.ref sl)) (EP X pins σ Q) X.xe s
theorem SlR.or {r r':V->Option Int->Option Int->Hp->VK->Prop} (h:SlR X r) (h':SlR X r'):SlR X (λ x lo hi H Q=>r x lo hi H Q\/r' x lo hi H Q):=by
 intro e s σ H x v d c lo hi a Q I i g b f q;rcases q with q|q
 ·exact h e s σ H x v d c lo hi a Q I i g b f q
 ·exact h' e s σ H x v d c lo hi a Q I i g b f q
noncomputable def tSl (r:V->Option Int->Option Int->Hp->VK->Prop) (te:TE) (tl th:TO):TE:=λ σ H Q=>te σ H λ x H1=>tl σ H1 λ l H2=>th σ H2 λ u H3=>r x l u H3 Q
theorem zab {r:V->Option Int->Option Int->Hp->VK->Prop} (hr:SlR X r) (he:PE X e te) (hl:PO X lo tl) (hu:PO X hi th):PE X (.Subscript e (.Slice lo hi none p2) pos) (tSl r te tl th):=by intro c s σ H Q I h;refine Subscript_ (thn (he c s σ H _ I h) λ v g ⟨x,H1,I1,r1,q1⟩=>?_);refine wpAny_Slice (thn (hl c g σ H1 _ I1 q1) λ d k ⟨l,H2,I2,pl,q2⟩=>thn (hu c k σ H2 _ I2 q2) λ f a ⟨u,H3,I3,pu,q3⟩=>?_);rw [evalPart_none];refine C0 ?_;have n:Inv X c σ H3 { a with heap:=a.heap.push { cls:=.type "slice",data:=.fields #[d,f,.none] } }:=I3.kept (t':=a.toks) λ b o q=>F0 _ q;obtain ⟨T,id,m,i,j⟩:=hr c { a with heap:=a.heap.push { cls:=.type "slice",data:=.fields #[d,f,.none] } } σ H3 x v d f l u a.heap.objs.size Q n r1 (Heap.IsSliceOf.new ..) pl pu q3;show S0 (J1 X.prog X.w) X.A (subscriptTail e (.Slice lo hi none p2) v (.ref a.heap.objs.size)) (EP X c σ Q) X.xe { a with heap:=a.heap.push { cls:=.type "slice",data:=.fields #[d,f,.none] } };exact tail_any (ops:=[.ref a.heap.objs.size,v]) i m j (by with_unfolding_all rfl)
noncomputable def cutV (xs:List V) (lo hi:Option Int):List V:=(xs.drop (HT.sIx xs.length 0 lo)).take (HT.sIx xs.length xs.length hi - HT.sIx xs.length 0 lo)
theorem z4j (xs:List V) (lo hi:Option Int):(cutV xs lo hi).length<=xs.length:=by unfold cutV;rw [U6,j07];omega
def rSlT (K:j0):V->Option Int->Option Int->Hp->VK->Prop:=λ x lo hi H Q=>∃a xs,x=.ref a/\SqT K H a xs/\
 ¬ (HT.sIx xs.length 0 lo=0/\HT.sIx xs.length xs.length hi=xs.length)/\∀p,H p=none->Q (.ref p) (upd H p (.tup (cutV xs lo hi)))
theorem sl_tup:SlR X (rSlT X.K):=by
 intro y s σ H x v u A d f w Q I k m l t h;obtain ⟨a,c,rfl,p,n,q⟩:=h;cases k;obtain ⟨j,r,g,i⟩:=I.tuple p;have e:j.toArray.size=c.length:=by rw [T0];exact r.length.symm
 refine ⟨"tuple",_,PyProof.Rows.slot_tuple_getitem.lookup,g.typeIs,?_⟩;refine HT.getItem_tuple_cut g m l t (by rw [e];exact n) ?_ (by rw [e];exact i);rw [e];refine ⟨.ref s.heap.objs.size,_,I.laid (t':=s.toks) (o:=.tup (cutV c d f)) (λ b z q=>F0 _ q) (J0 _) ?_,rfl,q _ (I.hok.fresh (J0 _))⟩;exact ⟨L0 (z4j c d f) i,_,(r.drop (HT.sIx c.length 0 d)).take (HT.sIx c.length c.length f - HT.sIx c.length 0 d),IsTupN.new _ _⟩
noncomputable def rCatT (K:j0):R2:=λ x y H Q=>∃a b xs ys,x=.ref a/\y=.ref b/\SqT K H a xs/\SqT K H b ys/\xs≠[]/\xs.length + ys.length<=sizeLine/\
 (ys=[]->Q (.ref a) H)/\(ys≠[]->∀p,H p=none->Q (.ref p) (upd H p (.tup (xs++ys))))
theorem Vals.nil_iff {xs:List V} {us:List Value} (r:Vals xs us):us=[]↔xs=[]:=by
 cases r with
 | nil=>simp
 | cons _ _=>simp
theorem zkq:OpR X (o6 .Add) (rCatT X.K):=by intro C s σ H x y v u Q I i f h;obtain ⟨a,b,j,l,rfl,rfl,r,g,n,e,m,t⟩:=h;cases i;cases f;obtain ⟨B,d,p,_⟩:=I.tuple r;obtain ⟨A,c,k,_⟩:=I.tuple g;refine HT.cat_tup p k (λ z=>n (d.nil_iff.mp z)) (λ z=>⟨.ref a,H,I,rfl,m (c.nil_iff.mp z)⟩) (λ z=>?_) (by rw [<-d.length,<-c.length];exact e);refine ⟨.ref s.heap.objs.size,_,I.laid (t':=s.toks) (o:=.tup (j++l)) (λ b D q=>F0 _ q) (J0 _) ?_,rfl,t (λ w=>z (c.nil_iff.mpr w)) _ (I.hok.fresh (J0 _))⟩;exact ⟨by rw [I0];exact e,_,d.append c,IsTupN.new _ _⟩
end
noncomputable def ixN (n:Nat) (i:Int):Option Nat:=if 0<=i then (if i < n then some i.toNat else none) else if -(n:Int)<=i then some (i + n).toNat else none
noncomputable def atI {α:Type} (xs:List α) (i:Int):Option α:=(ixN xs.length i).bind λ j=>xs[j]?
theorem zhm {n:Nat} {i:Int} {j:Nat} (h:ixN n i=some j):seqIndex? i n=some j/\j < n/\-(n:Int)<=i/\i < n:=by
 unfold ixN at h;by_cases h0:0<=i
 ·rw [if_pos h0] at h;by_cases h1:i < n
  ·rw [if_pos h1] at h;have e:i.toNat=j:=O2 h;exact ⟨by rw [seqIndex_of h0 h1,e],by omega,by omega,h1⟩
  ·rw [if_neg h1] at h;cases h
 ·rw [if_neg h0] at h;by_cases h1:-(n:Int)<=i
  ·rw [if_pos h1] at h;have e:(i + n).toNat=j:=O2 h;exact ⟨by rw [seqIndex_neg (by omega) h1,e],by omega,h1,by omega⟩
  ·rw [if_neg h1] at h;cases h
theorem zeo {α:Type} {xs:List α} {i:Int} {v:α} (h:atI xs i=some v) :∃j,seqIndex? i xs.length=some j/\xs[j]? = some v/\j < xs.length/\-(xs.length:Int)<=i/\i < xs.length:=by
 unfold atI at h;cases e:ixN xs.length i with
 | none=>rw [e] at h;cases h
 | some j=>rw [e] at h;obtain ⟨b,c,a,d⟩:=zhm e;exact ⟨j,b,h,c,a,d⟩
theorem z09 {α:Type} {xs:List α} {j:Nat} {v:α} (h:xs[j]? = some v):atI xs (j:Int)=some v:=by
 have a:j < xs.length:=(List.getElem?_eq_some_iff.mp h).1;have e:ixN xs.length (j:Int)=some j:=by unfold ixN;rw [if_pos (by omega),if_pos (by omega)];simp
 unfold atI;rw [e];exact h
def zjv (b:Expr):Prop:=∀o i,j22 b false o i=operate [o,i] (Q9 o i)
def IxR (X:Cx) (r:R2):Prop:=
 ∀(value slice:Expr) (pins:List (Addr×Obj)) (s:B0) (σ:St) (H:Hp) (x y:V) (v u:Value) (Q:VK),Inv X pins σ H s->RelV x v->RelV y u->r x y H Q->
  j22 slice false v u=operate [v,u] (Q9 v u)->S0 (J1 X.prog X.w) X.A (subscriptTail value slice v u) (EP X pins σ Q) X.xe s
def MtR (X:Cx) (id:String) (r:V->List V->Hp->VK->Prop):Prop:=
 ∀(pins:List (Addr×Obj)) (s:B0) (σ:St) (H:Hp) (x:V) (xs:List V) (v:Value) (us:List Value) (Q:VK),Inv X pins σ H s->RelV x v->Vals xs us->r x xs H Q->
  S0 (J1 X.prog X.w) X.A (call (.builtin id) (v :: us)) (EP X pins σ Q) X.xe s
section
variable {X:Cx} {a b:Expr} {ta tb:TE} {pos:Pos}
theorem IxR.or {r r':R2} (h:IxR X r) (h':IxR X r'):IxR X (λ x y H Q=>r x y H Q\/r' x y H Q):=by
 intro f b c s σ H x y v u Q I e a q d;rcases q with q|q
 ·exact h f b c s σ H x y v u Q I e a q d
 ·exact h' f b c s σ H x y v u Q I e a q d
theorem pe_ix {r:R2} (hr:IxR X r) (ha:PE X a ta) (hb:PE X b tb) (hs:zjv b):PE X (.Subscript a b pos) (tOp r ta tb):=by intro f s σ H Q I h;exact Subscript_ (binT ha hb I h λ v u i x y e c g d q=>hr a b f i σ e x y v u Q c g d q (hs _ _))
noncomputable def rIxL (K:j0):R2:=λ x y H Q=>∃p xs i v,x=.ref p/\y=.int i/\SqL K H p xs/\atI xs i=some v/\Q v H
noncomputable def rIxT (K:j0):R2:=λ x y H Q=>∃p xs i v,x=.ref p/\y=.int i/\SqT K H p xs/\atI xs i=some v/\Q v H
noncomputable def rIxS:R2:=λ x y H Q=>∃z i c,x=.str z/\y=.int i/\z.length<=sizeLine/\atI z.cps.toList i=some c/\Q (.str ⟨#[c]⟩) H
theorem ix_list:IxR X (rIxL X.K):=by
 intro O N f s σ H x y v u Q I m k h e;obtain ⟨p,J,i,z,rfl,rfl,C,B,q⟩:=h;cases m;obtain ⟨t,rfl⟩:=k;obtain ⟨l,r,b,L⟩:=I.list C;obtain ⟨j,a,E,M,o,A⟩:=zeo B;obtain ⟨w,g,n⟩:=r.get E;have D:=r.length;have G:=line63;have d:EP X f σ Q w s:=⟨z,H,I,n,q⟩
 by_cases h0:0<=i
 ·have c:i.toNat=j:=by rw [seqIndex_of h0 A] at a;exact O2 a
  exact item_listR b.isList h0 (by omega) (by rw [c];simpa using g) d e
 ·have c:(i + (l.toArray.size:Int)).toNat=j:=by rw [seqIndex_neg (by omega) o] at a;rw [T0,<-D];exact O2 a
  exact subscriptTail_builtinR (x:=w) b.isList.typeIs slot_list_getitem.lookup
   (wpAny_getItem_list_neg (Q:=λ r F=>r=w/\EP X f σ Q r F) b.isList (by omega) (by rw [T0]<;>omega) (by omega) (by rw [c];simpa using g) ⟨rfl,d⟩) e
theorem ix_tup:IxR X (rIxT X.K):=by
 intro N M b s σ H x y v u Q I d c h g;obtain ⟨p,E,i,z,rfl,rfl,m,l,q⟩:=h;cases d;obtain ⟨t,rfl⟩:=c;obtain ⟨D,r,a,J⟩:=I.tuple m;obtain ⟨j,k,A,L,F,G⟩:=zeo l;obtain ⟨w,o,e⟩:=r.get A;have n:=r.length;have C:=line63;have f:EP X b σ Q w s:=⟨z,H,I,e,q⟩
 exact subscriptTail_builtinR (x:=w) a.typeIs slot_tuple_getitem.lookup
  (getItem_tuple (j:=j) (Q:=λ r B=>r=w/\EP X b σ Q r B) a (by omega) (by omega) (by rw [T0,<-n];exact k) (by simpa using o) ⟨rfl,f⟩) g
theorem ix_str:IxR X rIxS:=by
 intro D B C s σ H x y v u Q I d b h k;obtain ⟨z,i,c,rfl,rfl,w,l,q⟩:=h;obtain ⟨t,rfl⟩:=d;obtain ⟨r,rfl⟩:=b;obtain ⟨j,a,o,A,e,f⟩:=zeo l;have n:z.cps.toList.length=z.length:=by simp [Str.length]
 rw [n] at a e f;have p:=line63;exact tail_any (typeIs_str s z t) slot_str_getitem.lookup (getItem_str (c:=c) (by have g:decide (i < -(2 ^ 63:Int))=false:=decide_eq_false (by omega);have m:decide (i ≥ 2 ^ 63)=false:=decide_eq_false (by omega);rw [g,m,E9]) (by rw [a];simpa using o) ⟨.str ⟨#[c]⟩,H,I.tok _,⟨_,rfl⟩,q⟩) k
noncomputable def rIx (K:j0):R2:=λ x y H Q=>rIxL K x y H Q\/rIxT K x y H Q\/rIxS x y H Q
theorem ix_seq:IxR X (rIx X.K):=ix_list.or (ix_tup.or ix_str)
theorem zdk (its:List Value) (n j:Nat) (u:Value):w4 (·.setIfInBounds j u) { cls:=.type "list",data:=.seq its.toArray n }={ cls:=.type "list",data:=.seq (its.set j u).toArray n }:=by simp [w4]
theorem Inv.lst {pins:List (Addr×Obj)} {σ:St} {H:Hp} {s:B0} {p:Addr} {xs:List V} (I:Inv X pins σ H s) (h:H p=some (.lst xs)) :
  ∃(its:List Value) (n:Nat),Vals xs its/\s.heap.get? p=some { cls:=.type "list",data:=.seq its.toArray n }/\xs.length<=sizeLine:=by
 obtain ⟨z,its,n,r,e⟩:=I.hok p _ h;exact ⟨its,n,r,e,z⟩
theorem Inv.lstUpd {pins:List (Addr×Obj)} {σ:St} {H:Hp} {s:B0} {p:Addr} {xs ys:List V} {its its':List Value} {n n':Nat} {f:Obj->Obj} (I:Inv X pins σ H s) (h:H p=some (.lst xs))
  (ho:s.heap.get? p=some { cls:=.type "list",data:=.seq its.toArray n }) (hf:f { cls:=.type "list",data:=.seq its.toArray n }={ cls:=.type "list",data:=.seq its'.toArray n' }) (r:Vals ys its') (hz:ys.length<=sizeLine) (t:Nat) :
  Inv X pins σ (upd H p (.lst ys)) { s with heap:=s.heap.update p f,toks:=t }:=by
 have e:(s.heap.update p f).get? p=some { cls:=.type "list",data:=.seq its'.toArray n' }:=by rw [T6 f ho (by rw [hf]<;>rfl),hf]
 refine I.write (x:=p) (e:=p) (by rw [h];trivial) (.inl rfl) (λ b u a q=>(N4 _ _ (X1 a)).trans q) ⟨_,e⟩ ?_;exact ⟨hz,its',n',r,e⟩
def rSetL:V->V->V->Hp->(Hp->Prop)->Prop:=λ o i v H Q=>∃p xs k j,o=.ref p/\i=.int k/\H p=some (.lst xs)/\ixN xs.length k=some j/\Q (upd H p (.lst (xs.set j v)))
theorem z3w:PSet X rSetL:=by
 intro A s σ H o i v E F u Q I w B C h;obtain ⟨p,x,k,j,rfl,rfl,e,y,q⟩:=h;cases w;obtain ⟨t,rfl⟩:=B;obtain ⟨f,n,r,c,z⟩:=I.lst e;obtain ⟨a,G,l,g⟩:=zhm y;have d:=r.length;have D:=line63;have m:Inv X A σ (upd H p (.lst (x.set j v))) { s with heap:=s.heap.update p (w4 (·.setIfInBounds j u)) }:=
  I.lstUpd e c (zdk f n j u) (r.set C j) (by rw [U0];exact z) s.toks
 by_cases h0:0<=k
 ·have b:k.toNat=j:=by rw [seqIndex_of h0 g] at a;exact O2 a
  exact PySem.W.ki_setAt c h0 (by omega) (by rw [T0,<-d];exact g) (by rw [b];exact ⟨_,m,q⟩)
 ·have b:(k + (f.toArray.size:Int)).toNat=j:=by rw [seqIndex_neg (by omega) l] at a;rw [T0,<-d];exact O2 a
  exact PySem.W.ki_setBack c (by omega) (by rw [T0,<-d];exact l) (by omega) (by rw [b];exact ⟨_,m,q⟩)
theorem zat (lo hi:Option Int) (n:Nat):(G7 lo hi none n).1=((HT.sIx n 0 lo:Nat):Int)/\(G7 lo hi none n).2.1=((HT.sIx n n hi:Nat):Int)/\(G7 lo hi none n).2.2=1:=by
 refine ⟨?_,?_,rfl⟩
 ·cases lo with
  | none=>simp [G7,HT.sIx]
  | some i=>
   simp only [G7,HT.sIx,Option.getD_none,show (1:Int) > 0 by decide,if_true];by_cases h:i < 0
   ·simp only [h,if_true]<;>omega
   ·simp only [h,if_false]<;>omega
 ·cases hi with
  | none=>simp [G7,HT.sIx]
  | some i=>
   simp only [G7,HT.sIx,Option.getD_none,show (1:Int) > 0 by decide,if_true];by_cases h:i < 0
   ·simp only [h,if_true]<;>omega
   ·simp only [h,if_false]<;>omega
theorem z8x (its:List Value) (lo hi:Option Int):slicePick its.toArray lo hi none=((its.drop (HT.sIx its.length 0 lo)).take (HT.sIx its.length its.length hi - HT.sIx its.length 0 lo)).toArray:=by obtain ⟨a,b,c⟩:=zat lo hi its.toArray.size;unfold slicePick;rw [a,b,c];simp only [sliceRange_one,pick_run,T0]<;>rfl
def rSlL (K:j0):V->Option Int->Option Int->Hp->VK->Prop:=λ x lo hi H Q=>∃a xs,x=.ref a/\SqL K H a xs/\∀p,H p=none->Q (.ref p) (upd H p (.lst (cutV xs lo hi)))
theorem sl_list:SlR X (rSlL X.K):=by intro w s σ H x v p z d e u Q I g j i n h;obtain ⟨a,c,rfl,m,q⟩:=h;cases g;obtain ⟨t,r,f,k⟩:=I.list m;have l:=r.length;refine ⟨"list",_,slot_list_getitem.lookup,f.isList.typeIs,?_⟩;refine wpAny_getItem_list_slice f.isList j i n .none (by simp) ?_ (by rw [T0]<;>omega);rw [z8x,<-l];refine ⟨.ref s.heap.objs.size,_,I.laid (t':=s.toks) (o:=.lst (cutV c d e)) (λ b y q=>F0 _ q) (J0 _) ?_,rfl,q _ (I.hok.fresh (J0 _))⟩;exact ⟨L0 (z4j c d e) k,_,0,(r.drop (HT.sIx c.length 0 d)).take (HT.sIx c.length c.length e - HT.sIx c.length 0 d),C1 _ rfl⟩
noncomputable def flatV:V->Bool
 | .non=>true
 | .bl _=>true
 | .int _=>true
 | .str _=>true
 | _=>false
noncomputable def eqV:V->V->Bool
 | .non,.non=>true
 | .bl a,.bl b=>a == b
 | .bl a,.int b=>(if a then 1 else 0) == b
 | .int a,.bl b=>a == (if b then 1 else 0)
 | .int a,.int b=>a == b
 | .str a,.str b=>a == b
 | _,_=>false
theorem eqAt_V {A:K2} {s:B0} {y x:V} {u v:Value} (ry:RelV y u) (rx:RelV x v) (fy:flatV y=true) (fx:flatV x=true):j10 A s u v (eqV y x):=by
 cases y with
 | non=>
  cases ry;cases x with
  | non=>cases rx;exact V5 _
  | bl b=>cases rx;exact SeqAt.EqAt.none_bool b
  | int b=>obtain ⟨t,rfl⟩:=rx;exact SeqAt.EqAt.none_int b t
  | str b=>obtain ⟨t,rfl⟩:=rx;exact SeqAt.EqAt.none_str b t
  | _=>exact absurd (show false=true from fx) B1
 | bl a=>
  cases ry;cases x with
  | non=>cases rx;exact SeqAt.EqAt.bool_none a
  | bl b=>cases rx;exact SeqAt.EqAt.bool_bool a b
  | int b=>obtain ⟨t,rfl⟩:=rx;exact SeqAt.EqAt.bool_int a b t
  | str b=>obtain ⟨t,rfl⟩:=rx;exact SeqAt.EqAt.bool_str a b t
  | _=>exact absurd (show false=true from fx) B1
 | int a=>
  obtain ⟨c,rfl⟩:=ry;cases x with
  | non=>cases rx;exact SeqAt.EqAt.int_none a c
  | bl b=>cases rx;exact SeqAt.EqAt.int_bool a c b
  | int b=>obtain ⟨t,rfl⟩:=rx;exact j26 a c b t
  | str b=>obtain ⟨t,rfl⟩:=rx;exact j25 a c b t
  | _=>exact absurd (show false=true from fx) B1
 | str a=>
  obtain ⟨c,rfl⟩:=ry;cases x with
  | non=>cases rx;exact SeqAt.EqAt.str_none a c
  | bl b=>cases rx;exact SeqAt.EqAt.str_bool a c b
  | int b=>obtain ⟨t,rfl⟩:=rx;exact j24 a c b t
  | str b=>obtain ⟨t,rfl⟩:=rx;exact j23 a c b t
  | _=>exact absurd (show false=true from fx) B1
 | _=>exact absurd (show false=true from fy) B1
noncomputable def eqU (x:V) (u:Value):Bool:=match u with
 | .none=>eqV .non x
 | .bool b=>eqV (.bl b) x
 | .int i _=>eqV (.int i) x
 | .str z _=>eqV (.str z) x
 | _=>false
theorem eqU_of {x y:V} {u:Value} (r:RelV y u) (f:flatV y=true):eqU x u=eqV y x:=by
 cases y with
 | non=>cases r;rfl
 | bl b=>cases r;rfl
 | int i=>obtain ⟨t,rfl⟩:=r;rfl
 | str z=>obtain ⟨t,rfl⟩:=r;rfl
 | _=>exact absurd (show false=true from f) B1
theorem z9r {x:V} :∀{xs:List V} {us:List Value},Vals xs us->xs.all flatV=true->us.any (eqU x)=xs.any λ y=>eqV y x
 | _,_,.nil,_=>rfl
 | y :: xs,u :: us,.cons r t,f=>by rw [F5,P4] at f;rw [a8,a8,eqU_of r f.1,z9r t f.2]
theorem z6j {A:K2} {s:B0} {x:V} {v:Value} (rx:RelV x v) (fx:flatV x=true) :∀{xs:List V} {us:List Value},Vals xs us->xs.all flatV=true->∀u∈us,j10 A s u v (eqU x u)
 | _,_,.nil,_=>λ u a=>by cases a
 | y :: xs,u :: us,.cons r t,f=>λ b a=>by
  rw [F5,P4] at f;rcases List.mem_cons.mp a with rfl|a
  ·rw [eqU_of r f.1];exact eqAt_V r rx f.1 fx
  ·exact z6j rx fx t f.2 b a
noncomputable def inV (x:V) (xs:List V):Bool:=xs.any λ y=>eqV y x
noncomputable def rIn (K:j0) (neg:Bool):R2:=λ x y H Q=>∃p xs,y=.ref p/\(SqL K H p xs\/SqT K H p xs)/\flatV x=true/\xs.all flatV=true/\Q (.bl (if neg then !inV x xs else inV x xs)) H
theorem zc6:OpR X (X2 .In) (rIn X.K false):=by
 intro k s σ H x y v u Q I e g h;obtain ⟨p,j,rfl,b,f,fs,q⟩:=h;cases g;rcases b with b|b
 ·obtain ⟨a,r,c,i⟩:=I.list b;refine SeqAt.in_listAt (eqU x) c.isList (λ w d=>z6j e f r fs w (by simpa using d)) ⟨.bl _,H,I,rfl,?_⟩;rw [show a.toArray.any (eqU x)=a.any (eqU x) by simp,z9r r fs];exact q
 ·obtain ⟨a,r,c,i⟩:=I.tuple b;refine SeqAt.in_tupleAt (eqU x) c (λ w d=>z6j e f r fs w (by simpa using d)) ⟨.bl _,H,I,rfl,?_⟩;rw [show a.toArray.any (eqU x)=a.any (eqU x) by simp,z9r r fs];exact q
theorem zah:OpR X (X2 .NotIn) (rIn X.K true):=by
 intro k s σ H x y v u Q I e g h;obtain ⟨p,j,rfl,b,f,fs,q⟩:=h;cases g;rcases b with b|b
 ·obtain ⟨a,r,c,i⟩:=I.list b;refine SeqAt.notIn_listAt (eqU x) c.isList (λ w d=>z6j e f r fs w (by simpa using d)) ⟨.bl _,H,I,rfl,?_⟩;rw [show a.toArray.any (eqU x)=a.any (eqU x) by simp,z9r r fs];exact q
 ·obtain ⟨a,r,c,i⟩:=I.tuple b;refine SeqAt.notIn_tupleAt (eqU x) c (λ w d=>z6j e f r fs w (by simpa using d)) ⟨.bl _,H,I,rfl,?_⟩;rw [show a.toArray.any (eqU x)=a.any (eqU x) by simp,z9r r fs];exact q
theorem call_len_seq:CallR X (.builtin "len") (λ xs H Q=>∃p ys,xs=[.ref p]/\(SqL X.K H p ys\/SqT X.K H p ys)/\Q (.int ys.length) H):=by
 intro k s σ H xs j Q I r h;obtain ⟨p,ys,rfl,a,q⟩:=h;obtain ⟨u,rfl,g⟩:=vals1 r;cases g;have i:=line63;rcases a with a|a
 ·obtain ⟨f,c,b,e⟩:=I.list a;have d:=c.length;exact Calls.call_len_list b.isList (by simp only [T0]<;>omega) ⟨.int ys.length,H,I.tok _,⟨s.toks + 1,by rw [T0,d]⟩,q⟩
 ·obtain ⟨f,c,b,e⟩:=I.tuple a;have d:=c.length;exact len_tuple b (by simp only [T0]<;>omega) ⟨.int ys.length,H,I.tok _,⟨s.toks + 1,by rw [T0,d]⟩,q⟩
theorem zao:CallR X (.builtin "len") (λ xs H Q=>∃z,xs=[.str z]/\z.length<=sizeLine/\Q (.int z.length) H):=by intro d s σ H xs b Q I r h;obtain ⟨z,rfl,c,q⟩:=h;obtain ⟨u,rfl,t,rfl⟩:=vals1 r;have a:=line63;exact len_str (by omega) ⟨.int z.length,H,I.tok _,⟨_,rfl⟩,q⟩
theorem CallR.or {f:Value} {r r':List V->Hp->VK->Prop} (h:CallR X f r) (h':CallR X f r'):CallR X f (λ xs H Q=>r xs H Q\/r' xs H Q):=by
 intro b s σ H xs a Q I c q;rcases q with q|q
 ·exact h b s σ H xs a Q I c q
 ·exact h' b s σ H xs a Q I c q
theorem z6e:CallR X (.type "list") (λ xs H Q=>∃p ys,xs=[.ref p]/\(SqL X.K H p ys\/SqT X.K H p ys)/\∀l,H l=none->Q (.ref l) (upd H l (.lst ys))):=by
 intro z s σ H xs B Q I r h;obtain ⟨p,ys,rfl,j,q⟩:=h;obtain ⟨u,rfl,y⟩:=vals1 r;cases y;have x :∀(c:List Value),Vals ys c->ys.length<=sizeLine->∀(a:Heap) (d:Nat),(∀b o',s.heap.get? b=some o'->a.get? b=some o')->
   a.get? s.heap.objs.size=some { cls:=.type "list",dict:=none,data:=.seq c.toArray d,slots:=#[] }->EP X z σ Q (.ref s.heap.objs.size) { s with heap:=a }:=λ c f i a d g e=>
  ⟨.ref s.heap.objs.size,_,I.laid (t':=s.toks) g (J0 _) (show ObjOk X.prog X.w _ a _ (.lst ys) from ⟨i,c,d,f,e⟩),rfl,q _ (I.hok.fresh (J0 _))⟩
 rcases j with j|j
 ·obtain ⟨c,f,m,i⟩:=I.list j;have A:=f.length;obtain ⟨o,t,v,n,k⟩:=m.isList;exact call_list_seq p (.inl rfl) t v k (λ a d g e=>x c f i a d g e) (by simp only [T0]<;>omega)
 ·obtain ⟨c,f,m,i⟩:=I.tuple j;have A:=f.length;obtain ⟨o,t,v,n,k⟩:=m;exact call_list_seq p (.inr rfl) t v k (λ a d g e=>x c f i a d g e) (by simp only [T0]<;>omega)
theorem z1x:CallR X (.type "tuple") (λ xs H Q=>∃p ys,xs=[.ref p]/\((SqL X.K H p ys/\∀l,H l=none->Q (.ref l) (upd H l (.tup ys)))\/(SqT X.K H p ys/\Q (.ref p) H))):=by
 intro k s σ H xs v Q I r h;obtain ⟨p,ys,rfl,h⟩:=h;obtain ⟨u,rfl,m⟩:=vals1 r;cases m;rcases h with ⟨g,q⟩|⟨g,q⟩
 ·obtain ⟨c,f,d,j⟩:=I.list g;have x:=f.length;refine call_tuple_list d.isList (λ a t=>?_) (by simp only [T0]<;>omega);have i:Inv X k σ H { s with heap:=a }:=I.kept (t':=s.toks) t;have n:Inv X k σ (upd H a.objs.size (.tup ys)) { s with heap:=a.push { cls:=.type "tuple",data:=.seq c.toArray } }:=
   i.laid (t':=s.toks) (λ b o e=>F0 _ e) (J0 _) (show ObjOk X.prog X.w _ _ _ (.tup ys) from ⟨j,c,f,IsTupN.new _ _⟩)
  exact ⟨.ref a.objs.size,_,n,rfl,q _ (i.hok.fresh (J0 _))⟩
 ·obtain ⟨c,f,d,j⟩:=I.tuple g;exact call_tuple_same d ⟨.ref p,H,I,rfl,q⟩
def tyV (K:j0) (T:String) (x:V) (H:Hp):Prop:=match x with
 | .str _=>T = "str"
 | .int _=>T = "int"
 | .ref p=>(T = "list"/\∃xs,SqL K H p xs)\/(T = "tuple"/\∃o,K.lookup p=some o/\o.cls=.type "tuple"/\o.dict=none)\/
   (T = "dict"/\((∃kvs,H p=some (.dK kvs))\/∃kvs,H p=some (.dT kvs)))\/(T = "set"/\∃S n,H p=some (.set S n))
 | _=>False
theorem tyV_is {pins:List (Addr×Obj)} {σ:St} {H:Hp} {s:B0} {T:String} {x:V} {v:Value} (I:Inv X pins σ H s) (r:RelV x v) (ty:tyV X.K T x H) :
  s.TypeIs v T/\∀a,v=.ref a->∃ob,s.heap.get? a=some ob/\ob.dict=none:=by
 cases x with
 | str z=>obtain ⟨t,rfl⟩:=r;cases (show T = "str" from ty);exact ⟨typeIs_str s z t,λ _ e=>nomatch e⟩
 | int i=>obtain ⟨t,rfl⟩:=r;cases (show T = "int" from ty);exact ⟨typeIs_int s i t,λ _ e=>nomatch e⟩
 | ref p=>
  cases r;rcases ty with ⟨rfl,l,k⟩|⟨rfl,o,b,hc,g⟩|⟨rfl,b⟩|⟨rfl,S,n,b⟩
  ·obtain ⟨m,_,h,_⟩:=I.list k;refine ⟨h.isList.typeIs,λ a e=>?_⟩;cases e;obtain ⟨o,n,e,c,g,_⟩:=h;exact ⟨o,e,g⟩
  ·refine ⟨⟨o,I.kIn p o b,hc⟩,λ a e=>?_⟩;cases e;exact ⟨o,I.kIn _ o b,g⟩
  ·have z :∃o,s.heap.get? p=some o/\o.ExactDict:=by
    rcases b with ⟨j,b⟩|⟨j,b⟩
    ·obtain ⟨_,_,_,_,o,_,_,e,d,_⟩:=I.hok p _ b;exact ⟨o,e,d⟩
    ·obtain ⟨_,_,_,_,o,_,_,e,d,_⟩:=I.hok p _ b;exact ⟨o,e,d⟩
   obtain ⟨o,e,d⟩:=z;refine ⟨⟨o,e,d.1⟩,λ a f=>?_⟩;cases f;exact ⟨o,e,d.2.1⟩
  ·obtain ⟨o,_,_,_,e,d,_⟩:=I.hok p _ b;refine ⟨⟨o,e,d.1⟩,λ a f=>?_⟩;cases f;exact ⟨o,e,d.2.1⟩
 | _=>exact F4 ty
noncomputable def tBM (K:j0) (T:String) (r:V->List V->Hp->VK->Prop) (to:TE) (t:TA):TE:=λ σ H Q=>to σ H λ x H1=>tyV K T x H1/\t σ H1 λ xs H2=>r x xs H2 Q
variable {o e:Expr} {es:List Expr} {to:TE} {t:TA} {name:Str} {apos cpos:Pos} {T id:String} {r:V->List V->Hp->VK->Prop}
theorem pe_bm (pa:PlainAttrs T) (slot:Slot T name id) (hty:typeOf (.builtin id)=V3 (.type "method_descriptor")) (hm:MtR X id r) (ho:PE X o to) (ha:PA X (e :: es) t)
  (hbase:w5 o name X.env (R3 o X.env)=R3 o X.env:=by rfl)
  (hfew:((O4 cpos (G1 (e :: es) X.env)).all (λ x=>!x.1) && (W8 cpos (P6 [] X.env)).all (λ x=>x.1.isSome)
   && decide ((e :: es).length + ([]:List G6).length + (if ([]:List G6).isEmpty then 0 else 1) < 30))=true:=by rfl)
  (hline:(apos.endLine == cpos.line)=true:=by rfl) (hs:G1 (e :: es) X.env=(false,R3 e X.env) :: G1 es X.env:=by rfl) (hplain:(O4 cpos (G1 es X.env)).any (·.1)=false:=by rfl) :
  PE X (.Call (.Attribute o name apos) (e :: es) [] cpos) (tBM X.K T r to t):=by
 intro a s σ H Q I h;refine wpAny_Call_method_late hbase hfew hline rfl (thn (ho a s σ H _ I h) λ v f ⟨x,H1,I1,r1,ty,q1⟩=>?_);obtain ⟨c,g⟩:=tyV_is I1 r1 ty;refine ⟨T,id,pa,slot,hty,c,g,?_⟩;have b:=ha cpos a f σ H1 _ I1 q1;rw [hs] at b⊢;refine j2e (by show (false || (O4 cpos (G1 es X.env)).any (·.1))=false;rw [hplain]<;>rfl) (Z8 ?_);exact thn b λ d i ⟨vs,H2,I2,r2,q2⟩=>hm a i σ H2 x vs v d Q I2 r1 r2 q2
end
def MtM (X:Cx) (id:String) (r:V->List V->Hp->VK->Prop):Prop:=
 ∀(pins:List (Addr×Obj)) (s:B0) (σ:St) (H:Hp) (x:V) (xs:List V) (v:Value) (us:List Value) (Q:VK),Inv X pins σ H s->RelV x v->Vals xs us->r x xs H Q->
  S0 (J1 X.prog X.w) X.A (call (.builtin id) (v :: us)) (EP X pins σ Q) X.xe s
theorem Vals.one :∀{x:V} {us:List Value},Vals [x] us->∃u,us=[u]/\RelV x u
 | _,_,.cons r .nil=>⟨_,rfl,r⟩
theorem Vals.eraseIdx :∀{xs:List V} {us:List Value} (i:Nat),Vals xs us->Vals (xs.eraseIdx i) (us.eraseIdx i)
 | _,_,_,.nil=>.nil
 | _,_,0,.cons _ t=>t
 | _,_,i + 1,.cons r t=>.cons r (Vals.eraseIdx i t)
theorem Vals.rep {xs:List V} {us:List Value} (h:Vals xs us) :∀k:Nat,Vals (N0 k xs).flatten (N0 k us).flatten
 | 0=>.nil
 | k + 1=>by rw [b6,b6,Z7,Z7];exact Vals.append h (Vals.rep h k)
theorem zca {α:Type} :∀(l:List α) (i:Nat),(l.eraseIdx i).length<=l.length
 | [],_=>J0 _
 | _ :: _,0=>A3 _
 | _ :: r,i + 1=>Nat.succ_le_succ (zca r i)
theorem zbw (its:List Value) :∀(k:Nat) (acc:List Value),
  List.foldl (λ x1 x2=>x1++x2) acc.toArray (N0 k its.toArray)=(acc++(N0 k its).flatten).toArray
 | 0,acc=>by simp
 | k + 1,acc=>by
  have e:acc.toArray++its.toArray=(acc++its).toArray:=by simp
  have a:(acc++its)++(N0 k its).flatten=acc++(N0 (k + 1) its).flatten:=by rw [b6,Z7,D2]
  rw [<-a,<-zbw its k (acc++its),<-e,b6,J4]
section
variable {X:Cx} {pins:List (Addr×Obj)} {σ:St} {H:Hp} {s:B0} {l b:Addr} {xs ys zs:List V}
theorem Inv.lset {its its':List Value} {n:Nat} {f:Array Value->Array Value} {t':Nat} (I:Inv X pins σ H s) (hH:H l=some (.lst xs))
  (e:s.heap.get? l=some { cls:=.type "list",data:=.seq its.toArray n }) (hf:f its.toArray=its'.toArray) (hv:Vals ys its') (hz:ys.length<=sizeLine) :
  Inv X pins σ (upd H l (.lst ys)) { s with heap:=s.heap.update l (w4 f),toks:=t' }:=by
 have q:=PySem.IsL.update e f;rw [hf] at q;refine I.write (x:=l) (e:=l) (by rw [hH];exact trivial) (.inl rfl) (λ c u a b=>(N4 s.heap (w4 f) (X1 a)).trans b) ⟨_,q⟩ ?_;exact ⟨hz,its',_,hv,q⟩
theorem Inv.lnew {its:List Value} {t':Nat} (I:Inv X pins σ H s) (hv:Vals ys its) (hz:ys.length<=sizeLine) :
  Inv X pins σ (upd H s.heap.objs.size (.lst ys)) { s with heap:=s.heap.push { cls:=.type "list",data:=.seq its.toArray },toks:=t' }:=
 I.laid (λ _ _ q=>F0 _ q) (J0 _) ⟨hz,its,0,hv,C1 _ rfl⟩
theorem Inv.fresh (I:Inv X pins σ H s):H s.heap.objs.size=none:=I.hok.fresh (J0 _)
theorem Inv.lstM (I:Inv X pins σ H s) (hH:H l=some (.lst xs)):xs.length<=sizeLine/\∃(its:List Value) (n:Nat),Vals xs its/\xs.length=its.length/\s.heap.get? l=some { cls:=.type "list",data:=.seq its.toArray n }:=by obtain ⟨z,its,n,r,e⟩:=I.hok l _ hH;exact ⟨z,its,n,r,r.length,e⟩
theorem zeu {n:Nat} (h:n<=sizeLine):S5 n=false:=by unfold S5;exact decide_eq_false (by omega)
end
section
variable {X:Cx}
def zi6:V->List V->Hp->VK->Prop:=λ x vs H Q=>∃l xs y,x=.ref l/\vs=[y]/\H l=some (.lst xs)/\xs.length < sizeLine/\Q .non (upd H l (.lst (xs++[y])))
theorem zfx:MtM X "list.append" zi6:=by intro m s σ H x g v i Q I d f h;obtain ⟨l,j,y,rfl,rfl,b,k,q⟩:=h;cases d;obtain ⟨u,rfl,c⟩:=f.one;obtain ⟨z,a,n,r,o,e⟩:=I.lstM b;refine n8 F.slot_list_append ⟨_,e,rfl⟩ F.entry_list_append (F.args_list_append_2 _ _) (PySem.list_append l a.toArray n u (by rw [T0];omega)) ⟨e,?_⟩;refine ⟨.non,_,I.lset (its':=a++[u]) b e (by simp) (r.append (.cons c .nil)) ?_,rfl,q⟩;rw [I0,Q3];omega
def zia:V->List V->Hp->VK->Prop:=λ x vs H Q=>∃l b xs zs,x=.ref l/\vs=[.ref b]/\H l=some (.lst xs)/\H b=some (.lst zs)/\xs.length + zs.length<=sizeLine/\Q .non (upd H l (.lst (xs++zs)))
theorem zgt:MtM X "list.extend" zia:=by
 intro D s σ H x w v y Q I i p h;obtain ⟨l,b,A,B,rfl,rfl,d,j,C,q⟩:=h;cases i;obtain ⟨u,rfl,g⟩:=p.one;cases g;obtain ⟨z,a,n,r,G,e⟩:=I.lstM d;obtain ⟨E,c,k,f,J,o⟩:=I.lstM j;have t:a.toArray.size + c.toArray.size<=sizeLine:=by rw [T0,T0];omega
 have m:¬ (not a.toArray.isEmpty && S5 (a.toArray.size + c.toArray.size))=true:=by rw [zeu t,j18];exact B1
 refine n8 F.slot_list_extend ⟨_,e,rfl⟩ F.entry_list_extend (F.args_list_extend_2 _ _)
  (AutoSeq1.list_extend_list_list_0 l a.toArray n b c.toArray k m (by rw [T0];omega) (by omega)) ⟨e,o,?_⟩
 refine ⟨.non,_,I.lset (its':=a++c) d e (by simp) (r.append f) ?_,rfl,q⟩;rw [I0];omega
def rPopAt:V->List V->Hp->VK->Prop:=λ x vs H Q=>∃l xs i k y,x=.ref l/\vs=[.int i]/\H l=some (.lst xs)/\-(2 ^ 63)<=i/\i < 2 ^ 63/\seqIndex? i xs.length=some k/\xs[k]? = some y/\Q y (upd H l (.lst (xs.eraseIdx k)))
theorem zj4:MtM X "list.pop" rPopAt:=by
 intro G s σ H x D v E Q I d A h;obtain ⟨l,g,i,k,y,rfl,rfl,b,o,C,m,f,q⟩:=h;cases d;obtain ⟨u,rfl,c⟩:=A.one;obtain ⟨t,rfl⟩:=c;obtain ⟨z,a,n,r,B,e⟩:=I.lstM b;obtain ⟨w,p,j⟩:=r.get f;refine n8 F.slot_list_pop ⟨_,e,rfl⟩ F.entry_list_pop (F.args_list_pop_2 _ _)
  (MeetsSeq.list_pop_at l a.toArray n i t k w (fitsIndex_both o C) (by rw [T0,<-B];exact m) (by rw [<-Array.getElem?_toList];exact p) (by rw [T0];omega)) ⟨e,?_⟩
 refine ⟨y,_,I.lset (its':=a.eraseIdx k) b e ?_ (r.eraseIdx k) ?_,j,q⟩
 ·show a.toArray.eraseIdxIfInBounds k=(a.eraseIdx k).toArray;rw [List.eraseIdxIfInBounds_toArray]
 ·have:=zca g k;omega
noncomputable def rCat:R2:=λ x y H Q=>∃l b xs zs,x=.ref l/\y=.ref b/\H l=some (.lst xs)/\H b=some (.lst zs)/\xs.length + zs.length<=sizeLine/\∀p,H p=none->Q (.ref p) (upd H p (.lst (xs++zs)))
theorem op_cat:OpR X (o6 .Add) rCat:=by
 intro A s σ H x y v u Q I i g h;obtain ⟨l,b,o,t,rfl,rfl,k,j,w,q⟩:=h;cases i;cases g;obtain ⟨z,c,n,r,C,e⟩:=I.lstM k;obtain ⟨B,a,p,d,D,m⟩:=I.lstM j;refine PySem.P.add_list e m ?_ (by rw [T0,T0];omega);have f:c.toArray++a.toArray=(c++a).toArray:=by simp
 rw [f];exact ⟨.ref _,_,I.lnew (t':=s.toks) (r.append d) (by rw [I0];omega),rfl,q _ I.fresh⟩
noncomputable def rRep:R2:=λ x y H Q=>∃l k xs,x=.ref l/\y=.int k/\H l=some (.lst xs)/\-(2 ^ 63)<=k/\k < 2 ^ 63/\xs.length * k.toNat<=sizeLine/\
 ∀p,H p=none->Q (.ref p) (upd H p (.lst (N0 k.toNat xs).flatten))
theorem zkp {α:Type} (xs:List α) (k:Nat):(N0 k xs).flatten.length=k * xs.length:=by
 induction k with
 | zero=>simp
 | succ k ih=>rw [b6,Z7,I0,ih,Nat.succ_mul,j01]
theorem op_rep:OpR X (o6 .Mult) rRep:=by
 intro L s σ H x y v u Q I o g h;obtain ⟨l,k,K,rfl,rfl,E,B,C,f,q⟩:=h;cases o;obtain ⟨t,rfl⟩:=g;obtain ⟨z,b,n,r,G,e⟩:=I.lstM E;have D:b.toArray.size * k.toNat<=sizeLine:=by rw [T0,<-G];exact f
 have j:¬ b.toArray.size * k.toNat > (2 ^ 63 - 1) / 8:=by
  have:(sizeLine:Nat)<=(2 ^ 63 - 1) / 8:=by decide
  omega
 have p:¬ (!Builtin.List.listFitsIndex k)=true:=by rw [fitsIndex_both B C];exact B1
 have A:¬ S5 (b.toArray.size * k.toNat)=true:=by rw [zeu D];exact B1
 have w:List.foldl (λ d c=>d++c) #[] (N0 (if b.toArray.isEmpty=true then 0 else k.toNat) b.toArray)=(N0 k.toNat b).flatten.toArray:=by
  have i :∀m:Nat,List.foldl (λ d c=>d++c) #[] (N0 m b.toArray)=(N0 m b).flatten.toArray:=λ m=>by have:=zbw b m [];rw [List.nil_append] at this;exact this
  rw [i];cases b with
  | nil=>simp
  | cons a r'=>rw [if_neg (by simp)]
 refine wpAny_binaryOp_repeat_ref (T:="list") (U:="int") (by decide) ⟨_,e,rfl⟩ (λ J=>typeIs_int J k t) noFill_list_mul F.fills_int_mul F.slot_int_rmul repeat_list F.slot_int_index.lookup
  (n8 F.slot_int_rmul (typeIs_int s k t) F.entry_int_rmul (F.args_int_rmul_2 _ _) (int___rmul___int_list k t l b.toArray n)
   ⟨e,rfl,⟨_,e,rfl⟩,n8 F.slot_list_mul ⟨_,e,rfl⟩ F.entry_list_mul (F.args_list_mul_2 _ _) (AutoListH.list___mul___list_int_3 l b.toArray n k t p j A) ⟨e,?_⟩⟩)
 rw [w];exact ⟨.ref _,_,I.lnew (t':=s.toks) (r.rep k.toNat) (by rw [zkp,Nat.mul_comm];exact f),rfl,q _ I.fresh⟩
end
section
variable {prog:Program} {w:Z0} {A:K2} {E:Value->B0->Prop} {s:B0}
set_option maxRecDepth 100000 in
end
section
variable {κ:Type} [DecidableEq κ]
noncomputable def valV (kvs:List (κ×V)) (k:κ):Option V:=(kvs.find? λ kv=>decide (kv.1=k)).map (·.2)
noncomputable def putK (kvs:List (κ×V)) (k:κ) (v:V):List (κ×V):=
 if (kvs.any λ kv=>decide (kv.1=k))=true then kvs.map (λ kv=>if kv.1=k then (kv.1,v) else kv) else kvs++[(k,v)]
theorem z1b {p:κ×V} {r:List (κ×V)} {k:κ} (e:p.1=k):valV (p :: r) k=some p.2:=by simp [valV,T4,e]
theorem z15 {p:κ×V} {r:List (κ×V)} {k:κ} (e:¬ p.1=k):valV (p :: r) k=valV r k:=by simp [valV,T4,e]
theorem z5u (k:κ) :∀kvs:List (κ×V),(kvs.any λ kv=>decide (kv.1=k))=(valV kvs k).isSome
 | []=>rfl
 | p :: r=>by
  rw [a8];by_cases e:p.1=k
  ·simp only [z1b e,decide_eq_true e,Bool.true_or,Option.isSome_some]
  ·rw [z15 e,decide_eq_false e,Bool.false_or];exact z5u k r
theorem zfr (k j:κ) (y:V) :∀kvs:List (κ×V),valV (kvs.map λ kv=>if kv.1=k then (kv.1,y) else kv) j=(valV kvs j).map λ x=>if j=k then y else x
 | []=>rfl
 | p :: r=>by
  have a:=zfr k j y r;rw [U1];by_cases h:p.1=k
  ·rw [if_pos h];by_cases e:p.1=j
   ·rw [z1b (p:=(p.1,y)) e,z1b e,A8,if_pos (e.symm.trans h)]
   ·rw [z15 (p:=(p.1,y)) e,z15 e,a]
  ·rw [if_neg h];by_cases e:p.1=j
   ·rw [z1b (p:=p) e,z1b e,A8,if_neg (λ z=>h (e.trans z))]
   ·rw [z15 (p:=p) e,z15 e,a]
theorem zc8 (k j:κ) (y:V) :∀kvs:List (κ×V),valV kvs k=none->valV (kvs++[(k,y)]) j=if j=k then some y else valV kvs j
 | [],_=>by
  by_cases e:k=j
  ·rw [if_pos e.symm];exact z1b (p:=(k,y)) e
  ·rw [if_neg (λ z=>e z.symm)];exact z15 (p:=(k,y)) e
 | p :: r,hn=>by
  rw [List.cons_append];have a:¬ p.1=k:=λ z=>by rw [z1b z] at hn;cases hn
  rw [z15 a] at hn;have b:=zc8 k j y r hn;by_cases e:p.1=j
  ·rw [z1b e,z1b e,if_neg (λ z=>a (e.trans z))]
  ·rw [z15 e,z15 e,b]
theorem zad (kvs:List (κ×V)) (k j:κ) (y:V):valV (putK kvs k y) j=if j=k then some y else valV kvs j:=by
 unfold putK;by_cases a:(kvs.any λ c=>decide (c.1=k))=true
 ·rw [if_pos a,zfr];rw [z5u] at a;by_cases e:j=k
  ·obtain ⟨x,b⟩:=Option.isSome_iff_exists.mp a;rw [if_pos e,e,b,A8,if_pos rfl]
  ·rw [if_neg e];cases valV kvs j with
   | none=>rfl
   | some x=>rw [A8,if_neg e]
 ·rw [if_neg a];refine zc8 k j y kvs ?_;rw [z5u] at a;cases q:valV kvs k with
  | none=>rfl
  | some x=>rw [q] at a;exact (a rfl).elim
theorem z23 (kvs:List (κ×V)) (k:κ) (v:V):(putK kvs k v).length<=kvs.length + 1:=by
 unfold putK;split
 ·rw [G0];omega
 ·rw [I0,X0,X3];omega
theorem RelO.isSome_eq {o:Option V} {u:Option Value} (r:RelO o u):o.isSome=u.isSome:=by
 cases o with
 | none=>cases u with
  | none=>rfl
  | some _=>exact (show False from r).elim
 | some _=>cases u with
  | none=>exact (show False from r).elim
  | some _=>rfl
theorem RelO.getD {o:Option V} {u:Option Value} {d:V} {d':Value} (r:RelO o u) (rd:RelV d d'):RelV (o.getD d) (u.getD d'):=by
 cases o with
 | none=>cases u with
  | none=>exact rd
  | some _=>exact (show False from r).elim
 | some _=>cases u with
  | none=>exact (show False from r).elim
  | some _=>exact r
theorem KV.val {kvs:List (κ×V)} {vs:List (κ×Value)} (r:KV kvs vs) (k:κ):RelO (valV kvs k) (j0f vs k):=by
 unfold KV at r;induction r with
 | nil=>exact True.intro
 | @cons p q ps qs h t ih=>
  obtain ⟨c,d⟩:=h;by_cases e:p.1=k
  ·have a:q.1=k:=c.symm.trans e;have b:j0f (q :: qs) k=some q.2:=by simp [j0f,T4,a]
   rw [z1b e,b];exact d
  ·have a:¬ q.1=k:=λ z=>e (c.trans z);have b:j0f (q :: qs) k=j0f qs k:=by simp [j0f,T4,a]
   rw [z15 e,b];exact ih
theorem KV.any {kvs:List (κ×V)} {vs:List (κ×Value)} (r:KV kvs vs) (k:κ):(kvs.any λ kv=>decide (kv.1=k))=vs.any λ kv=>decide (kv.1=k):=by
 unfold KV at r;induction r with
 | nil=>rfl
 | cons h t ih=>rw [a8,a8,ih,h.1]
theorem KV.repl {kvs:List (κ×V)} {vs:List (κ×Value)} (r:KV kvs vs) (k:κ) {y:V} {u:Value} (ry:RelV y u) :
  KV (kvs.map λ kv=>if kv.1=k then (kv.1,y) else kv) (vs.map λ kv=>if kv.1=k then (kv.1,u) else kv):=by
 unfold KV at r⊢;induction r with
 | nil=>exact .nil
 | @cons p q ps qs h t ih=>
  rw [U1,U1];refine .cons ?_ ih;obtain ⟨a,b⟩:=h;by_cases e:p.1=k
  ·rw [if_pos e,if_pos (a.symm.trans e)];exact ⟨a,ry⟩
  ·rw [if_neg e,if_neg (λ z=>e (a.trans z))];exact ⟨a,b⟩
theorem KV.put {kvs:List (κ×V)} {vs:List (κ×Value)} (r:KV kvs vs) (k:κ) {y:V} {u:Value} (ry:RelV y u):KV (putK kvs k y) (stored vs k u):=by
 unfold putK stored;rw [r.any k];by_cases e:(vs.any λ a=>decide (a.1=k))=true
 ·rw [if_pos e,if_pos e];exact r.repl k ry
 ·rw [if_neg e,if_neg e];exact Paired.snoc r ⟨rfl,ry⟩
theorem KV.length {kvs:List (κ×V)} {vs:List (κ×Value)} (r:KV kvs vs):kvs.length=vs.length:=T7 r
end
theorem kV_is {P:Program} {w:Z0} {k:Key} {u:Value} (r:RelV (kV k) u):(z0k P w).is k u=true:=by
 cases k with
 | inl i=>obtain ⟨t,e⟩:=(show∃t,u=d9 i t from r);subst e;exact zd6 P w i t
 | inr x=>obtain ⟨t,e⟩:=(show∃t,u=b9 x t from r);subst e;exact zdh P w x t
theorem zcf {P:Program} {w:Z0} :∀{ks:List Key} {us:List Value},Vals (ks.map kV) us->ItemsAre (z0k P w) ks us
 | [],_,r=>by rw [D7] at r;cases r;exact .nil
 | k :: ks,_,r=>by
  rw [U1] at r;cases r with
  | cons h t=>exact .cons (kV_is h) (zcf t)
abbrev KT (H:Hp):List (List Key×V)->List (List Key×Addr×Value)->Prop:=p9 λ p q=>p.1=q.1/\H q.2.1=some (.tup (p.1.map kV))/\RelV p.2 q.2.2
theorem KT.val {H:Hp} {kvs:List (List Key×V)} {xs:List (List Key×Addr×Value)} (r:KT H kvs xs) (k:List Key):RelO (valV kvs k) ((j05 xs k).map (·.2)):=by
 induction r with
 | nil=>exact True.intro
 | @cons p q ps qs h t ih=>
  obtain ⟨c,_,d⟩:=h;by_cases e:p.1=k
  ·have a:q.1=k:=c.symm.trans e;have b:j05 (q :: qs) k=some q.2:=by simp [j05,T4,a]
   rw [z1b e,b];exact d
  ·have a:¬ q.1=k:=λ z=>e (c.trans z);have b:j05 (q :: qs) k=j05 qs k:=by simp [j05,T4,a]
   rw [z15 e,b];exact ih
theorem KT.repl {H:Hp} {kvs:List (List Key×V)} {xs:List (List Key×Addr×Value)} (r:KT H kvs xs) (k:List Key) {y:V} {u:Value} (ry:RelV y u) :
  KT H (kvs.map λ kv=>if kv.1=k then (kv.1,y) else kv) (xs.map (putAt k u)):=by
 induction r with
 | nil=>exact .nil
 | @cons p q ps qs h t ih=>
  rw [U1,U1];refine .cons ?_ ih;obtain ⟨a,b,c⟩:=h;unfold putAt;by_cases e:p.1=k
  ·rw [if_pos e,if_pos (a.symm.trans e)];exact ⟨a,b,ry⟩
  ·rw [if_neg e,if_neg (λ z=>e (a.trans z))];exact ⟨a,b,c⟩
theorem KT.put {H:Hp} {kvs:List (List Key×V)} {xs:List (List Key×Addr×Value)} (r:KT H kvs xs) (k:List Key) {b:Addr} {y:V} {u:Value} (hb:H b=some (.tup (k.map kV))) (ry:RelV y u) :
  KT H (putK kvs k y) (storedH xs k b u):=by
 have e:(kvs.any λ a=>decide (a.1=k))=(j05 xs k).isSome:=by rw [z5u,(r.val k).isSome_eq,F9]
 unfold putK storedH;rw [e];by_cases q:(j05 xs k).isSome=true
 ·rw [if_pos q,if_pos q];exact r.repl k ry
 ·rw [if_neg q,if_neg q];exact Paired.snoc r ⟨rfl,hb,ry⟩
theorem KT.keeps {H H':Hp} {kvs:List (List Key×V)} {xs:List (List Key×Addr×Value)} (r:KT H kvs xs) (ht :∀b ys,H b=some (.tup ys)->H' b=some (.tup ys)):KT H' kvs xs:=
 Paired.mapP r λ _ _ z=>⟨z.1,ht _ _ z.2.1,z.2.2⟩
section
variable {P:Program} {w:Z0} {H:Hp} {h:Heap} {a:Addr}
theorem rd_of {u:HO} (ok:HOk P w H h) (e:Rd H a u):ObjOk P w H h a u:=e.ok ok
theorem dk_rd {kvs:List (Key×V)} (ok:HOk P w H h) (e:Rd H a (.dK kvs)):kvs.length<=sizeLine/\(a == v5)=false/\∃vs,KV kvs vs/\h.DictOf (z0k P w) a vs:=
 show ObjOk P w H h a (.dK kvs) from rd_of ok e
theorem dk_of {kvs:List (Key×V)} (ok:HOk P w H h) (e:H a=some (.dK kvs)):kvs.length<=sizeLine/\(a == v5)=false/\∃vs,KV kvs vs/\h.DictOf (z0k P w) a vs:=dk_rd ok (.inl e)
theorem key_of {ks:List Key} (ok:HOk P w H h) (e:H a=some (.tup (ks.map kV))):(O6 (z0k P w)).is h ks a:=by
 obtain ⟨_,d,r,⟨o,b,f,n,c⟩,_⟩:=(show ObjOk P w H h a (.tup (ks.map kV)) from ok a _ e)
 exact ⟨o,d.toArray,n,b,f,c,by simpa using zcf r⟩
theorem dt_rd {kvs:List (List Key×V)} (ok:HOk P w H h) (e:Rd H a (.dT kvs)):kvs.length<=sizeLine/\(a == v5)=false/\
  ∃xs,KT H kvs xs/\h.DictOfH (O6 (z0k P w)) a xs:=by
 obtain ⟨z,y,xs,r,o,d,i,c,k,f,g,j⟩:=(show ObjOk P w H h a (.dT kvs) from rd_of ok e)
 refine ⟨z,y,xs,r,o,d,i,c,k,f,g,λ x b=>?_,j⟩;have all :∀{l:List (List Key×V)} {m:List (List Key×Addr×Value)},KT H l m->∀x∈m,(O6 (z0k P w)).is h x.1 x.2.1:=by
  intro l m q;induction q with
  | nil=>intro x b;exact nomatch b
  | @cons p q ps qs hq t ih=>
   intro x b;rcases List.mem_cons.mp b with e|b
   ·subst e;exact key_of ok (by rw [<-hq.1];exact hq.2.1)
   ·exact ih x b
 exact all r x b
theorem dt_of {kvs:List (List Key×V)} (ok:HOk P w H h) (e:H a=some (.dT kvs)):kvs.length<=sizeLine/\(a == v5)=false/\
  ∃xs,KT H kvs xs/\h.DictOfH (O6 (z0k P w)) a xs:=dt_rd ok (.inl e)
end
def DGet (H:Hp) (a:Addr) (y:V) (r:Option V):Prop:=
 (∃kvs k,Rd H a (.dK kvs)/\y=kV k/\r=valV kvs k)\/∃kvs k b,Rd H a (.dT kvs)/\y=.ref b/\H b=some (.tup (k.map kV))/\r=valV kvs k
def DPut (H:Hp) (a:Addr) (y v:V) (H':Hp):Prop:=
 (∃kvs k,H a=some (.dK kvs)/\y=kV k/\kvs.length < sizeLine/\H'=upd H a (.dK (putK kvs k v)))\/
 ∃kvs k b,H a=some (.dT kvs)/\y=.ref b/\H b=some (.tup (k.map kV))/\kvs.length < sizeLine/\H'=upd H a (.dT (putK kvs k v))
theorem DGet.k {H:Hp} {a:Addr} {kvs:List (Key×V)} {k:Key} (e:H a=some (.dK kvs)):DGet H a (kV k) (valV kvs k):=.inl ⟨kvs,k,.inl e,rfl,rfl⟩
theorem DPut.k {H:Hp} {a:Addr} {kvs:List (Key×V)} {k:Key} {v:V} (e:H a=some (.dK kvs)) (hl:kvs.length < sizeLine):DPut H a (kV k) v (upd H a (.dK (putK kvs k v))):=.inl ⟨kvs,k,e,rfl,hl,rfl⟩
section
variable {X:Cx} {pins:List (Addr×Obj)} {σ:St} {H:Hp} {s:B0} {a:Addr} {y v:V} {u r:Value} {o:Option V} {A:K2} {E:Value->B0->Prop}
theorem Inv.big (I:Inv X pins σ H s):v5 < s.heap.objs.size:=by have h:P2 < s.heap.objs.size:=(I.mod.glob.keeps I.bk).lt;exact L7 (by decide) h
theorem zgr {Q:Value->B0->Prop} (hu:A.units + 1 < cLine) (I:Inv X pins σ H s) (g:DGet H a y (some v)) (ry:RelV y u) (h :∀w' s',Inv X pins σ H s'->RelV v w'->Q w' s') :
  S0 (J1 X.prog X.w) A (Q9 (.ref a) u) Q E s:=by
 rcases g with ⟨r,k,e,j,l⟩|⟨r,k,b,e,j,eb,l⟩
 ·subst j;obtain ⟨z,n,m,f,d⟩:=dk_rd I.hok e;obtain ⟨w',i,c⟩:=RelO.some_of (v:=v) (o:=j0f m k) (by rw [l];exact f.val k);exact wpAny_getItem_of (kV_is ry) d.mapOf i (h w' _ (I.tok _) c)
 ·subst j;cases (show u=E1 b from ry);obtain ⟨z,n,q,f,d⟩:=dt_rd I.hok e;obtain ⟨w',i,c⟩:=RelO.some_of (v:=v) (o:=(j05 q k).map (·.2)) (by rw [l];exact f.val k);obtain ⟨p,t,x⟩:=Option.map_eq_some_iff.mp i;refine wpAny_getItem_heap (g8 hu) (key_of I.hok eb) d t ?_;rw [x];exact h w' _ (I.tok _) c
theorem zju {Q:Value->B0->Prop} (hu:A.units + 1 < cLine) (I:Inv X pins σ H s) (g:DGet H a y o) (ry:RelV y u) (h :∀s',Inv X pins σ H s'->Q (.bool (!o.isSome)) s') :
  S0 (J1 X.prog X.w) A (X2 .NotIn u (.ref a)) Q E s:=by
 rcases g with ⟨j,k,e,i,l⟩|⟨j,k,b,e,i,eb,l⟩
 ·subst i;obtain ⟨z,c,m,f,d⟩:=dk_rd I.hok e;refine wpAny_notIn_of (kV_is ry) c d.mapOf ?_;rw [<-(f.val k).isSome_eq,<-l];exact h _ (I.tok _)
 ·subst i;cases (show u=E1 b from ry);obtain ⟨z,c,n,f,d⟩:=dt_rd I.hok e;refine wpAny_notIn_heap (g8 hu) (key_of I.hok eb) c d ?_;have q:=(f.val k).isSome_eq;rw [F9] at q;rw [<-q,<-l];exact h _ (I.tok _)
theorem zeg {h':Heap} {t':Nat} {ob:HO} (I:Inv X pins σ H s) (mu:Mut (H a)) (hs:K6 a s.heap h') (he :∃q,h'.get? a=some q) (new:ObjOk X.prog X.w (upd H a ob) h' a ob) :
  Inv X pins σ (upd H a ob) { s with heap:=h',toks:=t' }:=
 I.write (x:=a) (e:=a) mu (.inl rfl) (λ b q c z=>(hs.2 b c).trans z) he new
theorem dk_new {P:Program} {w:Z0} {H':Hp} {h':Heap} {kvs:List (Key×V)} {vs:List (Key×Value)} (z:kvs.length<=sizeLine) (hd:(a == v5)=false) (rel:KV kvs vs) (dd:h'.DictOf (z0k P w) a vs) :
  ObjOk P w H' h' a (.dK kvs):=⟨z,hd,vs,rel,dd⟩
theorem zh1 {H':Hp} {Q:Unit->B0->Prop} (hu:A.units + 1 < cLine) (I:Inv X pins σ H s) (g:DPut H a y v H') (ry:RelV y u) (rv:RelV v r) (h :∀s',Inv X pins σ H' s'->Q () s') :
  S0 (J1 X.prog X.w) A (setItem (.ref a) u r) Q E s:=by
 rcases g with ⟨d,k,e,n,l,B⟩|⟨d,k,b,e,n,eb,l,B⟩
 ·subst n B;obtain ⟨z,m,G,f,x⟩:=dk_of I.hok e;have p:G.length<=sizeLine:=by rw [<-f.length];exact z
  have t:(putK d k v).length<=sizeLine:=by have:=z23 d k v;omega
  refine wpAny_setItem_pairs (hsz:=p) (kV_is ry) x λ D i o=>h _ ?_;have N :∃q,D.get? a=some q:=let ⟨q,_,_,j,_⟩:=i;⟨q,j⟩;exact zeg I (by rw [e];exact True.intro) o N (dk_new t m (f.put k rv) i)
 ·subst n B;cases (show u=E1 b from ry);obtain ⟨z,m,J,f,x⟩:=dt_of I.hok e;have p:J.length<=sizeLine:=by rw [<-T7 f];exact z
  have t:(putK d k v).length<=sizeLine:=by have:=z23 d k v;omega
  refine wpAny_setItem_heap (hsz:=p) (g8 hu) (key_of I.hok eb) x λ D i o=>h _ ?_;obtain ⟨q,K,F,j,P,O,L,_,M⟩:=i;refine zeg I (by rw [e];exact True.intro) o ⟨q,j⟩ ⟨t,m,_,(f.put k eb rv).keeps λ c R C=>?_,q,K,F,j,P,O,L,M⟩;rw [upd_ne (ne_of C e (λ z=>nomatch z))];exact C
end
def NoSl (i:Expr):Prop:=∀ov iv,j22 i false ov iv=operate [ov,iv] (Q9 ov iv)
theorem zku {prog:Program} {w:Z0} {A:K2} {E:Value->B0->Prop} {s:B0} {env:Env} {value slice:Expr} {pos:Pos} {T id:String} {Q:Value->B0->Prop}
  (hl:j33 (.type T) "__getitem__" = V3 (some (.builtin id))) (hs:NoSl slice)
  (h:S0 (J1 prog w) A (R3 value env) (λ o s₁=>S0 (J1 prog w) A (R3 slice env) (λ i s₂=>s₂.TypeIs o T/\S0 (J1 prog w) A (Q9 o i) Q E s₂) E s₁) E s) :
  S0 (J1 prog w) A (R3 (.Subscript value slice pos) env) Q E s:=by
 refine Subscript_ (b4 h (λ o s₁ e=>b4 e (λ i s₂ a=>?_) λ _ _ x=>x) λ _ _ x=>x);obtain ⟨c,a⟩:=a;unfold subscriptTail;refine o0 ?_;rw [getitemInPython_of_ne c.not_modules];refine o0 (wpAny_specialOf c hl ?_);have b:S0 (J1 prog w) A (j22 slice false o i) (λ r d=>S0 (J1 prog w) A (letTemporaryGo value o r >>= λ _=>V3 r) Q E d) E s₂:=by rw [hs o i];exact wpAny_operating (b4 a (λ r d f=>o0 (wpAny_letTemporaryGo (C0 f))) λ _ _ x=>x)
 first
  | exact C0 (o0 b)
  | exact o0 (C0 (o0 b))
  | exact o0 b
theorem zcp {X:Cx} {pins:List (Addr×Obj)} {σ:St} {H:Hp} {s:B0} {a:Addr} {y:V} {o:Option V} (I:Inv X pins σ H s) (g:DGet H a y o):s.TypeIs (.ref a) "dict":=by
 rcases g with ⟨d,k,e,_,_⟩|⟨d,k,b,e,_,_,_⟩
 ·obtain ⟨_,_,f,_,c⟩:=dk_rd I.hok e;exact c.typeIs
 ·obtain ⟨_,_,h,_,c⟩:=dt_rd I.hok e;exact c.typeIs
noncomputable def tDGet (td ty:TE):TE:=λ σ H Q=>td σ H λ x H1=>ty σ H1 λ y H2=>∃a v,x=.ref a/\DGet H2 a y (some v)/\Q v H2
noncomputable def zjy (ty td:TE):TE:=λ σ H Q=>ty σ H λ y H1=>td σ H1 λ x H2=>∃a o,x=.ref a/\DGet H2 a y o/\Q (.bl (!o.isSome)) H2
noncomputable def sDPut (td ty tv:TE):TS:=λ D σ H=>tv σ H λ v H1=>td σ H1 λ x H2=>ty σ H2 λ y H3=>∃a H4,x=.ref a/\DPut H3 a y v H4/\D.nx σ H4
section
variable {X:Cx} {o i e value:Expr} {pos pos' tpos:Pos} {td ty tv:TE}
theorem z0d (hu:X.A.units + 1 < cLine) (ho:PE X o td) (hi:PE X i ty) (hs:NoSl i):PE X (.Subscript o i pos) (tDGet td ty):=by intro b s σ H Q I h;refine zku PySem.F.slot_dict_getitem.lookup hs (thn (ho b s σ H _ I h) λ u d ⟨x,H1,I1,rx,q1⟩=>thn (hi b d σ H1 _ I1 q1) λ j f ⟨y,H2,I2,ry,a,v,ex,g,q2⟩=>?_);subst ex;obtain rfl:u=E1 a:=rx;exact ⟨zcp I2 g,zgr hu I2 g ry λ l k e c=>⟨v,H2,e,c,q2⟩⟩
theorem zg9 (hu:X.A.units + 1 < cLine) (hi:PE X i ty) (ho:PE X o td):PC X .NotIn i o (zjy ty td):=by intro b s σ H Q I h;refine thn (hi b s σ H _ I h) λ f c ⟨y,H1,I1,ry,q1⟩=>thn (ho b c σ H1 _ I1 q1) λ u j ⟨x,H2,I2,rx,a,ov,ex,g,q2⟩=>?_;subst ex;obtain rfl:u=E1 a:=rx;exact zju hu I2 g ry λ e d=>⟨.bl (!ov.isSome),H2,d,rfl,q2⟩
theorem z42 (hu:X.A.units + 1 < cLine) (ho:PE X o td) (hi:PE X i ty) (hv:PE X value tv) (hs:U8 value (some (.Subscript o i pos')) pos.line X.env=V3 false) :
  PS X (.Assign [.Subscript o i pos'] value pos) (sDPut td ty tv):=by
 intro b s σ H D I h;refine wpAny_Assign_Subscript (thn (hv b s σ H _ I h) λ r c ⟨v,H1,I1,rv,q1⟩=>thn (ho b c σ H1 _ I1 q1) λ u d ⟨x,H2,I2,rx,q2⟩=>thn (hi b d σ H2 _ I2 q2) λ j f ⟨y,H3,I3,ry,a,H4,ex,g,q3⟩=>?_) hs;subst ex;obtain rfl:u=E1 a:=rx;exact zh1 hu I3 g ry rv λ k e=>⟨σ,H4,e,q3⟩
end
theorem zf4 {P:Program} {w:Z0} {H:Hp} (h:Heap) (hb:v5 < h.objs.size):ObjOk P w H (h.push { cls:=.type "dict",data:=.dict #[] }) h.objs.size (.dK []):=
 ⟨A2 _,beq_eq_false_iff_ne.mpr (X1 (Y0 hb)),[],.nil,j30 h⟩
noncomputable def tDNewK:TE:=λ _ H Q=>∀p,H p=none->Q (.ref p) (upd H p (.dK []))
section
variable {X:Cx} {pos:Pos}
theorem ziq:PE X (.Dict [] [] pos) tDNewK:=λ b s σ H Q I h=>wpAny_Dict_empty ⟨.ref s.heap.objs.size,_,I.laid (a:=s.heap.objs.size) (o:=.dK []) (t':=s.toks) (λ _ _ q=>F0 _ q) (J0 _) (zf4 s.heap I.big),rfl,h _ (I.hok.fresh (J0 _))⟩
end
noncomputable def tPairs:List (TE×TE)->St->Hp->(List (V×V)->Hp->Prop)->Prop
 | [],_,H,Q=>Q [] H
 | (tk,tv) :: r,σ,H,Q=>tk σ H λ x H1=>tv σ H1 λ y H2=>tPairs r σ H2 λ ps H3=>Q ((x,y) :: ps) H3
abbrev VV:List (V×V)->List (Value×Value)->Prop:=p9 λ p q=>RelV p.1 q.1/\RelV p.2 q.2
def PPs (X:Cx) (pos:Pos) (keys:List (Option Expr)) (values:List Expr) (trs:List (TE×TE)):Prop:=
 ∀(pins:List (Addr×Obj)) (s:B0) (σ:St) (H:Hp) (Q:List (V×V)->Hp->Prop),Inv X pins σ H s->tPairs trs σ H Q->
  S0 (J1 X.prog X.w) X.A (evalPairs (pairTrees keys values X.env pos)) (λ vs s'=>∃ps H',Inv X pins σ H' s'/\VV ps vs/\Q ps H') X.xe s
theorem zhu {X:Cx} {pos:Pos}:PPs X pos [] [] []:=λ a s σ H Q I h=>pairTrees_nil_walk ⟨[],H,I,.nil,h⟩
theorem z4q {X:Cx} {pos:Pos} {k v:Expr} {ks:List (Option Expr)} {vs:List Expr} {tk tv:TE} {trs:List (TE×TE)} (hk:PE X k tk) (hv:PE X v tv) (hr:PPs X pos ks vs trs) :
  PPs X pos (some k :: ks) (v :: vs) ((tk,tv) :: trs):=λ a s σ H Q I h=>
 pairTrees_cons_walk (thn (hk a s σ H _ I h) λ u b ⟨x,H1,I1,rx,q1⟩=>thn (hv a b σ H1 _ I1 q1) λ d c ⟨y,H2,I2,ry,q2⟩=>thn (hr a c σ H2 _ I2 q2) λ f e ⟨ps,H3,I3,rel,q3⟩=>⟨(x,y) :: ps,H3,I3,.cons ⟨rx,ry⟩ rel,q3⟩)
noncomputable def mergeK (kvs more:List (Key×V)):List (Key×V):=more.foldl (λ acc kv=>putK acc kv.1 kv.2) kvs
theorem KV.merge :∀{more:List (Key×V)} {rs:List (Key×Value)} {kvs:List (Key×V)} {vs:List (Key×Value)},KV more rs->KV kvs vs->KV (mergeK kvs more) (merged vs rs):=by
 intro more rs kvs vs r;unfold KV at r;induction r generalizing kvs vs with
 | nil=>intro q;exact q
 | @cons p q ps qs h t ih=>
  intro a;have e:KV (putK kvs p.1 p.2) (stored vs q.1 q.2):=by have:=a.put p.1 h.2;rw [<-h.1];exact this
  exact ih e
theorem z56 :∀(more kvs:List (Key×V)),(mergeK kvs more).length<=kvs.length + more.length
 | [],kvs=>by show kvs.length<=kvs.length + 0;omega
 | p :: r,kvs=>by have a:=z56 r (putK kvs p.1 p.2);have b:=z23 kvs p.1 p.2;show (mergeK (putK kvs p.1 p.2) r).length<=_;rw [X0];omega
theorem z9p {P:Program} {w:Z0} :∀{kvs:List (Key×V)} {ws:List (Value×Value)},VV (kvs.map λ kv=>(kV kv.1,kv.2)) ws->∃rs,Carries (z0k P w) ws rs/\KV kvs rs
 | [],_,r=>by rw [D7] at r;cases r;exact ⟨[],True.intro,.nil⟩
 | p :: kvs,_,r=>by
  rw [U1] at r;cases r with
  | @cons a b as bs h t=>obtain ⟨rs,c,q⟩:=z9p (P:=P) (w:=w) t;obtain ⟨e,d⟩:=b;exact ⟨(p.1,d) :: rs,⟨kV_is h.1,rfl,c⟩,.cons ⟨rfl,h.2⟩ q⟩
noncomputable def tDisp (trs:List (TE×TE)):TE:=λ σ H Q=>∀p,H p=none->tPairs trs σ (upd H p (.dK [])) λ ps H2=>H2 p=some (.dK [])/\∃kvs:List (Key×V),ps=kvs.map (λ kv=>(kV kv.1,kv.2))/\kvs.length<=15/\Q (.ref p) (upd H2 p (.dK (mergeK [] kvs)))
theorem zi8 {X:Cx} {pos:Pos} {keys:List (Option Expr)} {values:List Expr} {trs:List (TE×TE)} (h:PPs X pos keys values trs) (hall:keys.all (·.isSome)=true) (hl:keys.length=values.length) (h0:keys≠[])
  (h15:keys.length<=15):PE X (.Dict keys values pos) (tDisp trs):=by
 intro p s σ H Q I q;have f:=I.hok.fresh (J0 s.heap.objs.size);have d:=I.laid (a:=s.heap.objs.size) (o:=.dK []) (h':=s.heap.push { cls:=.type "dict",data:=.dict #[] }) (t':=s.toks) (λ _ _ q=>F0 _ q) (J0 _) (zf4 s.heap I.big);refine wpAny_Dict_walk (knd:=z0k X.prog X.w) hall hl h0 h15 (thn (h p _ σ _ _ d (q _ f)) λ u v ⟨ps,H2,I2,rel,e,kvs,ep,lk,q2⟩=>?_);subst ep;obtain ⟨j,c,i⟩:=z9p (P:=X.prog) (w:=X.w) rel;obtain ⟨z,g,x,r,t⟩:=dk_of I2.hok e;cases r;refine ⟨j,c,t,λ h' b k=>⟨.ref s.heap.objs.size,_,?_,rfl,q2⟩⟩;have n:(mergeK [] kvs).length<=sizeLine:=by have l:=z56 kvs [];rw [X3] at l;rw [sizeLine_eq];omega
 have m :∃q,h'.get? s.heap.objs.size=some q:=let ⟨q,_,_,hq,_⟩:=b;⟨q,hq⟩;exact zeg I2 (by rw [e];exact True.intro) k m (dk_new n g (i.merge .nil) b)
structure M1 (X:Cx) (o:Expr) (m:Str) (apos:Pos) (e:Expr) (cpos:Pos):Prop where
 base:w5 o m X.env (R3 o X.env)=R3 o X.env
 few:((O4 cpos (G1 [e] X.env)).all (λ x=>!x.1) && (W8 cpos (P6 [] X.env)).all (λ x=>x.1.isSome)
  && decide (([e]:List Expr).length + ([]:List G6).length + (if ([]:List G6).isEmpty then 0 else 1) < 30))=true
 line:(apos.endLine == cpos.line)=true
 trees:O4 cpos (G1 [e] X.env)=[(false,R3 e X.env)]
structure M2 (X:Cx) (o:Expr) (m:Str) (apos:Pos) (e f:Expr) (cpos:Pos):Prop where
 base:w5 o m X.env (R3 o X.env)=R3 o X.env
 few:((O4 cpos (G1 [e,f] X.env)).all (λ x=>!x.1) && (W8 cpos (P6 [] X.env)).all (λ x=>x.1.isSome)
  && decide (([e,f]:List Expr).length + ([]:List G6).length + (if ([]:List G6).isEmpty then 0 else 1) < 30))=true
 line:(apos.endLine == cpos.line)=true
 trees:O4 cpos (G1 [e,f] X.env)=[(false,R3 e X.env),(false,R3 f X.env)]
def IsD (H:Hp) (a:Addr):Prop:=(∃kvs,Rd H a (.dK kvs))\/∃kvs,Rd H a (.dT kvs)
theorem isD_at {X:Cx} {pins:List (Addr×Obj)} {σ:St} {H:Hp} {s:B0} {a:Addr} (I:Inv X pins σ H s) (d:IsD H a) :
  s.TypeIs (.ref a) "dict"/\(∀b,E1 a=.ref b->∃ob,s.heap.get? b=some ob/\ob.dict=none)/\(a == v5)=false:=by
 rcases d with ⟨i,e⟩|⟨i,e⟩
 ·obtain ⟨_,g,j,_,c⟩:=dk_rd I.hok e;refine ⟨c.typeIs,λ b q=>?_,g⟩;cases q;obtain ⟨ob,_,_,f,h,_⟩:=c;exact ⟨ob,f,h.2.1⟩
 ·obtain ⟨_,g,k,_,c⟩:=dt_rd I.hok e;refine ⟨c.typeIs,λ b q=>?_,g⟩;cases q;obtain ⟨ob,_,_,f,h,_⟩:=c;exact ⟨ob,f,h.2.1⟩
section
variable {X:Cx} {pins:List (Addr×Obj)} {σ:St} {H:Hp} {s:B0} {a:Addr} {y d:V} {u r:Value} {o:Option V} {A:K2} {E:Value->B0->Prop}
theorem d_get2 {Q:Value->B0->Prop} (hu:A.units + 1 < cLine) (I:Inv X pins σ H s) (g:DGet H a y o) (ry:RelV y u) (rd:RelV d r) (h :∀w' s',Inv X pins σ H s'->RelV (o.getD d) w'->Q w' s') :
  S0 (J1 X.prog X.w) A (call (.builtin "dict.get") [.ref a,u,r]) Q E s:=by
 rcases g with ⟨n,k,e,j,l⟩|⟨n,k,b,e,j,eb,l⟩
 ·subst j;obtain ⟨z,f,p,i,c⟩:=dk_rd I.hok e;refine call_meetsIn z8 c.typeIs j1f (j17 _ _ _) (meets_dict_get_default (z0k X.prog X.w) a (kV_is ry) f r) ⟨_,c.mapOf,h _ _ (I.tok _) ?_⟩;rw [l];exact (i.val k).getD rd
 ·subst j;cases (show u=E1 b from ry);obtain ⟨z,f,m,i,c⟩:=dt_rd I.hok e;refine call_meetsIn z8 c.typeIs j1f (j17 _ _ _) (meetsH_dict_get_default (O6 (z0k X.prog X.w)) a b f r) ⟨g8 hu,k,m,key_of I.hok eb,c,h _ _ (I.tok _) ?_⟩;rw [l];exact (i.val k).getD rd
end
noncomputable def tDGet2 (td ty tx:TE):TE:=λ σ H Q=>td σ H λ x H1=>∃a,x=.ref a/\IsD H1 a/\ty σ H1 λ y H2=>tx σ H2 λ z H3=>∃o,DGet H3 a y o/\Q (o.getD z) H3
section
variable {X:Cx} {o e f:Expr} {apos cpos:Pos} {td ty tx:TE}
theorem zjf (hu:X.A.units + 1 < cLine) (ho:PE X o td) (he:PE X e ty) (hf:PE X f tx) (m:M2 X o "get" apos e f cpos):PE X (.Call (.Attribute o "get" apos) [e,f] [] cpos) (tDGet2 td ty tx):=by
 intro b s σ H Q I h;refine wpAny_Call_method m.base m.few m.line PySem.F.plainAttrs_dict z8 PySem.F.type_dict_get (thn (ho b s σ H _ I h) λ u c ⟨x,H1,I1,rx,a,ex,d,q1⟩=>?_);subst ex;obtain rfl:u=E1 a:=rx;obtain ⟨i,k,_⟩:=isD_at I1 d;refine ⟨i,k,?_⟩;rw [m.trees];refine j2e rfl (Z8 (Q4 (thn (he b c σ H1 _ I1 q1) λ q l ⟨y,H2,I2,ry,q2⟩=>Q4 (thn (hf b l σ H2 _ I2 q2) λ r p ⟨z,H3,I3,rz,ov,g,q3⟩=>L5 ?_))));exact d_get2 hu I3 g ry rz λ v t n j=>⟨_,H3,n,j,q3⟩
end
end L2
namespace Att
open PySem PySem.W PySem.Calls PyProof.Rows
theorem z70 {P:O0} {h:Heap} :∀(ns:List Int) (vs:List Value),WellAll P h vs (ns.map WData.int)->V4 vs ns:=by
 intro ns;induction ns with
 | nil=>intro vs w;rw [D7] at w;cases w;exact .nil
 | cons n ns ih=>
  intro vs w;rw [U1] at w;cases w with
  | cons a b=>cases a;exact .cons _ _ (ih _ b)
theorem zga {l:OpenLaw} {n:Nat} (hn:l.most=some n) {P:O0} {h:Heap} {args:List WData} {vals:List Value}
  (hpre:l.row.toRowW.claim.pre args=true) (hwl:WellAll P h vals args) :
  ∃a vs ns,vals=[E1 a]/\args=[WData.list (ns.map WData.int)]/\h.get? a=some { cls:=.type "list",data:=.seq vs.toArray }/\V4 vs ns/\ns.length<=n:=by
 have g:WShape.hasAll [] args [.list .int]=true:=(pre_splitW hpre).1;have e:l.pre.holds [] { args:=args }=true:=(pre_splitW hpre).2;obtain ⟨d,r,rfl,f,m⟩:=hasAllW_cons g;obtain rfl:=hasAllW_nil m;obtain ⟨o,rfl,j⟩:=hasW_list f;obtain ⟨ns,rfl⟩:=items_int j;have k:ns.length<=n:=by
  unfold OpenLaw.pre at e;have b:(WTm.not (.lt (.lit (.int (n:Int))) (.len (.arg 0)))).holds [] { args:=[.list (ns.map .int)] }=true:=by have b:=(holds_andW e).1;rw [hn] at b;exact b
  have c:=condW_of b (w_not (w_lt w_lit (w_len_list (w_arg rfl))));rw [G0] at c;refine j0a λ q=>?_;have i:(n:Int) < ((ns.length:Nat):Int):=by omega
  first
   | (rw [decide_eq_true i] at c;exact absurd c (by decide))
   | (simp at c;omega)
 cases hwl with
 | cons w1 w2=>
  cases w2;cases w1 with
  | list ho hall=>exact ⟨_,_,ns,rfl,rfl,ho,z70 ns _ hall,k⟩
theorem zhl (l:OpenLaw) (args:List WData):l.row.toRowW.claim.post args (.bool true) args=true:=
 postW_of (r:=l.row.toRowW) (X:=(true == true))
  (show WShape.has [] (.bool true) .bool=true by first|rfl|decide|simp [WShape.has,WShape.arms,WShape.armsAll])
  (show (WTm.eq .res (.lit (.bool true))).value [] { args:=args,res:=some (.bool true),after:=args }=some (.bool (true == true)) from w_eq_bool (w_res rfl) w_lit) rfl
theorem attach_call {l:OpenLaw} {n:Nat} {q:Program} {loose:List Str} {XP:(Str->Option Value)->Heap->Prop} {YP:Z0->Heap->Prop} {d:DefRec}
  (hn:l.most=some n) (hdf:d.params.defaults=[])
  (call :∀(w:Z0) (s₀ s₁:B0) (mg mb:Str->Option Value) (fa:Addr) (o:Obj) (pm cd doc:Value) (a:Addr) (vs:List Value) (ns:List Int),
   Ground q loose [] XP w s₀ mg mb s₁.heap->YP w s₁.heap->
   s₁.heap.get? fa=some o->o.data=.func (docDef d.name d.params d.body d.scope pm cd doc)->s₁.heap.CodeRec cd d.name->mg d.name=some (.ref fa)->
   s₁.heap.get? a=some { cls:=.type "list",data:=.seq vs.toArray }->V4 vs ns->ns.length<=n->s₁.gens = #[]->
   A5 (J1 l.prog w) j0h (.call (.ref fa) ⟨[.ref a],[]⟩) (λ r s'=>r=.ok (.ret (.bool true))/\OldK s₁.heap s'.heap/\s'.os=s₁.os/\F8 s'.gens) s₁) :
  WalkO q loose XP YP l.row.toRowW d [] (λ f vs=>PySem.call f vs):=by
 intro w s₀ s₁ mg mb G Y fa o pm cd doc u kV j c v b x h C A F e D B k E;obtain rfl:u=.none:=Dflts.none b hdf;obtain rfl:kV=.none:=Dflts.noKw b;obtain ⟨a,vs,ns,rfl,rfl,i,m,t⟩:=zga hn e k;refine enter_call (z6 (call w s₀ s₁ mg mb fa o pm cd doc a vs ns G Y j (fd_plain c) v x i m t h) λ r s' s=>?_);obtain ⟨rfl,z,p,g⟩:=s;exact ⟨.inl ⟨.bool true,.bool true,[],rfl,λ _=>rfl,.bool true,zhl l _,λ _=>⟨g7,λ _ y=>(nomatch y)⟩⟩,z,p,g⟩
end Att
namespace L2
open PySem PySem.Spec PyProof.Rows
theorem zbs :∀{vs:List Value} {ns:List Int},V4 vs ns->Vals (ns.map V.int) vs
 | _,_,.nil=>.nil
 | _,_,.cons n t h=>.cons ⟨t,rfl⟩ (zbs h)
def Only (H:Hp):Prop:=∀b,H b=none\/∃o xs,H b=some (.frz o (.lst xs))
theorem ziw {P:Program} {w:Z0} {K:j0} {mg mb:Str->Option Value} {CX:CXT} {k:Nat} {fa a:Addr} {fd:FuncData} {x:Str} {sp:Sp} {s₁:B0} {vs:List Value} {ns:List Int}
  (KX:K.In s₁.heap) (hns:s₁.heap.Ns P2 mg) (hb:s₁.heap.Ns builtinsNs mb) (hbb :∀x:Str,x≠"__name__"->mb x=a5 x) (hlim:s₁.heap.NoLimit) (hg:s₁.gens = #[])
  (ha:s₁.heap.get? a=some { cls:=.type "list",data:=.seq vs.toArray }) (hi:V4 vs ns) (hl:ns.length<=sizeLine) (hr:Room k j0h)
  (F :∀base:Heap,K.In base->base.Ns P2 mg->FnOk P w K mg base CX k fa fd [x] sp) (hbind :∀(s:B0) (u:Value),BindsTo s fd ⟨[u],[]⟩ [(x,u)])
  (hsp :∀H:Hp,Only H->SqL K H a (ns.map V.int)->sp [.ref a] H (λ v _=>v=.bl true) λ _ _ _=>False)
  (hCX :∀H e s',CX [] H s₁ (λ _ _ _=>False) e s'->False) :
  A5 (J1 P w) j0h (.call (.ref fa) ⟨[.ref a],[]⟩) (λ r s'=>r=.ok (.ret (.bool true))/\OldK s₁.heap s'.heap/\s'.os=s₁.os/\F8 s'.gens) s₁:=by
 have A:=zbs hi;have S:=hi.length
 -- from an abstract heap in which nothing but the script may be tracked
 have j :∀H:Hp,Only H->SqL K H a (ns.map V.int)->HOk P w H s₁.heap->(∀b,H b≠none->b=a)->(H a≠none->K.lookup a=none)->
   A5 (J1 P w) j0h (.call (.ref fa) ⟨[.ref a],[]⟩) (λ r s'=>r=.ok (.ret (.bool true))/\OldK s₁.heap s'.heap/\s'.os=s₁.os/\F8 s'.gens) s₁:=by
  intro H t G B i O;have y :∀{b:Addr} {o:Obj},s₁.heap.get? b=some o->H b=none->(hidT s₁.heap H).get? b=some o:=λ e n=>zie e n;have J :∀{b:Addr} {o:Obj} {es:Array DictEntry} {ep:Nat},s₁.heap.get? b=some o->o.data=.dict es ep->H b=none:=λ {b o es ep} e d=>by
   cases q:H b with
   | none=>rfl
   | some u=>have g:b=a:=i b (by rw [q];simp);subst g;rw [ha] at e;cases e;have D:Data.seq vs.toArray _=Data.dict es ep:=d;cases D
  have f :∀{b:Addr} {m:Str->Option Value},s₁.heap.Ns b m->(hidT s₁.heap H).Ns b m:=λ {b m} ⟨o,es,ep,e,d,r⟩=>⟨o,es,ep,y e (J e d),d,r⟩
  have l:K.In (hidT s₁.heap H):=λ b o e=>y (KX b o e) (by
   cases q:H b with
   | none=>rfl
   | some u=>have g:b=a:=i b (by rw [q];simp);subst g;rw [O (by rw [q];simp)] at e;cases e)
  have I:Mod K mg (hidT s₁.heap H):=⟨l,f hns,⟨mb,f hb,hbb⟩,let ⟨mc,h1,h2⟩:=hlim;⟨mc,f h1,h2⟩⟩
  have C:Env0 P w K mg (hidT s₁.heap H) j0h [] s₁ H:=⟨rfl,I,λ b o e=>zke e,Nat.le_of_eq (zgd _ _),trivial,λ b hb=>absurd (show b∈([]:List Addr) from hb) (by simp),B,.of_eq hg⟩
  refine z6 ((F _ l (f hns)).run j0h [] s₁ H ⟨[.ref a],[]⟩ [.ref a] [.ref a] _ _ hr C (hbind s₁ (.ref a)) (.cons rfl .nil) (hsp H t G)) λ r s' h=>?_;cases r with
  | error e=>exact (hCX H e s' h).elim
  | ok fl=>
   cases fl with
   | next=>exact F4 h
   | brk=>exact F4 h
   | cont=>exact F4 h
   | ret u=>
    obtain ⟨v,T,os,N,un,R,E,q⟩:=h;have Q:v=.bl true:=q;subst Q;obtain rfl:u=y9 true:=E;refine ⟨rfl,OldK.of_keep λ b o e=>?_,os,N⟩;cases q:H b with
    | none=>exact un.keep b o e q (by intro z;exact absurd (show b∈([]:List Addr) from z) (by simp)) (by simp)
    | some u=>
     rcases t b with z|⟨ob,xs,z⟩
     ·rw [q] at z;cases z
     ·have L:=un.frzs b ob _ z;obtain ⟨p,_⟩:=B b _ z;obtain ⟨M,_⟩:=R b _ L;rw [e] at p;cases p;exact M
 cases hk:K.lookup a with
 | some o=>
  -- the script is one of the module's own objects
  have e:=KX a o hk;rw [ha] at e;cases e;refine j (λ _=>none) (λ _=>.inl rfl) (.inr ⟨_,vs.toArray,_,hk,rfl,rfl,rfl,by rw [T0,S];exact hl,by simpa using A⟩) (λ b u z=>by have c:(none:Option HO)=some u:=z;cases c) (λ b z=>absurd rfl z) λ z=>absurd rfl z
 | none=>
  refine j (λ b=>if b=a then some (.frz { cls:=.type "list",data:=.seq vs.toArray } (.lst (ns.map V.int))) else none) (λ b=>?_) (.inl (.inr ⟨{ cls:=.type "list",data:=.seq vs.toArray },if_pos rfl⟩)) (λ b u z=>?_) (λ b z=>?_) λ _=>hk
  ·by_cases hb:b=a
   ·exact .inr ⟨_,_,if_pos hb⟩
   ·exact .inl (if_neg hb)
  ·by_cases hb:b=a
   ·have c:=(if_pos hb).symm.trans z;cases c;subst hb;exact ⟨ha,by rw [G0];exact hl,vs,_,A,ha⟩
   ·have c:=(if_neg hb).symm.trans z;cases c
  ·by_cases hb:b=a
   ·exact hb
   ·exact absurd (if_neg hb) z
theorem walk_of {l:PySem.W.OpenLaw} {n k:Nat} {q:Program} {loose:List Str} {XP:(Str->Option Value)->Heap->Prop} {YP:Z0->Heap->Prop} {d:DefRec} {K:O0->j0} {CX:Z0->CXT} {sp:Z0->Sp} {x:Str}
  (hn:l.most=some n) (hn2:n<=sizeLine) (hdf:d.params.defaults=[]) (hr:Room k j0h)
  (hY :∀(w:Z0) (h:Heap),YP w h->(K w.params).In h)
  (F :∀(w:Z0) (mg:Str->Option Value) (fa:Addr) (h:Heap),(K w.params).In h->h.Ns P2 mg->mg d.name=some (.ref fa)->
   ∃fd:FuncData,(∀(s:B0) (u:Value),BindsTo s fd ⟨[u],[]⟩ [(x,u)])/\
    ∀base:Heap,(K w.params).In base->base.Ns P2 mg->FnOk l.prog w (K w.params) mg base (CX w) k fa fd [x] (sp w))
  (hsp :∀(w:Z0) (H:Hp) (a:Addr) (ns:List Int),ns.length<=n->Only H->SqL (K w.params) H a (ns.map V.int)->sp w [.ref a] H (λ v _=>v=.bl true) λ _ _ _=>False)
  (hCX :∀(w:Z0) (H:Hp) (s:B0) (e:Value) (s':B0),CX w [] H s (λ _ _ _=>False) e s'->False) :
  PySem.W.WalkO q loose XP YP l.row.toRowW d [] (λ f vs=>PySem.call f vs):=by
 refine Att.attach_call hn hdf λ w J i mg E fa o L C D a vs ns G Y I B M A p r c m=>?_;have KX:=hY w _ Y;obtain ⟨fd,j,z⟩:=F w mg fa _ KX G.T.g A;exact ziw KX G.T.g G.T.b G.T.builtins G.T.nolimit m p r (L0 c hn2) hr z j (λ H t y=>hsp w H a ns c t y) λ H e s'=>hCX w H i e s'
noncomputable def z9b (s:Stmt):Arguments:=match s with
 | .FunctionDef _ a _ _ _ _ _ _ _ _=>a
 | _=>{ posonlyargs:=[],args:=[],vararg:=none,kwonlyargs:=[],kw_defaults:=[],kwarg:=none,defaults:=[] }
noncomputable def z63 (s:Stmt):List Stmt:=match s with
 | .FunctionDef _ _ b _ _ _ _ _ _ _=>b
 | _=>[]
noncomputable def z07 (s:Stmt):Scope:=match s with
 | .FunctionDef _ _ _ _ _ _ sc _ _ _=>sc
 | _=>{ kind:=.function,names:=[],isGenerator:=false,isCoroutine:=false }
noncomputable abbrev CX0:CXT:=λ _ _ _ _ _ _=>False
noncomputable abbrev E0:XK:=λ _ _ _=>False
theorem pass0 {X:Cx}:Passes CX0 X E0:=λ _ _ _ _ _ _ _ h=>h.elim
structure Fun (K:j0) (x qual:Str) (st:Stmt) (f:Addr) (fd:FuncData):Prop where
 ex :∃(oc:Value) (od:Option Addr) (kV doc pm:Value) (an:Option Addr) (cdv ct:Value) (osl:Array (Option Value)),
  fd=B6 x qual (z9b st) (z63 st) (z07 st) .none kV doc pm an cdv ct/\K.lookup f=some ⟨oc,od,.func fd,osl⟩/\K8 K cdv qual=true
 kp:X4 K (.ref f)=true
section
variable {P:Program} {w:Z0} {K:j0} {mg:Str->Option Value} {base:Heap}
theorem Fun.ok {x qual:Str} {st:Stmt} {f:Addr} {fd:FuncData} {N ps:List Str} {k:Nat} {sp:Sp} (F:Fun K x qual st f fd) (S:FnScope N ps (z07 st)) (len :∀vs H Q E,sp vs H Q E->vs.length=ps.length)
  (hbody :∀(cdv:Value) (A:K2) (outer:List Env) (s:B0) (H:Hp) (vs:List V) (Q:VK) (E:XK),Room k (A.deeper (K4 qual (z07 st) s.heap.objs.size f cdv))->sp vs H Q E->
   ∃t,PSs (cxOf CX0 P w K mg base N qual (z07 st) f cdv A outer s H E).nox (z63 st) t/\t { nx:=λ _ H'=>Q .non H',rt:=Q } (start N vs) H):FnOk P w K mg base CX0 (k + 1) f fd ps sp:=by
 obtain ⟨i,j,kV,l,g,n,cdv,e,m,rfl,c,b⟩:=F.ex;refine fn_of c b S len λ A outer s H vs Q E d a=>?_;obtain ⟨t,h,q⟩:=hbody cdv A outer s H vs Q E d a;exact ⟨t,h.nox,q⟩
theorem Fun.binds {x qual:Str} {st:Stmt} {f:Addr} {fd:FuncData} {ps:List Str} (F:Fun K x qual st f fd)
  (h :∀(kV doc pm:Value) (an:Option Addr) (cdv ct:Value) (us:List Value),us.length=ps.length->bindArgs (B6 x qual (z9b st) (z63 st) (z07 st) .none kV doc pm an cdv ct) ⟨us,[]⟩=V3 (ps.zip us)):Binds K fd ps []:=by
 obtain ⟨b,d,kV,doc,pm,an,cdv,ct,e,rfl,c,a⟩:=F.ex;exact .all (h kV doc pm an cdv ct)
theorem fun_mk {x qual:Str} {st:Stmt} {f:Addr} {oc:Value} {od an:Option Addr} {osl:Array (Option Value)} {kV doc pm cdv ct:Value} (l:K.lookup f=some ⟨oc,od,.func (B6 x qual (z9b st) (z63 st) (z07 st) .none kV doc pm an cdv ct),osl⟩)
  (c:K8 K cdv qual=true) (k:X4 K (.ref f)=true):Fun K x qual st f (B6 x qual (z9b st) (z63 st) (z07 st) .none kV doc pm an cdv ct):=⟨⟨oc,od,kV,doc,pm,an,cdv,ct,osl,rfl,l,c⟩,k⟩
end
theorem hu_of {A:K2} {k:Nat} (hr:Room k A):A.units + 1 < cLine:=W0 (Nat.add_le_add_left (by decide:1<=64) _) hr.units
section
variable {X:Cx}
theorem pv (i:Nat) {x:Str} {pos:Pos} (hN:X.N[i]? = some x:=by rfl) (hv:Vis X.env.scope x:=by first|exact N1 rfl|exact K1 (N1 rfl)|exact K1 (K1 rfl)) (hd:(x == ("__debug__" : Str))=false:=by decide)
  (hcd:(x == ("__classdict__" : Str))=false:=by decide):PE X (.Name x pos) (tVar i):=pe_var hN hv hd hcd
end
theorem iteF {A B:Prop} (h:B):if false=true then A else B:=by rw [if_neg B1];exact h
theorem iteT {A B:Prop} (h:A):if true=true then A else B:=by rw [if_pos rfl];exact h
theorem ite2 {c A B:Prop} [Decidable c] (h1:c->A) (h2:¬ c->B):if c then A else B:=by
 by_cases h:c
 ·rw [if_pos h];exact h1 h
 ·rw [if_neg h];exact h2 h
def Same (H H':Hp):Prop:=∀b o,H b=some o->H' b=some o
theorem Same.refl (H:Hp):Same H H:=λ _ _ h=>h
theorem Same.trans {H H1 H2:Hp} (a:Same H H1) (b:Same H1 H2):Same H H2:=λ c o h=>b c o (a c o h)
theorem Same.free {H H':Hp} (e:Same H H') {l:Addr} (h:H' l=Option.none):H l=Option.none:=by
 cases q:H l with
 | none=>rfl
 | some o=>rw [e l o q] at h;cases h
theorem Same.seq {K:j0} {H H':Hp} {a:Addr} {xs:List V} (e:Same H H') (h:SqL K H a xs):SqL K H' a xs:=by
 rcases h with (h|⟨o,h⟩)|h
 ·exact .inl (.inl (e _ _ h))
 ·exact .inl (.inr ⟨o,e _ _ h⟩)
 ·exact .inr h
end L2
set_option maxHeartbeats 4000000
namespace L2
open PySem PySem.Spec PyProof.Rows
section
variable {prog:Program} {w:Z0} {A:K2} {R:j1a->B0->Prop} {s:B0}
theorem zg4 {elt target iter:Expr} {ifs:List Expr} {scope:Scope} {pos:Pos} {it acc:Value} {env:Env} (J:Nat->B0->Prop)
  (turn :∀n s,J n s->S0 (J1 prog w) A (p7 it) (λ r s₁=>match r with
   | none=>R (.ok .next) s₁
   | some v=>S0 (J1 prog w) A (u9 target it v) (λ _ s₂=>S0 (J1 prog w) A (assign target env v) (λ _ s₃=>
     S0 (J1 prog w) A (forIn ifs true λ c r=>if r=true then do let ok <-isTrue c env (R3 c env);V3 (A4 ok) else V3 (A4 r)) (λ ok s₄=>
      if ok=true then S0 (J1 prog w) A (R3 elt env) (λ x s₅=>S0 (J1 prog w) A (call (.builtin "list.append") [acc,x]) (λ _ s₆=>∃m,m < n/\J m s₆) (λ _ _=>False) s₅) (λ _ _=>False) s₄
      else∃m,m < n/\J m s₄) (λ _ _=>False) s₃) (λ _ _=>False) s₂) (λ _ _=>False) s₁) (λ _ _=>False) s)
  (n:Nat) (h:J n s):A5 (J1 prog w) A (.compLoop (.ListComp elt [⟨target,iter,ifs,0⟩] scope pos) 0 it acc env) R s:=by
 refine codeAny_loop rfl J (λ n s g=>?_) n h;show S0 _ A ((compTurn (.ListComp elt [⟨target,iter,ifs,0⟩] scope pos) 0 it acc env).onRaise (λ x=>do noteFrame x env;theTreesLotGoes x)) _ _ s;refine wpAny_noted ?_;rw [compTurn_list];refine o0 (j03 (o0 (b4 (turn n s g) (λ r s₁ a=>?_) λ _ _ f=>f.elim)));cases r with
 | none=>exact C0 a
 | some v=>
  refine o0 (b4 a (λ _ s₂ i=>o0 (b4 i (λ _ s₃ j=>o0 (b4 j (λ ok s₄ b=>?_) λ _ _ f=>f.elim)) λ _ _ f=>f.elim)) λ _ _ f=>f.elim);cases ok with
  | false=>exact C0 ⟨rfl,b⟩
  | true=>exact o0 (o0 (b4 b (λ x s₅ e=>o0 (b4 e (λ _ s₆ d=>C0 (C0 ⟨rfl,d⟩)) λ _ _ f=>f.elim)) λ _ _ f=>f.elim))
end
theorem z3t {env:Env} :∀(names:List (Str×v6)) (acc:List (Str×Addr)),(∀y∈names,y.2=F2->∃c,env.cells.lookup y.1=some c)->(∀y c,acc.lookup y=some c->env.cells.lookup y=some c)->
  ∃cl,(forIn names acc λ (x:Str×v6) (r:List (Str×Addr))=>(match x with
    | (name,kind)=>if (kind == F2)=true then do let c <-cellOf env name;V3 (A4 ((name,c) :: r)) else V3 (A4 r):Sem (ForInStep (List (Str×Addr)))))=V3 cl/\
   (∀y c,cl.lookup y=some c->env.cells.lookup y=some c)/\(∀y,((y,F2)∈names\/∃c,acc.lookup y=some c)->∃c,cl.lookup y=some c)
 | [],acc,_,ha=>⟨acc,by rw [O7],ha,λ y h=>h.elim (λ z=>nomatch z) id⟩
 | (n,k) :: r,acc,hf,ha=>by
  rw [k7];dsimp only;by_cases hk:k=F2
  ·subst hk;obtain ⟨c,j⟩:=hf (n,.free) R1 rfl;have e:cellOf env n=V3 c:=by unfold cellOf;rw [j]
   rw [if_pos (by rfl),e];obtain ⟨cl,f,i,g⟩:=z3t r ((n,c) :: acc) (λ y a=>hf y (O1 _ a)) (λ y d b=>by
    rw [b5] at b;by_cases a:(y == n)=true
    ·rw [a] at b;have:=eq_of_beq a;subst this;cases b;exact j
    ·rw [j09] at a;rw [a] at b;exact ha y d b)
   refine ⟨cl,f,i,λ y a=>g y ?_⟩;rcases a with a|⟨d,b⟩
   ·rcases List.mem_cons.mp a with z|z
    ·cases z;exact .inr ⟨c,by rw [b5];simp⟩
    ·exact .inl z
   ·refine .inr ?_;rw [b5];by_cases a:(y == n)=true
    ·rw [a];exact ⟨c,rfl⟩
    ·rw [j09] at a;rw [a];exact ⟨d,b⟩
  ·rw [if_neg (by simpa using hk)];obtain ⟨cl,f,i,g⟩:=z3t r acc (λ y a=>hf y (O1 _ a)) ha;refine ⟨cl,f,i,λ y a=>g y ?_⟩;rcases a with a|a
   ·rcases List.mem_cons.mp a with z|z
    ·cases z;exact absurd rfl hk
    ·exact .inl z
   ·exact .inr a
theorem zea {scope:Scope} {env:Env} (hf :∀y∈scope.names,y.2=F2->∃c,env.cells.lookup y.1=some c) :
  ∃cl,closureFor scope env=V3 cl/\(∀y c,cl.lookup y=some c->env.cells.lookup y=some c)/\(∀y,(y,F2)∈scope.names->∃c,cl.lookup y=some c):=by
 obtain ⟨cl,b,e,d⟩:=z3t (env:=env) scope.names [] hf (λ _ _ z=>nomatch z);refine ⟨cl,?_,e,λ y a=>d y (.inl a)⟩;simp only [closureFor];rw [b];rfl
theorem mem_of_lookup {κ:Type} {y:Str} {k:κ} :∀{l:List (Str×κ)},l.lookup y=some k->(y,k)∈l
 | (n,c) :: r,h=>by
  rw [b5] at h;by_cases hy:(y == n)=true
  ·rw [hy] at h;cases h;rw [eq_of_beq hy];exact R1
  ·rw [j09] at hy;rw [hy] at h;exact O1 _ (mem_of_lookup h)
theorem z66 {scope:Scope} {env:Env} (hcell :∀y∈scope.names,y.2≠NameKind.cell) {y:Str} {k:v6} (h:(C8 scope env).names.lookup y=some k) (hk:k=.cell\/k=.free):(y,F2)∈scope.names:=by
 have m:=mem_of_lookup h;unfold C8 at m;obtain ⟨⟨n,c⟩,a,e⟩:=List.mem_map.mp m;dsimp only at e;by_cases hc:(c == F2)=true
 ·have:=eq_of_beq hc;subst this;split at e<;>(injection e with e1 e2;subst e1;exact a)
 ·rw [if_neg (by simp [hc])] at e;injection e with e1 e2;subst e1 e2;rcases hk with rfl|rfl
  ·exact absurd rfl (hcell _ a)
  ·exact absurd rfl hc
noncomputable abbrev cxComp (X:Cx) (scope:Scope) (cl:List (Str×Addr)) (N:List Str) (C:Addr) (s₂:B0) (H₂:Hp) (fp:List Addr):Cx:=
 { X with N:=N,s₀:=s₂,H₀:=H₂,env:=compEnvC scope cl C X.env,outer:=X.stack,stack:=X.stack,ex:=fp,fn:=λ _=>false,pn:=[],xe:=λ _ _=>False }
def PF (X:Cx) (ifs:List Expr) (t:TT):Prop:=
 ∀(pins:List (Addr×Obj)) (s:B0) (σ:St) (H:Hp) (Q:Bool->Hp->Prop),Inv X pins σ H s->t σ H Q->
  S0 (J1 X.prog X.w) X.A (forIn ifs true λ c r=>if r=true then do let ok <-isTrue c X.env (R3 c X.env);V3 (A4 ok) else V3 (A4 r)) (TP X pins σ Q) X.xe s
theorem pf_nil {X:Cx}:PF X [] (λ _ H Q=>Q true H):=λ _ _ _ H _ I h=>wpAny_tests_nil ⟨H,I,h⟩
theorem pf_one {X:Cx} {c:Expr} {t:TT} (h:PT X c t):PF X [c] t:=λ a s σ H Q I q=>wpAny_tests_one (h a s σ H Q I q)
theorem Vals.snoc {xs:List V} {us:List Value} {x:V} {u:Value} (r:Vals xs us) (q:RelV x u):Vals (xs++[x]) (us++[u]):=Vals.append r (.cons q .nil)
def TagOf (H:Hp) (x:V) (T:String):Prop:=match x with
 | .non=>T = "NoneType"
 | .bl _=>T = "bool"
 | .int _=>T = "int"
 | .str _=>T = "str"
 | .ref a=>((∃xs,H a=some (.lst xs))/\T = "list")\/((∃xs,H a=some (.tup xs))/\T = "tuple")\/((∃kvs,H a=some (.dK kvs))/\T = "dict")
 | _=>False
noncomputable def instB (T C:String):Bool:=T == C || (T == "bool" && C == "int")
theorem TagOf.ty {K:j0} {H:Hp} {x:V} {T:String} (h:TagOf H x T):TyOf K H x (.type T):=by
 cases x with
 | non=>cases (show T = "NoneType" from h);exact .non
 | bl b=>cases (show T = "bool" from h);exact .bl b
 | int i=>cases (show T = "int" from h);exact .int i
 | str z=>cases (show T = "str" from h);exact .str z
 | ref a=>
  rcases h with ⟨⟨c,e⟩,rfl⟩|⟨⟨c,e⟩,rfl⟩|⟨⟨c,e⟩,rfl⟩
  ·exact .lst e
  ·exact .tup e
  ·exact .dK e
 | _=>exact h.elim
theorem TagOf.one {H:Hp} {x:V} {T:String} (h:TagOf H x T):T = "NoneType"\/T = "bool"\/T = "int"\/T = "str"\/T = "list"\/T = "tuple"\/T = "dict":=by
 cases x with
 | non=>exact .inl h
 | bl b=>exact .inr (.inl h)
 | int i=>exact .inr (.inr (.inl h))
 | str z=>exact .inr (.inr (.inr (.inl h)))
 | ref a=>rcases h with ⟨_,rfl⟩|⟨_,rfl⟩|⟨_,rfl⟩<;>simp
 | _=>exact h.elim
noncomputable def isiC:List String:=["int","str","bool","tuple","list"]
theorem kit_of (K:j0) {T C:String} (h:T = "NoneType"\/T = "bool"\/T = "int"\/T = "str"\/T = "list"\/T = "tuple"\/T = "dict") (hC:C∈isiC):PySem.W.kitOne K (.type T) (.type C)=some (instB T C):=by
 have hC:C = "int"\/C = "str"\/C = "bool"\/C = "tuple"\/C = "list":=by simpa [isiC] using hC
 rcases h with rfl|rfl|rfl|rfl|rfl|rfl|rfl<;>rcases hC with rfl|rfl|rfl|rfl|rfl<;>kernel_rfl
section
variable {X:Cx}
theorem z0g:CallR X (.builtin "isinstance") (λ xs H Q=>∃x C T,xs=[x,.ty C]/\TagOf H x T/\C∈isiC/\Q (.bl (instB T C)) H):=by intro i s σ H xs g Q I r h;obtain ⟨x,C,T,rfl,a,d,q⟩:=h;obtain ⟨u,f,rfl,e,c⟩:=vals2 r;cases (show f=F3 C from c);exact zhe I e a.ty (kit_of X.K a.one d) λ b=>⟨.bl _,H,I.tok b,rfl,q⟩
theorem zgv {ys:List V} {its:List Value} (rv:Vals ys its) (hb :∀y∈ys,∃b,y=V.bl b):((V0 its.length).all λ i=>decide (ys[i]? = some (V.bl true)))=ys.all λ y=>decide (y=V.bl true):=by
 have e:=rv.length;rw [Bool.eq_iff_iff,List.all_eq_true,List.all_eq_true];constructor
 ·intro h y d;obtain ⟨i,a,rfl⟩:=g6 d;have:=h i (List.mem_range.mpr (by omega));simpa [a] using this
 ·intro h i a;have c:i < ys.length:=by have:=List.mem_range.mp a;omega
  have:=h ys[i] (E3 c);simpa [c] using this
theorem z38 (hc:X.calm=true):CallR X (.builtin "all") (λ xs H Q=>∃p ys,xs=[.ref p]/\SqL X.K H p ys/\(∀y∈ys,∃b,y=V.bl b)/\Q (.bl (ys.all λ y=>decide (y=V.bl true))) H):=by
 intro O s σ H xs L Q I r h;obtain ⟨p,ys,rfl,D,g,q⟩:=h;obtain ⟨u,rfl,t⟩:=vals1 r;cases t;obtain ⟨j,f,c,N⟩:=I.list D;have w:p≠s.heap.objs.size:=by obtain ⟨o,e,_⟩:=c.isList;exact Y0 (Q0 e)
 refine call_all_walk (Y4 c.isList ?_);refine ⟨s.heap.objs.size,_,_,_,_,_,λ i=>decide (ys[i]? = some (V.bl true)),rfl,Walks.list (show X.A.in1.handled=none from I.ok.hd hc) s.heap.objs.size p w j.toArray,⟨⟨_,C1 _ rfl,rfl,rfl⟩,c.isList.at λ o e=>F0 _ e⟩,?_,?_⟩
 ·intro i v P J M a F;have a:j[i]? = some v:=by simpa using a
  obtain ⟨E,e⟩:=List.getElem?_eq_some_iff.mp a;have d:i < ys.length:=by rw [f.length];exact E
  obtain ⟨b,m⟩:=g ys[i] (E3 d);obtain ⟨u,k,l⟩:=f.get (i:=i) (x:=ys[i]) (by simp [d]);rw [a] at k;cases k;rw [m] at l;cases (show v=y9 b from l);have:decide (ys[i]? = some (V.bl true))=b:=by rw [v0 d,m];cases b<;>simp
  exact L3 (this ▸ F)
 ·intro G C B;have e:=zgv f g;rw [<-T0] at e;refine ⟨.bl _,H,I.kept (t':=C) λ b o z=>B b o ?_ (F0 _ z),rfl,e.symm ▸ q⟩;intro n;rw [List.mem_singleton.mp n] at z;exact absurd (Q0 z) (y4 _)
def CDivB (i j:Int):Prop:=0 < j/\j < 2 ^ 64
theorem z1f:OpR X (o6 .FloorDiv) (rI CDivB λ i j=>.int (i / j)):=opI λ i j _ _ _ _ _ a q=>by
 obtain ⟨c,b⟩:=a;refine floordiv_int (by omega) ?_ (.inl (PyProof.noPylong_of_log2 ?_))
 ·rw [Int.fdiv_eq_ediv_of_nonneg _ (by omega)];exact q
 ·have:j.natAbs.log2 < 64:=(Nat.log2_lt (by omega)).mpr (by omega);omega
structure KDict (K:j0) (P:O0) (a:Addr) (kvs:List (Str×V)):Prop where
 ex :∃es n,K.lookup a=some ⟨.type "dict",none,.dict es n,#[]⟩/\p9 (λ (p:Str×V) (e:DictEntry)=>(∃t,e.key=.str p.1 t)/\e.hash=g0 P p.1/\RelV p.2 e.val) kvs es.toList
 lo:(a == v5)=false
theorem zh5 {kvs:List (Str×V)} {P:O0} :∀{es:List DictEntry},p9 (λ (p:Str×V) (e:DictEntry)=>(∃t,e.key=.str p.1 t)/\e.hash=g0 P p.1/\RelV p.2 e.val) kvs es->∀z,
  RelO (kvs.lookup z) (findBy V7 es.toArray z):=by
 intro es r;induction r with
 | nil=>intro z;exact True.intro
 | @cons p e kvs es h t a=>
  intro z;obtain ⟨⟨g,c⟩,f,d⟩:=h;have a:=a z;unfold findBy at a⊢;rw [List.find?_toArray] at a⊢;rw [T4,b5];have b:V7 z e.key=(z == p.1):=by rw [c];show (p.1 == z)=_;rw [Bool.eq_iff_iff,beq_iff_eq,beq_iff_eq];exact ⟨λ q=>q.symm,λ q=>q.symm⟩
  cases hz:(z == p.1) with
  | true=>rw [b,hz];exact d
  | false=>rw [b,hz];exact a
theorem KDict.mapOf {a:Addr} {kvs:List (Str×V)} (D:KDict X.K X.w.params a kvs) {h:Heap} (k:X.K.In h) :∃f,h.MapOf (strKind X.prog X.w) a f/\∀z,RelO (kvs.lookup z) (f z):=by
 obtain ⟨b,n,d,r⟩:=D.ex;have c:PySem.W.KeysLit X.w.params b.toList:=by
  clear d D;generalize b.toList=l at r;induction r with
  | nil=>exact True.intro
  | cons h t ih=>obtain ⟨⟨i,c⟩,e,j⟩:=h;exact ⟨⟨_,i,c,e⟩,ih⟩
 have g :∀z,RelO (kvs.lookup z) (findBy V7 b.toList.toArray z):=zh5 r;exact ⟨_,PySem.W.mapOf_K (prog:=X.prog) k d c,λ z=>by simpa using g z⟩
theorem zj0 {a:Addr} {kvs:List (Str×V)} (D:KDict X.K X.w.params a kvs):OpR X (X2 .In) (λ x y H Q=>∃z,x=.str z/\y=.ref a/\Q (.bl (kvs.lookup z).isSome) H):=by intro g s σ H x y v u Q I e b h;obtain ⟨z,rfl,rfl,q⟩:=h;obtain ⟨t,rfl⟩:=e;cases b;obtain ⟨f,c,d⟩:=D.mapOf I.kIn;refine wpAny_in_of (k9 X.prog X.w z t) D.lo c ⟨.bl _,H,I.tok _,rfl,?_⟩;have:=d z;rw [RelO.isSome_eq this] at q;exact q
theorem ix_kd {a:Addr} {kvs:List (Str×V)} (D:KDict X.K X.w.params a kvs):IxR X (λ x y H Q=>∃z v,x=.ref a/\y=.str z/\kvs.lookup z=some v/\Q v H):=by
 intro m k l s σ H x y v u Q I g d h i;obtain ⟨z,r,rfl,rfl,e,q⟩:=h;cases g;obtain ⟨t,rfl⟩:=d;obtain ⟨f,c,j⟩:=D.mapOf I.kIn;have b:=j z;rw [e] at b;cases ef:f z with
 | none=>rw [ef] at b;exact b.elim
 | some u=>rw [ef] at b;exact tail_any c.typeIs slot_dict_getitem.lookup (wpAny_getItem_of (k9 X.prog X.w z t) c ef ⟨r,H,I.tok _,b,q⟩) i
structure KDictT (K:j0) (P:O0) (a:Addr) (kvs:List ((Str×Str)×V)):Prop where
 ex :∃es n,K.lookup a=some ⟨.type "dict",none,.dict es n,#[]⟩/\p9 (λ (p:(Str×Str)×V) (e:DictEntry)=>(∃(b:Addr) (t t':Tok) (m:Nat),e.key=.ref b/\K.lookup b=some ⟨.type "tuple",none,.seq #[.str p.1.1 t,.str p.1.2 t'] m,#[]⟩)/\
  e.hash=Q1 (A0 [g0 P p.1.1,g0 P p.1.2])/\RelV p.2 e.val) kvs es.toList
 nd:(kvs.map (·.1)).Nodup
 lo:(a == v5)=false
theorem zg5 {prog:Program} {w:Z0} {K:j0} {h:Heap} (k:K.In h) :∀{kvs:List ((Str×Str)×V)} {es:List DictEntry},
  p9 (λ (p:(Str×Str)×V) (e:DictEntry)=>(∃(b:Addr) (t t':Tok) (m:Nat),e.key=.ref b/\K.lookup b=some ⟨.type "tuple",none,.seq #[.str p.1.1 t,.str p.1.2 t'] m,#[]⟩)/\
   e.hash=Q1 (A0 [g0 w.params p.1.1,g0 w.params p.1.2])/\RelV p.2 e.val) kvs es->
  ∃xs:List (List Str×Addr×Value),es=xs.map (entryOfKey (O6 (strKind prog w)))/\(∀x∈xs,(O6 (strKind prog w)).is h x.1 x.2.1)/\xs.map (·.1)=kvs.map (λ p=>[p.1.1,p.1.2])/\
   ∀a b,RelO (kvs.lookup (a,b)) ((j05 xs [a,b]).map (·.2)):=by
 intro kvs es r;induction r with
 | nil=>exact ⟨[],rfl,λ x f=>absurd f K0,rfl,λ a b=>True.intro⟩
 | @cons p e kvs es hpe t ih=>
  obtain ⟨xs,u,A,v,o⟩:=ih;obtain ⟨⟨b,B,C,m,i,y⟩,g,s⟩:=hpe;refine ⟨([p.1.1,p.1.2],b,e.val) :: xs,?_,?_,?_,?_⟩
  ·rw [U1,<-u];congr 1;obtain ⟨n,q,D⟩:=e;have i:q=.ref b:=i;have g:n=_:=g;subst i g;rfl
  ·intro x f;rcases List.mem_cons.mp f with rfl|f
   ·exact ⟨_,_,m,k _ _ y,rfl,rfl,.cons (k9 prog w _ _) (.cons (k9 prog w _ _) .nil)⟩
   ·exact A x f
  ·rw [U1,U1,v]
  ·intro c d;have:=o c d;rw [b5];unfold j05 at this⊢;rw [T4];by_cases hcd:(c,d)=p.1
   ·have j:((c,d) == p.1)=true:=by rw [beq_iff_eq];exact hcd
    rw [j];have l:decide ([p.1.1,p.1.2]=[c,d])=true:=by rw [<-hcd];simp
    rw [l];exact s
   ·have j:((c,d) == p.1)=false:=by rw [beq_eq_false_iff_ne];exact hcd
    rw [j];have l:decide ([p.1.1,p.1.2]=[c,d])=false:=by rw [decide_eq_false_iff_not];intro z;injection z with z1 z;injection z with z2 _;exact hcd (j42 z1.symm z2.symm)
    rw [l];exact this
theorem z79 :∀{l:List (Str×Str)},l.Nodup->(l.map λ p=>[p.1,p.2]).Nodup
 | [],_=>List.nodup_nil
 | p :: r,h=>by obtain ⟨a,c⟩:=List.nodup_cons.mp h;rw [U1];refine List.nodup_cons.mpr ⟨λ m=>a ?_,z79 c⟩;obtain ⟨q,b,e⟩:=List.mem_map.mp m;injection e with e1 e;injection e with e2 _;have:q=p:=j42 e1 e2;exact this ▸ b
theorem KDictT.dict {a:Addr} {kvs:List ((Str×Str)×V)} (D:KDictT X.K X.w.params a kvs) {h:Heap} (k:X.K.In h) :∃xs,h.DictOfH (O6 (strKind X.prog X.w)) a xs/\∀c d,RelO (kvs.lookup (c,d)) ((j05 xs [c,d]).map (·.2)):=by obtain ⟨f,n,e,r⟩:=D.ex;obtain ⟨xs,b,j,g,i⟩:=zg5 (prog:=X.prog) (w:=X.w) k r;refine ⟨xs,⟨_,f,n,k _ _ e,⟨rfl,rfl,rfl⟩,rfl,b,j,?_⟩,i⟩;rw [g];have:=z79 D.nd;rw [B5] at this;exact this
theorem zkf {pins:List (Addr×Obj)} {σ:St} {H:Hp} {s:B0} {p:Addr} {c d:Str} (I:Inv X pins σ H s) (hp:H p=some (.tup [.str c,.str d])):(O6 (strKind X.prog X.w)).is s.heap [c,d] p:=by
 obtain ⟨_,h,a,⟨o,f,e,n,b⟩,_⟩:=(show ObjOk X.prog X.w H s.heap p (.tup [.str c,.str d]) from I.hok p _ hp)
 cases a with
 | cons r1 a=>
  cases a with
  | cons r2 a=>cases a;obtain ⟨g,rfl⟩:=r1;obtain ⟨i,rfl⟩:=r2;exact ⟨o,_,n,f,e,b,.cons (k9 X.prog X.w _ _) (.cons (k9 X.prog X.w _ _) .nil)⟩
theorem za8 {a:Addr} {kvs:List ((Str×Str)×V)} (hu:X.A.units + 1 < cLine) (D:KDictT X.K X.w.params a kvs) :
  OpR X (X2 .NotIn) (λ x y H Q=>∃p c d,x=.ref p/\H p=some (.tup [.str c,.str d])/\y=.ref a/\Q (.bl (!(kvs.lookup (c,d)).isSome)) H):=by
 intro l s σ H x y v u Q I i e h;obtain ⟨p,c,d,rfl,f,rfl,q⟩:=h;cases i;cases e;obtain ⟨j,b,g⟩:=D.dict I.kIn;refine wpAny_notIn_heap (k:=[c,d]) hu (zkf I f) D.lo b ⟨.bl _,H,I.tok _,rfl,?_⟩;have:=RelO.isSome_eq (g c d);rw [F9] at this;rw [this] at q;exact q
end
structure Cal (P:Program) (w:Z0) (K:j0) (mg:Str->Option Value) (base:Heap) (x:Str) (ps:List Str) (k:Nat) (sp:Sp):Prop where
 ex :∃f fd,FnOk P w K mg base CX0 k f fd ps sp/\mg x=some (.ref f)/\X4 K (.ref f)=true/\Binds K fd ps []
section
variable {X:Cx} {x:Str} {ps:List Str} {k:Nat} {sp:Sp} {e:Expr} {es:List Expr} {t:TA} {p pos:Pos}
theorem pe_cal (c:Cal X.prog X.w X.K X.mg X.base x ps k sp) (hr:Room k X.A) (hg:Gl X x) (ha:PA X (e :: es) t) (hn:x≠"__name__":=by decide) (hdb:(x == ("__debug__" : Str))=false:=by decide)
  (he:G1 (e :: es) X.env=(false,R3 e X.env) :: G1 es X.env:=by rfl) (hpl:(O4 pos (G1 es X.env)).any (·.1)=false:=by rfl):PE X (.Call (.Name x p) (e :: es) [] pos) (tCall sp [] E0 t):=by
 obtain ⟨f,g,F,d,a,b⟩:=c.ex;exact zf3 F hr hg d a b .nil pass0 ha hdb he hpl
end
structure TX (K:j0) (mg:Str->Option Value):Prop where
 of :∀{n:Str} {v:Value},N3 K P2 n=some (some v)->mg n=some v
 no :∀{n:Str},N3 K P2 n=some none->mg n=none
theorem TX.mk' {K:j0} {mg:Str->Option Value} {h:Heap} (X:K.In h) (G:h.Ns P2 mg):TX K mg:=⟨λ e=>PySem.W.mg_of X G e,λ e=>PySem.W.mg_none_of X G e⟩
section
variable {X:Cx}
noncomputable def rAdd4 (K:j0):R2:=λ x y H Q=>(∃i j,x=.int i/\y=.int j/\Q (.int (i + j)) H)\/(∃i j,x=.str i/\y=.str j/\i.length + j.length<=sizeLine/\Q (.str (i++j)) H)\/rCat x y H Q\/rCatT K x y H Q
theorem opAdd:OpR X (o6 .Add) (rAdd4 X.K):=op_add.or (op_add_str.or (op_cat.or zkq))
theorem opEq:OpR X (X2 .Eq) rEq:=op_eq
theorem opNe:OpR X (X2 .NotEq) rNe:=op_ne
theorem z0l:CallR X (.builtin "len") (λ xs H Q=>(∃p ys,xs=[.ref p]/\(SqL X.K H p ys\/SqT X.K H p ys)/\Q (.int ys.length) H)\/∃z,xs=[.str z]/\z.length<=sizeLine/\Q (.int z.length) H):=call_len_seq.or zao
end
noncomputable def z0j (x:V) (g:Int):Bool:=match x with
 | .int i=>decide (-g<=i) && decide (i<=g)
 | _=>false
noncomputable def tupOf (H:Hp) (x:V):Option (List V):=match x with
 | .ref a=>(match H a with|some (.tup xs)=>some xs|_=>none)
 | _=>none
theorem zez {H H':Hp} {x:V} {T:String} (t:TagOf H x T) (e:Same H H'):tupOf H' x=tupOf H x:=by
 cases x with
 | ref a=>rcases t with ⟨⟨b,h⟩,_⟩|⟨⟨b,h⟩,_⟩|⟨⟨b,h⟩,_⟩<;>(unfold tupOf;dsimp only;rw [h,e a _ h])
 | _=>rfl
theorem TagOf.same {H H':Hp} {x:V} {T:String} (t:TagOf H x T) (e:Same H H'):TagOf H' x T:=by
 cases x with
 | ref a=>
  rcases t with ⟨⟨b,h⟩,z⟩|⟨⟨b,h⟩,z⟩|⟨⟨b,h⟩,z⟩
  ·exact .inl ⟨⟨b,e a _ h⟩,z⟩
  ·exact .inr (.inl ⟨⟨b,e a _ h⟩,z⟩)
  ·exact .inr (.inr ⟨⟨b,e a _ h⟩,z⟩)
 | _=>exact t
theorem TagOf.tuple {H:Hp} {x:V} (t:TagOf H x "tuple") :∃a xs,x=.ref a/\H a=some (.tup xs):=by
 cases x with
 | ref a=>
  rcases t with ⟨_,z⟩|⟨⟨xs,h⟩,_⟩|⟨_,z⟩
  ·exact absurd z (by decide)
  ·exact ⟨a,xs,rfl,h⟩
  ·exact absurd z (by decide)
 | non=>exact absurd (show "tuple" = "NoneType" from t) (by decide)
 | bl b=>exact absurd (show "tuple" = "bool" from t) (by decide)
 | int i=>exact absurd (show "tuple" = "int" from t) (by decide)
 | str z=>exact absurd (show "tuple" = "str" from t) (by decide)
 | _=>exact t.elim
theorem TagOf.int {H:Hp} {x:V} (t:TagOf H x "int") :∃i,x=.int i:=by
 cases x with
 | ref a=>rcases t with ⟨_,z⟩|⟨_,z⟩|⟨_,z⟩<;>exact absurd z (by decide)
 | non=>exact absurd (show "int" = "NoneType" from t) (by decide)
 | bl b=>exact absurd (show "int" = "bool" from t) (by decide)
 | int i=>exact ⟨i,rfl⟩
 | str z=>exact absurd (show "int" = "str" from t) (by decide)
 | _=>exact t.elim
theorem TagOf.str {H:Hp} {x:V} (t:TagOf H x "str") :∃z,x=.str z:=by
 cases x with
 | ref a=>rcases t with ⟨_,z⟩|⟨_,z⟩|⟨_,z⟩<;>exact absurd z (by decide)
 | non=>exact absurd (show "str" = "NoneType" from t) (by decide)
 | bl b=>exact absurd (show "str" = "bool" from t) (by decide)
 | int i=>exact absurd (show "str" = "int" from t) (by decide)
 | str z=>exact ⟨z,rfl⟩
 | _=>exact t.elim
theorem noInt {H:Hp} {x:V} {T:String} (t:TagOf H x T) (h:T≠"int") (g:Int):z0j x g=false:=by
 cases x with
 | int i=>exact absurd t h
 | _=>rfl
theorem noTup {H:Hp} {x:V} {T:String} (t:TagOf H x T) (h:T≠"tuple"):tupOf H x=none:=by
 cases x with
 | ref a=>
  rcases t with ⟨⟨b,e⟩,_⟩|⟨_,z⟩|⟨⟨b,e⟩,_⟩
  ·unfold tupOf;dsimp only;rw [e]
  ·exact absurd z h
  ·unfold tupOf;dsimp only;rw [e]
 | _=>rfl
theorem z4x {H:Hp} {x:V} {T:String} (t:TagOf H x T) {C:String} (h:C≠"int"):instB T C=decide (T=C):=by
 unfold instB;have:(C == "int")=false:=by simpa using h
 rw [this,j18,E9,Bool.beq_eq_decide_eq]
def Flat (H:Hp) (x:V):Prop:=∀xs,tupOf H x=some xs->xs.length<=1000/\∀y∈xs,∃T,TagOf H y T
theorem z5n {α β:Type} [BEq α] [LawfulBEq α] {l:List (α×β)} {a:α} {b:β} (h:l.lookup a=some b):(a,b)∈l:=by
 induction l with
 | nil=>cases h
 | cons p r ih=>
  obtain ⟨c,d⟩:=p;rw [b5] at h;cases hc:(a == c) with
  | true=>rw [hc] at h;cases h;rw [eq_of_beq hc];exact R1
  | false=>rw [hc] at h;exact O1 _ (ih h)
theorem zby {names:List (Str×v6)} {Q:Str×v6->Prop} (h:(names.all λ y=>y.2 != F2)=true) :∀y∈names,y.2=F2->Q y:=λ y a e=>by have:=List.all_eq_true.mp h y a;rw [e] at this;exact absurd this (by decide)
theorem Same.upd {H:Hp} {p:Addr} {o:HO} (h:H p=none):Same H (upd H p o):=λ b u e=>by rw [upd_ne (z0o e h)];exact e
theorem Same.seqT {K:j0} {H H':Hp} {a:Addr} {xs:List V} (e:Same H H') (h:SqT K H a xs):SqT K H' a xs:=by
 rcases h with (h|⟨o,h⟩)|h
 ·exact .inl (.inl (e _ _ h))
 ·exact .inl (.inr ⟨o,e _ _ h⟩)
 ·exact .inr h
theorem zee {H:Hp} {x:V} {xs:List V} (h:tupOf H x=some xs) :∃a,x=.ref a/\H a=some (.tup xs):=by
 unfold tupOf at h;cases x with
 | ref a=>
  dsimp only at h;split at h
  ·rename_i ys e;exact ⟨a,rfl,by rw [e,O2 h]⟩
  ·cases h
 | _=>cases h
end L2
namespace L2
open PySem PySem.Spec PyProof.Rows
open Builtin.Str (occurrences partsBetween strKind)
section
variable {X:Cx}
theorem zbu {vl:Value} {lo:Option Int} (p:j0c vl lo) :∃l:Option (Int×Tok),vl=partValue l/\l.map (·.1)=lo:=by
 cases p with
 | none=>exact ⟨none,rfl,rfl⟩
 | int i t=>exact ⟨some (i,t),rfl,rfl⟩
end
end L2
namespace L2
open PySem PySem.Spec PyProof.Rows
section
variable {X:Cx}
def rSlS:V->Option Int->Option Int->Hp->VK->Prop:=λ x lo hi H Q=>∃z,x=.str z/\z.length<=sizeLine/\Q (.str (Txt.slice z lo hi)) H
theorem sl_str:SlR X rSlS:=by
 intro o s σ H x v m r j p n Q I b f c i h;obtain ⟨z,rfl,g,q⟩:=h;obtain ⟨t,rfl⟩:=b;obtain ⟨l,rfl,a⟩:=zbu c;obtain ⟨u,rfl,e⟩:=zbu i;subst a e;refine ⟨"str",_,F.slot_str_getitem.lookup,typeIs_str _ _ _,wpAny_getItem_str_slice (l:=l) (u:=u) (st:=none) f rfl
  (post_val_or_str ⟨L0 (Txt.slice_le z _ _) g,λ d k=>⟨.str (Txt.slice z _ _),H,I.tok k,⟨d,rfl⟩,q⟩⟩)⟩
theorem slSeq:SlR X (λ x lo hi H Q=>rSlL X.K x lo hi H Q\/rSlT X.K x lo hi H Q\/rSlS x lo hi H Q):=sl_list.or (sl_tup.or sl_str)
end
def RowAt (H:Hp) (r:Addr):Prop:=∃a b c:Int,H r=some (.lst [.int a,.int b,.int c])/\0<=c/\c < 536870909
def Kept (r:Addr) (H H':Hp):Prop:=∀b o,b≠r->H b=some o->H' b=some o
theorem Kept.refl {r:Addr} {H:Hp}:Kept r H H:=λ _ _ _ h=>h
theorem Kept.trans {r:Addr} {H H1 H2:Hp} (a:Kept r H H1) (b:Kept r H1 H2):Kept r H H2:=λ c o n h=>b c o n (a c o n h)
theorem Same.kept {r:Addr} {H H':Hp} (s:Same H H'):Kept r H H':=λ b o _ h=>s b o h
theorem Kept.set {r:Addr} {H:Hp} {o:HO}:Kept r H (upd H r o):=λ b u n h=>by rw [upd_ne n];exact h
structure Rw (r:Addr) (H H':Hp):Prop where
 k:Kept r H H'
 r:RowAt H' r
section
variable {r:Addr} {σ:St} {H0:Hp} {K:j0}
theorem zhx {ta:TA} {g:TG} {rest:TS} {D:Ends} {σ:St} {H:Hp} (h:tLst ta σ H λ x H1=>g x σ H1 (rest D)):tSeq (tAsg (tLst ta) g) rest D σ H:=h
theorem g_name {i:Nat} {v:V} {σ:St} {H:Hp} {Q:St->Hp->Prop} (h:Q (σ.set i (some v)) H):gName i v σ H Q:=h
theorem t_nx {nx ct bk:St->Hp->Prop} {rt:VK} {σ:St} {H:Hp} (h:nx σ H):Ends.nx { nx:=nx,rt:=rt,bk:=bk,ct:=ct } σ H:=h
theorem zid {xs:List V} {lo hi:Option Int} {y:V} (h:y∈cutV xs lo hi):y∈xs:=List.mem_of_mem_drop (List.mem_of_mem_take h)
end
end L2
namespace L2
open PySem
section
variable {prog:Program} {w:Z0} {A:K2} {E:Value->B0->Prop} {s:B0}
structure ZApart (z T U i j a b:Addr):Prop where
 dis:[z,T,U,i,j].Nodup
 fa:a∉[z,T,U,i,j]
 fb:b∉[z,T,U,i,j]
structure ZAt (h:Heap) (z T U i j a b:Addr) (n:Nat) (f:Value):Prop where
 z:IsZip h z T U f
 t:IsPair h T (.ref i) (.ref j)
 u :∃p q,IsPair h U p q
 i:h.IsTupleIter i a n
 j:h.IsTupleIter j b n
end
end L2
namespace L2
open PySem PySem.Spec PyProof.Rows
inductive Dt where
 | non|bl (b:Bool)|int (i:Int)|str (z:Str)|tup (ds:List Dt)
mutual
noncomputable def IsDt (K:j0) (H:Hp):Dt->V->Prop
 | .non,v=>v=.non
 | .bl b,v=>v=.bl b
 | .int i,v=>v=.int i
 | .str z,v=>v=.str z
 | .tup ds,v=>∃a xs,v=.ref a/\SqT K H a xs/\IsDts K H ds xs
noncomputable def IsDts (K:j0) (H:Hp):List Dt->List V->Prop
 | [],xs=>xs=[]
 | d :: ds,xs=>∃x r,xs=x :: r/\IsDt K H d x/\IsDts K H ds r
end
mutual
noncomputable def Dt.deep:Dt->Nat
 | .tup ds=>Dt.deeps ds + 1
 | _=>0
noncomputable def Dt.deeps:List Dt->Nat
 | []=>0
 | d :: ds=>max d.deep (Dt.deeps ds)
noncomputable def Dt.plain:Dt->Bool
 | .int _=>true
 | .str _=>true
 | .tup ds=>Dt.plains ds
 | _=>false
noncomputable def Dt.plains:List Dt->Bool
 | []=>true
 | d :: ds=>d.plain && Dt.plains ds
end
section
variable {X:Cx}
theorem Inv.turnedL {pins:List (Addr×Obj)} {σ:St} {H:Hp} {s:B0} {h':Heap} {t':Nat} {fp:List Addr} (I:Inv X pins σ H s) (k :∀b o,b∉fp->s.heap.get? b=some o->h'.get? b=some o) (hf :∀b∈fp,FpOk X pins H b) :
  Inv X pins σ H { s with heap:=h',toks:=t' }:=by
 have f :∀b u,H b=some u->b∉fp:=λ b u e z=>by have:=(hf b z).1;rw [this] at e;cases e
 refine I.step (g':=s.gens) (d':=s.drawn) (ch:=fp) (λ b d=>⟨(hf b d).2.2.2.1,(hf b d).2.1,(hf b d).2.2.2.2.1,(hf b d).2.2.2.2.2⟩) (λ b o _ _ a e _=>k b o a e) (λ b o _ _ a e _=>⟨o.slots,k b o a e⟩) (λ _ _ _ _ n=>n)
  (λ b o a e=>⟨o,k b o a e⟩) (λ _ _ e=>e) (λ _ _ _ e=>e) (λ b l e=>⟨#[],by rw [e];simp⟩) (λ m g=>?_) (λ b u e=>?_) I.bare
 ·obtain ⟨o,h,i,j,r⟩:=g;exact ⟨o,h,i,k _ o (λ z=>(hf _ z).2.1 rfl) j,r⟩
 ·refine (I.hok b u e).stay (λ c v a q=>k c v ?_ q) (λ _ q=>q) λ _ _ q=>q;rcases a with z|z
  ·rw [z];exact f b u e
  ·exact f c _ z
theorem Inv.turnedLaid {pins:List (Addr×Obj)} {σ:St} {H:Hp} {s:B0} {h':Heap} {t':Nat} {fp:List Addr} {a:Addr} {o:HO} (I:Inv X pins σ H s) (k :∀b o,b∉fp->s.heap.get? b=some o->h'.get? b=some o) (hf :∀b∈fp,FpOk X pins H b)
  (hp:s.heap.objs.size<=a) (new:ObjOk X.prog X.w (upd H a o) h' a o):Inv X pins σ (upd H a o) { s with heap:=h',toks:=t' }:=by
 have i:H a=none:=I.hok.fresh hp;have h :∀b u,H b=some u->b∉fp:=λ b u e z=>by have:=(hf b z).1;rw [this] at e;cases e
 have g :∀b u,H b=some u->upd H a o b=some u:=λ b u e=>by rw [upd_ne (z0o e i)];exact e
 refine I.step (g':=s.gens) (d':=s.drawn) (ch:=fp) (λ b d=>⟨(hf b d).2.2.2.1,(hf b d).2.1,(hf b d).2.2.2.2.1,(hf b d).2.2.2.2.2⟩) (λ b o _ _ f e _=>k b o f e) (λ b o _ _ f e _=>⟨o.slots,k b o f e⟩)
  (λ b u _ e n=>by rw [upd_ne (λ z=>by subst z;exact absurd (Q0 e) (Nat.not_lt.mpr hp))];exact n)
  (λ b o f e=>⟨o,k b o f e⟩) (λ _ _ e=>g _ _ e) (λ _ _ _ e=>g _ _ e) (λ b x e=>⟨#[],by rw [g _ _ e];simp⟩) (λ m t=>?_) (λ b u e=>?_) I.bare
 ·obtain ⟨o,l,j,p,r⟩:=t;exact ⟨o,l,j,k _ o (λ z=>(hf _ z).2.1 rfl) p,r⟩
 ·by_cases d:b=a
  ·subst d;rw [z03] at e;cases e;exact new
  ·rw [upd_ne d] at e;refine (I.hok b u e).stay (λ c v f q=>k c v ?_ q) (λ c q=>g _ _ q) λ c y q=>g _ _ q;rcases f with z|z
   ·rw [z];exact h b u e
   ·exact h c _ z
theorem z0r {o e:Expr} {es:List Expr} {to:TE} {t:TA} {apos cpos:Pos} (ho:PE X o to) (ha:PA X (e :: es) t)
  (hbase:w5 o "append" X.env (R3 o X.env)=R3 o X.env:=by rfl)
  (hfew:((O4 cpos (G1 (e :: es) X.env)).all (λ x=>!x.1) && (W8 cpos (P6 [] X.env)).all (λ x=>x.1.isSome)
   && decide ((e :: es).length + ([]:List G6).length + (if ([]:List G6).isEmpty then 0 else 1) < 30))=true:=by rfl)
  (hline:(apos.endLine == cpos.line)=true:=by rfl) (hs:G1 (e :: es) X.env=(false,R3 e X.env) :: G1 es X.env:=by rfl) (hplain:(O4 cpos (G1 es X.env)).any (·.1)=false:=by rfl) :
  PE X (.Call (.Attribute o "append" apos) (e :: es) [] cpos) (tBM X.K "list" zi6 to t):=pe_bm X7 PySem.F.slot_list_append PySem.F.type_list_append zfx ho ha hbase hfew hline hs hplain
end
theorem iteP {c A B:Prop} [Decidable c] (hc:c) (h:A):if c then A else B:=by rw [if_pos hc];exact h
theorem iteN {c A B:Prop} [Decidable c] (hc:¬ c) (h:B):if c then A else B:=by rw [if_neg hc];exact h
theorem zjl {names:List (Str×v6)} {n:Str} {Q:Str×v6->Prop} (h:(names.all λ y=>y.2 != F2 || y.1 == n)=true) (q :∀k,Q (n,k)) :∀y∈names,y.2=F2->Q y:=λ y c e=>by
 have:=List.all_eq_true.mp h y c;rw [e] at this;have:(y.1 == n)=true:=by simpa using this
 obtain ⟨a,b⟩:=y;rw [beq_iff_eq] at this;have:a=n:=this;subst this;exact q b
theorem ObjOk.there {P:Program} {w:Z0} {H:Hp} {h:Heap} {a:Addr} {o:HO} (x:ObjOk P w H h a o) :∃ob,h.get? a=some ob:=by
 cases o with
 | lst xs=>obtain ⟨_,_,_,_,e⟩:=x;exact ⟨_,e⟩
 | tup xs=>obtain ⟨_,_,_,⟨o,e,_⟩,_⟩:=x;exact ⟨_,e⟩
 | dK kvs=>obtain ⟨_,_,_,_,o,_,_,e,_⟩:=x;exact ⟨_,e⟩
 | dT kvs=>obtain ⟨_,_,_,_,o,_,_,e,_⟩:=x;exact ⟨_,e⟩
 | set S n=>obtain ⟨o,_,_,_,e,_⟩:=x;exact ⟨_,e⟩
 | ins C dx fs=>obtain ⟨_,_,_,e,_⟩:=x;exact ⟨_,e⟩
 | own y=>exact x
 | xd fs=>obtain ⟨_,⟨o,_,_,e,_⟩,_⟩:=x;exact ⟨_,e⟩
 | rng lo hi=>obtain ⟨_,_,_,e⟩:=x;exact ⟨_,e⟩
 | frz ob u=>obtain ⟨e,_⟩:=x;exact ⟨_,e⟩
 | tbl ps=>exact ⟨_,show h.get? a=some _ from x⟩
 | met f y=>exact ⟨_,show h.get? a=some _ from x⟩
 | ext φ=>exact x.2.1
noncomputable def CXE (P:Program) (w:Z0) (base:Heap):CXT:=λ outer H s E e s'=>∃(ea:Addr) (cls a0:Value) (B:Heap) (H':Hp),e=.ref ea/\s'.os=s.os/\F8 s'.gens/\Un (frs outer) [] H H' s.heap s'.heap/\HOk P w H' s'.heap/\H' ea=none/\
 base.StaysIn B/\Heap.FlyingW B outer ea cls a0 s'.heap/\(∀b o,s'.heap.get? b=some o->b∉frs outer->((∃u,H' b=some u)\/∃u,s.heap.get? b=some u)->B.get? b=some o)/\E cls none H'
theorem passN {X:Cx}:Passes (CXE X.prog X.w X.base) X E0:=λ _ _ _ _ _ _ _ ⟨_,_,_,_,_,_,_,_,_,_,_,_,_,_,z⟩=>z.elim
theorem zet {env:Env} {l:List Env} {L:Addr} (h:env.frame=some L):frs (env :: l)=L :: frs l:=by unfold frs;rw [A7,h]
section
variable {P:Program} {w:Z0} {K:j0} {mg:Str->Option Value} {base:Heap} {N:List Str} {qual:Str} {scope:Scope} {f:Addr} {cd:Value} {A:K2} {outer:List Env} {s:B0} {H:Hp} {E:XK}
theorem passE:Passes (CXE P w base) (cxOf (CXE P w base) P w K mg base N qual scope f cd A outer s H E) E:=by
 intro a8 σ V x e r I c;obtain ⟨ea,a3,a0,B,y,rfl,os,a5,un,a2,M,hB,X,keep,hE⟩:=c;have O:frs (K4 qual scope s.heap.objs.size f cd :: outer)=s.heap.objs.size :: frs outer:=zet rfl;have kp :∀b o,r.heap.get? b=some o->b∉s.heap.objs.size :: frs outer->((∃u,y b=some u)\/∃u,x.heap.get? b=some u)->B.get? b=some o:=λ b o e a D=>keep b o e (by rw [show frs (cxOf (CXE P w base) P w K mg base N qual scope f cd A outer s H E).stack=_ from O];exact a) D;have p:Un (s.heap.objs.size :: frs outer) [] V y x.heap r.heap:=O ▸ un;have i:Un (frs outer) [] H V s.heap x.heap:=I.base;have T :∀b o,s.heap.get? b=some o->b≠s.heap.objs.size:=λ b o e=>Y0 (Q0 e);have Y :∀b∈s.heap.objs.size :: frs outer,y b=none:=λ b a=>by
  rcases List.mem_cons.mp a with rfl|a
  ·obtain ⟨m,M,_⟩:=I.loc;obtain ⟨o,_,_,G,_⟩:=M;exact p.free _ o G I.free (by simp)
  ·obtain ⟨_,o,G,_⟩:=I.ok.funs.mem a;obtain ⟨l,L⟩:=i.there b o G (by simp);exact p.free b l L (i.free b o G (I.ok.frf b a) (by simp)) (by simp)
 show S0 (J1 P w) _ («leaving» _ _) _ _ r;refine wpAny_leaves_onW I.ok.frames rfl X λ J Q up=>?_;have stay :∀b o,r.heap.get? b=some o->b∉s.heap.objs.size :: frs outer->((∃u,y b=some u)\/∃u,x.heap.get? b=some u)->J.get? b=some o:=λ b o e a D=>Q.1 b o (kp b o e a D);have a1 :∀b o,b∈frs outer->r.heap.get? b=some o->∃S,J.get? b=some { o with slots:=S }:=λ b o a e=>by
  obtain ⟨_,l,L,hd⟩:=X.2.2.1.mem (show b∈(K4 qual scope s.heap.objs.size f cd :: outer).filterMap (·.frame) from by show b∈frs (K4 qual scope s.heap.objs.size f cd :: outer);rw [O];exact O1 _ a);rw [e] at L;cases L;exact up b o e hd
 have there :∀b o,s.heap.get? b=some o->∃j k,x.heap.get? b=some j/\r.heap.get? b=some k:=λ b o e=>by obtain ⟨j,d⟩:=i.there b o e (by simp);obtain ⟨k,h⟩:=p.there b j d (by simp);exact ⟨j,k,d,h⟩
 refine ⟨ea,a3,a0,B,y,rfl,os.trans I.os,a5,⟨λ b o e n a _=>?_,λ b o e n a _=>?_,λ b o e n _=>?_,λ b o e _=>?_,λ b Z e=>p.tups b Z (i.tups b Z e),λ b o u e=>p.frzs b o u (i.frzs b o u e),λ b ps e=>?_⟩,λ b u e=>?_,M,hB,Q,λ b o e a D=>?_,hE⟩
 ·have d:=i.keep b o e n a (by simp);have F:b∉s.heap.objs.size :: frs outer:=λ z=>(List.mem_cons.mp z).elim (T b o e) a;exact stay b o (p.keep b o d (i.free b o e n (by simp)) F (by simp)) F (.inr ⟨o,d⟩)
 ·obtain ⟨S,d⟩:=i.slot b o e n a (by simp);obtain ⟨a7,h⟩:=p.slot b _ d (i.free b o e n (by simp)) (O1 _ a) (by simp);obtain ⟨a6,U⟩:=a1 b _ a h;exact ⟨a6,U⟩
 ·obtain ⟨j,k,d,h⟩:=there b o e;exact p.free b j d (i.free b o e n (by simp)) (by simp)
 ·obtain ⟨j,k,d,h⟩:=there b o e;by_cases a:b∈frs outer
  ·obtain ⟨S,U⟩:=a1 b k a h;exact ⟨_,U⟩
  ·exact ⟨k,stay b k h (λ z=>(List.mem_cons.mp z).elim (T b o e) a) (.inr ⟨j,d⟩)⟩
 ·obtain ⟨m1,d⟩:=i.tbls b ps e;obtain ⟨m2,h⟩:=p.tbls b _ d;exact ⟨m1++m2,by rw [h,Array.append_assoc]⟩
 ·refine (a2 b u e).stay (λ c v C q=>stay c v q ?_ (.inl ?_)) (λ _ q=>q) λ _ _ q=>q
  ·intro z;have:=Y c z;rcases C with rfl|C
   ·rw [e] at this;cases this
   ·rw [C] at this;cases this
  ·rcases C with rfl|C
   ·exact ⟨u,e⟩
   ·exact ⟨_,C⟩
 ·have W :∀l,r.heap.get? b=some l->b∉s.heap.objs.size :: frs outer->((∃u,y b=some u)\/∃u,x.heap.get? b=some u)->B.get? b=some o:=λ l R F a4=>by have g:=kp b l R F a4;have:=Q.1 b l g;rw [show ({ r with heap:=J }:B0).heap.get? b=J.get? b from rfl,this] at e;cases e;exact g
  rcases D with ⟨u,t⟩|⟨u,t⟩
  ·obtain ⟨l,R⟩:=(a2 b u t).there;refine W l R (λ z=>?_) (.inl ⟨u,t⟩);rw [Y b z] at t;cases t
  ·obtain ⟨j,k,d,h⟩:=there b u t;exact W k h (λ z=>(List.mem_cons.mp z).elim (T b u t) a) (.inr ⟨j,d⟩)
theorem raiseE {pins:List (Addr×Obj)} {σ:St} {H1:Hp} {s1:B0} {h':Heap} {ea C:Addr} {args:List Value} (I:Inv (cxOf (CXE P w base) P w K mg base N qual scope f cd A outer s H E) pins σ H1 s1) (hx:Heap.MadeExcOf s1.heap h' ea (.ref C) args) (hE:E (.ref C) none H1) :
  (cxOf (CXE P w base) P w K mg base N qual scope f cd A outer s H E).xe (.ref ea) { s1 with heap:=h' }:=by
 have m:frs (K4 qual scope s.heap.objs.size f cd :: outer)=s.heap.objs.size :: frs outer:=zet rfl;have h:Un (frs outer) [] H H1 s.heap s1.heap:=I.base;have D :∀b o,s.heap.get? b=some o->b≠s.heap.objs.size:=λ b o e=>Y0 (Q0 e);have F:s1.heap.FunFrames base (K4 qual scope s.heap.objs.size f cd :: outer):=I.stack;have S :∀J∈(K4 qual scope s.heap.objs.size f cd :: outer),∀a,J.frame=some a->a∈s.heap.objs.size :: frs outer:=λ J Y a ha=>by rw [<-m];exact List.mem_filterMap.mpr ⟨J,Y,ha⟩
 have M :∀b∈s.heap.objs.size :: frs outer,H1 b=none:=λ b d=>by have:=I.stkFree b (by rw [show frs (cxOf (CXE P w base) P w K mg base N qual scope f cd A outer s H E).stack=_ from m];exact d);exact this
 have V:base.StaysIn (Y9 s1.heap (s.heap.objs.size :: frs outer)):=λ b o e=>a7 _ (I.bk b o e) λ hm=>by have:=(F.mem (show b∈(K4 qual scope s.heap.objs.size f cd :: outer).filterMap (·.frame) from (show b∈frs (K4 qual scope s.heap.objs.size f cd :: outer) from by rw [m];exact hm))).1;rw [e] at this;cases this
 show S0 (J1 P w) _ («leaving» _ _) _ _ _;refine wpAny_leaves_madeW (s:={ s1 with heap:=h' }) I.ok.frames rfl (λ b o q=>j3b _ q) (PySem.W.funFrames_hide F S) hx λ p t r _ _ up=>?_;have stay :∀b o,s1.heap.get? b=some o->b∉s.heap.objs.size :: frs outer->p.get? b=some o:=λ b o e d=>r.1 b o (a7 _ e d);have O :∀b o,b∈frs outer->s1.heap.get? b=some o->∃y,p.get? b=some { o with slots:=y }:=λ b o d e=>by
  obtain ⟨_,i,Q,R⟩:=F.mem (show b∈(K4 qual scope s.heap.objs.size f cd :: outer).filterMap (·.frame) from by show b∈frs (K4 qual scope s.heap.objs.size f cd :: outer);rw [m];exact O1 _ d);rw [e] at Q;cases Q;exact up b o (hx.keeps b o e) R
 have X:H1 ea=none:=by
  cases q:H1 ea with
  | none=>rfl
  | some u=>obtain ⟨o,e⟩:=(I.hok ea u q).there;rw [hx.new] at e;cases e
 refine ⟨ea,.ref C,.ref t,_,H1,rfl,I.os,I.bare,⟨λ b o e n d _=>?_,λ b o e n d _=>?_,λ b o e n _=>h.free b o e n (by simp),λ b o e _=>?_,h.tups,h.frzs,h.tbls⟩,λ b u e=>?_,X,V,r,λ b o e d Z=>?_,hE⟩
 ·exact stay b o (h.keep b o e n d (by simp)) λ z=>(List.mem_cons.mp z).elim (D b o e) d
 ·obtain ⟨y,j⟩:=h.slot b o e n d (by simp);obtain ⟨U,G⟩:=O b _ d j;exact ⟨U,G⟩
 ·obtain ⟨l,j⟩:=h.there b o e (by simp);by_cases d:b∈frs outer
  ·obtain ⟨y,G⟩:=O b l d j;exact ⟨_,G⟩
  ·exact ⟨l,stay b l j λ z=>(List.mem_cons.mp z).elim (D b o e) d⟩
 ·refine (I.hok b u e).stay (λ c v B q=>stay c v q λ z=>?_) (λ _ q=>q) λ _ _ q=>q;have:=M c z;rcases B with rfl|B
  ·rw [e] at this;cases this
  ·rw [B] at this;cases this
 ·have L :∀i,s1.heap.get? b=some i->b∉s.heap.objs.size :: frs outer->(Y9 s1.heap (s.heap.objs.size :: frs outer)).get? b=some o:=λ i x T=>by have g:=a7 _ x T;have:=r.1 b i g;rw [show ({ s1 with heap:=p }:B0).heap.get? b=p.get? b from rfl,this] at e;cases e;exact g
  rcases Z with ⟨u,k⟩|⟨u,k⟩
  ·obtain ⟨i,x⟩:=(I.hok b u k).there;refine L i x λ z=>?_;rw [M b z] at k;cases k
  ·obtain ⟨l,j⟩:=h.there b u k (by simp);exact L l j λ z=>(List.mem_cons.mp z).elim (D b u k) d
end
theorem PS.nox {X:Cx} {st:Stmt} {t:TS} (h:PS X.nox st t):PS X st t:=λ b s σ H D I a=>b4 (h b s σ H D (I.wish _) a) (λ _ _ q=>q.unwish) λ _ _ z=>F4 z
theorem own_in {K:j0} {h₀:Heap} {mg:Str->Option Value} {x:Str} {C:Addr} {bmB:List Value} {newId:String} (X:K.In h₀) (hm:mg x=some (.ref C)) (q:f9 K C bmB newId=true):OwnCls x C bmB newId mg h₀:=by
 refine ⟨hm,?_⟩;unfold f9 at q;split at q
 ·rename_i dd cd sl ho;split at q
  ·rename_i C' bm k0 k1 k2 k3 n k5 hm' hs;simp only [P4,beq_iff_eq,Bool.not_eq_true'] at q;obtain ⟨⟨⟨⟨⟨rfl,rfl⟩,c⟩,i⟩,a⟩,b⟩:=q;obtain ⟨e,bs,o,f,k,d,g,sub,j,h,m⟩:=cd;obtain ⟨l⟩:=sl;dsimp only at hm' c a b hs;subst hm' c hs;exact ⟨bm,f,e,k,bs,d,g,sub,j,h,dd,k0,k1,k2,k3,k5,_,X _ _ ho,.of_isNs (PySem.W.isNs_of_in X a),PySem.W.nsMap_none_of_in X a b,PySem.W.tail_of_in X i⟩
  ·cases q
 ·cases q
noncomputable def tRaise (C:Addr) (E:XK) (t:TA):TS:=λ _ σ H=>t σ H λ vs H1=>vs.length<=sizeLine/\E (.ref C) none H1
section
variable {P:Program} {w:Z0} {K:j0} {mg:Str->Option Value} {base:Heap} {N:List Str} {qual:Str} {scope:Scope} {f:Addr} {cd:Value} {A:K2} {outer:List Env} {s:B0} {H:Hp} {E:XK}
theorem z89 {x:Str} {C:Addr} {B newId initId:String} {bm:List Value} {e0:Expr} {es:List Expr} {np cpos pos:Pos} {t:TA} (FB:ExcBaseFacts B newId initId bm) (hm:mg x=some (.ref C)) (hK:f9 K C bm newId=true)
  (hg:Gl (cxOf (CXE P w base) P w K mg base N qual scope f cd A outer s H E) x) (ha:PA (cxOf (CXE P w base) P w K mg base N qual scope f cd A outer s H E) (e0 :: es) t)
  (hdb:(x == ("__debug__" : Str))=false:=by decide)
  (he:G1 (e0 :: es) (K4 qual scope s.heap.objs.size f cd)=(false,R3 e0 (K4 qual scope s.heap.objs.size f cd)) :: G1 es (K4 qual scope s.heap.objs.size f cd):=by rfl)
  (hpl:(O4 cpos (G1 es (K4 qual scope s.heap.objs.size f cd))).any (·.1)=false:=by rfl) :
  PS (cxOf (CXE P w base) P w K mg base N qual scope f cd A outer s H E) (.Raise (some (.Call (.Name x np) (e0 :: es) [] cpos)) none pos) (tRaise C E t):=by
 intro i c σ b D I h;have O:OwnCls x C bm newId mg base:=own_in I.ok.mod.kin hm hK;obtain ⟨l,d,nm,q,bs,hdct,sn,sub,ab,col,dd,k0,k1,k2,k3,k5,mN,j,e,k,T⟩:=O.obj;have a:=ha cpos i c σ b _ I h;refine wpAny_Raise_call_subT (C:=C) (nm:=nm) (q:=q) (N:=d) (bs:=bs) (bm:=l) (hdct:=hdct) (sn:=sn) (sub:=sub) (ab:=ab) (col:=col) (dd:=dd) (k0:=k0) (k1:=k1) (k2:=k2) (k3:=k3) (k5:=k5)
  FB (mN:=mN) (T.hasType FB.hasBase) (I.ok.hd rfl) (by show (O4 cpos (G1 (e0 :: es) (K4 qual scope s.heap.objs.size f cd))).any (·.1)=false;rw [he];show (false || (O4 cpos (G1 es (K4 qual scope s.heap.objs.size f cd))).any (·.1))=false;rw [hpl];rfl) k (zcb I hg O.bound ⟨rfl,?_⟩ hdb)
 have g:G1 (e0 :: es) (cxOf (CXE P w base) P w K mg base N qual scope f cd A outer s H E).env=(false,R3 e0 (K4 qual scope s.heap.objs.size f cd)) :: G1 es (K4 qual scope s.heap.objs.size f cd):=he;rw [g] at a⊢;exact Z8 (b4 a (λ o p ⟨vs,H2,I2,r,hl,hE⟩=>⟨rfl,by rw [<-r.length];exact hl,I2.bk _ _ j,e.keeps I2.bk,T.keeps I2.bk,λ n m hm=>raiseE I2 hm hE⟩) λ _ _ y=>y)
theorem Fun.okE {x qual:Str} {st:Stmt} {f:Addr} {fd:FuncData} {N ps:List Str} {k:Nat} {sp:Sp} (F:Fun K x qual st f fd) (S:FnScope N ps (z07 st)) (len :∀vs H Q E,sp vs H Q E->vs.length=ps.length)
  (hbody :∀(cdv:Value) (A:K2) (outer:List Env) (s:B0) (H:Hp) (vs:List V) (Q:VK) (E:XK),Room k (A.deeper (K4 qual (z07 st) s.heap.objs.size f cdv))->sp vs H Q E->
   ∃t,PSs (cxOf (CXE P w base) P w K mg base N qual (z07 st) f cdv A outer s H E) (z63 st) t/\t { nx:=λ _ H'=>Q .non H',rt:=Q } (start N vs) H):FnOk P w K mg base (CXE P w base) (k + 1) f fd ps sp:=by
 obtain ⟨h,i,kV,j,g,m,cdv,e,l,rfl,c,b⟩:=F.ex;exact fn_of c b S len λ A outer s H vs Q E d a=>hbody cdv A outer s H vs Q E d a
end
structure CalE (P:Program) (w:Z0) (K:j0) (mg:Str->Option Value) (base:Heap) (x:Str) (ps:List Str) (k:Nat) (sp:Sp):Prop where
 ex :∃f fd,FnOk P w K mg base (CXE P w base) k f fd ps sp/\mg x=some (.ref f)/\X4 K (.ref f)=true/\Binds K fd ps []
section
variable {X:Cx} {x:Str} {ps:List Str} {k:Nat} {sp:Sp} {e:Expr} {es:List Expr} {t:TA} {p pos:Pos}
theorem zi9 (c:CalE X.prog X.w X.K X.mg X.base x ps k sp) (hr:Room k X.A) (hg:Gl X x) (ha:PA X (e :: es) t) (hn:x≠"__name__":=by decide) (hdb:(x == ("__debug__" : Str))=false:=by decide)
  (he:G1 (e :: es) X.env=(false,R3 e X.env) :: G1 es X.env:=by rfl) (hpl:(O4 pos (G1 es X.env)).any (·.1)=false:=by rfl):PE X (.Call (.Name x p) (e :: es) [] pos) (tCall sp [] E0 t):=by
 obtain ⟨f,g,F,d,a,b⟩:=c.ex;exact zf3 F hr hg d a b .nil passN ha hdb he hpl
theorem zk9 {E:XK} (hx:Passes (CXE X.prog X.w X.base) X E) (c:CalE X.prog X.w X.K X.mg X.base x ps k sp) (hr:Room k X.A) (hg:Gl X x) (ha:PA X (e :: es) t) (hn:x≠"__name__":=by decide) (hdb:(x == ("__debug__" : Str))=false:=by decide)
  (he:G1 (e :: es) X.env=(false,R3 e X.env) :: G1 es X.env:=by rfl) (hpl:(O4 pos (G1 es X.env)).any (·.1)=false:=by rfl):PE X (.Call (.Name x p) (e :: es) [] pos) (tCall sp [] E t):=by
 obtain ⟨f,g,F,d,a,b⟩:=c.ex;exact zf3 F hr hg d a b .nil hx ha hdb he hpl
end
end L2
set_option maxHeartbeats 400000
namespace L2
open PySem PySem.Spec PyProof.Rows PySem.W PySem.Calls PySem.Builtin PySem.Builtin.ObjectAttr PySem.Builtin.Getset_descriptor
end L2
namespace L2
open PySem PySem.Spec PyProof.Rows PySem.W
end L2
namespace L2
open PySem PySem.Spec PyProof.Rows
end L2
set_option maxHeartbeats 4000000
namespace L2
open PySem PySem.Spec PyProof.Rows
noncomputable def cStG (σ:St) (fr:List (Nat×Str)) (us:List (Option V)):St:=us++fr.map λ p=>(σ[p.1]?).join
noncomputable def tCompG (wi:TI) (n:Nat) (fr:List (Nat×Str)) (g:TG) (tc:TT) (te:TE):TE:=λ σ H Q=>wi σ H λ J H1=>∃W:Nat->Nat->List V->Hp->Prop,(∃m,W 0 m [] H1)/\∀i m ys H,W i m ys H->
 (J.stop i H/\ys.length<=sizeLine/\∀p,H p=none->Q (.ref p) (upd H p (.lst ys)))\/
 (J.go i H/\ys.length<=sizeLine/\∀v H',J.yld i H v H'->g v (cStG σ fr (N0 n none)) H' λ σ6 H6=>∃us,us.length=n/\σ6=cStG σ fr us/\tc (cStG σ fr us) H6 λ b H2=>if b=true then te (cStG σ fr us) H2 λ y H3=>∃m',m' < m/\W (i + 1) m' (ys++[y]) H3 else∃m',m' < m/\W (i + 1) m' ys H2)
section
variable {X:Cx}
theorem zjd {scope:Scope} {cl:List (Str×Addr)} {N:List Str} {C:Addr} {s₂:B0} {H₂:Hp} {fp:List Addr} {x:Str} {px:Pos} (i:Nat) (hN:N.Nodup) (hi:N[i]? = some x) (hx:scope.names.lookup x=some .local):PG (cxComp X scope cl N C s₂ H₂ fp) (.Name x px) (gName i):=
 z0m hN hi (.inl (lookup_relabel_local hx)) (.inr (lookup_relabel_local hx))
theorem zdj {xs:List Str} {tg:Expr} {g:TG} {pos:Pos} {elt iter:Expr} {ifs:List Expr} {scope:Scope} {fr:List (Nat×Str)} {wi:TI} {tc:TT} {te:TE} {use:Option (Value->Sem Unit)} {QQ:Value->B0->Prop} {pins:List (Addr×Obj)} {s:B0} {σ:St} {H:Hp} {Q:VK} {pp:Pos} (hcalm:X.calm=true) (hi:PI X tg iter wi)
  (hfr :∀p∈fr,X.N[p.1]? = some p.2/\(X.env.kindOf p.2=some .cell\/X.env.kindOf p.2=some .free))
  (hfree :∀y∈scope.names,y.2=F2->X.env.kindOf y.1=some .cell\/X.env.kindOf y.1=some .free)
  (hfs :∀p∈fr,(p.2,F2)∈scope.names/\((C8 scope X.env).names.lookup p.2=some .cell\/(C8 scope X.env).names.lookup p.2=some .free))
  (hcell :∀y∈scope.names,y.2≠NameKind.cell) (hkind:scope.kind=.function) (hnames :∀y∈scope.names,y.2=NameKind.local->scope.names.lookup y.1=some .local)
  (hg :∀cl C s₂ H₂ fp,PG (cxComp X scope cl (xs++fr.map (·.2)) C s₂ H₂ fp) tg g)
  (ht :∀cl C s₂ H₂ fp,PF (cxComp X scope cl (xs++fr.map (·.2)) C s₂ H₂ fp) ifs tc) (he :∀cl C s₂ H₂ fp,PE (cxComp X scope cl (xs++fr.map (·.2)) C s₂ H₂ fp) elt te)
  (hs :∀x,Y5 iter X.env x=V3 x) (I:Inv X pins σ H s) (h:tCompG wi xs.length fr g tc te σ H Q)
  (hend :∀(D:Addr) (s4:B0) (H4:Hp),Inv X pins σ H4 s4->(∃m,s4.heap.Ns (D + 1) m)->H4 (D + 1)=none->D + 1≠X.env.locals->X.s₀.heap.objs.size<=D + 1->(D + 1∉X.fs/\(∀x c,X.env.cells.lookup x=some c->c≠D + 1)/\∀p∈X.pn++pins,p.1≠D + 1)->Q (.ref D) H4->compPost (J1 X.prog X.w) X.A X.xe use QQ (.ref D) (D + 1) (.ok .next) s4) :
  S0 (J1 X.prog X.w) X.A (comprehension (.ListComp elt [⟨tg,iter,ifs,0⟩] scope pos) scope X.env pp (newList []) false (firstIter [⟨tg,iter,ifs,0⟩] X.env) use) QQ X.xe s:=by
 obtain ⟨cl,f7,U,c1⟩:=zea (scope:=scope) (env:=X.env) λ y S hk=>I.ok.has y.1 (hfree y S hk);refine wpAny_comprehension_free (use:=use) rfl hs f7 hkind hnames (thn (hi pins s σ H _ I h) λ xv s₁ h₁=>thn h₁ λ g2 s₂ h₂=>?_);obtain ⟨it,fp,tn,J,O,e,f,T,b2,L,W,⟨m0,w0⟩,d5⟩:=h₂;subst e
 -- the list that is filled,the block's names
 refine X5 (wpAny_newFunctionEnv hcell (by intro y S;simp at S) (λ h₁ a5 a1=>?_) hkind);dsimp only at a5 a1⊢;generalize hD:s₂.heap.objs.size=D at a5 a1⊢;generalize hG:s₂.heap.push { cls:=.type "list",dict:=none,data:=.seq ([]:List Value).toArray }=G at a5 a1⊢;have hC:G.objs.size=D + 1:=by rw [<-hG,J6,hD]
 generalize hCC:G.objs.size=C at a5 a1 hC⊢;subst hC;have a9 :∀b∈fp,b < D:=λ b a=>by obtain ⟨o,e,_⟩:=T.obj _ _ b2 b a;rw [<-hD];exact Q0 e
 have a3 :∀b o,s₂.heap.get? b=some o->h₁.get? b=some o:=λ b o e=>a1.extBut b o (Y0 (Q2 (by rw [<-hD];exact Q0 e))) (F0 _ (hG ▸ F0 _ e));have d4:G.get? D=some { cls:=.type "list",dict:=none,data:=.seq ([]:List Value).toArray }:=by rw [<-hG,<-hD];exact C1 _ rfl
 have e8:h₁.PlainList D #[]:=⟨0,a1.extBut _ _ (Y0 (G3 D)) (F0 _ d4)⟩
 have g1 :∀y c,cl.lookup y=some c->c < D:=λ y c e=>by obtain ⟨v,q⟩:=f.cell y c (U y c e);rw [<-hD];exact q.lt
 have f6 :∀b∈frs X.stack,b < D:=λ b a=>by
  rcases List.mem_cons.mp (f.stkSub b a) with e|a
  ·rw [e,<-hD];exact f.lt
  ·rw [<-hD];exact Nat.lt_of_not_le λ z=>f.nofs z a
 have c8 :∀b∈fp,b∉frs X.stack:=λ b a g0=>by
  rcases List.mem_cons.mp (f.stkSub b g0) with e|z
  ·exact (L b a).2.1 e
  ·exact (L b a).2.2.1 z
 generalize hX':cxComp X scope cl (xs++fr.map (·.2)) (D + 1) s₂ O fp=X';have e0:X'.Ok:=by
  subst hX';refine ⟨f.ok.mod,hkind,f.ok.glob,f.ok.blt,(by show s₂.heap.objs.size<=D + 1;omega),λ y z c P M=>f.ok.inj y z c (U _ _ P) (U _ _ M),λ y S=>?_,(λ _ _ z=>Bool.noConfusion z),f.ok.hd,f.ok.frames,.inl rfl,λ b a=>⟨?_,λ y c e=>?_⟩,λ b o e=>f.bs b o e,?_,λ b o e a=>?_,c8,f.env0.funs,f.stkFree⟩
  ·rcases S with S|S
   ·exact c1 y (z66 hcell S (.inl rfl))
   ·exact c1 y (z66 hcell S (.inr rfl))
  ·exact Y0 (Q2 (a9 b a))
  ·exact (L b a).2.2.2.2.1 y c (U y c e)
  ·exact L0 f.ok.bsz f.sz
  ·rcases (L b a).2.2.2.1 with z|z
   ·exact f.ok.noex b o e z
   ·exact absurd (G2 (Q0 (f.ok.bs b o e).1) z) (y4 _)
 have a0:X'.env.locals=D + 1:=by subst hX';rfl
 have a4:X'.env.cells=cl:=by subst hX';rfl
 have a7:X'.fs=frs X.stack:=by subst hX';rfl
 have b6:X'.pn=[]:=by subst hX';rfl
 have a6:X'.s₀=s₂:=by subst hX';rfl
 have c7:X'.H₀=O:=by subst hX';rfl
 have b3:X'.ex=fp:=by subst hX';rfl
 have c5:X'.N=xs++fr.map (·.2):=by subst hX';rfl
 have c6:X'.A=X.A:=by subst hX';rfl
 have E:X'.prog=X.prog/\X'.w=X.w/\X'.K=X.K/\X'.calm=true:=by subst hX';exact ⟨rfl,rfl,rfl,hcalm⟩
 have c0:X'.xe=λ _ _=>False:=by subst hX';rfl
 have d0:X'.env=compEnvC scope cl (D + 1) X.env:=by subst hX';rfl
 have f0:PF X' ifs tc:=hX' ▸ ht cl (D + 1) s₂ O fp;have f1:PE X' elt te:=hX' ▸ he cl (D + 1) s₂ O fp;have e4:PG X' tg g:=hX' ▸ hg cl (D + 1) s₂ O fp;have fresh :∀b,D<=b->O b=none:=λ b a=>f.hok.fresh (by rw [hD];exact a);have start :∀t,Inv X' [] (cStG σ fr (N0 xs.length none)) O { s₂ with heap:=h₁,toks:=t }:=λ t=>by
  refine ⟨e0,by rw [a6],f.bare,?_,⟨_,by rw [a0];exact a5,λ i y v P M e3=>?_⟩,λ y c e=>?_,by rw [a0];exact fresh _ (A3 _),λ y c e=>?_,λ p B=>?_,?_,?_⟩
  ·rw [a7,b3,c7,a6];exact Un.kept a3
  ·rw [c5] at P;by_cases a2:i < xs.length
   ·exfalso;unfold cStG at M;rw [F1 (by rw [Z1];exact a2),C6,if_pos a2] at M;cases M
   ·have a2:xs.length<=i:=j0a a2;rw [D1 a2,R0] at P;unfold cStG at M;rw [D1 (by rw [Z1];exact a2),Z1,R0] at M;generalize i - xs.length=i at P M;cases ej:fr[i]? with
    | none=>rw [ej] at P;cases P
    | some p=>
     rw [ej] at P;obtain rfl:p.2=y:=O2 P;have b1:(σ[p.1]?).join=some v:=by rw [ej] at M;exact O2 M
     have d7:σ[p.1]? = some (some v):=by
      cases q:σ[p.1]? with
      | none=>rw [q] at b1;cases b1
      | some z=>rw [q] at b1;exact congrArg some b1
     have B:=A1 ej;obtain ⟨m,hn,hl⟩:=f.loc;obtain ⟨u,r,l⟩:=hl p.1 p.2 v (hfr p B).1 d7 (by rcases (hfr p B).2 with z|z;exact .inr (.inl z);exact .inr (.inr z));refine ⟨u,r,.inr ⟨?_,?_⟩⟩
     ·rw [d0];exact (hfs p B).2
     ·rcases l with ⟨z,_⟩|⟨_,c,ec,q⟩
      ·exfalso;rcases (hfr p B).2 with z'|z'<;>(rw [z] at z';cases z')
      ·obtain ⟨c',d3⟩:=c1 p.2 (hfs p B).1;have:=U _ _ d3;rw [ec] at this;cases this;obtain ⟨o,ho,hd⟩:=q;exact ⟨c,by rw [a4];exact d3,o,a3 _ _ ho,hd⟩
  ·rw [a4] at e;obtain ⟨v,o,ho,hd⟩:=f.cell y c (U y c e);exact ⟨v,o,a3 _ _ ho,hd⟩
  ·rw [a4] at e;exact f.freeC y c (U y c e)
  ·rw [b6] at B;exact nomatch B
  ·rw [E.1,E.2.1];exact f.hok.kept a3
  ·rw [c5];unfold cStG;simp
 have FP :∀{pins':List (Addr×Obj)} {H':Hp},(∀b∈fp,H' b=none)->(∀p∈pins',p.1=D)->∀b∈fp,FpOk X' pins' H' b:=λ hn B b a=>by
  refine ⟨hn b a,?_,?_,.inl (by rw [b3];exact a),λ y c e=>?_,λ p c3=>?_⟩
  ·rw [a0];exact Y0 (Q2 (a9 b a))
  ·rw [a7];exact c8 b a
  ·rw [a4] at e;exact (L b a).2.2.2.2.1 y c (U y c e)
  ·rw [b6] at c3;rw [B p c3];exact W3 (a9 b a)
 -- the turns
 have loop :∀s₃:B0,s₃={ s₂ with heap:=h₁,toks:=s₂.toks + ([]:List (Str×Value)).length }->
   A5 (J1 X.prog X.w) X.A (.compLoop (.ListComp elt [⟨tg,iter,ifs,0⟩] scope pos) 0 (.ref it) (.ref D) (compEnvC scope cl (D + 1) X.env))
    (compPost (J1 X.prog X.w) X.A X.xe use QQ (.ref D) (D + 1)) s₃:=by
  rintro s₃ rfl;rw [<-d0,<-E.1,<-E.2.1,<-c6];refine zg4 (λ k s'=>∃i ys its H',Inv X' [] (cStG σ fr (N0 xs.length none)) H' s'/\tn i s'.heap/\(∀b∈fp,H' b=none)/\s'.heap.PlainList D its.toArray/\Vals ys its/\H' D=none/\W i k ys H') ?_ m0
   ⟨0,[],[],O,start _,T.keep _ _ _ b2 λ b a o e=>a3 b o e,λ b a=>(L b a).1,e8,.nil,fresh _ (J0 _),w0⟩
  rintro n s3 ⟨i,ys,its,H3,I3,st3,fr3,ac3,rv3,hD3,w3⟩;obtain ⟨na,f4⟩:=id ac3;have c4:Inv X' [(D,{ cls:=.type "list",data:=.seq its.toArray na })] (cStG σ fr (N0 xs.length none)) H3 s3:=I3.pins_of λ p B=>by rw [List.mem_singleton] at B;subst B;refine ⟨f4,hD3,by rw [a0];exact Y0 (G3 D),by rw [a7];exact λ z=>y4 _ (f6 D z),λ v z=>nomatch z⟩
  have hT:=T;rw [<-E.1,<-E.2.1,<-E.2.2.1] at hT;rcases d5 i n ys H3 w3 with ⟨stop,b5,qn⟩|⟨go,b5,step⟩
  ·refine thn (hT.done X' rfl rfl rfl E.2.2.2 i _ s3 _ H3 _ c4 (FP fr3 (by intro p B;rw [List.mem_singleton.mp B])) st3 stop) λ r s4 ⟨hr,I4⟩=>?_;subst hr;obtain ⟨m4,e7,_⟩:=id I4.loc;obtain ⟨Y,c2⟩ :∃Y,Y=s4.heap:=⟨_,rfl⟩
   have d1:K6 (D + 1) s4.heap Y:=by rw [c2];exact ⟨rfl,λ _ _=>rfl⟩
   have d8:D≠D + 1:=Y0 (G3 D);have f9:=(I4.pin (D,_) (P1 _ R1))
   have f5:Y.get? D=some { cls:=.type "list",data:=.seq its.toArray na }:=(d1.2 D d8).trans f9.1;have un:Un (frs X.stack) fp O H3 s₂.heap s4.heap:=by have:=I4.base;rw [a7,b3,c7,a6] at this;exact this
   have kp :∀b o,b≠D + 1->s4.heap.get? b=some o->Y.get? b=some o:=λ b o a e=>(d1.2 b a).trans e;have a8 :∀b o,s₂.heap.get? b=some o->b≠D + 1/\b≠D:=λ b o e=>by have:=Q0 e;rw [hD] at this;exact ⟨Y0 (Q2 this),Y0 this⟩
   have e5:Un (frs X.stack) fp O (upd H3 D (.lst ys)) s₂.heap Y:=by
    refine ⟨λ b o e n a Z=>kp b o (a8 b o e).1 (un.keep b o e n a Z),λ b o e n a Z=>?_,λ b o e n Z=>by rw [upd_ne (a8 b o e).2];exact un.free b o e n Z,λ b o e Z=>?_,λ b xs e=>?_,λ b o u e=>?_,λ b ps e=>?_⟩
    ·obtain ⟨sl,z⟩:=un.slot b o e n a Z;exact ⟨sl,kp _ _ (a8 b o e).1 z⟩
    ·obtain ⟨o',z⟩:=un.there b o e Z;exact ⟨o',kp _ _ (a8 b o e).1 z⟩
    ·rw [upd_ne (z0o e (fresh D (J0 _)))];exact un.tups b xs e
    ·rw [upd_ne (z0o e (fresh D (J0 _)))];exact un.frzs b o u e
    ·rw [upd_ne (z0o e (fresh D (J0 _)))];exact un.tbls b ps e
   have b9:H3 (D + 1)=none:=by have:=I4.free;rw [a0] at this;exact this
   have d9:HOk X.prog X.w (upd H3 D (.lst ys)) Y:=λ b u e=>by
    by_cases a:b=D
    ·subst a;rw [z03] at e;cases e;exact ⟨b5,its,na,rv3,f5⟩
    ·rw [upd_ne a] at e;have z:=I4.hok b u e;rw [E.1,E.2.1] at z;refine z.stay (λ c v hc q=>kp c v ?_ q) (λ c q=>by rw [upd_ne (z0o q hD3)];exact q) λ c xs q=>by rw [upd_ne (z0o q hD3)];exact q
     rintro rfl;rcases hc with rfl|hc
     ·rw [b9] at e;cases e
     ·rw [b9] at hc;cases hc
   subst c2;have I5:Inv X pins σ (upd H3 D (.lst ys)) s4:=f.call' (s':=s4) (ch:=fp) (by have:=I4.os;rw [a6] at this;exact this) e5 d9 I4.bare (λ b a=>⟨(L b a).2.2.2.1,(L b a).2.1,(L b a).2.2.2.2.1,(L b a).2.2.2.2.2⟩);show compPost (J1 X'.prog X'.w) X'.A X.xe use QQ (.ref D) (D + 1) (.ok .next) s4;rw [E.1,E.2.1,c6];refine hend D s4 _ I5 ⟨m4,a0 ▸ e7⟩ ?_ ?_ ?_ ?_ (qn D hD3)
   ·rw [upd_ne (W3 (G3 D))];exact b9
   ·exact W3 (Q2 (by rw [<-hD];exact f.lt))
   ·exact L0 f.sz (by rw [hD];exact A3 D)
   ·refine ⟨λ z=>f.nofs (by rw [hD];exact A3 D) z,λ y c e=>?_,λ p B=>?_⟩
    ·obtain ⟨v,q⟩:=f.cell y c e;exact Y0 (Q2 (by rw [<-hD];exact q.lt))
    ·exact Y0 (Q2 (by rw [<-hD];exact Q0 (f.pin p B).1))
  ·refine thn (hT.item X' rfl rfl rfl E.2.2.2 i _ s3 _ H3 _ c4 (FP fr3 (by intro p B;rw [List.mem_singleton.mp B])) st3 go) λ r s4 ⟨u,hr,h4⟩=>?_;subst hr;refine thn h4 λ _ s5 ⟨v,H5,I5,r5,y5,st5,fr5⟩=>?_;have f3:=I5.pinned (FP fr5 (by intro p B;rw [List.mem_singleton.mp B])) (T.obj _ _ st5);have g5:=e4 _ s5 (cStG σ fr (N0 xs.length none)) H5 v u _ f3 r5 (step v H5 y5);rw [c0] at g5;refine thn g5 λ _ s6 ⟨σ6,H6,I6,us,hus,e6,q6⟩=>?_;subst e6;have t6:=f0 _ s6 _ H6 _ I6 q6;rw [c0] at t6;refine thn t6 λ ok s7 ⟨H7,I7,q7⟩=>?_;have d2 :∀{H8:Hp} {F:B0} {ys':List V} {its':List Value} {pl:List (Addr×Obj)},Inv X' (pl++pinsAt fp s5.heap) (cStG σ fr us) H8 F->F.heap.PlainList D its'.toArray->Vals ys' its'->H8 D=none->(∃m',m' < n/\W (i + 1) m' ys' H8)->
     ∃m,m < n/\∃i ys its H',Inv X' [] (cStG σ fr (N0 xs.length none)) H' F/\tn i F.heap/\(∀b∈fp,H' b=none)/\F.heap.PlainList D its.toArray/\Vals ys its/\H' D=none/\W i m ys H':=λ {H8 F ys' its' pl} R b8 rv8 b0 ⟨m',hm,w8⟩=>by
    refine ⟨m',hm,i + 1,ys',its',H8,(R.pins_of (pins':=[]) (λ p B=>absurd B K0)).weak (by unfold cStG;simp [hus]) ?_,T.keep _ _ _ st5 λ b a o e=>(R.pin (b,o) (P1 _ (P1 _ (z4d a e)))).1,λ b a=>?_,b8,rv8,b0,w8⟩
    ·intro j z e;unfold cStG at e⊢;by_cases hj:j < xs.length
     ·rw [F1 (by rw [Z1];exact hj),C6,if_pos hj] at e;cases e
     ·have hj:xs.length<=j:=j0a hj;rw [D1 (by rw [Z1];exact hj),Z1] at e;rw [D1 (by rw [hus];exact hj),hus];exact e
    ·obtain ⟨o,e,d⟩:=T.obj _ _ st5 b a;exact (R.pin (b,o) (P1 _ (P1 _ (z4d a e)))).2.1
   have b4 :∀{H8:Hp} {F:B0} {σ8:St},Inv X' ([(D,{ cls:=.type "list",data:=.seq its.toArray na })]++pinsAt fp s5.heap) σ8 H8 F->F.heap.PlainList D its.toArray/\H8 D=none:=λ R=>
    have z:=R.pin (D,_) (P1 _ (b7 _ R1))
    ⟨⟨na,z.1⟩,z.2.1⟩
   cases ok with
   | false=>rw [if_neg B1] at q7⊢;exact d2 I7 (b4 I7).1 rv3 (b4 I7).2 q7
   | true=>
    rw [if_pos rfl] at q7⊢;have t7:=f1 _ s7 _ H7 _ I7 q7;rw [c0] at t7;refine thn t7 λ y F ⟨vy,H8,R,r8,q8⟩=>?_;obtain ⟨b8,b0⟩:=b4 R;refine wpAny_list_append_plain (hsz:=by have:=rv3.length;rw [T0,<-this];exact b5) b8 λ h9 c9 d6=>?_;have I9:Inv X' ([]++pinsAt fp s5.heap) (cStG σ fr us) H8 F:=R.pins_of λ p B=>(R.pin p (P1 _ (P1 _ B)))
    have f8:Inv X' ([]++pinsAt fp s5.heap) (cStG σ fr us) H8 { F with heap:=h9 }:=by
     refine I9.turned (t':=F.toks) (it:=D) (λ b o a e=>(d6.2 b a).trans e) b0 (by rw [a0];exact Y0 (G3 D)) (.inr (by rw [a6,hD];exact J0 _)) (λ y' c e=>?_) λ p B=>?_
     ·rw [a4] at e;exact Y0 (g1 y' c e)
     ·rw [b6] at B;exact Y0 (a9 _ (zbp B).1)
    have e9:its.toArray.push y=(its++[y]).toArray:=by simp
    rw [e9] at c9;exact d2 f8 c9 (rv3.snoc r8) b0 q8
 exact codeAny_compStart_list (loop _ rfl) (T.self _ 0 _ _ _ (T.keep _ _ _ b2 λ b a o e=>a3 b o e) (loop _ rfl))
theorem zf6 {xs:List Str} {tg:Expr} {g:TG} {pos:Pos} {elt iter:Expr} {ifs:List Expr} {scope:Scope} {fr:List (Nat×Str)} {wi:TI} {tc:TT} {te:TE} (hcalm:X.calm=true) (hi:PI X tg iter wi)
  (hfr :∀p∈fr,X.N[p.1]? = some p.2/\(X.env.kindOf p.2=some .cell\/X.env.kindOf p.2=some .free))
  (hfree :∀y∈scope.names,y.2=F2->X.env.kindOf y.1=some .cell\/X.env.kindOf y.1=some .free)
  (hfs :∀p∈fr,(p.2,F2)∈scope.names/\((C8 scope X.env).names.lookup p.2=some .cell\/(C8 scope X.env).names.lookup p.2=some .free))
  (hcell :∀y∈scope.names,y.2≠NameKind.cell) (hkind:scope.kind=.function) (hnames :∀y∈scope.names,y.2=NameKind.local->scope.names.lookup y.1=some .local)
  (hg :∀cl C s₂ H₂ fp,PG (cxComp X scope cl (xs++fr.map (·.2)) C s₂ H₂ fp) tg g)
  (ht :∀cl C s₂ H₂ fp,PF (cxComp X scope cl (xs++fr.map (·.2)) C s₂ H₂ fp) ifs tc) (he :∀cl C s₂ H₂ fp,PE (cxComp X scope cl (xs++fr.map (·.2)) C s₂ H₂ fp) elt te)
  (hs :∀x,Y5 iter X.env x=V3 x:=by intro _;rfl):PE X (.ListComp elt [⟨tg,iter,ifs,0⟩] scope pos) (tCompG wi xs.length fr g tc te):=by
 intro t s σ H Q I h;rw [eval_ListComp];refine zdj hcalm hi hfr hfree hfs hcell hkind hnames hg ht he hs I h λ D d j n a k l i ⟨c,hc,hp⟩ q=>?_;obtain ⟨m,a⟩:=a;exact ⟨m,a,λ r f=>⟨.ref D,j,n.turned (t':=d.toks) (it:=D + 1) (λ b o c e=>(f.2 b c).trans e) k l (.inr i) hc hp,rfl,q⟩⟩
theorem zdu {xs:List Str} {tg:Expr} {g:TG} {pos:Pos} {elt iter:Expr} {ifs:List Expr} {scope:Scope} {fr:List (Nat×Str)} {wi:TI} {tc:TT} {te:TE} {i:Nat} {y:Str} {py spos:Pos} (hNy:X.N.Nodup) (hiy:X.N[i]? = some y) (hy:Loc X.env.scope y) (hcalm:X.calm=true) (hi:PI X tg iter wi)
  (hfr :∀p∈fr,X.N[p.1]? = some p.2/\(X.env.kindOf p.2=some .cell\/X.env.kindOf p.2=some .free))
  (hfree :∀y∈scope.names,y.2=F2->X.env.kindOf y.1=some .cell\/X.env.kindOf y.1=some .free)
  (hfs :∀p∈fr,(p.2,F2)∈scope.names/\((C8 scope X.env).names.lookup p.2=some .cell\/(C8 scope X.env).names.lookup p.2=some .free))
  (hcell :∀y∈scope.names,y.2≠NameKind.cell) (hkind:scope.kind=.function) (hnames :∀y∈scope.names,y.2=NameKind.local->scope.names.lookup y.1=some .local)
  (hg :∀cl C s₂ H₂ fp,PG (cxComp X scope cl (xs++fr.map (·.2)) C s₂ H₂ fp) tg g)
  (ht :∀cl C s₂ H₂ fp,PF (cxComp X scope cl (xs++fr.map (·.2)) C s₂ H₂ fp) ifs tc) (he :∀cl C s₂ H₂ fp,PE (cxComp X scope cl (xs++fr.map (·.2)) C s₂ H₂ fp) elt te)
  (hs :∀x,Y5 iter X.env x=V3 x:=by intro _;rfl) (hw:U8 (.ListComp elt [⟨tg,iter,ifs,0⟩] scope pos) (some (.Name y py)) spos.line X.env=V3 true:=by rfl) (hf:X.fn y=true\/X.env.scope.names.lookup y=some .local:=by first|exact .inl rfl|exact .inr rfl|assumption) :
  PS X (.Assign [.Name y py] (.ListComp elt [⟨tg,iter,ifs,0⟩] scope pos) spos) (tAsg (tCompG wi xs.length fr g tc te) (gName i)):=by
 intro k s σ H D I h;rw [exec_Assign_Name_used y py _ spos hw];refine o0 (j03 (o0 ?_));show S0 _ _ (do let _ <-comprehension (.ListComp elt [⟨tg,iter,ifs,0⟩] scope pos) scope X.env (firstIterPos [⟨tg,iter,ifs,0⟩] pos) (newList []) (firstAsync [⟨tg,iter,ifs,0⟩]) (firstIter [⟨tg,iter,ifs,0⟩] X.env) (some (assign (.Name y py) X.env));V3 ()) _ _ _;refine o0 (zdj hcalm hi hfr hfree hfs hcell hkind hnames hg ht he hs I h λ A j l t c L r M ⟨d,hc,hp⟩ q=>?_);obtain ⟨m,c⟩:=c;obtain ⟨o,E,B,K,f,F,O⟩:=c;have G:Inv X ((A + 1,o) :: k) σ l j:=t.pins_of λ p a=>by
  rcases List.mem_cons.mp a with rfl|a
  ·exact ⟨K,L,r,d,λ v z=>by rw [f] at z;cases z⟩
  ·exact t.pin p (P1 _ a)
 refine thn (z0m (pos:=py) hNy hiy hy hf _ j σ l (.ref A) (.ref A) D.nx G rfl q) λ _ n ⟨σ5,H5,I6,q6⟩=>?_;have u:=I6.pin (A + 1,o) (P1 _ R1);have w:Inv X k σ5 H5 n:=I6.pins_of λ p a=>I6.pin p (P1 _ (O1 _ a));refine ⟨m,⟨o,E,B,u.1,f,F,O⟩,λ P J=>?_⟩;exact C0 (C0 ⟨σ5,H5,w.turned (t':=n.toks) (it:=A + 1) (λ b o d e=>(J.2 b d).trans e) u.2.1 r (.inr M) hc hp,q6⟩)
end
end L2
set_option maxHeartbeats 400000
namespace L2
open PySem PySem.Spec PyProof.Rows
theorem za4 {t rest:TS} {D:Ends} {σ:St} {H:Hp} (R:St->Hp->Prop) (hr :∀σ1 H1,R σ1 H1->rest D σ1 H1) (h:(∀σ1 H1,R σ1 H1->rest D σ1 H1)->t { D with nx:=rest D } σ H):tSeq t rest D σ H:=h hr
theorem z0c {te:TE} {g:TG} {rest:TS} {D:Ends} {σ:St} {H:Hp} (h:te σ H λ x H1=>g x σ H1 (rest D)):tSeq (tAsg te g) rest D σ H:=h
structure Runs (J:It) (H1:Hp) (n:Nat) (Item:Nat->V->Hp->Prop):Prop where
 go :∀i,i < n->∀H,Same H1 H->J.go i H
 stop :∀H,Same H1 H->J.stop n H
 item :∀i,i < n->∀H v H',Same H1 H->J.yld i H v H'->Same H H'/\Item i v H'
theorem z2k (p:Nat->Bool) (n:Nat):(V0 (n + 1)).filter p=(V0 n).filter p++(if p n=true then [n] else []):=by rw [j0d,J9,List.filter_cons];cases p n<;>rfl
inductive All2 {α β:Type} (R:α->β->Prop):List α->List β->Prop
 | nil:All2 R [] []
 | cons {a:α} {b:β} {xs:List α} {ys:List β}:R a b->All2 R xs ys->All2 R (a :: xs) (b :: ys)
theorem z5z {α β:Type} {R:α->β->Prop} :∀{xs:List α} {ys:List β} {x:α} {y:β},All2 R xs ys->R x y->All2 R (xs++[x]) (ys++[y])
 | [],_,x,y,.nil,h=>.cons h .nil
 | _ :: _,_,x,y,.cons a r,h=>.cons a (z5z r h)
theorem z00 {α β:Type} {R S:α->β->Prop} (h :∀a b,R a b->S a b) :∀{xs:List α} {ys:List β},All2 R xs ys->All2 S xs ys
 | [],_,.nil=>.nil
 | _ :: _,_,.cons a r=>.cons (h _ _ a) (z00 h r)
theorem z04 {α β:Type} {R:α->β->Prop} :∀{xs:List α} {ys:List β},All2 R xs ys->ys.length=xs.length
 | [],_,.nil=>rfl
 | _ :: _,_,.cons _ r=>congrArg (· + 1) (z04 r)
theorem z1l {α β:Type} {f:α->β} :∀{xs:List α} {ys:List β},All2 (λ x y=>y=f x) xs ys->ys=xs.map f
 | [],_,.nil=>rfl
 | _ :: _,_,.cons a r=>by rw [U1,z1l r,a]
theorem z6l {α β:Type} (p:α->Bool) (f:α->β) (d:α) :∀xs:List α,((V0 xs.length).filter λ i=>p (xs[i]?.getD d)).map (λ i=>f (xs[i]?.getD d))=(xs.filter p).map f:=by
 intro xs;have h:(V0 xs.length).map (λ i=>xs[i]?.getD d)=xs:=by
  apply V6
  ·simp
  ·intro i b a;simp only [List.getElem_map,List.getElem_range,v0 a,Option.getD_some]
 have e:(xs.filter p).map f=((((V0 xs.length).map (λ i=>xs[i]?.getD d))).filter p).map f:=by rw [h]
 rw [e,List.filter_map,B5];rfl
structure QE (X:Cx) (e:Expr) (t:TE):Prop where
 run:PE X e t
structure QA (X:Cx) (es:List Expr) (t:TA):Prop where
 run:PA X es t
structure QPs (X:Cx) (pos:Pos) (ks:List (Option Expr)) (vs:List Expr) (t:List (TE×TE)):Prop where
 run:PPs X pos ks vs t
structure QS (X:Cx) (st:Stmt) (t:TS):Prop where
 run:PS X st t
structure QSs (X:Cx) (sts:List Stmt) (t:TS):Prop where
 run:PSs X sts t
section
variable {X:Cx} {pos:Pos}
theorem q_of {sts:List Stmt} {t:TS} {G:TS->Prop} (q:QSs X sts t) (g:G t) :∃t,PSs X sts t/\G t:=⟨t,q.run,g⟩
theorem zi4 {st:Stmt} {t:TS} (h:QS X st t):QSs X [st] t:=⟨z05 h.run⟩
theorem z3m {st:Stmt} {rest:List Stmt} {t u:TS} (h:QS X st t) (r:QSs X rest u):QSs X (st :: rest) (tSeq t u):=⟨z02 h.run r.run⟩
theorem qs_set {i:Nat} {x:Str} {e:Expr} {te:TE} {pos':Pos} (hN:X.N.Nodup) (hi:X.N[i]? = some x) (hx:Loc X.env.scope x) (he:QE X e te) (hs:U8 e (some (.Name x pos')) pos.line X.env=V3 false:=by rfl) (hf:X.fn x=true\/X.env.scope.names.lookup x=some .local:=by first|exact .inl rfl|exact .inr rfl|assumption) :
  QS X (.Assign [.Name x pos'] e pos) (tAsg te (gName i)):=⟨ps_set hN hi hx he.run hs hf⟩
theorem qs_for {tg iter:Expr} {body:List Stmt} {wi:TI} {g:TG} {tb:TS} (hp:PassesOwn (J1 X.prog X.w) X.A X.env X.xe) (hc:X.calm=true) (hi:PI X tg iter wi) (hg:PG X tg g) (hb:QSs X body tb)
  (hs :∀x,Y5 iter X.env x=V3 x:=by intro _;rfl):QS X (.For tg iter body [] pos) (tFor wi g tb):=⟨ps_for hp hc hi hg hb.run hs⟩
theorem qe_tup {es:List Expr} {t:TA} {x1} (h:QA X es t):QE X (.Tuple es x1 pos) (tTup t):=⟨pe_tup h.run⟩
theorem qa_nil:QA X [] tNil:=⟨pa_nil⟩
theorem zi0 {e:Expr} {es:List Expr} {te:TE} {t:TA} (ha:QE X e te) (hr:QA X es t) (hs:G1 (e :: es) X.env=(false,R3 e X.env) :: G1 es X.env:=by rfl):QA X (e :: es) (tCons te t):=⟨z01 ha.run hr.run hs⟩
end
theorem z73 {X:Cx} {K:j0} (h:X.K=K):IxR X (rIx K):=h ▸ ix_seq
theorem z0n {α β:Type} {R:α->β->Prop} :∀{xs:List α} {ys:List β} {i:Nat} {y:β},All2 R xs ys->ys[i]? = some y->∃x,xs[i]? = some x/\R x y
 | _,_,i,y,.nil,e=>by simp at e
 | _,_,0,y,.cons a _,e=>by rw [E4] at e;cases e;exact ⟨_,E4,a⟩
 | _,_,i + 1,y,.cons _ r,e=>by rw [Z2] at e;obtain ⟨x,b,c⟩:=z0n r e;exact ⟨x,by rw [Z2];exact b,c⟩
end L2
set_option maxHeartbeats 4000000
namespace L2
open PySem PySem.Spec PyProof.Rows
noncomputable def IteL (K:j0) (a:Addr):It:=
  ⟨λ i H=>∃xs x,SqL K H a xs/\xs[i]? = some x,
   λ i H v H'=>∃p,H p=none/\v=.ref p/\∀xs,SqL K H a xs->∃x,xs[i]? = some x/\H'=upd H p (.tup [.int i,x]),
   λ i H=>∃xs,SqL K H a xs/\xs.length=i⟩
theorem w_0:(0:Nat)<=sizeLine:=by decide
theorem w_1:(1:Nat)<=sizeLine:=by decide
theorem w_2:(2:Nat)<=sizeLine:=by decide
theorem w_3:(3:Nat)<=sizeLine:=by decide
theorem w_4:(4:Nat)<=sizeLine:=by decide
theorem w_5:(5:Nat)<=sizeLine:=by decide
theorem w_6:(6:Nat)<=sizeLine:=by decide
theorem zfb {P:Program} {w:Z0} {K:j0} {elts:List Expr} {x1:Nat} {pos:Pos} {e it a:Addr} (ne:e≠it) (nae:a≠e) (nai:a≠it):Turn P w K (.Tuple elts x1 pos) (IteL K a) [e,it] e (λ n h=>(∃old,IsEnum h e it (n:Nat) old)/\h.IsListIter it a n) where
 mem:=by simp
 obj:=λ n h f c g=>by
  simp only [D3,K0,or_false] at g;rcases g with rfl|rfl
  ·obtain ⟨⟨old,z⟩,_⟩:=f;exact ⟨_,z,λ v z=>by cases (show Data.fields _=Data.cell v from z)⟩
  ·obtain ⟨_,o,e,_,d⟩:=f;exact ⟨o,e,λ v z=>by rw [d] at z;cases z⟩
 keep:=λ n h M f k=>by obtain ⟨⟨old,z⟩,o,e1,e2⟩:=f;exact ⟨⟨old,k e (by simp) _ z⟩,o,k it (by simp) _ e1,e2⟩
 item:=by
  intro X C F G g n a3 s σ H E I q f r;subst C F G;obtain ⟨O,x,m,T⟩:=r;obtain ⟨i,B,j,_⟩:=I.list m;have j:s.heap.IsList a i.toArray:=j.isList;obtain ⟨u,U,ru⟩:=B.get T;have D:=Draws.list (prog:=X.prog) (w:=X.w) (A:=X.A.in1) (I.ok.hd g) it a nai i.toArray;have a2:n < i.toArray.size:=by have:=(List.getElem?_eq_some_iff.mp U).1;simpa using this
  obtain ⟨⟨old,R⟩,Q⟩:=f;refine wpAny_pyNext_enum_itemD D R ⟨Q,j⟩ a2 ne (by simp [ne,nae.symm]) λ y M t p a1 a6 tT hz L=>?_;have p:i[n]? = some y:=by simpa using p
  rw [U] at p;cases p;have a4:e < s.heap.objs.size:=Q0 R;have a5:it < s.heap.objs.size:=by obtain ⟨o,z,_⟩:=Q;exact Q0 z
  have S:s.heap.objs.size≠e:=W3 a4;have Z:s.heap.objs.size∉[e,it]:=by simp only [D3,K0,or_false,not_or];exact ⟨S,W3 a5⟩
  refine ⟨_,rfl,wpAny_letOwnedTupleGo_enum a1 λ V a0 J=>?_⟩;have k2 :∀b o,b∉[e,it]->s.heap.get? b=some o->V.get? b=some o:=λ b o l z=>by simp only [D3,K0,or_false,not_or] at l;exact (J.2 b l.1).trans (L b o l.1 l.2 z)
  have N:=(J.2 _ S).trans tT;have Y:=a6.1.elim λ o z=>(⟨o,(J.2 it ne.symm).trans z.1,z.2⟩:V.IsListIter it a (n + 1))
  have fr:H s.heap.objs.size=none:=I.hok.fresh (J0 _);refine ⟨.ref s.heap.objs.size,upd H s.heap.objs.size (.tup [.int n,x]),I.turnedLaid (t':=t + 1) k2 q (J0 _) ⟨w_2,[.int n t,u],.cons ⟨t,rfl⟩ (.cons ru .nil),⟨_,N,rfl,_,rfl⟩,_,N,rfl⟩,rfl,⟨_,fr,rfl,λ a8 a7=>⟨x,?_,rfl⟩⟩,⟨⟨_,a0⟩,Y⟩,λ c g=>?_⟩
  ·rw [I.list_inj a7 m];exact T
  ·rw [upd_ne (λ (z:c=s.heap.objs.size)=>Z (z ▸ g))];exact (q c g).1
 done:=by
  intro X C F G g n a3 s σ H E I q f r;subst C F G;obtain ⟨O,m,rfl⟩:=r;obtain ⟨i,B,j,_⟩:=I.list m;have j:s.heap.IsList a i.toArray:=j.isList;have D:=Draws.list (prog:=X.prog) (w:=X.w) (A:=X.A.in1) (I.ok.hd g) it a nai i.toArray;have W:=WalksT.enumerateD D e ne (by simp [ne,nae.symm]) (by simp);have la:i.toArray.size=O.length:=by simpa using B.length.symm
  exact W.done s _ E (by rw [la];exact ⟨f.1,f.2,j⟩) λ M tk L=>⟨rfl,I.turnedL (t':=tk) (λ c o g e=>L c o g e) q⟩
 self:=λ _ _ _ _ _ f h=>f.1.elim λ old z=>wpAny_pyIter_enum z h
noncomputable def ieL (K:j0) (ta:TA):TI:=λ σ H R=>ta σ H λ vs H1=>∃a xs,vs=[.ref a]/\SqL K H1 a xs/\R (IteL K a) H1
theorem zjh {X:Cx} {elts:List Expr} {x1:Nat} {tpos:Pos} {e:Expr} {ta:TA} {p pos:Pos} (hg:Gl X "enumerate") (hm:X.mg "enumerate" = none) (ha:PA X [e] ta) (hs:G1 [e] X.env=[(false,R3 e X.env)]:=by rfl) :
  PI X (.Tuple elts x1 tpos) (.Call (.Name "enumerate" p) [e] [] pos) (ieL X.K ta):=by
 intro r s σ H R I h;refine Call_ (ld_blt I hg hm boot_enumerate (B4 (thn (ha pos r s σ H _ I h) λ x b ⟨vs,H1,I1,r1,q1⟩=>?_) (by rw [hs];rfl) rfl));obtain ⟨a,y,t,l,q⟩:=q1;subst t;obtain ⟨u,rfl,m⟩:=vals1 r1;cases (show u=E1 a from m);obtain ⟨n,z,d,_⟩:=I1.list l;have d:b.heap.IsList a n.toArray:=d.isList;have f:a < b.heap.objs.size:=by obtain ⟨o,e,_⟩:=id d;exact Q0 e
 refine call_enumerate_list d λ w i k _ v=>?_;refine wpAny_pyIter_enum i ?_;refine ⟨_,_,_,_,H1,rfl,I1.kept (t':=b.toks) v,zfb (W3 (G3 _)) (Y0 (Q2 f)) (Y0 f),⟨⟨_,i⟩,k⟩,λ c g=>?_,q⟩;have j:b.heap.objs.size<=c:=by
  simp only [D3,K0,or_false] at g;rcases g with rfl|rfl
  ·exact j0b _ _
  ·exact J0 _
 exact I1.fpOk j (I1.hok.fresh j)
end L2
set_option maxHeartbeats 400000
namespace L2
open PySem PySem.Spec PyProof.Rows
section
variable {X:Cx}
theorem zfs {o e:Expr} {es:List Expr} {to:TE} {t:TA} {apos cpos:Pos} (ho:PE X o to) (ha:PA X (e :: es) t)
  (hbase:w5 o "pop" X.env (R3 o X.env)=R3 o X.env:=by rfl)
  (hfew:((O4 cpos (G1 (e :: es) X.env)).all (λ x=>!x.1) && (W8 cpos (P6 [] X.env)).all (λ x=>x.1.isSome)
   && decide ((e :: es).length + ([]:List G6).length + (if ([]:List G6).isEmpty then 0 else 1) < 30))=true:=by rfl)
  (hline:(apos.endLine == cpos.line)=true:=by rfl) (hs:G1 (e :: es) X.env=(false,R3 e X.env) :: G1 es X.env:=by rfl) (hplain:(O4 cpos (G1 es X.env)).any (·.1)=false:=by rfl) :
  PE X (.Call (.Attribute o "pop" apos) (e :: es) [] cpos) (tBM X.K "list" rPopAt to t):=pe_bm X7 PySem.F.slot_list_pop PySem.F.type_list_pop zj4 ho ha hbase hfew hline hs hplain
end
mutual
noncomputable def IsPd (K:j0) (H:Hp):PyData->V->Prop
 | .none,v=>v=.non
 | .bool b,v=>v=.bl b
 | .int i,v=>v=.int i
 | .str z,v=>v=.str z
 | .list ds,v=>∃a xs,v=.ref a/\SqL K H a xs/\IsPds K H ds xs
 | .tuple ds,v=>∃a xs,v=.ref a/\SqT K H a xs/\IsPds K H ds xs
 | .dict _,_=>False
noncomputable def IsPds (K:j0) (H:Hp):List PyData->List V->Prop
 | [],xs=>xs=[]
 | d :: ds,xs=>∃x r,xs=x :: r/\IsPd K H d x/\IsPds K H ds r
end
mutual
noncomputable def plainP:PyData->Bool
 | .none=>true
 | .bool _=>false
 | .int _=>true
 | .str z=>(PyData.str z).canLay0
 | .list ds=>zdq ds
 | .tuple ds=>zdq ds
 | .dict _=>false
noncomputable def zdq:List PyData->Bool
 | []=>true
 | d :: ds=>plainP d && zdq ds
end
end L2
set_option maxHeartbeats 1000000
namespace L2
open PySem PySem.Spec PyProof.Rows
section
variable {prog:Program} {w:Z0} {A:K2} {E:Value->B0->Prop} {s:B0}
theorem z5m:entryFor table "dict.update.loop" = some r9.«dict.update.loop»:=by kernel_rfl
theorem zgn {l:Addr} {items:Array Value} {n:Nat} {sl:Array (Option Value)} {Q:Option Value->B0->Prop} (h:s.heap.get? l=some { cls:=.type "list",data:=.seq items n,slots:=sl }) (hh:A.handled=none)
  (q :∀h' tk,(∀b o,s.heap.get? b=some o->h'.get? b=some o)->Q none { s with heap:=h',toks:=tk }):S0 (J1 prog w) A (j0g (.ref l) (O3 "keys")) Q E s:=by
 unfold j0g;refine o0 (wpAny_mkText ?_);unfold getAttrBy? getAttrBy;have d:R6 { s with toks:=s.toks + 1 } (.ref l) "list":=⟨_,h,rfl⟩
 refine o0 (j04 (V1 (o0 (U7 d ?_))));rw [show j33 (F3 "list") (O3 "__getattribute__")=V3 (some (.builtin "list.__getattribute__")) from rfl];refine o0 (C0 ?_);show S0 _ _ (v9 (.ref l) (.str (O3 "keys") s.toks) (.type "list") (.builtin "list.__getattribute__") false false) _ _ _;unfold v9;refine o0 (show S0 _ _ (V3 none) _ _ _ from C0 ?_);refine o0 (j04 (V1 ?_));show S0 _ _ (O9 (.builtin "list.__getattribute__") (.ref l) (.str (O3 "keys") s.toks)) _ _ _;unfold O9;rw [show bindSpecial (.builtin "list.__getattribute__") (.ref l)=V3 (Value.builtin "list.__getattribute__",[E1 l]) from rfl];refine o0 (C0 ?_);show S0 _ _ (call (.builtin "list.__getattribute__") [.ref l,.str (O3 "keys") s.toks]) _ _ _;refine n8 F.slot_list_getattribute d am_entry_list_getattribute (F.args_list_getattribute_2 _ _) (meets_getattribute_miss_list l items n sl (O3 "keys") s.toks rfl (by decide +kernel) (by decide +kernel)) ⟨h,hh,λ h' tk e c=>?_⟩;obtain ⟨t,u,f⟩:=c.there;have a:R6 { s with heap:=h',toks:=tk } (.ref e) "AttributeError":=⟨_,f,rfl⟩
 show S0 _ _ (j8 (.ref l) _ (.type "list") (.ref e) none false false) _ _ _;unfold j8;refine o0 (y6 a rfl ?_);show S0 _ _ (j36 (.type "list") none >>= _) _ _ _;rw [show j36 (.type "list") none=V3 none from rfl];refine o0 (C0 ?_);show S0 _ _ (throw (E1 e) >>= _) _ _ _;refine o0 (wpAny_throw ?_);show S0 _ _ (j35 (.ref e) (.type "AttributeError") >>= _) _ _ _;refine o0 (y6 a rfl ?_);exact C0 (q h' tk c.keeps)
theorem zeh {l:Addr} {items:Array Value} {n:Nat} {sl:Array (Option Value)} {Q:Option Value->B0->Prop} (h:s.heap.get? l=some { cls:=.type "tuple",data:=.seq items n,slots:=sl }) (hh:A.handled=none)
  (q :∀h' tk,(∀b o,s.heap.get? b=some o->h'.get? b=some o)->Q none { s with heap:=h',toks:=tk }):S0 (J1 prog w) A (j0g (.ref l) (O3 "keys")) Q E s:=by
 unfold j0g;refine o0 (wpAny_mkText ?_);unfold getAttrBy? getAttrBy;have d:R6 { s with toks:=s.toks + 1 } (.ref l) "tuple":=⟨_,h,rfl⟩
 refine o0 (j04 (V1 (o0 (U7 d ?_))));rw [show j33 (F3 "tuple") (O3 "__getattribute__")=V3 (some (.builtin "tuple.__getattribute__")) from rfl];refine o0 (C0 ?_);show S0 _ _ (v9 (.ref l) (.str (O3 "keys") s.toks) (.type "tuple") (.builtin "tuple.__getattribute__") false false) _ _ _;unfold v9;refine o0 (show S0 _ _ (V3 none) _ _ _ from C0 ?_);refine o0 (j04 (V1 ?_));show S0 _ _ (O9 (.builtin "tuple.__getattribute__") (.ref l) (.str (O3 "keys") s.toks)) _ _ _;unfold O9;rw [show bindSpecial (.builtin "tuple.__getattribute__") (.ref l)=V3 (Value.builtin "tuple.__getattribute__",[E1 l]) from rfl];refine o0 (C0 ?_);show S0 _ _ (call (.builtin "tuple.__getattribute__") [.ref l,.str (O3 "keys") s.toks]) _ _ _;refine n8 F.slot_tuple_getattribute d am_entry_tuple_getattribute (F.args_tuple_getattribute_2 _ _) (meets_getattribute_miss_tuple l items n sl (O3 "keys") s.toks rfl (by decide +kernel) (by decide +kernel)) ⟨h,hh,λ h' tk e c=>?_⟩;obtain ⟨t,u,f⟩:=c.there;have a:R6 { s with heap:=h',toks:=tk } (.ref e) "AttributeError":=⟨_,f,rfl⟩
 show S0 _ _ (j8 (.ref l) _ (.type "tuple") (.ref e) none false false) _ _ _;unfold j8;refine o0 (y6 a rfl ?_);show S0 _ _ (j36 (.type "tuple") none >>= _) _ _ _;rw [show j36 (.type "tuple") none=V3 none from rfl];refine o0 (C0 ?_);show S0 _ _ (throw (E1 e) >>= _) _ _ _;refine o0 (wpAny_throw ?_);show S0 _ _ (j35 (.ref e) (.type "AttributeError") >>= _) _ _ _;refine o0 (y6 a rfl ?_);exact C0 (q h' tk c.keeps)
theorem z5l (a:Args):(F7 "dict.update.loop" a).quiet=true:=C7 (by decide +kernel) _
def PairOf (prog:Program) (w:Z0) (h:Heap) (p:Key×Value) (u:Value):Prop:=∃a kv,u=.ref a/\h.IsTuple a #[kv,p.2]/\(z0k prog w).is p.1 kv=true
theorem PairOf.kept {h h':Heap} {p:Key×Value} {u:Value} {L:List Addr} (k :∀b o,b∉L->h.get? b=some o->h'.get? b=some o) (nt :∀b∈L,∀o,h.get? b=some o->o.cls≠.type "tuple") (x:PairOf prog w h p u):PairOf prog w h' p u:=by obtain ⟨a,g,e,⟨o,c,d,n,f⟩,i⟩:=x;exact ⟨a,g,e,⟨o,k a o (λ z=>nt a z o c d) c,d,n,f⟩,i⟩
theorem za1 {a:Addr} {items:Array Value} {Q:List Value->B0->Prop} (h:s.heap.IsTuple a items) (q:Q items.toList s):S0 (J1 prog w) A (j08 (.ref a)) Q E s:=by obtain ⟨o,b,d,n,c⟩:=h;unfold j08;refine o0 (U7 (T:="tuple") ⟨o,b,d⟩ ?_);show S0 _ _ (seqItems? (.ref a) >>= _) _ _ _;exact o0 (L9 b c (C0 q))
theorem zdx {d it l:Addr} {items:Array Value} (ndi:d≠it) (ndl:d≠l) (nil':it≠l) :∀(ps:List (Key×Value)) (i:Nat) (kvs:List (Key×Value)) (A:K2) (R:j1a->B0->Prop) (s:B0),A.handled=none->s.heap.IsListIter it l i->s.heap.IsList l items->
  All2 (PairOf prog w s.heap) ps (items.toList.drop i)->Y3 (z0k prog w) s.heap d kvs->kvs.length + ps.length<=sizeLine->
  (∀h' tk,Y3 (z0k prog w) h' d (ps.foldl (λ acc p=>stored acc p.1 p.2) kvs)->(∀b o,b≠d->b≠it->s.heap.get? b=some o->h'.get? b=some o)->R (.ok (.ret .none)) { s with heap:=h',toks:=tk })->
  A5 (J1 prog w) A (F7 "dict.update.loop" { pos:=[.ref d,.ref it,.int (i:Nat) 0,.none],kw:=[] }) R s
 | [],i,kvs,A,R,s,hh,si,sl,al,r,hz,q=>by
  have N:items[i]? = none:=by
   cases hd:items.toList.drop i with
   | nil=>have:=List.drop_eq_nil_iff.mp hd;rw [J2] at this;exact L4 this
   | cons u us=>rw [hd] at al;cases al
  refine J3 z5m ?_;show S0 _ _ (p7 (.ref it) >>= _) _ _ s;refine o0 (U4 (show (A.under _).handled=none from hh) si sl N λ h' J=>?_);show S0 _ _ ((do V9 d [];ret .none):Sem Z9) _ _ _;refine o0 (show S0 _ _ (V3 ()) _ _ _ from C0 ?_);have B:Y3 (z0k prog w) h' d kvs:=by obtain ⟨o,v,t,g,m⟩:=r;exact ⟨o,v,t,J d o ndi g,m⟩
  exact C0 (q h' s.toks B λ b o _ k e=>J b o k e)
 | p :: ps,i,kvs,A,R,s,hh,si,sl,al,r,hz,q=>by
  cases hd:items.toList.drop i with
  | nil=>rw [hd] at al;cases al
  | cons u us=>
   rw [hd] at al;cases al with
   | cons pu al=>
    have Y:items.toList[i]? = some u:=by have:=congrArg (λ l=>l[0]?) hd;simpa using this
    have hu:items[i]? = some u:=by simpa using Y
    have O:items.toList.drop (i + 1)=us:=by have:=congrArg j06 hd;simpa using this
    obtain ⟨a,E,rfl,S,P⟩:=pu;refine J3 z5m ?_;show S0 _ _ (p7 (.ref it) >>= _) _ _ s;refine o0 (Z3 si sl hu λ g a1 F=>?_);have H :∀o,s.heap.get? it=some o->o.cls≠.type "tuple":=λ o e z=>by obtain ⟨M,n,c,_⟩:=si;rw [e] at n;cases n;rw [z] at c;exact absurd c (by decide)
    have V :∀(h:Heap) (kvs:List (Key×Value)),Y3 (z0k prog w) h d kvs->∀o,h.get? d=some o->o.cls≠.type "tuple":=λ h kvs r o e z=>by obtain ⟨M,v,t,n,c,_⟩:=r;rw [e] at n;cases n;have:=c.1;rw [z] at this;exact absurd this (by decide)
    have D :∀b o,b∉[it]->s.heap.get? b=some o->g.get? b=some o:=λ b o k e=>(F.2 b (λ z=>k (by rw [z];exact List.mem_singleton.mpr rfl))).trans e;have a0:g.IsTuple a #[E,p.2]:=by obtain ⟨o,f,j,e3⟩:=S;exact ⟨o,D a o (λ z=>H o (List.mem_singleton.mp z ▸ f) j) f,j,e3⟩
    have Z:All2 (PairOf prog w g) ps us:=z00 (λ x y z=>PairOf.kept D (λ b k o e=>H o (List.mem_singleton.mp k ▸ e)) z) al;have L:Y3 (z0k prog w) g d kvs:=by obtain ⟨o,v,t,f,j⟩:=r;exact ⟨o,v,t,(F.2 d ndi).trans f,j⟩
    have X:g.IsList l items:=by obtain ⟨o,f,j⟩:=sl;exact ⟨o,(F.2 l (X1 nil')).trans f,j⟩
    refine o0 (V1 (o0 (W6 (za1 (s:={ s with heap:=g }) a0 ?_))));show S0 _ _ (n9 [E,p.2] (j2i d E p.2)) _ _ _;refine V1 (wpAny_dictSet_pairs P L (λ m Q C=>?_) (L0 (j0b _ _) hz));refine C0 ⟨z5l _,?_⟩;have I :∀b o,b∉[d]->g.get? b=some o->m.get? b=some o:=λ b o k e=>(C.2 b (λ z=>k (by rw [z];exact List.mem_singleton.mpr rfl))).trans e;have T:All2 (PairOf prog w m) ps us:=z00 (λ x y z=>PairOf.kept I (λ b k o e=>V g kvs L o (List.mem_singleton.mp k ▸ e)) z) Z;have W:m.IsListIter it l (i + 1):=by obtain ⟨o,f,j⟩:=a1;exact ⟨o,(C.2 it (X1 ndi)).trans f,j⟩
    have U:m.IsList l items:=by obtain ⟨o,f,j⟩:=X;exact ⟨o,(C.2 l (X1 ndl)).trans f,j⟩
    have a2:(stored kvs p.1 p.2).length + ps.length<=sizeLine:=by
     have:(stored kvs p.1 p.2).length<=kvs.length + 1:=by
      unfold stored;split
      ·rw [G0];exact A3 _
      ·rw [I0];exact J0 _
     rw [X0] at hz;omega
    exact zdx ndi ndl nil' ps (i + 1) (stored kvs p.1 p.2) A R { s with heap:=m,toks:=s.toks + 1 } hh W U (by rw [O];exact T) Q a2 λ h' tk B kk=>q h' tk B λ b o G K e=>kk b o G K (I b o (λ z=>G (List.mem_singleton.mp z)) (D b o (λ z=>K (List.mem_singleton.mp z)) e))
theorem zcd {d it l:Addr} {items:Array Value} (ndi:d≠it) (ndl:d≠l) (nil':it≠l) :∀(ps:List (Key×Value)) (i:Nat) (kvs:List (Key×Value)) (A:K2) (R:j1a->B0->Prop) (s:B0),A.handled=none->s.heap.IsTupleIter it l i->s.heap.IsTuple l items->
  All2 (PairOf prog w s.heap) ps (items.toList.drop i)->Y3 (z0k prog w) s.heap d kvs->kvs.length + ps.length<=sizeLine->
  (∀h' tk,Y3 (z0k prog w) h' d (ps.foldl (λ acc p=>stored acc p.1 p.2) kvs)->(∀b o,b≠d->b≠it->s.heap.get? b=some o->h'.get? b=some o)->R (.ok (.ret .none)) { s with heap:=h',toks:=tk })->
  A5 (J1 prog w) A (F7 "dict.update.loop" { pos:=[.ref d,.ref it,.int (i:Nat) 0,.none],kw:=[] }) R s
 | [],i,kvs,A,R,s,hh,si,sl,al,r,hz,q=>by
  have N:items[i]? = none:=by
   cases hd:items.toList.drop i with
   | nil=>have:=List.drop_eq_nil_iff.mp hd;rw [J2] at this;exact L4 this
   | cons u us=>rw [hd] at al;cases al
  refine J3 z5m ?_;show S0 _ _ (p7 (.ref it) >>= _) _ _ s;refine o0 (wpAny_pyNext_tuple_end (show (A.under _).handled=none from hh) si sl N λ h' J=>?_);show S0 _ _ ((do V9 d [];ret .none):Sem Z9) _ _ _;refine o0 (show S0 _ _ (V3 ()) _ _ _ from C0 ?_);have B:Y3 (z0k prog w) h' d kvs:=by obtain ⟨o,v,t,g,m⟩:=r;exact ⟨o,v,t,J d o ndi g,m⟩
  exact C0 (q h' s.toks B λ b o _ k e=>J b o k e)
 | p :: ps,i,kvs,A,R,s,hh,si,sl,al,r,hz,q=>by
  cases hd:items.toList.drop i with
  | nil=>rw [hd] at al;cases al
  | cons u us=>
   rw [hd] at al;cases al with
   | cons pu al=>
    have Y:items.toList[i]? = some u:=by have:=congrArg (λ l=>l[0]?) hd;simpa using this
    have hu:items[i]? = some u:=by simpa using Y
    have O:items.toList.drop (i + 1)=us:=by have:=congrArg j06 hd;simpa using this
    obtain ⟨a,E,rfl,S,P⟩:=pu;refine J3 z5m ?_;show S0 _ _ (p7 (.ref it) >>= _) _ _ s;refine o0 (wpAny_pyNext_tuple_item si sl hu λ g a1 F=>?_);have H :∀o,s.heap.get? it=some o->o.cls≠.type "tuple":=λ o e z=>by obtain ⟨M,n,c,_⟩:=si;rw [e] at n;cases n;rw [z] at c;exact absurd c (by decide)
    have V :∀(h:Heap) (kvs:List (Key×Value)),Y3 (z0k prog w) h d kvs->∀o,h.get? d=some o->o.cls≠.type "tuple":=λ h kvs r o e z=>by obtain ⟨M,v,t,n,c,_⟩:=r;rw [e] at n;cases n;have:=c.1;rw [z] at this;exact absurd this (by decide)
    have D :∀b o,b∉[it]->s.heap.get? b=some o->g.get? b=some o:=λ b o k e=>(F.2 b (λ z=>k (by rw [z];exact List.mem_singleton.mpr rfl))).trans e;have a0:g.IsTuple a #[E,p.2]:=by obtain ⟨o,f,j,e3⟩:=S;exact ⟨o,D a o (λ z=>H o (List.mem_singleton.mp z ▸ f) j) f,j,e3⟩
    have Z:All2 (PairOf prog w g) ps us:=z00 (λ x y z=>PairOf.kept D (λ b k o e=>H o (List.mem_singleton.mp k ▸ e)) z) al;have L:Y3 (z0k prog w) g d kvs:=by obtain ⟨o,v,t,f,j⟩:=r;exact ⟨o,v,t,(F.2 d ndi).trans f,j⟩
    have X:g.IsTuple l items:=by obtain ⟨o,f,j⟩:=sl;exact ⟨o,(F.2 l (X1 nil')).trans f,j⟩
    refine o0 (V1 (o0 (W6 (za1 (s:={ s with heap:=g }) a0 ?_))));show S0 _ _ (n9 [E,p.2] (j2i d E p.2)) _ _ _;refine V1 (wpAny_dictSet_pairs P L (λ m Q C=>?_) (L0 (j0b _ _) hz));refine C0 ⟨z5l _,?_⟩;have I :∀b o,b∉[d]->g.get? b=some o->m.get? b=some o:=λ b o k e=>(C.2 b (λ z=>k (by rw [z];exact List.mem_singleton.mpr rfl))).trans e;have T:All2 (PairOf prog w m) ps us:=z00 (λ x y z=>PairOf.kept I (λ b k o e=>V g kvs L o (List.mem_singleton.mp k ▸ e)) z) Z;have W:m.IsTupleIter it l (i + 1):=by obtain ⟨o,f,j⟩:=a1;exact ⟨o,(C.2 it (X1 ndi)).trans f,j⟩
    have U:m.IsTuple l items:=by obtain ⟨o,f,j⟩:=X;exact ⟨o,(C.2 l (X1 ndl)).trans f,j⟩
    have a2:(stored kvs p.1 p.2).length + ps.length<=sizeLine:=by
     have:(stored kvs p.1 p.2).length<=kvs.length + 1:=by
      unfold stored;split
      ·rw [G0];exact A3 _
      ·rw [I0];exact J0 _
     rw [X0] at hz;omega
    exact zcd ndi ndl nil' ps (i + 1) (stored kvs p.1 p.2) A R { s with heap:=m,toks:=s.toks + 1 } hh W U (by rw [O];exact T) Q a2 λ h' tk B kk=>q h' tk B λ b o G K e=>kk b o G K (I b o (λ z=>G (List.mem_singleton.mp z)) (D b o (λ z=>K (List.mem_singleton.mp z)) e))
theorem z60 {h:Heap} {D:Addr} (e:h.get? D=some { cls:=.type "dict",data:=.dict #[] }):Y3 (z0k prog w) h D []:=by obtain ⟨o,b,c,a,r⟩:=j30 (knd:=z0k prog w) h;rw [C1 _ rfl] at a;cases a;exact ⟨_,b,c,e,r⟩
theorem z8h {D l:Addr} {items:Array Value} {n:Nat} {sl:Array (Option Value)} {ps:List (Key×Value)} {Q:B0->Prop} {A':K2} (hd:s.heap.get? D=some { cls:=.type "dict",data:=.dict #[] }) (hl:s.heap.get? l=some { cls:=.type "list",data:=.seq items n,slots:=sl }) (hh:A.handled=none) (hh':A'.handled=none)
  (al:All2 (PairOf prog w s.heap) ps items.toList) (hz:ps.length<=sizeLine)
  (q :∀h' tk,Y3 (z0k prog w) h' D (merged [] ps)->(∀b o,b≠D->s.heap.get? b=some o->h'.get? b=some o)->Q { s with heap:=h',toks:=tk }) :
  S0 (J1 prog w) A (r9.«dict.__init__» { pos:=[.ref D,.ref l] }) (λ fin s'=>match fin with
   | .done f=>wants (λ r s₂=>r=M3/\Q s₂) E (.ok f) s'
   | .again c'=>c'.quiet=true/\A5 (J1 prog w) A' c' (wants (λ r s₂=>r=M3/\Q s₂) E) s') (λ e s'=>wants (λ r s₂=>r=M3/\Q s₂) E (.error e) s') s:=by
 have j:D≠l:=λ z=>by rw [z,hl] at hd;exact absurd (show F3 "list" = F3 "dict" from congrArg Obj.cls (O2 hd)) (by decide)
 unfold r9.«dict.__init__» U9;refine o0 (o0 (wpAny_notOrdered_dict ⟨_,hd,rfl⟩ ?_));refine o0 (show S0 _ _ (V3 D) _ _ _ from C0 (C0 ?_));show S0 _ _ (W5 "dict.__init__" D (.ref l) [] .none) _ _ _;unfold W5;refine o0 (U7 (T:="list") ⟨_,hl,rfl⟩ ?_);show S0 _ _ (j0g (.ref l) (O3 "keys") >>= _) _ _ _;refine o0 (zgn hl hh λ h tk a=>?_);show S0 _ _ (rule _ >>= _) _ _ _;refine o0 (o7 (o0 (Y4 (items:=items) ⟨_,a _ _ hl,rfl,_,rfl⟩ ?_)));refine C0 ⟨z5l _,?_⟩;have k:=Q0 (a _ _ hd);have p:=Q0 (a _ _ hl);have c :∀b o,s.heap.get? b=some o->(h.push { cls:=.type "list_iterator",data:=.fields #[.ref l,.int 0 0] }).get? b=some o:=λ b o e=>F0 _ (a b o e);refine zdx (d:=D) (it:=h.objs.size) (l:=l) (items:=items) (Y0 k) j (W3 p) ps 0 [] A' _ _ hh' ⟨_,C1 _ rfl,rfl,rfl⟩ ⟨_,c _ _ hl,rfl,_,rfl⟩ ?_ ?_ (by simpa using hz) λ h' i m t=>⟨rfl,q h' i m λ b o g e=>t b o g (λ z=>?_) (c b o e)⟩
 ·rw [F6];exact z00 (λ x y z=>PairOf.kept (L:=[]) (λ b o _ e=>c b o e) (λ b g=>absurd g K0) z) al
 ·exact z60 (c _ _ hd)
 ·rw [z] at e;exact absurd (Q0 (a _ _ e)) (y4 _)
theorem z6x {D l:Addr} {items:Array Value} {n:Nat} {sl:Array (Option Value)} {ps:List (Key×Value)} {Q:B0->Prop} {A':K2} (hd:s.heap.get? D=some { cls:=.type "dict",data:=.dict #[] }) (hl:s.heap.get? l=some { cls:=.type "tuple",data:=.seq items n,slots:=sl }) (hh:A.handled=none) (hh':A'.handled=none)
  (al:All2 (PairOf prog w s.heap) ps items.toList) (hz:ps.length<=sizeLine)
  (q :∀h' tk,Y3 (z0k prog w) h' D (merged [] ps)->(∀b o,b≠D->s.heap.get? b=some o->h'.get? b=some o)->Q { s with heap:=h',toks:=tk }) :
  S0 (J1 prog w) A (r9.«dict.__init__» { pos:=[.ref D,.ref l] }) (λ fin s'=>match fin with
   | .done f=>wants (λ r s₂=>r=M3/\Q s₂) E (.ok f) s'
   | .again c'=>c'.quiet=true/\A5 (J1 prog w) A' c' (wants (λ r s₂=>r=M3/\Q s₂) E) s') (λ e s'=>wants (λ r s₂=>r=M3/\Q s₂) E (.error e) s') s:=by
 have j:D≠l:=λ z=>by rw [z,hl] at hd;exact absurd (show F3 "tuple" = F3 "dict" from congrArg Obj.cls (O2 hd)) (by decide)
 unfold r9.«dict.__init__» U9;refine o0 (o0 (wpAny_notOrdered_dict ⟨_,hd,rfl⟩ ?_));refine o0 (show S0 _ _ (V3 D) _ _ _ from C0 (C0 ?_));show S0 _ _ (W5 "dict.__init__" D (.ref l) [] .none) _ _ _;unfold W5;refine o0 (U7 (T:="tuple") ⟨_,hl,rfl⟩ ?_);show S0 _ _ (j0g (.ref l) (O3 "keys") >>= _) _ _ _;refine o0 (zeh hl hh λ h tk a=>?_);show S0 _ _ (rule _ >>= _) _ _ _;refine o0 (o7 (o0 (wpAny_pyIter_tuple (items:=items) ⟨_,a _ _ hl,rfl,_,rfl⟩ ?_)));refine C0 ⟨z5l _,?_⟩;have k:=Q0 (a _ _ hd);have p:=Q0 (a _ _ hl);have c :∀b o,s.heap.get? b=some o->(h.push { cls:=.type "tuple_iterator",data:=.fields #[.ref l,.int 0 0] }).get? b=some o:=λ b o e=>F0 _ (a b o e);refine zcd (d:=D) (it:=h.objs.size) (l:=l) (items:=items) (Y0 k) j (W3 p) ps 0 [] A' _ _ hh' ⟨_,C1 _ rfl,rfl,rfl⟩ ⟨_,c _ _ hl,rfl,_,rfl⟩ ?_ ?_ (by simpa using hz) λ h' i m t=>⟨rfl,q h' i m λ b o g e=>t b o g (λ z=>?_) (c b o e)⟩
 ·rw [F6];exact z00 (λ x y z=>PairOf.kept (L:=[]) (λ b o _ e=>c b o e) (λ b g=>absurd g K0) z) al
 ·exact z60 (c _ _ hd)
 ·rw [z] at e;exact absurd (Q0 (a _ _ e)) (y4 _)
end
section
variable {X:Cx}
def zk1 (K:j0):List V->Hp->VK->Prop:=λ xs H Q=>∃a ys kvs,xs=[.ref a]/\(H a=some (.lst ys)\/H a=some (.tup ys))/\All2 (λ (p:Key×V) y=>∃b,y=.ref b/\SqT K H b [kV p.1,p.2]) kvs ys/\∀p,H p=none->Q (.ref p) (upd H p (.dK (mergeK [] kvs)))
theorem zai {pins:List (Addr×Obj)} {σ:St} {H:Hp} {s:B0} (I:Inv X pins σ H s) :∀{kvs:List (Key×V)} {ys:List V} {its:List Value},All2 (λ (p:Key×V) y=>∃b,y=.ref b/\SqT X.K H b [kV p.1,p.2]) kvs ys->Vals ys its->
  ∃ps,KV kvs ps/\All2 (PairOf X.prog X.w s.heap) ps its
 | [],_,_,.nil,r=>by cases r;exact ⟨[],.nil,.nil⟩
 | p :: kvs,_,_,.cons ⟨b,e,sb⟩ al,r=>by
  cases r with
  | cons r1 r2=>
   subst e;obtain ⟨ps,d,c⟩:=zai I al r2;obtain ⟨its,a,f,_⟩:=I.tuple sb;cases a with
   | cons ra a=>
    cases a with
    | cons rb a=>cases a;rename_i u1 u2;exact ⟨(p.1,u2) :: ps,.cons ⟨rfl,rb⟩ d,.cons ⟨b,u1,r1,f,kV_is ra⟩ c⟩
theorem z45 (kvs:List (Key×V)) :∀more:List (Key×V),(mergeK kvs more).length<=kvs.length + more.length
 | []=>J0 _
 | p :: more=>by have a:=z45 (putK kvs p.1 p.2) more;have b:=z23 kvs p.1 p.2;show (mergeK (putK kvs p.1 p.2) more).length<=_;rw [X0];omega
theorem zcw (hc:X.calm=true):CallR X (.type "dict") (zk1 X.K):=by
 intro U s σ H Y V Q I r h;obtain ⟨a,T,g,rfl,l,B,q⟩:=h;obtain ⟨u,rfl,R⟩:=vals1 r;cases (show u=E1 a from R);have p:X.A.handled=none:=I.ok.hd hc;have O:H s.heap.objs.size=none:=I.hok.fresh (J0 _);have big:=I.big;have D :∀(c:List (Key×Value)) (h':Heap) (d:Nat),KV g c->g.length<=sizeLine->Y3 (z0k X.prog X.w) h' s.heap.objs.size (merged [] c)->(∀b o,b≠s.heap.objs.size->(s.heap.push { cls:=.type "dict",data:=.dict #[] }).get? b=some o->h'.get? b=some o)->
   EP X U σ Q (.ref s.heap.objs.size) { s with heap:=h',toks:=d }:=λ c h' d f S k m=>by
  refine ⟨.ref s.heap.objs.size,_,I.laid (a:=s.heap.objs.size) (o:=.dK (mergeK [] g)) (h':=h') (t':=d) (λ b o e=>m b o (Y0 (Q0 e)) (F0 _ e)) (J0 _) ?_,rfl,q _ O⟩;exact dk_new (L0 (z45 [] g) (by simpa using S)) (beq_eq_false_iff_ne.mpr (X1 (Y0 big))) (KV.merge f .nil) k
 have len:T.length=g.length:=z04 B;rcases l with l|l
 ·obtain ⟨z,P,n,C,hl,e⟩:=I.lstM l;obtain ⟨c,f,v⟩:=zai I B C;refine callType_codes F.kt_called_dict (F.kt_typeCall_dict_1 _) F.entry_dict_init (kt_code_dict_new _ (Q₁:=λ j i=>j=.ref s.heap.objs.size/\i={ s with heap:=s.heap.push { cls:=.type "dict",data:=.dict #[] } }) ⟨rfl,rfl⟩) ?_;rintro j i ⟨rfl,rfl⟩;refine ⟨⟨_,C1 _ rfl,rfl⟩,F.args_dict_init_2 _ _,?_⟩;refine z8h (s:={ s with heap:=s.heap.push { cls:=.type "dict",data:=.dict #[] } }) (C1 _ rfl) (F0 _ e) p p (by simpa using z00 (λ x y z=>PairOf.kept (L:=[]) (λ b o _ e=>F0 _ e) (λ b t=>absurd t K0) z) v) (by rw [<-T7 f,<-len];exact z) λ h' d k m=>D c h' d f (by rw [<-len];exact z) k m
 ·obtain ⟨z,P,C,⟨o,E,J,n,M⟩,o2,N,G⟩:=I.hok a _ l;rw [E] at N;cases N;obtain ⟨c,f,v⟩:=zai I B C;obtain ⟨W,od,Z,a0⟩:=o;dsimp only at J M G;subst J M G;refine callType_codes F.kt_called_dict (F.kt_typeCall_dict_1 _) F.entry_dict_init (kt_code_dict_new _ (Q₁:=λ j i=>j=.ref s.heap.objs.size/\i={ s with heap:=s.heap.push { cls:=.type "dict",data:=.dict #[] } }) ⟨rfl,rfl⟩) ?_;rintro j i ⟨rfl,rfl⟩;refine ⟨⟨_,C1 _ rfl,rfl⟩,F.args_dict_init_2 _ _,?_⟩;refine z6x (s:={ s with heap:=s.heap.push { cls:=.type "dict",data:=.dict #[] } }) (C1 _ rfl) (F0 _ E) p p (by simpa using z00 (λ x y z=>PairOf.kept (L:=[]) (λ b o _ e=>F0 _ e) (λ b t=>absurd t K0) z) v) (by rw [<-T7 f,<-len];exact z) λ h' d k m=>D c h' d f (by rw [<-len];exact z) k m
end
end L2
set_option maxHeartbeats 400000
namespace L2
open PySem PySem.Spec PyProof.Rows
structure RunsR (S:Hp->Hp->Prop) (J:It) (H1:Hp) (n:Nat) (Item:Nat->V->Hp->Prop):Prop where
 go :∀i,i < n->∀H,S H1 H->J.go i H
 stop :∀H,S H1 H->J.stop n H
 item :∀i,i < n->∀H v H',S H1 H->J.yld i H v H'->S H H'/\Item i v H'
theorem z35 {S:Hp->Hp->Prop} {J:It} {H1:Hp} {n m:Nat} {Item:Nat->V->Hp->Prop} {fr:List (Nat×Str)} {g:TG} {tc:TT} {te:TE} {σ:St} {Q:VK} (s0:S H1 H1) (st :∀a b c,S a b->S b c->S a c) (p:Nat->Bool) (R:Nat->V->Hp->Prop) (hR :∀i y H H',S H H'->R i y H->R i y H') (r:RunsR S J H1 n Item) (hn:n<=sizeLine)
  (body :∀i,i < n->∀v H,S H1 H->Item i v H->∀(KT:VK) (KF:Hp->Prop),(p i=true->∀y H',S H H'->R i y H'->KT y H')->(p i=false->∀H',S H H'->KF H')->
   g v (cStG σ fr (N0 m none)) H λ σ6 H6=>∃us,us.length=m/\σ6=cStG σ fr us/\tc (cStG σ fr us) H6 λ b H2=>if b=true then te (cStG σ fr us) H2 KT else KF H2)
  (hQ :∀l H' ys,S H1 H'->H' l=none->All2 (λ i y=>R i y H') ((V0 n).filter p) ys->Q (.ref l) (upd H' l (.lst ys))) :
  ∃W:Nat->Nat->List V->Hp->Prop,(∃m,W 0 m [] H1)/\∀i k ys H,W i k ys H->
   (J.stop i H/\ys.length<=sizeLine/\∀p,H p=none->Q (.ref p) (upd H p (.lst ys)))\/
   (J.go i H/\ys.length<=sizeLine/\∀v H',J.yld i H v H'->g v (cStG σ fr (N0 m none)) H' λ σ6 H6=>∃us,us.length=m/\σ6=cStG σ fr us/\tc (cStG σ fr us) H6 λ b H2=>if b=true then te (cStG σ fr us) H2 λ y H3=>∃m',m' < k/\W (i + 1) m' (ys++[y]) H3 else∃m',m' < k/\W (i + 1) m' ys H2):=by
 refine ⟨λ i k ys H'=>k=n - i/\i<=n/\S H1 H'/\All2 (λ i y=>R i y H') ((V0 i).filter p) ys,⟨n,by simp,A2 _,s0,.nil⟩,?_⟩;rintro i k ys H' ⟨rfl,hi,sm,fa⟩;have j:ys.length<=sizeLine:=by rw [z04 fa];have:=S6 p (V0 i);rw [W2] at this;omega
 by_cases hlt:i < n
 ·refine .inr ⟨r.go i hlt H' sm,j,λ v H2 y=>?_⟩;obtain ⟨f,s⟩:=r.item i hlt H' v H2 sm y;refine body i hlt v H2 (st _ _ _ sm f) s _ _ (λ h y H3 d q=>⟨n - (i + 1),by omega,rfl,hlt,st _ _ _ (st _ _ _ sm f) d,?_⟩) (λ h H3 d=>⟨n - (i + 1),by omega,rfl,hlt,st _ _ _ (st _ _ _ sm f) d,?_⟩)
  ·rw [z2k,if_pos h];exact z5z (z00 (λ a b z=>hR a b _ _ (st _ _ _ f d) z) fa) q
  ·rw [z2k,if_neg (by rw [h];decide),C3];exact z00 (λ a b z=>hR a b _ _ (st _ _ _ f d) z) fa
 ·have e:i=n:=by omega
  subst e;exact .inl ⟨r.stop H' sm,j,λ l o=>hQ l H' ys sm o fa⟩
theorem z8r {S:Hp->Hp->Prop} {K:j0} {a:Addr} {xs:List V} {H1:Hp} (hs :∀H,S H1 H->S H H) (hq :∀H,S H1 H->SqL K H a xs):RunsR S (Itl K a) H1 xs.length (λ i v _=>xs[i]? = some v):=
 ⟨λ i b H s=>⟨xs,xs[i],hq H s,by simp [b]⟩,λ H s=>⟨xs,hq H s,J0 _⟩,λ i b H v c s y=>by obtain ⟨e,y⟩:=y;subst e;exact ⟨hs _ s,y xs (hq _ s)⟩⟩
theorem zgg {S:Hp->Hp->Prop} {K:j0} {a:Addr} {xs:List V} {H1:Hp} (hs :∀H,S H1 H->S H H) (hq :∀H,S H1 H->SqT K H a xs):RunsR S (Itt K a) H1 xs.length (λ i v _=>xs[i]? = some v):=
 ⟨λ i b H s=>⟨xs,xs[i],hq H s,by simp [b]⟩,λ H s=>⟨xs,hq H s,J0 _⟩,λ i b H v c s y=>by obtain ⟨e,y⟩:=y;subst e;exact ⟨hs _ s,y xs (hq _ s)⟩⟩
theorem zgz {S:Hp->Hp->Prop} {n:Nat} {H1:Hp} (hs :∀H,S H1 H->S H H):RunsR S (Itr 0 n) H1 n (λ i v _=>v=.int (i:Nat)):=
 ⟨λ i a H s=>a,λ H s=>J0 _,λ i a H v b s y=>by obtain ⟨e,y⟩:=y;subst e;exact ⟨hs _ s,by rw [y,N8]⟩⟩
def Ris (xs:Array Nat):Prop:=xs.toList.Pairwise (· < ·)
theorem Ris.lt {xs:Array Nat} (r:Ris xs) {i k:Nat} (h:i < k) (hk:k < xs.size):xs[i]'(L7 h hk) < xs[k]:=by have:=(List.pairwise_iff_getElem.mp r) i k (by simpa using L7 h hk) (by simpa using hk) h;simpa using this
theorem zjt {xs:Array Nat} {i d:Nat} (h:i < xs.size):xs.getD i d=xs[i]:=by simp [Array.getD,h]
theorem zaz {xs:Array Nat} {j:Nat} (r:Ris xs) :∀(f lo hi:Nat),lo<=hi->hi<=xs.size->hi - lo<=f->(∀i (h:i < xs.size),i < lo->xs[i] < j)->(∀i (h:i < xs.size),hi<=i->j<=xs[i])->
  Y6 xs j f lo hi<=xs.size/\(∀i (h:i < xs.size),i < Y6 xs j f lo hi->xs[i] < j)/\(∀i (h:i < xs.size),Y6 xs j f lo hi<=i->j<=xs[i])
 | 0,lo,hi,h1,h2,h3,ha,hb=>by
  have:lo=hi:=by omega
  subst this;exact ⟨h2,ha,hb⟩
 | f + 1,lo,hi,h1,h2,h3,ha,hb=>by
  unfold Y6;by_cases z:lo < hi
  ·rw [if_pos z];have a:(lo + hi) / 2 < xs.size:=by omega
   dsimp only;rw [zjt a];by_cases y:xs[(lo + hi) / 2] < j
   ·rw [if_pos y];refine zaz r f _ _ (by omega) h2 (by omega) (λ i h b=>?_) hb;by_cases e:i=(lo + hi) / 2
    ·subst e;exact y
    ·exact L7 (r.lt (by omega) a) y
   ·rw [if_neg y];refine zaz r f _ _ (by omega) (by omega) (by omega) ha λ i h b=>?_;by_cases e:i=(lo + hi) / 2
    ·subst e;omega
    ·exact L0 (Nat.not_lt.mp y) (j00 (r.lt (by omega) h))
  ·rw [if_neg z];have:lo=hi:=by omega
   subst this;exact ⟨h2,ha,hb⟩
theorem ze0 {xs:Array Nat} (r:Ris xs) (j:Nat):V2 xs j<=xs.size/\(∀i (h:i < xs.size),i < V2 xs j->xs[i] < j)/\(∀i (h:i < xs.size),V2 xs j<=i->j<=xs[i]):=
 zaz r _ _ _ (A2 _) (J0 _) (J0 _) (λ i h z=>absurd z (j12 _)) (λ i h z=>absurd h (Nat.not_lt.mpr z))
theorem z6p {α:Type} (xs:Array α) (p:Nat) (x:α) (hp:p<=xs.size):(w9 xs p x).toList=xs.toList.take p++x :: xs.toList.drop p:=by unfold w9;simp [D6]
theorem Ris.insert {xs:Array Nat} (r:Ris xs) {j:Nat} (h:¬ xs[V2 xs j]? = some j):Ris (w9 xs (V2 xs j) j):=by
 obtain ⟨q,w,g⟩:=ze0 r j;unfold Ris;rw [z6p _ _ _ q];refine List.pairwise_append.mpr ⟨r.sublist (List.take_sublist _ _),List.pairwise_cons.mpr ⟨λ y o=>?_,r.sublist (List.drop_sublist _ _)⟩,λ a v b d=>?_⟩
 ·obtain ⟨i,f,e⟩:=List.mem_drop_iff_getElem.mp o;have l:V2 xs j + i < xs.size:=by simpa [j01] using f
  have c:xs[V2 xs j + i]=y:=by simpa using e
  have le:=g _ l (by omega);rw [c] at le;rcases Nat.lt_or_eq_of_le le with z|z
  ·exact z
  ·exfalso;have d:V2 xs j < xs.size:=by omega
   have x:=g _ d (J0 _);have:xs[V2 xs j]=j:=by
    by_cases i0:i=0
    ·subst i0;exact c.trans z.symm
    ·have:=r.lt (show V2 xs j < V2 xs j + i by omega) l;rw [c] at this;omega
   exact h (by rw [j19 d,this])
 ·obtain ⟨i,f,e⟩:=List.mem_take_iff_getElem.mp v;have t:i < xs.size:=by have:=f;simp at this;omega
  have u:i < V2 xs j:=by have:=f;simp at this;omega
  have lt:=w i t u;have c:xs[i]=a:=by simpa using e
  rw [c] at lt;rcases List.mem_cons.mp d with z|z
  ·rw [z];exact lt
  ·obtain ⟨k,p,s⟩:=List.mem_drop_iff_getElem.mp z;have n:V2 xs j + k < xs.size:=by simpa [j01] using p
   have m:xs[V2 xs j + k]=b:=by simpa using s
   have:=g _ n (by omega);rw [m] at this;omega
theorem zgx (n:Nat):Ris (Array.range n):=by unfold Ris;rw [Array.toList_range];exact D8
def z9k (t:K7) (j:Nat):Prop:=¬ t.place[V2 t.place j]? = some j
theorem z97 {t:K7} {j:Nat} (h :∀i,t.slot j≠.live i):z9k t j:=λ e=>by refine h (V2 t.place j) ?_;unfold SetTable.slot;dsimp only;rw [if_pos (by rw [e];exact beq_self_eq_true _)]
theorem z5v {t:K7} {hs:Nat->Int} {h:Int} :∀(f:Nat) (p:SetTable.Probe) (j:Nat) (d:Option Nat),(∀k,p.dummy=some k->z9k t k)->j0j t hs h f p=some (.empty j d)->z9k t j/\∀k,d=some k->z9k t k
 | 0,p,j,d,hd,e=>by cases e
 | f + 1,p,j,d,hd,e=>by
  unfold j0j at e;cases q:t.slot p.j with
  | empty=>rw [q] at e;cases e;exact ⟨z97 (λ i z=>by rw [q] at z;cases z),hd⟩
  | dummy=>rw [q] at e;refine z5v f _ j d (λ k z=>?_) e;unfold j3g at z;dsimp only at z;split at z<;>(cases z;exact z97 λ i z=>by rw [q] at z;cases z)
  | live i=>
   rw [q] at e;dsimp only at e;split at e
   ·cases e
   ·refine z5v f _ j d (λ k z=>?_) e;unfold j3g at z;dsimp only at z;split at z<;>exact hd k z
theorem zcz {t:K7} {h:Int} {s:Nat} {b:Bool} (e:t.freeSlot h=some (s,b)):z9k t s:=by
 unfold SetTable.freeSlot at e;cases q:t.probe (λ _=>h + 1) h (t.probeStart h) with
 | none=>rw [q] at e;cases e
 | some m=>
  rw [q] at e;cases m with
  | candidate a b c=>cases e
  | empty j d=>
   have:=z5v _ _ j d (λ k z=>by cases z) q;cases e;cases d with
   | none=>exact this.1
   | some k=>exact this.2 k rfl
def Tidy (l:Bool) (t:K7):Prop:=t.led=l/\Ris t.place
theorem Tidy.standIn {l:Bool} {t:K7} (h:Tidy l t) (n:Nat):Tidy l (t.standIn n):=⟨h.1,zgx n⟩
theorem Tidy.layNew {l:Bool} {t:K7} (h:Tidy l t) (es:Array (Int×Value)) (k:Int) (x:Value):Tidy l (layNew t es k x).2.1:=by
 unfold PySem.layNew;cases q:t.freeSlot k with
 | none=>exact h.standIn _
 | some s=>
  obtain ⟨s,b⟩:=s;dsimp only;have a:Tidy l (t.put s).1:=⟨h.1,Ris.insert h.2 (zcz q)⟩
  unfold SetTable.orStandIn;split
  ·exact a
  ·exact a.standIn _
theorem Tidy.relayAll {l:Bool} {t:K7} (h:Tidy l t) (es:Array (Int×Value)) (n:Nat):Tidy l (j34 t es n).2.1:=by
 unfold PySem.relayAll;cases q:t.relaid (es.map (·.1)) n with
 | none=>exact h.standIn _
 | some p=>
  obtain ⟨r,o⟩:=p;dsimp only;split
  ·unfold SetTable.relaid SetTable.laid at q;cases q2:SetTable.layClean (SetTable.sizeAbove n - 1) (es.map (·.1)) with
   | none=>rw [q2] at q;cases q
   | some ow=>rw [q2] at q;cases q;refine ⟨h.1,?_⟩;show (List.map _ _).Pairwise _;rw [R9];refine List.Pairwise.filterMap _ (λ a b i c g d f=>?_) (D8);obtain ⟨k,_,j⟩:=Option.map_eq_some_iff.mp g;obtain ⟨m,_,e⟩:=Option.map_eq_some_iff.mp f;rw [<-j,<-e];exact i
  ·exact h.standIn _
end L2
set_option maxHeartbeats 1000000
namespace L2
open PySem PySem.Spec PyProof.Rows
noncomputable def intOf:Value->Int
 | .int i _=>i
 | _=>0
theorem z80 {vs:List Value} {ns:List Int} (h:V4 vs ns):ns=vs.map intOf/\∀v∈vs,∃i t,v=.int i t:=by
 induction h with
 | nil=>exact ⟨rfl,λ v a=>by cases a⟩
 | cons n t r ih=>
  refine ⟨by rw [ih.1];rfl,λ v a=>?_⟩;rcases List.mem_cons.mp a with e|a
  ·exact ⟨n,t,e⟩
  ·exact ih.2 v a
theorem zes :∀vs:List Value,(∀v∈vs,∃i t,v=.int i t)->V4 vs (vs.map intOf)
 | [],_=>.nil
 | v :: vs,h=>by obtain ⟨i,t,e⟩:=h v (.head _);subst e;exact .cons i t (zes vs λ v a=>h v (.tail _ a))
theorem zbt {vs vs':List Value} {ns:List Int} (h:V4 vs ns) (p:vs'.Perm vs) :∃ns',V4 vs' ns'/\ns'.Perm ns:=by obtain ⟨e,k⟩:=z80 h;refine ⟨vs'.map intOf,zes vs' λ v a=>k v (p.mem_iff.mp a),?_⟩;rw [e];exact p.map _
theorem zfv {vs:List Value} {ns:List Int} (h:V4 vs ns):ns.length=vs.length:=by rw [(z80 h).1,G0]
theorem zgw {vs:List Value} {ns:List Int} (h:V4 vs ns) (n:Int) (t:Tok):V4 (vs++[.int n t]) (ns++[n]):=by
 induction h with
 | nil=>exact .cons n t .nil
 | cons m u r ih=>exact .cons m u ih
section
variable {prog:Program} {w:Z0} {A:K2} {E:Value->B0->Prop} {s:B0}
def SetAt (prog:Program) (w:Z0) (l:Bool) (h:Heap) (a:Addr) (ns:List Int):Prop:=
 ∃es ep t,h.get? a=some { cls:=.type "set",dict:=none,data:=.set es ep t,slots:=#[] }/\ElemsOf (Z4 prog w) es.toList/\V4 (es.toList.map (·.2)) ns/\ns.Nodup/\es.size < scanBound/\t.fits es.size=true/\Tidy l t
theorem zc2 {l:Bool} {h:Heap} {a:Addr} {es0 es:Array (Int×Value)} {ep:Nat} {t0 t:K7} {ns:List Int} (ho:h.get? a=some { cls:=.type "set",dict:=none,data:=.set es0 ep t0,slots:=#[] })
  (hel:ElemsOf (Z4 prog w) es.toList) (hi:V4 (es.toList.map (·.2)) ns) (nd:ns.Nodup) (hb:es.size < scanBound) (hf:t.fits es.size=true) (ht:Tidy l t) :
  (h.update a (P9 es t)).get? a=some { cls:=.type "set",dict:=none,data:=.set es (ep + 1) t,slots:=#[] }/\SetAt prog w l (h.update a (P9 es t)) a ns:=by
 have g:(h.update a (P9 es t)).get? a=some { cls:=.type "set",dict:=none,data:=.set es (ep + 1) t,slots:=#[] }:=T6 (P9 es t) ho rfl;exact ⟨g,es,ep + 1,t,g,hel,hi,nd,hb,hf,ht⟩
theorem zjn {es:List (Int×Value)} {ns:List Int} {v:Int} (hi:V4 (es.map (·.2)) ns) (h:es.findIdx? (λ e=>(Z4 prog w).is v e.2)=none):¬ v∈ns:=λ c=>by
 obtain ⟨e,k⟩:=z80 hi;rw [e] at c;obtain ⟨y,a,d⟩:=List.mem_map.mp c;obtain ⟨p,g,j⟩:=List.mem_map.mp a;obtain ⟨i,t,b⟩:=k y a;have:=List.findIdx?_eq_none_iff.mp h p g;have f:v=i:=by rw [<-d,b];rfl
 have:(Z4 prog w).is v p.2=false:=by simpa using this
 rw [j,b,f,N6] at this;cases this
theorem zkj {es:List (Int×Value)} {ns:List Int} {v:Int} {j:Nat} (hi:V4 (es.map (·.2)) ns) (h:es.findIdx? (λ e=>(Z4 prog w).is v e.2)=some j):v∈ns:=by obtain ⟨b,a,_⟩:=List.findIdx?_eq_some_iff_getElem.mp h;obtain ⟨t,e⟩:=Value.isInt_shape (show j38 v es[j].2=true from a);rw [(z80 hi).1];exact List.mem_map.mpr ⟨es[j].2,List.mem_map.mpr ⟨es[j],E3 b,rfl⟩,by rw [e];rfl⟩
theorem zfo {ns:List Int} {v:Int} (h:ns.Nodup) (n:¬ v∈ns):(ns++[v]).Nodup:=by refine List.nodup_append.mpr ⟨h,by simp,λ a d b c e=>?_⟩;rw [List.mem_singleton.mp c] at e;exact n (e ▸ d)
noncomputable def addI (ns:List Int) (v:Int):List Int:=if v∈ns then ns else ns++[v]
theorem zkk {l:Bool} {a:Addr} {v:Int} {tk:Tok} {ns:List Int} {Q:Bool->B0->Prop} (hS:SetAt prog w l s.heap a ns) (hroom:ns.length + 1 < scanBound)
  (h :∀b h' ns',K6 a s.heap h'->SetAt prog w l h' a ns'->ns'.Perm (addI ns v)->Q b { s with heap:=h' }):S0 (J1 prog w) A (setAddHashed a (.int v tk) ((Z4 prog w).hash v)) Q E s:=by
 obtain ⟨f,ep,t,k,y,n,O,K,H,M⟩:=hS;have a4:f.size=ns.length:=by rw [zfv n,G0,J2]
 have P:(Z4 prog w).is v (.int v tk)=true:=N6 prog w v tk;unfold setAddHashed setAddHashedIn;refine V1 (o0 (wpAny_setState_of k rfl H ?_));dsimp only;rw [byScan_of rfl K y];simp only [↓reduceIte];unfold setAddByScan;refine o0 (o0 (o7 (o0 (wpAny_setScan_of P k rfl H y ?_))));cases hr:List.findIdx? (λ e=>(Z4 prog w).is v e.2) f.toList with
 | some j=>refine C0 (C0 ?_);have:=h false s.heap ns (j1j a s.heap) ⟨f,ep,t,k,y,n,O,K,H,M⟩ (by unfold addI;rw [if_pos (zkj n hr)]);exact this
 | none=>
  dsimp only;have g:=layNew_perm t f ((Z4 prog w).hash v) (.int v tk);have I:=layNew_fits t f ((Z4 prog w).hash v) (.int v tk);have u:=M.layNew f ((Z4 prog w).hash v) (.int v tk);generalize layNew t f ((Z4 prog w).hash v) (.int v tk)=L at g I u⊢;obtain ⟨c,d,wd,a1⟩:=L;dsimp only at g I u⊢;rw [Array.toList_push] at g;have T:ElemsOf (Z4 prog w) c.toList:=(y.push P rfl).perm g;have p :∃m,V4 (c.toList.map (·.2)) m/\m.Perm (ns++[v]):=zbt (zgw n v tk) (by have:=g.map (λ e:Int×Value=>e.2);rwa [W1] at this);obtain ⟨m,p,D⟩:=p;have U:=zjn n hr;have V:m.Nodup:=D.nodup_iff.mpr (zfo O U);have J:addI ns v=ns++[v]:=if_neg U;have C:c.size < scanBound:=by rw [<-J2,g.length_eq,I0,J2,a4];exact hroom
  have R :∀(b:Bool) {B:B0} {Q':Unit->B0->Prop},Q' () B->S0 (J1 prog w) A (match b with|true=>rule "set.scan.the-table-gave-way" | false=>V3 ()) Q' E B:=λ b B Q' q=>by cases b with|false=>exact C0 q|true=>exact o7 q
  have Z:S0 (J1 prog w) A (do
    storeSet a c d
    if (!wd && d.tooFull)=true then do
      (match (j34 d c (K5 c.size)).2.2 with|true=>rule "set.scan.the-table-gave-way" | false=>V3 ())
      storeSet a (j34 d c (K5 c.size)).1 (j34 d c (K5 c.size)).2.1
      V3 (some true)
     else V3 (some true)) (λ r o=>∃b,r=some b/\Q b o) E s:=by
   obtain ⟨N,S1⟩:=zc2 (prog:=prog) (w:=w) k T p V C I u;have X:=v8 s.heap a (P9 c d);refine o0 (wpAny_storeSet_of k rfl ?_ (fits_of_scanBound C));split
   ·have i:=relayAll_perm d c (K5 c.size);have G:=relayAll_fits d c (K5 c.size);have F:=u.relayAll c (K5 c.size);generalize j34 d c (K5 c.size)=L2 at i G F⊢;obtain ⟨a0,t2,g2⟩:=L2;dsimp only at i G F⊢;obtain ⟨a2,a3,Y⟩:=zbt p (i.map (λ e:Int×Value=>e.2));have W:a0.size < scanBound:=by rw [<-J2,i.length_eq,J2];exact C
    refine o0 (R g2 (o0 (wpAny_storeSet_of N rfl ?_ (fits_of_scanBound W))));obtain ⟨_,S2⟩:=zc2 (prog:=prog) (w:=w) N (T.perm i) a3 (Y.nodup_iff.mpr V) W G F;exact C0 ⟨true,rfl,h true _ a2 (X.trans (v8 _ a _)) S2 (by rw [J];exact Y.trans D)⟩
   ·exact C0 ⟨true,rfl,h true _ m X S1 (by rw [J];exact D)⟩
  refine o0 (R a1 ?_);have S:=b4 Z (Q':=λ r o=>S0 (J1 prog w) A (match r with|some added=>V3 added|none=>setAddHashedIn a (.int v tk) ((Z4 prog w).hash v) 99999) Q E o) (E':=E) (λ r o x=>by obtain ⟨b,e,q⟩:=x;subst e;exact C0 q) (λ e o x=>x);by_cases z:d.plain=true
  ·rw [if_pos z];exact o0 (j20 (show hashByValue 8 (d9 v tk)=V3 true from rfl) S)
  ·rw [if_neg z];exact o0 (C0 S)
end
theorem zgj {ns ms:List Int} (p:ns.Perm ms) (v:Int):(addI ns v).Perm (addI ms v):=by
 unfold addI;by_cases z:v∈ns
 ·rw [if_pos z,if_pos (p.mem_iff.mp z)];exact p
 ·rw [if_neg z,if_neg (λ y=>z (p.mem_iff.mpr y))];exact p.append_right [v]
theorem z4c :∀(vs:List Int) {ns ms:List Int},ns.Perm ms->(vs.foldl addI ns).Perm (vs.foldl addI ms)
 | [],_,_,p=>p
 | v :: vs,_,_,p=>z4c vs (zgj p v)
theorem zen (ns:List Int) (v:Int):(addI ns v).length<=ns.length + 1:=by
 unfold addI;split
 ·exact A3 _
 ·rw [I0];exact J0 _
section
variable {prog:Program} {w:Z0} {A:K2} {E:Value->B0->Prop} {s:B0}
theorem SetAt.at' {l:Bool} {h h':Heap} {a:Addr} {ns:List Int} (k :∀o,h.get? a=some o->h'.get? a=some o) (x:SetAt prog w l h a ns):SetAt prog w l h' a ns:=by obtain ⟨b,c,t,e,r⟩:=x;exact ⟨b,c,t,k _ e,r⟩
theorem zch (a:Args):(F7 "set.update.loop" a).quiet=true:=C7 (by decide +kernel) _
noncomputable def set0 (w:Z0):Obj:={ cls:=.type "set",dict:=none,data:=.set #[] 0 (.fresh 0 0 (!w.params.followText "set-order")) }
theorem zho (a:Value) {Q₁:Value->B0->Prop} (h:Q₁ (.ref s.heap.objs.size) { s with heap:=s.heap.push (set0 w) }):A5 (J1 prog w) A (.call (.builtin "set.__new__") ⟨[.type "set",a],[]⟩) (wants Q₁ E) s:=by refine N9 F.plain_set_new F.entry_set_new (j20 (F.newCall_set_1 a) ?_);show S0 _ _ (Builtin.Frozenset.newClass "set" ⟨[.type "set",a],[]⟩ >>= _) _ _ _;refine o0 (o0 (show S0 _ _ (V3 true) _ _ _ from C0 ?_));show S0 _ _ (isSubtype (.type "set") (.type "set") >>= _) _ _ _;refine o0 (j20 sub_set_self ?_);refine C0 ?_;show S0 _ _ (newSet (.type "set") >>= _) _ _ _;unfold newSet setsByText;refine o0 (o0 (o0 (wpAny_askSetting (C0 ?_))));exact o0 (wpAny_alloc (C0 (C0 h)))
theorem zkh {h:Heap} {a:Addr} (e:h.get? a=some (set0 w)):SetAt prog w (!w.params.followText "set-order") h a []:=
 ⟨#[],0,_,e,λ x b=>by simp at b,.nil,List.nodup_nil,by decide,by rfl,rfl,g7⟩
noncomputable abbrev setO (es:Array (Int×Value)) (ep:Nat) (t:K7):Obj:={ cls:=.type "set",dict:=none,data:=.set es ep t,slots:=#[] }
end
section
variable {X:Cx}
theorem z5a :∀(vs ns:List Int),(vs.foldl addI ns).length<=ns.length + vs.length
 | [],ns=>J0 _
 | v :: vs,ns=>by have a:=z5a vs (addI ns v);have b:=zen ns v;show (vs.foldl addI (addI ns v)).length<=_;rw [X0];omega
end
end L2
set_option maxHeartbeats 400000
namespace HT
open PySem PySem.Spec PyProof.Rows L2
variable {prog:Program} {w:Z0} {A:K2} {E:Value->B0->Prop} {s:B0}
end HT
namespace L2
open PySem PySem.Spec PyProof.Rows
theorem zk5 {names:List (Str×v6)} {ns:List Str} {Q:Str×v6->Prop} (h:(names.all λ y=>y.2 != F2 || ns.contains y.1)=true) (q :∀n,n∈ns->∀k,Q (n,k)) :∀y∈names,y.2=F2->Q y:=λ y c e=>by
 have z:=List.all_eq_true.mp h y c;rw [e] at z;have z:ns.contains y.1=true:=by simpa using z
 obtain ⟨a,b⟩:=y;exact q a (by simpa using z) b
theorem z9o {S:Hp->Hp->Prop} {ta:TA} {te:TE} {tc:TT} {g:TG} {m n:Nat} {fr:List (Nat×Str)} {σ:St} {H H1:Hp} {Q:VK} (p:Nat->Bool) (R:Nat->V->Hp->Prop) (s0:S H1 H1) (st :∀a b c,S a b->S b c->S a c) (hs :∀H,S H1 H->S H H) (hR :∀i y H H',S H H'->R i y H->R i y H')
  (hta :∀T:List V->Hp->Prop,T [.int (n:Nat)] H1->ta σ H T) (hn:n<=sizeLine)
  (body :∀i,i < n->∀H,S H1 H->∀(KT:VK) (KF:Hp->Prop),(p i=true->∀y H',S H H'->R i y H'->KT y H')->(p i=false->∀H',S H H'->KF H')->
   g (.int (i:Nat)) (cStG σ fr (N0 m none)) H λ σ6 H6=>∃us,us.length=m/\σ6=cStG σ fr us/\tc (cStG σ fr us) H6 λ b H2=>if b=true then te (cStG σ fr us) H2 KT else KF H2)
  (hQ :∀l H' ys,S H1 H'->H' l=none->All2 (λ i y=>R i y H') ((V0 n).filter p) ys->Q (.ref l) (upd H' l (.lst ys))):tCompG (iRng1 ta) m fr g tc te σ H Q:=by
 have b:(n:Int) < 2 ^ 62:=Int.lt_of_le_of_lt (Int.ofNat_le.mpr hn) (by decide);refine hta _ ⟨n,rfl,by omega,b,?_⟩;exact z35 s0 st p R hR (zgz hs) hn (λ i h v H s e KT KF d f=>by subst e;exact body i h H s KT KF d f) hQ
theorem zht :∀{ys:List V},(∀y∈ys,∃i:Int,y=.int i)->∃ms:List Int,ys=ms.map V.int
 | [],_=>⟨[],rfl⟩
 | y :: ys,h=>by obtain ⟨i,rfl⟩:=h y R1;obtain ⟨ms,rfl⟩:=zht λ z a=>h z (O1 _ a);exact ⟨i :: ms,rfl⟩
theorem zif {f:List V->Hp->VK->Prop} {te tb:TE} {r:R2} {σ:St} {H:Hp} {Q:Bool->Hp->Prop} (h:te σ H λ x H1=>f [x] H1 λ y H2=>tb σ H2 λ z H3=>r y z H3 λ b H4=>∃k,b=.bl k/\Q k H4):tTest (tOp r (tCB f (tCons te tNil)) tb) σ H Q:=h
theorem z2e {c:TT} {a b:TS} {D:Ends} {σ:St} {H:Hp} (h:c σ H λ k H1=>if k=true then a D σ H1 else b D σ H1):tIfS c a b D σ H:=h
theorem zcr {K:j0} {a:Addr} {xs:List V} {H1:Hp} (hq:SqL K H1 a xs):RunsR Same (IteL K a) H1 xs.length (λ i v H=>∃x p,xs[i]? = some x/\v=.ref p/\H p=some (.tup [.int (i:Nat),x])):=by refine ⟨λ i b H s=>⟨xs,xs[i],s.seq hq,by simp [b]⟩,λ H s=>⟨xs,s.seq hq,rfl⟩,λ i b H v e s y=>?_⟩;obtain ⟨p,c,rfl,f⟩:=y;obtain ⟨x,d,rfl⟩:=f xs (s.seq hq);exact ⟨Same.upd c,x,p,d,rfl,z03⟩
end L2
set_option maxHeartbeats 1000000
namespace L2
open PySem PySem.Spec PyProof.Rows
section
variable {prog:Program} {w:Z0} {A:K2} {E:Value->B0->Prop} {s:B0}
theorem zew {b:Bool} {S it l:Addr} {items:Array Value} (nsi:S≠it) (nsl:S≠l) (nil':it≠l) :∀(ms:List Int) (i:Nat) (ns:List Int) (A:K2) (R:j1a->B0->Prop) (s:B0),A.handled=none->s.heap.IsListIter it l i->s.heap.IsList l items->
  V4 (items.toList.drop i) ms->SetAt prog w b s.heap S ns->ns.length + ms.length < scanBound->
  (∀h' tk ns',SetAt prog w b h' S ns'->ns'.Perm (ms.foldl addI ns)->(∀c o,c≠S->c≠it->s.heap.get? c=some o->h'.get? c=some o)->R (.ok (.ret .none)) { s with heap:=h',toks:=tk })->
  A5 (J1 prog w) A (F7 "set.update.loop" { pos:=[.ref S,.ref it],kw:=[] }) R s
 | [],i,ns,A,R,s,hh,si,sl,al,dd,hz,q=>by
  have x:items[i]? = none:=by
   cases hd:items.toList.drop i with
   | nil=>have:=List.drop_eq_nil_iff.mp hd;rw [J2] at this;exact L4 this
   | cons u us=>rw [hd] at al;cases al
  refine J3 L6 ?_;show S0 _ _ (p7 (.ref it) >>= _) _ _ s;refine o0 (U4 (show (A.under _).handled=none from hh) si sl x λ h' v=>?_);exact C0 (q h' s.toks ns (dd.at' λ o e=>v S o nsi e) (j02 _) λ c o _ G e=>v c o G e)
 | m :: ms,i,ns,A,R,s,hh,si,sl,al,dd,hz,q=>by
  cases hd:items.toList.drop i with
  | nil=>rw [hd] at al;cases al
  | cons u us=>
   rw [hd] at al;cases al with
   | cons _ tk al=>
    have I:items.toList[i]? = some (.int m tk):=by have:=congrArg (λ l=>l[0]?) hd;simpa using this
    have L:items[i]? = some (.int m tk):=by simpa using I
    have z:items.toList.drop (i + 1)=us:=by have:=congrArg j06 hd;simpa using this
    refine J3 L6 ?_;show S0 _ _ (p7 (.ref it) >>= _) _ _ s;refine o0 (Z3 si sl L λ g K h=>?_);have H:g.IsList l items:=by obtain ⟨o,a,d⟩:=sl;exact ⟨o,(h.2 l (X1 nil')).trans a,d⟩
    have J:SetAt prog w b g S ns:=dd.at' λ o e=>(h.2 S nsi).trans e;rw [X0] at hz;refine o0 (V1 (show S0 _ _ (setAdd S (.int m tk)) _ _ _ from ?_));unfold setAdd;refine V1 (o0 ((Z4 prog w).pyHash (k:=m) (N6 prog w m tk) ?_));refine zkk (s:={ s with heap:=g,toks:=s.toks + 1 }) J (W0 (by omega) hz) λ c j r f C p=>?_;refine C0 ⟨zch _,?_⟩;have F:j.IsListIter it l (i + 1):=by obtain ⟨o,a,d⟩:=K;exact ⟨o,(f.2 it (X1 nsi)).trans a,d⟩
    have D:j.IsList l items:=by obtain ⟨o,a,d⟩:=H;exact ⟨o,(f.2 l (X1 nsl)).trans a,d⟩
    have N:r.length<=ns.length + 1:=by rw [p.length_eq];exact zen ns m
    refine zew nsi nsl nil' ms (i + 1) r A R { s with heap:=j,toks:=s.toks + 1 } hh F D (by rw [z];exact al) C (by omega) λ h' y ns' B E M=>q h' y ns' B (E.trans (z4c ms p)) λ c o n t e=>M c o n t ((f.2 c n).trans ((h.2 c t).trans e))
theorem z91:isSubtype (.type "list") (.type "set")=V3 false:=by rw [isSubtype_type];kernel_rfl
theorem z76:isSubtype (.type "list") (.type "frozenset")=V3 false:=by rw [isSubtype_type];kernel_rfl
theorem zay {l:Addr} {items:Array Value} {ns:List Int} {Q:Value->B0->Prop} (hh:A.handled=none) (ht:s.heap.IsList l items) (hi:V4 items.toList ns) (hb:ns.length < scanBound)
  (h :∀h' tk ns',SetAt prog w (!w.params.followText "set-order") h' s.heap.objs.size ns'->ns'.Perm (ns.foldl addI [])->(∀b o,s.heap.get? b=some o->h'.get? b=some o)->Q (.ref s.heap.objs.size) { s with heap:=h',toks:=tk }) :
  S0 (J1 prog w) A (call (.type "set") [.ref l]) Q E s:=by
 obtain ⟨c,Y,M⟩:=F.called_set.mro;have K:=F.called_set.made;have T:=F.called_set.sub;refine j32 (codeAny_of_tree (show S0 _ _ (callAny (.type "set") _) _ _ _ from C0 ⟨Code.quiet_builtin _ (by decide +kernel),J3 F.entry_type_call ?_⟩));rw [j48 (weight_type_call_type "set" [.ref l] []) rfl];have U:=F.called_set.notType;have h2:=F.called_set.canCreate;have X:=F.typeCall_set_1 (.ref l)
 (repeat (any_goals (first|assumption|wp_step)));refine z6 (zho (.ref l) (E:=E) (Q₁:=λ u m=>u=.ref s.heap.objs.size/\m={ s with heap:=s.heap.push (set0 w) }) ⟨rfl,rfl⟩) λ r m a=>?_
 cases r with
 | error e=>exact a
 | ok fl=>
  cases fl with
  | next=>exact a.elim
  | brk=>exact a.elim
  | cont=>exact a.elim
  | ret u=>
   obtain ⟨rfl,rfl⟩:=a;have g:(s.heap.push (set0 w)).get? s.heap.objs.size=some (set0 w):=C1 _ rfl;have z:R6 { s with heap:=s.heap.push (set0 w) } (.ref s.heap.objs.size) "set":=⟨_,g,rfl⟩
   have W:=F.called_set.init.lookup;have N:=F.called_set.init.bind (.ref s.heap.objs.size)
   (repeat (any_goals (first|assumption|wp_step)))
   have x:A5 (J1 prog w) A.in1 (.call (.builtin "set.__init__") ⟨[.ref s.heap.objs.size,.ref l],[]⟩) (wants (λ r k=>r=.none/\Q (.ref s.heap.objs.size) k) E) { s with heap:=s.heap.push (set0 w) }:=by
    refine N9 F.called_set.init.plain F.entry_set_init (check_set_init_1 z ?_);obtain ⟨o,f,t,n,j⟩:=ht;obtain ⟨P,H,V,I⟩:=o;dsimp only at t j;subst t j;have D:(s.heap.push (set0 w)).get? l=some { cls:=.type "list",dict:=H,data:=.seq items n,slots:=I }:=F0 _ f;have R:=z91;have L:=z76;have O:(F3 "list" == F3 "dict")=false:=by decide
    have Z:(s.heap.push (set0 w)).get? s.heap.objs.size=some { cls:=.type "set",dict:=none,data:=.set #[] 0 (.fresh 0 0 (!w.params.followText "set-order")),slots:=#[] }:=g;have v:(s.heap.push (set0 w)).IsList l items:=⟨_,D,rfl,n,rfl⟩
    have p:l < s.heap.objs.size:=Q0 f;unfold r9.«set.__init__» noKeywords O8;generalize hPI:pyIter=PI
    wp_walk
    subst hPI;refine Y4 v (o0 (wpAny_runValue ?_));have q :∀b o,s.heap.get? b=some o->((s.heap.push (set0 w)).push { cls:=.type "list_iterator",data:=.fields #[.ref l,.int 0 0] }).get? b=some o:=λ b o e=>F0 _ (F0 _ e);have i:(s.heap.push (set0 w)).objs.size=s.heap.objs.size + 1:=J6 _ _;refine zew (S:=s.heap.objs.size) (it:=(s.heap.push (set0 w)).objs.size) (l:=l) (items:=items) (by rw [i];exact Y0 (G3 _)) (W3 p) (by rw [i];exact W3 (Q2 p)) ns 0 [] _ _ _ (by simp [hh]) ⟨_,C1 _ rfl,rfl,rfl⟩ ⟨_,q _ _ f,rfl,n,rfl⟩ (by rw [F6];exact hi) (zkh (F0 _ g)) (by simpa using hb) λ h' tk ns' G B J=>?_;refine C0 (C0 ⟨rfl,h h' tk ns' G B λ b o e=>J b o (Y0 (Q0 e)) (by rw [i];exact Y0 (Q2 (Q0 e))) (q b o e)⟩)
   refine z6 x λ y k d=>?_;cases y with
   | error e=>exact d
   | ok f2=>
    cases f2 with
    | next=>exact d.elim
    | brk=>exact d.elim
    | cont=>exact d.elim
    | ret r=>obtain ⟨rfl,C⟩:=d;exact C0 (C0 C)
end
section
variable {X:Cx}
noncomputable def tLSet (K:j0) (te:TE):TE:=λ σ H Q=>te σ H λ x H1=>∃(a:Addr) (ns:List Int),x=.ref a/\SqL K H1 a (ns.map V.int)/\ns.length < 100/\Q (.int ((ns.foldl addI []).length:Nat)) H1
theorem zg2 {e:Expr} {te:TE} {p1 p2 c1 c2:Pos} (hcalm:X.calm=true) (g1:Gl X "len") (m1:X.mg "len" = none) (g2:Gl X "set") (m2:X.mg "set" = none) (b1:a5 "len" = some (.builtin "len")) (b2:a5 "set" = some (.type "set")) (ha:PE X e te)
  (he:G1 [e] X.env=[(false,R3 e X.env)]:=by rfl):PE X (.Call (.Name "len" p1) [.Call (.Name "set" p2) [e] [] c2] [] c1) (tLSet X.K te):=by
 intro o s σ H Q I h;have f:X.A.handled=none:=I.ok.hd hcalm;refine D4 (ld_blt I g1 m1 b1 ?_ (by decide) (by decide));refine A6 ?_ rfl rfl;refine (show S0 _ _ (j2h ((false,R3 (.Call (.Name "set" p2) [e] [] c2) X.env) :: [])) _ _ s from Q4 ?_);refine D4 (ld_blt I g2 m2 b2 ?_ (by decide) (by decide));refine B4 ?_ he rfl;rw [he];refine (show S0 _ _ (j2h ((false,R3 e X.env) :: [])) _ _ s from Q4 (thn (ha o s σ H _ I h) λ u c ⟨x,H1,I1,r1,a,ns,ex,sq,hl,q⟩=>?_));subst ex;cases r1;refine L5 ?_;obtain ⟨w,v,g,C⟩:=I1.list sq;refine zay f g.isList (by simpa using zdr v) (L7 hl (by decide)) λ n b D d r m=>L5 ?_;obtain ⟨k,y,t,l,_,i,B,z,p,_⟩:=d;have j:k.size=(ns.foldl addI []).length:=by rw [<-r.length_eq,zfv i,G0,J2]
 have E:(ns.foldl addI []).length < 100:=by have:=z5a ns [];rw [X3,C5] at this;omega
 refine call_len_set (s:={ c with heap:=n,toks:=b }) l ⟨rfl,rfl,rfl⟩ rfl p (by omega) ?_;rw [j];exact ⟨.int ((ns.foldl addI []).length:Nat),H1,(I1.kept (t':=b + 1 + 1) m),⟨_,rfl⟩,q⟩
end
section
variable {prog:Program} {w:Z0} {A:K2} {E:Value->B0->Prop}
theorem drawL {I l:Addr} {xs:Array Value} (nl:l≠I) :∀(m k:Nat) (s:B0) (R:List Value->B0->Prop),s.heap.IsListIter I l k->s.heap.IsList l xs->k + m<=xs.size->
  (∀g,g.IsListIter I l (k + m)->K6 I s.heap g->R ((xs.toList.drop k).take m) { s with heap:=g })->S0 (J1 prog w) A (draw (.ref I) m) R E s
 | 0,k,s,R,hI,_,_,hR=>(show S0 (J1 prog w) A (V3 ([]:List Value)) R E s from C0 (by simpa using hR s.heap hI (j1j ..)))
 | m + 1,k,s,R,hI,hl,le,hR=>by
  have lt:k < xs.size:=by omega
  refine (show S0 (J1 prog w) A (p7 (.ref I) >>= _) R E s from o0 (Z3 hI hl (x:=xs[k]) (by simp [lt]) λ d c a=>?_));refine o0 (V1 (drawL nl m (k + 1) { s with heap:=d } _ c (hl.extBut a.extBut nl) (by omega) λ f b h=>C0 ?_));have e:xs.toList.drop k=xs[k] :: xs.toList.drop (k + 1):=by simp [j1i,lt]
  have z:=hR f (by rw [show k + (m + 1)=k + 1 + m by omega];exact b) (a.trans h);rw [e,List.take_succ_cons] at z;exact z
theorem zk4 {l:Addr} {xs:Array Value} {ts:List (Bool×(Value->Sem Unit))} {R:Unit->B0->Prop} {s:B0} (hh:A.handled=none) (hl:s.heap.IsList l xs) (hn:ts.length=xs.size) (hst:ts.findIdx? (·.1)=none)
  (q :∀g,Heap.ExtBut s.heap.objs.size s.heap g->S0 (J1 prog w) A (assignInOrder (ts.map (·.2)) xs.toList) R E { s with heap:=g }):S0 (J1 prog w) A (unpack (.ref l) ts) R E s:=by
 have a:l≠s.heap.objs.size:=hl.elim λ o z=>Y0 (Q0 z.1);unfold unpack;rw [hn,hst];refine o0 (V1 ?_);unfold unpackItems;refine o0 ?_;unfold notIterableAtAll;refine o0 (wpAny_specialOf hl.typeIs slot_list_iter.lookup (C0 ?_));simp only [T2,if_false];refine o0 (V1 (Y4 hl (o0 (V1 (drawL a xs.size 0 _ _ ⟨_,C1 _ rfl,rfl,rfl⟩ (hl.push _) (by omega) λ i f c=>?_)))));have all:List.take xs.size (List.drop 0 xs.toList)=xs.toList:=by rw [F6,D6 (by simp)]
 rw [all,if_neg (by simp)];have h:i.IsList l xs:=(hl.push _).extBut c.extBut a;refine o0 (V1 (U4 hh f h (by simp) λ j k=>?_));simp only [Option.isSome_none,T2,if_false];exact C0 (q j λ b o d e=>k b o d (c.extBut b o d (F0 _ e)))
end
section
variable {X:Cx} {pos:Pos}
noncomputable def gLst (K:j0) (n:Nat) (t:TGs):TG:=λ v σ H Q=>∃a xs,v=.ref a/\SqL K H a xs/\xs.length=n/\t xs σ H Q
theorem pg_lst {es:List Expr} {k:Nat} {t:TGs} {n:Nat} (hc:X.calm=true) (h:PGs X es t) (hn:(y7 es X.env).length=n:=by rfl) (hst:(y7 es X.env).findIdx? (·.1)=none:=by rfl):PG X (.Tuple es k pos) (gLst X.K n t):=by intro f s σ H v u Q I r ⟨a,xs,e1,hq,hl,hw⟩;subst e1;cases r;obtain ⟨l,c,d,j⟩:=I.list hq;rw [assign_Tuple];refine o0 (j03 (zk4 (I.ok.hd hc) d.isList (by simp [hn,<-hl,c.length]) hst λ g i=>?_));exact h f _ σ H xs _ Q (I.kept (t':=s.toks) λ b o e=>i b o (Y0 (Q0 e)) e) (by simpa using c) hw
end
theorem z2b {K:j0} {a:Addr} {xs:List V} {tl te:TE} {tc:TT} {g:TG} {m:Nat} {fr:List (Nat×Str)} {σ:L2.St} {H H1:Hp} {Q:VK} (p:Nat->Bool) (R:Nat->V->Hp->Prop) (hR :∀i y H H',Same H H'->R i y H->R i y H') (htl :∀R:VK,R (.ref a) H1->tl σ H R) (hq:SqL K H1 a xs) (hn:xs.length<=sizeLine)
  (body :∀i,i < xs.length->∀v H,Same H1 H->xs[i]? = some v->∀(KT:VK) (KF:Hp->Prop),(p i=true->∀y H',Same H H'->R i y H'->KT y H')->(p i=false->∀H',Same H H'->KF H')->
   g v (cStG σ fr (N0 m none)) H λ σ6 H6=>∃us,us.length=m/\σ6=cStG σ fr us/\tc (cStG σ fr us) H6 λ b H2=>if b=true then te (cStG σ fr us) H2 KT else KF H2)
  (hQ :∀l H' ys,Same H1 H'->H' l=none->All2 (λ i y=>R i y H') ((V0 xs.length).filter p) ys->Q (.ref l) (upd H' l (.lst ys))):tCompG (iList K tl) m fr g tc te σ H Q:=
 htl _ ⟨a,rfl,⟨xs,hq⟩,z35 (Same.refl _) (λ _ _ _ a b=>a.trans b) p R hR (z8r (S:=Same) (λ _ _=>Same.refl _) λ H s=>s.seq hq) hn body hQ⟩
theorem zg6 {K:j0} {a:Addr} {xs:List V} {ta:TA} {te:TE} {tc:TT} {g:TG} {m:Nat} {fr:List (Nat×Str)} {σ:L2.St} {H H1:Hp} {Q:VK} (p:Nat->Bool) (R:Nat->V->Hp->Prop) (hR :∀i y H H',Same H H'->R i y H->R i y H') (hta :∀T:List V->Hp->Prop,T [.ref a] H1->ta σ H T) (hq:SqL K H1 a xs) (hn:xs.length<=sizeLine)
  (body :∀i,i < xs.length->∀v H,Same H1 H->(∃x p,xs[i]? = some x/\v=.ref p/\H p=some (.tup [.int (i:Nat),x]))->∀(KT:VK) (KF:Hp->Prop),(p i=true->∀y H',Same H H'->R i y H'->KT y H')->(p i=false->∀H',Same H H'->KF H')->
   g v (cStG σ fr (N0 m none)) H λ σ6 H6=>∃us,us.length=m/\σ6=cStG σ fr us/\tc (cStG σ fr us) H6 λ b H2=>if b=true then te (cStG σ fr us) H2 KT else KF H2)
  (hQ :∀l H' ys,Same H1 H'->H' l=none->All2 (λ i y=>R i y H') ((V0 xs.length).filter p) ys->Q (.ref l) (upd H' l (.lst ys))):tCompG (ieL K ta) m fr g tc te σ H Q:=
 hta _ ⟨a,xs,rfl,hq,z35 (Same.refl _) (λ _ _ _ a b=>a.trans b) p R hR (zcr hq) hn body hQ⟩
theorem zih {K:j0} {tl te:TE} {tc:TT} {g:TG} {m:Nat} {fr:List (Nat×Str)} {σ:L2.St} {H:Hp} {Q:VK} (Pr:Addr->List V->Hp->Prop) (htl :∀R:VK,(∀a xs H1,Pr a xs H1->R (.ref a) H1)->tl σ H R) (hq :∀a xs H1,Pr a xs H1->SqL K H1 a xs/\xs.length<=sizeLine)
  (p:Nat->Bool) (R:Nat->V->Hp->Prop) (hR :∀i y H H',Same H H'->R i y H->R i y H')
  (body :∀a xs H1,Pr a xs H1->∀i,i < xs.length->∀v H,Same H1 H->xs[i]? = some v->∀(KT:VK) (KF:Hp->Prop),(p i=true->∀y H',Same H H'->R i y H'->KT y H')->(p i=false->∀H',Same H H'->KF H')->
   g v (cStG σ fr (N0 m none)) H λ σ6 H6=>∃us,us.length=m/\σ6=cStG σ fr us/\tc (cStG σ fr us) H6 λ b H2=>if b=true then te (cStG σ fr us) H2 KT else KF H2)
  (hQ :∀a xs H1,Pr a xs H1->∀l H' ys,Same H1 H'->H' l=none->All2 (λ i y=>R i y H') ((V0 xs.length).filter p) ys->Q (.ref l) (upd H' l (.lst ys))):tCompG (iList K tl) m fr g tc te σ H Q:=
 htl _ λ a xs H1 c=>⟨a,rfl,⟨xs,(hq a xs H1 c).1⟩,z35 (Same.refl _) (λ _ _ _ a b=>a.trans b) p R hR (z8r (S:=Same) (λ _ _=>Same.refl _) λ H s=>s.seq (hq a xs H1 c).1) (hq a xs H1 c).2 (body a xs H1 c) (hQ a xs H1 c)⟩
theorem zci {K:j0} {a:Addr} {xs:List V} {tl te:TE} {tc:TT} {g:TG} {m:Nat} {fr:List (Nat×Str)} {σ:L2.St} {H H1:Hp} {Q:VK} (p:Nat->Bool) (R:Nat->V->Hp->Prop) (hR :∀i y H H',Same H H'->R i y H->R i y H') (htl :∀R:VK,R (.ref a) H1->tl σ H R) (hq:SqT K H1 a xs) (hn:xs.length<=sizeLine)
  (body :∀i,i < xs.length->∀v H,Same H1 H->xs[i]? = some v->∀(KT:VK) (KF:Hp->Prop),(p i=true->∀y H',Same H H'->R i y H'->KT y H')->(p i=false->∀H',Same H H'->KF H')->
   g v (cStG σ fr (N0 m none)) H λ σ6 H6=>∃us,us.length=m/\σ6=cStG σ fr us/\tc (cStG σ fr us) H6 λ b H2=>if b=true then te (cStG σ fr us) H2 KT else KF H2)
  (hQ :∀l H' ys,Same H1 H'->H' l=none->All2 (λ i y=>R i y H') ((V0 xs.length).filter p) ys->Q (.ref l) (upd H' l (.lst ys))):tCompG (iTup K tl) m fr g tc te σ H Q:=
 htl _ ⟨a,rfl,⟨xs,hq⟩,z35 (Same.refl _) (λ _ _ _ a b=>a.trans b) p R hR (zgg (S:=Same) (λ _ _=>Same.refl _) λ H s=>s.seqT hq) hn body hQ⟩
theorem e_cb1 {f:List V->Hp->VK->Prop} {te:TE} {σ:L2.St} {H:Hp} {Q:VK} (h:te σ H λ x H1=>f [x] H1 Q):tCB f (tCons te tNil) σ H Q:=h
theorem t_test {r:R2} {ta tb:TE} {σ:L2.St} {H:Hp} {Q:Bool->Hp->Prop} (h:ta σ H λ x H1=>tb σ H1 λ y H2=>r x y H2 λ x H3=>∃c,x=.bl c/\Q c H3):tTest (tOp r ta tb) σ H Q:=h
theorem t_or {t u:TT} {σ:L2.St} {H:Hp} {Q:Bool->Hp->Prop} (h:t σ H λ c H1=>if c=true then Q true H1 else u σ H1 Q):tOr t u σ H Q:=h
theorem sq_if {c:TT} {a b rest:TS} {D:Ends} {σ:L2.St} {H:Hp} (h:c σ H λ k H1=>if k=true then a { D with nx:=rest D } σ H1 else b { D with nx:=rest D } σ H1):tSeq (tIfS c a b) rest D σ H:=h
theorem sq_ret {te:TE} {D:Ends} {σ:L2.St} {H:Hp} (h:te σ H D.rt):tRet te D σ H:=h
def TupI (h:Heap) (v:Value) (x:Int×Int):Prop:=∃(p:Addr) (o:Obj) (n:Nat) (t u:Tok),v=.ref p/\h.get? p=some o/\o.cls=.type "tuple"/\o.data=.seq #[.int x.1 t,.int x.2 u] n
noncomputable def gtI (x y:Int×Int):Bool:=if x.1=y.1 then decide (y.2 < x.2) else decide (y.1 < x.1)
section
variable {prog:Program} {w:Z0} {A:K2} {E:Value->B0->Prop} {s:B0}
theorem tup_gt {v z:Value} {x y:Int×Int} {Q:Value->B0->Prop} (hx:TupI s.heap v x) (hy:TupI s.heap z y) (hu:A.units < cLine) (h:Q (.bool (gtI x y)) s):S0 (J1 prog w) A (B8 .Gt v z) Q E s:=by
 obtain ⟨p,o,n,t,u,rfl,d,f,l⟩:=hx;obtain ⟨r,g,C,D,B,rfl,c,e,m⟩:=hy;refine j2f (op:=.Gt) (T:="tuple") ⟨o,d,f⟩ ⟨g,c,e⟩ i9 (T8 i9 ⟨o,d,f⟩ F.entry_tuple_gt ?_ (F.args_tuple_gt_2 _ _)) hu;refine (show S0 _ _ (j35 (.ref r) (.type "tuple") >>= _) _ _ s from o0 (y6 (T:="tuple") ⟨g,c,e⟩ isSubtype_tuple_tuple ?_));simp only [J5,T2,if_false];refine o0 (f8 d l (o0 (f8 c m (o0 ?_))));simp only [G9,List.zip_nil_left,k7,O7];refine o0 (o0 ((Z4 prog w).eqBool (a:=x.1) (b:=y.1) (N6 prog w _ _) (N6 prog w _ _) ?_));have k :∀{i j:Int} {a b:Tok} {R:Value->B0->Prop},R (.bool (decide (j < i))) s->S0 (J1 prog w) A.in1 (B8 .Gt (.int i a) (.int j b)) R E s:=λ q=>(show S0 _ _ (X2 .Gt _ _) _ _ _ from gt_int q)
 by_cases e1:x.1=y.1
 ·rw [decide_eq_true e1];simp only [J5,T2,if_false];refine C0 (o0 (o0 ((Z4 prog w).eqBool (a:=x.2) (b:=y.2) (N6 prog w _ _) (N6 prog w _ _) ?_)));unfold gtI at h;rw [if_pos e1] at h;by_cases e2:x.2=y.2
  ·rw [decide_eq_true e2];simp only [J5,T2,if_false];rw [decide_eq_false (by omega)] at h;exact C0 (C0 (C0 ⟨_,rfl,(λ z=>nomatch z),h⟩))
  ·rw [decide_eq_false e2];simp only [j9,if_true];exact o0 (o7 (o0 (k (o0 (C0 (C0 (C0 (C0 ⟨_,rfl,(λ z=>nomatch z),h⟩))))))))
 ·rw [decide_eq_false e1];simp only [j9,if_true];unfold gtI at h;rw [if_neg e1] at h;exact o0 (o7 (o0 (k (o0 (C0 (C0 (C0 (C0 ⟨_,rfl,(λ z=>nomatch z),h⟩))))))))
theorem TupI.kept {h h':Heap} {v:Value} {x:Int×Int} {c:Addr} {oc:Obj} (q:TupI h v x) (e:h.get? c=some oc) (nc:oc.cls≠.type "tuple") (k :∀b o,b≠c->h.get? b=some o->h'.get? b=some o):TupI h' v x:=by obtain ⟨p,o,n,t,u,rfl,a,d,f⟩:=q;exact ⟨p,o,n,t,u,rfl,k p o (λ z=>by rw [z,e] at a;cases a;exact nc d) a,d,f⟩
end
section
variable {X:Cx}
theorem gtI_iff {x y:Int×Int}:gtI x y=true↔y.1 < x.1\/(x.1=y.1/\y.2 < x.2):=by
 unfold gtI;by_cases e:x.1=y.1
 ·rw [if_pos e,decide_eq_true_iff];omega
 ·rw [if_neg e,decide_eq_true_iff];omega
end
noncomputable def kasRun {α:Type} (c:Nat->Nat->Bool) (n:Nat):j1d α->Option α
 | .ret a=>some a
 | .ask i j k=>if i < n/\j < n/\i≠j then kasRun c n (k (c i j)) else none
theorem zbo {α:Type} {c:Nat->Nat->Bool} {n:Nat} {cmp:Nat->Nat->(Bool->B0->Prop)->B0->Prop} {s:B0} {Q:α->B0->Prop} (hc :∀i j C,i < n->j < n->i≠j->C (c i j) s->cmp i j C s) :∀(t:j1d α) (a:α),kasRun c n t=some a->Q a s->t.kasWp cmp Q s
 | .ret b,a,h,q=>by cases h;exact q
 | .ask i j k,a,h,q=>by
  unfold kasRun at h;by_cases z:i < n/\j < n/\i≠j
  ·rw [if_pos z] at h;exact hc i j _ z.1 z.2.1 z.2.2 (zbo hc (k (c i j)) a h q)
  ·rw [if_neg z] at h;cases h
theorem z5q {α:Type} {c d:Nat->Nat->Bool} {n:Nat} (h :∀i j,i < n->j < n->c i j=d i j) :∀t:j1d α,kasRun c n t=kasRun d n t
 | .ret _=>rfl
 | .ask i j k=>by
  unfold kasRun;by_cases z:i < n/\j < n/\i≠j
  ·rw [if_pos z,if_pos z,h i j z.1 z.2.1];exact z5q h _
  ·rw [if_neg z,if_neg z]
noncomputable def z25:Nat->List Nat->List (List Nat)
 | 0,_=>[[]]
 | n + 1,l=>l.flatMap λ x=>(z25 n (l.erase x)).map (x :: ·)
noncomputable def z3f (n:Nat) (r:List Nat):Bool:=match kasRun (λ i j=>decide (r.getD i 0 < r.getD j 0)) n (T5 n) with
 | some p=>(p.toList.map (λ i=>r.getD i 0) == V0 n) && p.toList.isPerm (V0 n)
 | none=>false
theorem good2:(z25 2 (V0 2)).all (z3f 2)=true:=by decide +kernel
theorem good3:(z25 3 (V0 3)).all (z3f 3)=true:=by decide +kernel
theorem good4:(z25 4 (V0 4)).all (z3f 4)=true:=by decide +kernel
theorem good5:(z25 5 (V0 5)).all (z3f 5)=true:=by decide +kernel
theorem good6:(z25 6 (V0 6)).all (z3f 6)=true:=by decide +kernel
theorem zkl :∀n,2<=n->n<=6->(z25 n (V0 n)).all (z3f n)=true
 | 2,_,_=>good2
 | 3,_,_=>good3
 | 4,_,_=>good4
 | 5,_,_=>good5
 | 6,_,_=>good6
 | 0,h,_=>absurd h (by decide)
 | 1,h,_=>absurd h (by decide)
 | n + 7,_,h=>absurd h (by omega)
theorem zbq :∀(r l:List Nat),r.Nodup->(∀x∈r,x∈l)->r∈z25 r.length l
 | [],l,_,_=>List.mem_singleton.mpr rfl
 | x :: r,l,nd,h=>by rw [D5] at nd;refine List.mem_flatMap.mpr ⟨x,h x (.head _),List.mem_map.mpr ⟨r,zbq r (l.erase x) nd.2 λ y a=>?_,rfl⟩⟩;exact (j44 (show y≠x from λ e=>nd.1 (e ▸ a))).mpr (h y (.tail _ a))
noncomputable def ltS (a b:Str):Bool:=decide (a.cps.toList < b.cps.toList)
theorem z69 (a:Str):ltS a a=false:=decide_eq_false (List.lt_irrefl _)
theorem zfz {a b c:Str} (h:ltS a b=true) (k:ltS b c=true):ltS a c=true:=decide_eq_true (List.lt_trans (of_decide_eq_true h) (of_decide_eq_true k))
theorem zhs {a b:Str} (h:ltS a b=false) (k:ltS b a=false):a=b:=by have e:a.cps.toList=b.cps.toList:=List.le_antisymm (List.not_lt.mp (of_decide_eq_false k)) (List.not_lt.mp (of_decide_eq_false h));cases a;cases b;congr;exact Array.toList_inj.mp e
noncomputable def rkS (ks:List Str) (z:Str):Nat:=(ks.filter λ x=>ltS x z).length
theorem z5g {α:Type} {p q:α->Bool} :∀{l:List α},(∀x∈l,p x=true->q x=true)->(l.filter p).length<=(l.filter q).length
 | [],_=>J0 _
 | x :: l,h=>by
  have a:=z5g (l:=l) λ y b=>h y (.tail _ b);cases hp:p x with
  | true=>rw [T3 hp,T3 (h x (.head _) hp)];exact Nat.succ_le_succ a
  | false=>
   rw [o5 (by rw [hp];decide)];cases hq:q x with
   | true=>rw [T3 hq];exact Nat.le_succ_of_le a
   | false=>rw [o5 (by rw [hq];decide)];exact a
theorem z2y {α:Type} {p q:α->Bool} {y:α} :∀{l:List α},(∀x∈l,p x=true->q x=true)->y∈l->p y=false->q y=true->(l.filter p).length < (l.filter q).length
 | [],_,h,_,_=>absurd h K0
 | x :: l,h,hy,hp,hq=>by
  rcases List.mem_cons.mp hy with rfl|hy
  ·rw [o5 (by rw [hp];decide),T3 hq];exact Nat.lt_succ_of_le (z5g λ z b=>h z (.tail _ b))
  ·have a:=z2y (l:=l) (λ z b=>h z (.tail _ b)) hy hp hq;cases hpx:p x with
   | true=>rw [T3 hpx,T3 (h x (.head _) hpx)];exact Nat.succ_lt_succ a
   | false=>
    rw [o5 (by rw [hpx];decide)];cases hqx:q x with
    | true=>rw [T3 hqx];exact Q2 a
    | false=>rw [o5 (by rw [hqx];decide)];exact a
theorem rk_lt {ks:List Str} {a b:Str} (ha:a∈ks) (h:ltS a b=true):rkS ks a < rkS ks b:=z2y (λ x _ z=>zfz z h) ha (z69 a) h
theorem rk_iff {ks:List Str} {a b:Str} (ha:a∈ks) (hb:b∈ks):ltS a b=decide (rkS ks a < rkS ks b):=by
 cases h:ltS a b with
 | true=>exact (decide_eq_true (rk_lt ha h)).symm
 | false=>
  refine (decide_eq_false λ z=>?_).symm;cases k:ltS b a with
  | true=>have:=rk_lt hb k;omega
  | false=>rw [zhs h k] at z;exact y4 _ z
theorem rk_inj {ks:List Str} {a b:Str} (ha:a∈ks) (hb:b∈ks) (e:rkS ks a=rkS ks b):a=b:=zhs (by rw [rk_iff ha hb];exact decide_eq_false (by omega)) (by rw [rk_iff hb ha];exact decide_eq_false (by omega))
theorem zjk {ks:List Str} {a:Str} (ha:a∈ks):rkS ks a < ks.length:=by have h:=z2y (l:=ks) (p:=λ x=>ltS x a) (q:=λ _=>true) (λ _ _ _=>rfl) ha (z69 a) rfl;rw [List.filter_eq_self.mpr (λ _ _=>rfl)] at h;exact h
theorem nodup_map_on {α β:Type} {f:α->β} :∀{l:List α},(∀a∈l,∀b∈l,f a=f b->a=b)->l.Nodup->(l.map f).Nodup
 | [],_,_=>.nil
 | x :: l,h,nd=>by rw [D5] at nd;rw [U1,D5];refine ⟨λ z=>?_,nodup_map_on (λ a g b d=>h a (.tail _ g) b (.tail _ d)) nd.2⟩;obtain ⟨y,c,e⟩:=List.mem_map.mp z;exact nd.1 (h x (.head _) y (.tail _ c) e.symm ▸ c)
theorem zge {ks:List Str} (nd:ks.Nodup) (h2:2<=ks.length) (h6:ks.length<=6) :∃p:Array Nat,kasRun (λ i j=>ltS (ks.getD i "") (ks.getD j "")) ks.length (T5 ks.length)=some p/\p.toList.Perm (V0 ks.length)/\(p.toList.map λ i=>ks.getD i "").Pairwise λ x y=>ltS x y=true:=by
 have o :∀i,i < ks.length->ks.getD i ""∈ks:=λ i g=>by rw [L1,v0 g];exact E3 g
 have u:(ks.map (rkS ks)).length=ks.length:=G0 ..;have m :∀i,i < ks.length->(ks.map (rkS ks)).getD i 0=rkS ks (ks.getD i ""):=λ i g=>by rw [L1,L1,R0,v0 g];rfl
 have w:ks.map (rkS ks)∈z25 ks.length (V0 ks.length):=by
  have:=zbq (ks.map (rkS ks)) (V0 ks.length) (nodup_map_on (λ a f b h e=>rk_inj f h e) nd) λ x v=>by obtain ⟨a,f,rfl⟩:=List.mem_map.mp v;exact List.mem_range.mpr (zjk f)
  rwa [u] at this
 have k:=List.all_eq_true.mp (zkl _ h2 h6) _ w;unfold z3f at k;have t:=z5q (c:=λ i j=>ltS (ks.getD i "") (ks.getD j "")) (d:=λ i j=>decide ((ks.map (rkS ks)).getD i 0 < (ks.map (rkS ks)).getD j 0)) (n:=ks.length) (λ i j g s=>by rw [m i g,m j s];exact rk_iff (o i g) (o j s)) (T5 ks.length);rw [t];cases hk:kasRun (λ i j=>decide ((ks.map (rkS ks)).getD i 0 < (ks.map (rkS ks)).getD j 0)) ks.length (T5 ks.length) with
 | none=>rw [hk] at k;cases k
 | some p=>
  rw [hk] at k;obtain ⟨q,l⟩:=Bool.and_eq_true_iff.mp k;have q:=eq_of_beq q;have l:=List.isPerm_iff.mp l;refine ⟨p,rfl,l,?_⟩;rw [R9];have r:(p.toList.map λ i=>(ks.map (rkS ks)).getD i 0).Pairwise (· < ·):=by rw [q];exact D8
  rw [R9] at r;refine r.imp_of_mem λ {a b} f h z=>?_;have f:=List.mem_range.mp (l.mem_iff.mp f);have h:=List.mem_range.mp (l.mem_iff.mp h);rw [m a f,m b h] at z;rw [rk_iff (o a f) (o b h)];exact decide_eq_true z
def TupS (h:Heap) (v:Value) (k:Str):Prop:=∃(p:Addr) (o:Obj) (xs:Array Value) (n:Nat) (t:Tok),v=.ref p/\h.get? p=some o/\o.cls=.type "tuple"/\o.data=.seq xs n/\xs[0]? = some (.str k t)
theorem TupS.kept {h h':Heap} {v:Value} {x:Str} {c:Addr} {oc:Obj} (q:TupS h v x) (e:h.get? c=some oc) (nc:oc.cls≠.type "tuple") (k :∀b o,b≠c->h.get? b=some o->h'.get? b=some o):TupS h' v x:=by obtain ⟨p,o,g,n,t,rfl,a,d,f⟩:=q;exact ⟨p,o,g,n,t,rfl,k p o (λ z=>by rw [z,e] at a;cases a;exact nc d) a,d,f⟩
section
variable {prog:Program} {w:Z0} {A:K2} {E:Value->B0->Prop} {s:B0}
theorem zkv {v z:Value} {x y:Str} {Q:Bool->B0->Prop} (hx:TupS s.heap v x) (hy:TupS s.heap z y) (ne:x≠y) (h:Q (ltS x y) s):S0 (J1 prog w) A (keyLt' (tuples' true) v z) Q E s:=by
  obtain ⟨p,o,d,n,t,rfl,q,J,j,g⟩:=hx;obtain ⟨I,L,f,H,c,rfl,B,K,l,i⟩:=hy;have C :∃r,d.toList=.str x t :: r:=by
    cases hl:d.toList with
    | nil => have : d.toList[0]? = some (.str x t) := by simpa using g
             rw [hl] at this;cases this
    | cons a r => have : d.toList[0]? = some (.str x t) := by simpa using g
                  rw [hl] at this;cases this;exact ⟨r,rfl⟩
  have m :∃r,f.toList=.str y c :: r:=by
    cases hl:f.toList with
    | nil => have : f.toList[0]? = some (.str y c) := by simpa using i
             rw [hl] at this;cases this
    | cons a r => have : f.toList[0]? = some (.str y c) := by simpa using i
                  rw [hl] at this;cases this;exact ⟨r,rfl⟩
  obtain ⟨G,u⟩:=C;obtain ⟨F,D⟩:=m;refine PySem.W.kat_lt q j B l ?_;rw [u,D,G9];refine PySem.W.kat_cons ((z0k prog w).eqBool (a:=.inr x) (b:=.inr y) (kV_is (k:=.inr x) (show RelV (kV (.inr x)) (.str x t) from ⟨t,rfl⟩)) (kV_is (k:=.inr y) (show RelV (kV (.inr y)) (.str y c) from ⟨c,rfl⟩)) ?_);rw [decide_eq_false (λ e=>ne (j2b e))];exact PySem.W.kat_no (oneLt_str h)
theorem z90 {h:Heap} :∀{vs:List Value} {ks:List Str},All2 (λ v k=>TupS h v k) vs ks->∃fs,PySem.W.KatTups h vs fs/\fs.length=vs.length/\∀f∈fs,∃k t,f=b9 k t
 | _,_,.nil=>⟨[],trivial,rfl,λ _ h=>absurd h K0⟩
 | _,_,.cons a r=>by obtain ⟨fs,b,m,i⟩:=z90 r;obtain ⟨p,o,q,n,t,rfl,j,d,c,g⟩:=a;exact ⟨_ :: fs,PySem.W.KatTups.cons j d c g b,by rw [X0,X0,m],λ f l=>(List.mem_cons.mp l).elim (λ e=>⟨_,_,e⟩) (i f)⟩
theorem zj5 {a:Addr} {vs:List Value} {ks:List Str} {n0:Nat} {P:Z9->B0->Prop} (ho:s.heap.get? a=some (m9 "list" vs.toArray n0)) (l6:vs.length<=6) (al:All2 (λ v k=>TupS s.heap v k) vs ks) (nd:ks.Nodup)
  (h :∀(p:List Nat) (h':Heap) (e:Nat),p.Perm (V0 vs.length)->(p.map λ i=>ks.getD i "").Pairwise (λ x y=>ltS x y=true)->(∀b o,b≠a->s.heap.get? b=some o->h'.get? b=some o)->h'.get? a=some (m9 "list" (p.map λ i=>vs.getD i M3).toArray e)->P (.done (.ret .none)) { s with heap:=h' }) :
  S0 (J1 prog w) A (r9.«list.sort» ⟨[.ref a],[]⟩) P E s:=by
 have lk:ks.length=vs.length:=z04 al;have la:a < s.heap.objs.size:=Q0 ho;have sz:vs.length<=sizeLine:=L0 l6 (by decide);obtain ⟨H,U⟩ :∃H,(s.heap.update a (w4 λ _=>(#[]:Array Value))).get? a=some (m9 "list" #[] H):=⟨_,get?_update_seq ho λ _=>#[]⟩
 rw [list_sort_plain];refine o0 (listItems_at ho rfl (o0 (listUpdate_at ho rfl (o0 (seqEpoch_at U rfl (o0 (wpAny_newTuple (o0 (wpAny_newList (V1 ?_) (A2 _))) (by simpa using sz))))) (by simpa using sz) (A2 _))));dsimp only;generalize hh3:((s.heap.update a (w4 λ _=>(#[]:Array Value))).push (m9 "tuple" vs.toArray 0)).push (m9 "list" #[] 0)=h3;have s1:=v8 s.heap a (w4 λ _=>(#[]:Array Value));have V :∀b o,b≠a->s.heap.get? b=some o->h3.get? b=some o:=λ b o n e=>by rw [<-hh3];exact F0 _ (F0 _ ((s1.2 b n).trans e))
 have u:h3.get? a=some (m9 "list" #[] H):=by rw [<-hh3];exact F0 _ (F0 _ U)
 have Z:All2 (λ v k=>TupS h3 v k) vs ks:=z00 (λ _ _ z=>z.kept ho (show F3 "list"≠.type "tuple" by decide) V) al;have R :∀(m:Array Value) (p:List Nat),m=(p.map λ i=>vs.getD i M3).toArray->p.Perm (V0 vs.length)->(p.map λ i=>ks.getD i "").Pairwise (λ x y=>ltS x y=true)->P (.done (.ret .none)) { s with heap:=h3.update a (w4 λ _=>m) }:=λ m p g l r=>by
  obtain ⟨J,Y⟩ :∃J,(h3.update a (w4 λ _=>m)).get? a=some (m9 "list" m J):=⟨_,get?_update_seq u λ _=>m⟩
  rw [g] at Y⊢;exact h p _ J l r (λ b o n e=>(N4 _ _ (X1 n)).trans (V b o n e)) Y
 have M :∀(p:List Nat),p.Perm (V0 vs.length)->(p.map λ i=>vs.getD i M3).toArray.size<=sizeLine + 1:=λ p l=>by rw [T0,G0,l.length_eq,W2];exact L0 sz (A3 _)
 by_cases d:vs.toArray.size < 2
 ·rw [if_pos d];have K:vs.length < 2:=by simpa using d
  have D:(V0 vs.length).map (λ i=>vs.getD i M3)=vs:=by
   apply V6
   ·simp
   ·intro i I d;simp [L1,v0 d]
  have r:((V0 vs.length).map λ i=>ks.getD i "").Pairwise (λ x y=>ltS x y=true):=by
   match S:vs.length,K with
   | 0,_=>exact g7
   | 1,_=>exact List.pairwise_singleton _ _
  refine o0 (C0 ?_);rw [if_pos d];refine (show S0 _ _ (V3 ((),SortSt.mk' general' (vs.toArray.zip vs.toArray) #[] 7 none) >>= _) _ _ _ from o0 (C0 ?_));dsimp only;have g:Array.map (λ x=>x.snd) (arrOf (SortSt.mk' general' (vs.toArray.zip vs.toArray) #[] 7 none))=((V0 vs.length).map λ i=>vs.getD i M3).toArray:=by
   rw [D];show Array.map (λ x=>x.snd) (vs.toArray.zip vs.toArray)=vs.toArray;apply Array.ext
   ·simp
   ·intro i I d;simp
  refine o0 (seqEpoch_at u rfl (o0 (listUpdate_at u rfl ?_ (A2 _) ?_)))
  ·simp only [bne_self_eq_false,T2,if_false];exact C0 (R _ _ g (j02 _) r)
  ·rw [g];exact M _ (j02 _)
 ·rw [if_neg d];have K:2<=vs.length:=by simpa using Nat.not_lt.mp d
  obtain ⟨fs,kt,lf,a0⟩:=z90 Z;refine o0 (PySem.W.kat_kind (T:=.type "str") kt (by omega) (λ f G=>?_) (by decide) ?_)
  ·obtain ⟨k,t,rfl⟩:=a0 f G;exact PySem.W.Looks.now
  ·rw [if_neg d];obtain ⟨p,D,l,r⟩:=zge nd (by omega) (by omega);rw [lk] at D l;rw [show (F3 "str" != F3 "tuple")=true by decide];have N :∀i,i < vs.length->TupS h3 (vs.getD i M3) (ks.getD i ""):=λ i X=>by have O:ks[i]? = some (ks[i]'(by omega)):=v0 (by omega);obtain ⟨v,S,z⟩:=z0n Z O;rw [L1,L1,S,O];exact z
   have ask:(T5 vs.length).kasWp (PySem.W.kas_ask prog w A (tuples' true) vs) (λ L B=>B={ s with heap:=h3 }/\L=p) { s with heap:=h3 }:=zbo (c:=λ i j=>ltS (ks.getD i "") (ks.getD j "")) (n:=vs.length) (λ i j C X hj ne q=>zkv (s:={ s with heap:=h3 }) (N i X) (N j hj) (λ e=>ne ?_) q) (T5 vs.length) p D ⟨rfl,rfl⟩
   ·refine o0 (b4 (PySem.W.kat_run (κ:=tuples' true) (ks:=vs) (vs:=vs) (Q:=λ F B=>B={ s with heap:=h3 }/\failedOf F=none/\Array.map (λ x=>x.snd) (arrOf F)=(p.toList.map λ i=>vs.getD i M3).toArray) rfl K (by omega) (λ L F B a1 a2 a3 a4=>⟨a4.1,a3,by rw [<-a4.2];exact PySem.W.kat_snds rfl a2⟩) ask) ?_ λ _ _ z=>z);rintro ⟨⟨⟩,F⟩ B ⟨rfl,G,g⟩;dsimp only at G g⊢;refine o0 (seqEpoch_at u rfl (o0 (listUpdate_at u rfl ?_ (A2 _) ?_)))
    ·rw [G];simp only [bne_self_eq_false,T2,if_false];exact C0 (R _ _ g l r)
    ·rw [g];exact M _ l
   ·have I:i < ks.length:=by omega
    have d:j < ks.length:=by omega
    rw [L1,L1,v0 I,v0 d] at e;exact (List.getElem_inj nd).mp e
end
section
variable {X:Cx}
theorem zbd:CallR X (.builtin "sorted") (λ xs H Q=>∃(a:Addr) (ys:List V) (ks:List Str),xs=[.ref a]/\SqL X.K H a ys/\All2 (λ y k=>∃(p:Addr) (r:List V),y=V.ref p/\SqT X.K H p (.str k :: r)) ys ks/\ys.length<=6/\ks.Nodup/\
  ∀(l:Addr) (p:List Nat),H l=none->p.Perm (V0 ys.length)->(p.map λ i=>ks.getD i "").Pairwise (λ x y=>ltS x y=true)->Q (.ref l) (upd H l (.lst (p.map λ i=>ys.getD i .non)))):=by
 intro a0 s σ H xs us Q I rv h;obtain ⟨a,ys,ks,rfl,sq,al,l6,Y,q⟩:=h;obtain ⟨u,rfl,T⟩:=vals1 rv;cases T;obtain ⟨d,B,W,M⟩:=I.list sq;have P:d.length=ys.length:=B.length.symm;refine Calls.call_function_entry kind_sorted plain_sorted entry_sorted (args_sorted1 _) ?_;unfold r9.«sorted»;obtain ⟨o,f,D,n,C⟩:=W.isList;refine o0 (m:=checkCount "sorted" 1 1 _) (C0 (o0 (wpAny_collect_seq a (.inl rfl) f D C (λ c L=>?_) (by rw [T0,<-B.length];exact M))));have O :∀{g:List Value} {ys:List V} {ks:List Str},Vals ys g->All2 (λ y k=>∃(p:Addr) (r:List V),y=V.ref p/\SqT X.K H p (.str k :: r)) ys ks->All2 (λ v k=>TupS s.heap v k) g ks:=by
  intro g ys;induction ys generalizing g with
  | nil=>intro ks c E;cases c;cases E;exact .nil
  | cons y ys ih=>
   intro ks c E;cases c with
   | cons ra rb=>
    cases E with
    | cons a b=>
     refine .cons ?_ (ih rb b);obtain ⟨p,r,rfl,sp⟩:=a;obtain ⟨js,rj,⟨o,f,D,n,C⟩,_⟩:=I.tuple sp;cases rj with
     | cons r0 _=>obtain ⟨t,rfl⟩:=r0;cases (show _=E1 p from ra);exact ⟨p,o,_,n,t,rfl,f,D,C,by simp⟩
 have vg :∀p:List Nat,(∀i∈p,i < ys.length)->Vals (p.map λ i=>ys.getD i .non) (p.map λ i=>d.getD i M3):=by
  intro p;induction p with
  | nil=>intro _;exact .nil
  | cons i p ih=>intro G;refine .cons ?_ (ih λ j Z=>G j (.tail _ Z));have A:=G i (.head _);obtain ⟨u,hu,R⟩:=B.get (v0 A);show RelV (ys.getD i .non) (d.getD i M3);rw [L1,L1,v0 A,hu];exact R
 have J:d.length<=6:=by omega
 have N:(c.push (m9 "list" d.toArray 0)).get? c.objs.size=some (m9 "list" d.toArray 0):=C1 _ rfl;have a2:All2 (λ v k=>TupS (c.push (m9 "list" d.toArray 0)) v k) d ks:=z00 (λ _ _ z=>by obtain ⟨p,o,xs,n,t,e,f,r⟩:=z;exact ⟨p,o,xs,n,t,e,F0 _ (L _ _ f),r⟩) (O B al);have F:Inv X a0 σ H { s with heap:=c }:=I.kept (t':=s.toks) L;refine o0 (wpAny_newList (o0 (V1 (T8 slot_list_sort ⟨_,N,rfl⟩ entry_list_sort (zj5 (s:={ s with heap:=c.push (m9 "list" d.toArray 0) }) N J a2 Y λ p S e w U kk hl=>⟨_,rfl,?_⟩) (args_list_sort _)))) (by simpa using L0 J (by decide)));rw [P] at w;have a1 :∀i∈p,i < ys.length:=λ i A=>List.mem_range.mp (w.mem_iff.mp A);have k2 :∀b o,c.get? b=some o->S.get? b=some o:=λ b o z=>kk b o (Y0 (Q0 z)) (F0 _ z);refine C0 ⟨_,rfl,.ref c.objs.size,_,F.laid (t':=s.toks) (o:=.lst (p.map λ i=>ys.getD i .non)) k2 (J0 _) ⟨?_,_,e,vg p a1,hl⟩,rfl,q _ p (F.hok.fresh (J0 _)) w U⟩;rw [G0,w.length_eq,W2];exact M
end
noncomputable def addT (ns:List Str) (v:Str):List Str:=if v∈ns then ns else ns++[v]
theorem zbf (ns:List Str) (v:Str):(addT ns v).length=if v∈ns then ns.length else ns.length + 1:=by
 unfold addT;by_cases z:v∈ns
 ·rw [if_pos z,if_pos z]
 ·rw [if_neg z,if_neg z,I0];rfl
theorem zij (ns:List Str) (v k:Str):(decide (k∈ns) || decide (k=v))=decide (k∈addT ns v):=by
 unfold addT;by_cases z:v∈ns
 ·rw [if_pos z];by_cases y:k=v
  ·rw [y,decide_eq_true z];rfl
  ·rw [decide_eq_false y,E9]
 ·rw [if_neg z];by_cases y:k=v
  ·rw [decide_eq_true y,Bool.or_true,decide_eq_true (by rw [y];exact List.mem_append.mpr (.inr (List.mem_singleton.mpr rfl)))]
  ·rw [decide_eq_false y,E9];by_cases x:k∈ns
   ·rw [decide_eq_true x,decide_eq_true (List.mem_append.mpr (.inl x))]
   ·rw [decide_eq_false x,decide_eq_false (λ w=>(List.mem_append.mp w).elim x λ u=>y (List.mem_singleton.mp u))]
section
variable {prog:Program} {w:Z0} {A:K2} {E:Value->B0->Prop} {s:B0}
theorem z8n {h h':Heap} {a:Addr} {M:Str->Bool} {n:Nat} (k :∀o,h.get? a=some o->h'.get? a=some o) (x:P7 (W4 prog w) h a M n):P7 (W4 prog w) h' a M n:=by obtain ⟨o,b,c,t,e,r⟩:=x;exact ⟨o,b,c,t,k _ e,r⟩
theorem zik {h:Heap} {a:Addr} (e:h.get? a=some (set0 w)):P7 (W4 prog w) h a (λ k=>decide (k∈([]:List Str))) ([]:List Str).length:=
 ⟨_,#[],0,_,e,⟨rfl,rfl,rfl⟩,rfl,λ x b=>by simp at b,λ k=>⟨λ z=>absurd (of_decide_eq_true z) K0,λ ⟨e,he,_⟩=>by simp at he⟩,by decide,by rfl,rfl⟩
theorem zeq {S it l:Addr} {items:Array Value} (nsi:S≠it) (nsl:S≠l) (nil':it≠l) :∀(ms:List Str) (i:Nat) (ns:List Str) (A:K2) (R:j1a->B0->Prop) (s:B0),A.handled=none->s.heap.IsListIter it l i->s.heap.IsList l items->
  StrsAre (items.toList.drop i) ms->P7 (W4 prog w) s.heap S (λ k=>decide (k∈ns)) ns.length->ns.length + ms.length < scanBound->
  (∀h' tk ns',P7 (W4 prog w) h' S (λ k=>decide (k∈ns')) ns'.length->ns'=ms.foldl addT ns->(∀c o,c≠S->c≠it->s.heap.get? c=some o->h'.get? c=some o)->R (.ok (.ret .none)) { s with heap:=h',toks:=tk })->
  A5 (J1 prog w) A (F7 "set.update.loop" { pos:=[.ref S,.ref it],kw:=[] }) R s
 | [],i,ns,A,R,s,hh,si,sl,al,dd,hz,q=>by
  have y:items[i]? = none:=by
   cases hd:items.toList.drop i with
   | nil=>have:=List.drop_eq_nil_iff.mp hd;rw [J2] at this;exact L4 this
   | cons u us=>rw [hd] at al;cases al
  refine J3 L6 ?_;show S0 _ _ (p7 (.ref it) >>= _) _ _ s;refine o0 (U4 (show (A.under _).handled=none from hh) si sl y λ h' v=>?_);exact C0 (q h' s.toks ns (z8n (λ o e=>v S o nsi e) dd) rfl λ c o _ H e=>v c o H e)
 | m :: ms,i,ns,A,R,s,hh,si,sl,al,dd,hz,q=>by
  cases hd:items.toList.drop i with
  | nil=>rw [hd] at al;cases al
  | cons u us=>
   rw [hd] at al;cases al with
   | cons _ tk al=>
    have J:items.toList[i]? = some (.str m tk):=by have:=congrArg (λ l=>l[0]?) hd;simpa using this
    have M:items[i]? = some (.str m tk):=by simpa using J
    have C:items.toList.drop (i + 1)=us:=by have:=congrArg j06 hd;simpa using this
    refine J3 L6 ?_;show S0 _ _ (p7 (.ref it) >>= _) _ _ s;refine o0 (Z3 si sl M λ p L h=>?_);have I:p.IsList l items:=by obtain ⟨o,a,d⟩:=sl;exact ⟨o,(h.2 l (X1 nil')).trans a,d⟩
    have K:=z8n (prog:=prog) (w:=w) (λ o e=>(h.2 S nsi).trans e) dd;rw [X0] at hz;refine o0 (V1 (show S0 _ _ (setAdd S (.str m tk)) _ _ _ from ?_));unfold setAdd;have n:(W4 prog w).is m (.str m tk)=true:=PySem.strKind_is prog w m tk;refine V1 (o0 ((W4 prog w).pyHash (k:=m) n ?_));refine wpAny_setAddHashed_of (s:={ s with heap:=p,toks:=s.toks + 1 }) n rfl K (W0 (by omega) hz) λ f g b=>?_;refine C0 ⟨zch _,?_⟩;have x:P7 (W4 prog w) f S (λ k=>decide (k∈addT ns m)) (addT ns m).length:=by
     rw [zbf];have a:(λ t=>decide (t∈ns) || decide (t=m))=λ k=>decide (k∈addT ns m):=funext λ k=>zij ns m k;rw [a] at b;by_cases z:m∈ns
     ·rw [if_pos z];rw [if_pos (decide_eq_true z)] at b;exact b
     ·rw [if_neg z];rw [if_neg (by rw [decide_eq_false z];decide)] at b;exact b
    have G:f.IsListIter it l (i + 1):=by obtain ⟨o,a,d⟩:=L;exact ⟨o,(g.2 it (X1 nsi)).trans a,d⟩
    have E:f.IsList l items:=by obtain ⟨o,a,d⟩:=I;exact ⟨o,(g.2 l (X1 nsl)).trans a,d⟩
    have O:(addT ns m).length<=ns.length + 1:=by rw [zbf];split<;>omega
    refine zeq nsi nsl nil' ms (i + 1) (addT ns m) A R { s with heap:=f,toks:=s.toks + 1 } hh G E (by rw [C];exact al) x (by omega) λ h' B ns' D F N=>q h' B ns' D F λ c o j r e=>N c o j r ((g.2 c j).trans ((h.2 c r).trans e))
theorem z8u {l:Addr} {items:Array Value} {ns:List Str} {Q:Value->B0->Prop} (hh:A.handled=none) (ht:s.heap.IsList l items) (hi:StrsAre items.toList ns) (hb:ns.length < scanBound)
  (h :∀h' tk ns',P7 (W4 prog w) h' s.heap.objs.size (λ k=>decide (k∈ns')) ns'.length->ns'=ns.foldl addT []->(∀b o,s.heap.get? b=some o->h'.get? b=some o)->Q (.ref s.heap.objs.size) { s with heap:=h',toks:=tk }) :
  S0 (J1 prog w) A (call (.type "set") [.ref l]) Q E s:=by
 obtain ⟨c,Z,N⟩:=F.called_set.mro;have L:=F.called_set.made;have U:=F.called_set.sub;refine j32 (codeAny_of_tree (show S0 _ _ (callAny (.type "set") _) _ _ _ from C0 ⟨Code.quiet_builtin _ (by decide +kernel),J3 F.entry_type_call ?_⟩));rw [j48 (weight_type_call_type "set" [.ref l] []) rfl];have V:=F.called_set.notType;have h2:=F.called_set.canCreate;have Y:=F.typeCall_set_1 (.ref l)
 (repeat (any_goals (first|assumption|wp_step)));refine z6 (zho (.ref l) (E:=E) (Q₁:=λ v p=>v=.ref s.heap.objs.size/\p={ s with heap:=s.heap.push (set0 w) }) ⟨rfl,rfl⟩) λ r p a=>?_
 cases r with
 | error e=>exact a
 | ok fl=>
  cases fl with
  | next=>exact a.elim
  | brk=>exact a.elim
  | cont=>exact a.elim
  | ret v=>
   obtain ⟨rfl,rfl⟩:=a;have g:(s.heap.push (set0 w)).get? s.heap.objs.size=some (set0 w):=C1 _ rfl;have B:R6 { s with heap:=s.heap.push (set0 w) } (.ref s.heap.objs.size) "set":=⟨_,g,rfl⟩
   have X:=F.called_set.init.lookup;have O:=F.called_set.init.bind (.ref s.heap.objs.size)
   (repeat (any_goals (first|assumption|wp_step)))
   have y:A5 (J1 prog w) A.in1 (.call (.builtin "set.__init__") ⟨[.ref s.heap.objs.size,.ref l],[]⟩) (wants (λ r m=>r=.none/\Q (.ref s.heap.objs.size) m) E) { s with heap:=s.heap.push (set0 w) }:=by
    refine N9 F.called_set.init.plain F.entry_set_init (check_set_init_1 B ?_);obtain ⟨o,f,u,n,j⟩:=ht;obtain ⟨R,I,W,J⟩:=o;dsimp only at u j;subst u j;have G:(s.heap.push (set0 w)).get? l=some { cls:=.type "list",dict:=I,data:=.seq items n,slots:=J }:=F0 _ f;have T:=z91;have M:=z76;have P:(F3 "list" == F3 "dict")=false:=by decide
    have a0:(s.heap.push (set0 w)).get? s.heap.objs.size=some { cls:=.type "set",dict:=none,data:=.set #[] 0 (.fresh 0 0 (!w.params.followText "set-order")),slots:=#[] }:=g;have x:(s.heap.push (set0 w)).IsList l items:=⟨_,G,rfl,n,rfl⟩
    have q:l < s.heap.objs.size:=Q0 f;unfold r9.«set.__init__» noKeywords O8;generalize hPI:pyIter=PI
    wp_walk
    subst hPI;refine Y4 x (o0 (wpAny_runValue ?_));have t :∀b o,s.heap.get? b=some o->((s.heap.push (set0 w)).push { cls:=.type "list_iterator",data:=.fields #[.ref l,.int 0 0] }).get? b=some o:=λ b o e=>F0 _ (F0 _ e);have i:(s.heap.push (set0 w)).objs.size=s.heap.objs.size + 1:=J6 _ _;refine zeq (S:=s.heap.objs.size) (it:=(s.heap.push (set0 w)).objs.size) (l:=l) (items:=items) (by rw [i];exact Y0 (G3 _)) (W3 q) (by rw [i];exact W3 (Q2 q)) ns 0 [] _ _ _ (by simp [hh]) ⟨_,C1 _ rfl,rfl,rfl⟩ ⟨_,t _ _ f,rfl,n,rfl⟩ (by rw [F6];exact hi) (zik (F0 _ g)) (by simpa using hb) λ h' tk ns' H C K=>?_;refine C0 (C0 ⟨rfl,h h' tk ns' H C λ b o e=>K b o (Y0 (Q0 e)) (by rw [i];exact Y0 (Q2 (Q0 e))) (t b o e)⟩)
   refine z6 y λ z m d=>?_;cases z with
   | error e=>exact d
   | ok f2=>
    cases f2 with
    | next=>exact d.elim
    | brk=>exact d.elim
    | cont=>exact d.elim
    | ret r=>obtain ⟨rfl,D⟩:=d;exact C0 (C0 D)
end
section
variable {X:Cx}
noncomputable def tLSetS (K:j0) (te:TE):TE:=λ σ H Q=>te σ H λ x H1=>∃(a:Addr) (ns:List Str),x=.ref a/\SqL K H1 a (ns.map V.str)/\ns.length < 100/\Q (.int ((ns.foldl addT []).length:Nat)) H1
theorem z5c :∀(vs ns:List Str),(vs.foldl addT ns).length<=ns.length + vs.length
 | [],ns=>J0 _
 | v :: vs,ns=>by
  have a:=z5c vs (addT ns v);have b:(addT ns v).length<=ns.length + 1:=by rw [zbf];split<;>omega
  show (vs.foldl addT (addT ns v)).length<=_;rw [X0];omega
theorem z9h :∀{ns:List Str} {us:List Value},Vals (ns.map V.str) us->StrsAre us ns
 | [],_,.nil=>.nil
 | n :: ns,_,.cons a r=>by obtain ⟨t,rfl⟩:=a;exact .cons n t (z9h r)
theorem ze7 {e:Expr} {te:TE} {p1 p2 c1 c2:Pos} (hcalm:X.calm=true) (g1:Gl X "len") (m1:X.mg "len" = none) (g2:Gl X "set") (m2:X.mg "set" = none) (b1:a5 "len" = some (.builtin "len")) (b2:a5 "set" = some (.type "set")) (ha:PE X e te)
  (he:G1 [e] X.env=[(false,R3 e X.env)]:=by rfl):PE X (.Call (.Name "len" p1) [.Call (.Name "set" p2) [e] [] c2] [] c1) (tLSetS X.K te):=by
 intro p s σ H Q I h;have i:X.A.handled=none:=I.ok.hd hcalm;refine D4 (ld_blt I g1 m1 b1 ?_ (by decide) (by decide));refine A6 ?_ rfl rfl;refine (show S0 _ _ (j2h ((false,R3 (.Call (.Name "set" p2) [e] [] c2) X.env) :: [])) _ _ s from Q4 ?_);refine D4 (ld_blt I g2 m2 b2 ?_ (by decide) (by decide));refine B4 ?_ he rfl;rw [he];refine (show S0 _ _ (j2h ((false,R3 e X.env) :: [])) _ _ s from Q4 (thn (ha p s σ H _ I h) λ u f ⟨x,H1,I1,r1,a,ns,ex,sq,hl,q⟩=>?_));subst ex;cases r1;refine L5 ?_;obtain ⟨y,w,j,D⟩:=I1.list sq;refine z8u i j.isList (by simpa using z9h w) (L7 hl (by decide)) λ n b E g v m=>L5 ?_;subst v;obtain ⟨o,C,z,t,l,k,c,_,_,B,r,d⟩:=g;have F:(ns.foldl addT []).length < 100:=by have:=z5c ns [];rw [X3,C5] at this;omega
 refine call_len_set (s:={ f with heap:=n,toks:=b }) l k c r (by omega) ?_;rw [d];exact ⟨.int ((ns.foldl addT []).length:Nat),H1,(I1.kept (t':=b + 1 + 1) m),⟨_,rfl⟩,q⟩
end
noncomputable def Itc (x:Str):It:=⟨λ i _=>i < x.cps.size,λ i H v H'=>H'=H/\∃c,x.cps[i]? = some c/\v=.str ⟨#[c]⟩,λ i _=>x.cps.size<=i⟩
theorem zig {P:Program} {w:Z0} {K:j0} {tg:Expr} {x:Str} {it:Addr} {t:Tok}:Turn P w K tg (Itc x) [it] it (λ i h=>h.IsStrIter it "str_ascii_iterator" x t i) where
 mem:=by simp
 obj:=λ i h a b f=>by
  obtain rfl:b=it:=by simpa using f
  obtain ⟨o,e,c,d⟩:=a;exact ⟨o,e,λ v z=>by rw [d] at z;cases z⟩
 keep:=λ i h g a k=>by obtain ⟨o,e,r⟩:=a;exact ⟨o,k it (by simp) o e,r⟩
 item:=by intro X p u B C i F s σ H E I j a n;subst p u B;obtain ⟨m,y,L,q,l,A⟩:=j it (by simp);have G:x.cps[i]? = some x.cps[i]:=j19 n;refine wpAny_pyNext_ascii_item a G λ g D N=>?_;have J:Inv X F σ H { s with heap:=g,toks:=s.toks + 1 }:=I.turned (t':=s.toks + 1) (λ b o f e=>(N.2 b f).trans e) m y q l A;obtain ⟨o,e,c,d⟩:=id D;exact ⟨_,rfl,go_of (s:={ s with heap:=g,toks:=s.toks + 1 }) e c d (by decide) ⟨.str ⟨#[x.cps[i]]⟩,H,J,⟨_,rfl⟩,⟨rfl,_,G,rfl⟩,D,λ b f=>(j b f).1⟩⟩
 done:=by intro X p u B C i F s σ H E I j a n;subst p u B;obtain ⟨m,y,L,q,l,A⟩:=j it (by simp);exact wpAny_pyNext_ascii_end (I.ok.hd C) a (L4 n) λ g M=>⟨rfl,I.turned (t':=s.toks) (λ b o f e=>M b o f e) m y q l A⟩
 self:=λ _ _ _ _ _ a h=>wpAny_pyIter_striter_ascii a h
noncomputable def iStr (tl:TE):TI:=λ σ H R=>tl σ H λ v H1=>∃x:Str,v=.str x/\x.cps.all (· < 128)=true/\R (Itc x) H1
theorem pi_str {X:Cx} {tg l:Expr} {tl:TE} (hl:PE X l tl):PI X tg l (iStr tl):=by
 intro c s σ H R I h;refine thn (hl c s σ H _ I h) λ v a ⟨y,H1,I1,r1,x,e,ha,q⟩=>?_;subst e;obtain ⟨t,rfl⟩:=r1;refine wpAny_pyIter_ascii ha ?_;refine ⟨a.heap.objs.size,[a.heap.objs.size],_,_,H1,rfl,I1.kept (t':=a.toks) λ b o e=>F0 _ e,zig,⟨_,C1 _ rfl,rfl,rfl⟩,λ b d=>?_,q⟩;obtain rfl:b=a.heap.objs.size:=by simpa using d
 exact I1.fpOk (J0 _) (I1.hok.fresh (J0 _))
theorem zhj {x:Str} {H1:Hp}:RunsR Same (Itc x) H1 x.cps.size (λ i v _=>∃c,x.cps[i]? = some c/\v=.str ⟨#[c]⟩):=
 ⟨λ i a H s=>a,λ H s=>J0 _,λ i a H v b s y=>by obtain ⟨e,y⟩:=y;subst e;exact ⟨Same.refl _,y⟩⟩
theorem tcompS {x:Str} {tl te:TE} {tc:TT} {g:TG} {m:Nat} {fr:List (Nat×Str)} {σ:L2.St} {H H1:Hp} {Q:VK} (p:Nat->Bool) (R:Nat->V->Hp->Prop) (hR :∀i y H H',Same H H'->R i y H->R i y H') (htl :∀R:VK,R (.str x) H1->tl σ H R) (ha:x.cps.all (· < 128)=true) (hn:x.cps.size<=sizeLine)
  (body :∀i,i < x.cps.size->∀v H,Same H1 H->(∃c,x.cps[i]? = some c/\v=.str ⟨#[c]⟩)->∀(KT:VK) (KF:Hp->Prop),(p i=true->∀y H',Same H H'->R i y H'->KT y H')->(p i=false->∀H',Same H H'->KF H')->
   g v (cStG σ fr (N0 m none)) H λ σ6 H6=>∃us,us.length=m/\σ6=cStG σ fr us/\tc (cStG σ fr us) H6 λ b H2=>if b=true then te (cStG σ fr us) H2 KT else KF H2)
  (hQ :∀l H' ys,Same H1 H'->H' l=none->All2 (λ i y=>R i y H') ((V0 x.cps.size).filter p) ys->Q (.ref l) (upd H' l (.lst ys))):tCompG (iStr tl) m fr g tc te σ H Q:=
 htl _ ⟨x,rfl,ha,z35 (Same.refl _) (λ _ _ _ a b=>a.trans b) p R hR zhj hn body hQ⟩
theorem zkw {K:j0} {te:TE} {σ:L2.St} {H:Hp} {Q:VK} (h:te σ H λ x H1=>∃(a:Addr) (ns:List Str),x=.ref a/\SqL K H1 a (ns.map V.str)/\ns.length < 100/\Q (.int ((ns.foldl addT []).length:Nat)) H1):tLSetS K te σ H Q:=h
theorem tB_not {te:TE} {σ:L2.St} {H:Hp} {Q:Bool->Hp->Prop} (h:te σ H λ x H1=>∃c,x=.bl c/\Q (!c) H1):tNot (tB te) σ H Q:=h
end L2
set_option maxHeartbeats 400000
namespace L2
open PySem PySem.Spec PyProof.Rows
end L2
set_option maxHeartbeats 1000000
namespace L2
open PySem PySem.Spec PyProof.Rows
section
variable {X:Cx}
noncomputable def rNeL0 (K:j0):R2:=λ x y H Q=>∃a b xs,x=.ref a/\y=.ref b/\SqL K H a xs/\SqL K H b []/\Q (.bl (decide (xs≠[]))) H
theorem zhw {k:Nat} (hr:Room k X.A):OpR X (X2 .NotEq) (rNeL0 X.K):=by
 intro C s σ H x y v u Q I m i h;obtain ⟨a,b,n,rfl,rfl,r,l,q⟩:=h;cases m;cases i;obtain ⟨t,d,c,_⟩:=I.list r;obtain ⟨B,rb,f,_⟩:=I.list l;cases rb;have g:X.A.units < cLine:=Nat.lt_of_succ_lt (hu_of hr);have p:=d.length;cases n with
 | nil=>cases d;exact j15 (e:=λ _=>true) c.isList f.isList rfl g (λ j o _=>absurd o (j12 _)) X.prog X.w _ _ ⟨.bl _,H,I,rfl,q⟩
 | cons z zs=>refine SeqAt.RcNeAt.lists_lengths c.isList f.isList ?_ g X.prog X.w _ _ ⟨.bl _,H,I,rfl,q⟩;rw [T0,<-p];rfl
end
structure ZLAt (h:Heap) (z T U i j a b:Addr) (n:Nat) (f:Value):Prop where
 z:IsZip h z T U f
 t:IsPair h T (.ref i) (.ref j)
 u :∃p q,IsPair h U p q
 i:h.IsListIter i a n
 j:h.IsListIter j b n
end L2
namespace L2
open PySem PySem.Spec PyProof.Rows PySem.NumText
end L2
namespace L2
open PySem PySem.Spec PyProof.Rows
def TupN (h:Heap) (v:Value) (x:(Int×Int)×Int):Prop:=∃(p:Addr) (o:Obj) (n:Nat) (q:Value) (u:Tok),v=.ref p/\h.get? p=some o/\o.cls=.type "tuple"/\o.data=.seq #[q,.int x.2 u] n/\TupI h q x.1
noncomputable def gtN (x y:(Int×Int)×Int):Bool:=if x.1=y.1 then decide (y.2 < x.2) else gtI x.1 y.1
theorem gtN_iff {x y:(Int×Int)×Int}:gtN x y=true↔gtI x.1 y.1=true\/(x.1=y.1/\y.2 < x.2):=by
 unfold gtN;by_cases e:x.1=y.1
 ·rw [if_pos e,decide_eq_true_iff,e];constructor
  ·exact λ h=>.inr ⟨rfl,h⟩
  ·rintro (h|h)
   ·have:=gtI_iff.mp h;omega
   ·exact h.2
 ·rw [if_neg e];exact ⟨.inl,λ h=>h.elim id λ z=>absurd z.1 e⟩
theorem zk3 {x y:Int×Int} (h1:gtI x y=false) (h2:gtI y x=false):x=y:=by
 have h1:¬ _:=λ z=>Bool.eq_false_iff.mp h1 (gtI_iff.mpr z);have h2:¬ _:=λ z=>Bool.eq_false_iff.mp h2 (gtI_iff.mpr z);obtain ⟨a,b⟩:=x;obtain ⟨c,d⟩:=y;simp only at h1 h2;have f:a=c:=by omega
 have e:b=d:=by omega
 rw [f,e]
theorem zks {x y:(Int×Int)×Int} (h1:gtN x y=false) (h2:gtN y x=false):x=y:=by
 have h1:¬ _:=λ z=>Bool.eq_false_iff.mp h1 (gtN_iff.mpr z);have h2:¬ _:=λ z=>Bool.eq_false_iff.mp h2 (gtN_iff.mpr z);have e:x.1=y.1:=zk3 (Bool.eq_false_iff.mpr λ z=>h1 (.inl z)) (Bool.eq_false_iff.mpr λ z=>h2 (.inl z));have a:x.2=y.2:=by have b:¬ y.2 < x.2:=λ z=>h1 (.inr ⟨e,z⟩);have c:¬ x.2 < y.2:=λ z=>h2 (.inr ⟨e.symm,z⟩);omega
 exact j42 e a
theorem gtN_tr {x y z:(Int×Int)×Int} (h:gtN x y=false) (k:gtN y z=false):gtN x z=false:=by have h:¬ _:=λ q=>Bool.eq_false_iff.mp h (gtN_iff.mpr q);have k:¬ _:=λ q=>Bool.eq_false_iff.mp k (gtN_iff.mpr q);refine Bool.eq_false_iff.mpr λ q=>?_;obtain ⟨⟨c,a⟩,b⟩:=x;obtain ⟨⟨i,e⟩,j⟩:=y;obtain ⟨⟨f,g⟩,d⟩:=z;have q:=gtN_iff.mp q;rw [gtI_iff,g9] at h k q;simp only at h k q;omega
theorem TupI.kept2 {h h':Heap} {v:Value} {x:Int×Int} (q:TupI h v x) (k :∀b o,h.get? b=some o->o.cls=.type "tuple"->h'.get? b=some o):TupI h' v x:=by obtain ⟨p,o,n,t,u,rfl,d,a,c⟩:=q;exact ⟨p,o,n,t,u,rfl,k p o d a,a,c⟩
theorem TupN.kept {h h':Heap} {v:Value} {x:(Int×Int)×Int} {c:Addr} {oc:Obj} (q:TupN h v x) (e:h.get? c=some oc) (nc:oc.cls≠.type "tuple") (k :∀b o,b≠c->h.get? b=some o->h'.get? b=some o):TupN h' v x:=by obtain ⟨p,o,n,q,u,rfl,a,d,f,g⟩:=q;exact ⟨p,o,n,q,u,rfl,k p o (λ z=>by rw [z,e] at a;cases a;exact nc d) a,d,f,g.kept e nc k⟩
section
variable {prog:Program} {w:Z0} {A:K2} {E:Value->B0->Prop} {s:B0}
theorem zjq {v z:Value} {x y:Int×Int} {Q:Bool->B0->Prop} (hx:TupI s.heap v x) (hy:TupI s.heap z y) (hu:A.units + 1 < cLine) (h:Q (decide (x=y)) s):S0 (J1 prog w) A (eqBool v z) Q E s:=by
 obtain ⟨p,o,n,t,u,rfl,g,c,a⟩:=hx;obtain ⟨j,l,m,q,k,rfl,d,b,i⟩:=hy;have f:Reads s.heap (.ref p) (.tuple [.int x.1,.int x.2]) _:=.tuple g c a (.cons (.int _ _) (.cons (.int _ _) .nil));have rb:Reads s.heap (.ref j) (.tuple [.int y.1,.int y.2]) _:=.tuple d b i (.cons (.int _ _) (.cons (.int _ _) .nil));have e:PyData.eqv (.tuple [.int x.1,.int x.2]) (.tuple [.int y.1,.int y.2])=decide (x=y):=by show ((x.1 == y.1) && ((x.2 == y.2) && true))=_;rw [Bool.eq_iff_iff];simp [Prod.ext_iff]
 exact SeqAt.eqAt_reads _ _ A s _ _ _ _ f rb rfl rfl (W0 (Nat.add_le_add_left (Nat.min_le_left _ _) _) hu) prog w E Q (by rw [e];exact h)
theorem zk7 {v z:Value} {x y:(Int×Int)×Int} {Q:Value->B0->Prop} (hx:TupN s.heap v x) (hy:TupN s.heap z y) (hu:A.units + 3 < cLine) (h:Q (.bool (gtN x y)) s):S0 (J1 prog w) A (B8 .Gt v z) Q E s:=by
 obtain ⟨p,o,n,q,u,rfl,c,f,m,g⟩:=hx;obtain ⟨B,l,D,G,C,rfl,d,k,r,e⟩:=hy;refine j2f (op:=.Gt) (T:="tuple") ⟨o,c,f⟩ ⟨l,d,k⟩ i9 (T8 i9 ⟨o,c,f⟩ F.entry_tuple_gt ?_ (F.args_tuple_gt_2 _ _)) (by omega);refine (show S0 _ _ (j35 (.ref B) (.type "tuple") >>= _) _ _ s from o0 (y6 (T:="tuple") ⟨l,d,k⟩ isSubtype_tuple_tuple ?_));simp only [J5,T2,if_false];refine o0 (f8 c m (o0 (f8 d r (o0 ?_))));simp only [G9,List.zip_nil_left,k7,O7];refine o0 (o0 (zjq g e (show A.units + 1 + 1 < cLine by omega) ?_));have t :∀{i j:Int} {a b:Tok} {R:Value->B0->Prop},R (.bool (decide (j < i))) s->S0 (J1 prog w) A.in1 (B8 .Gt (.int i a) (.int j b)) R E s:=λ q=>(show S0 _ _ (X2 .Gt _ _) _ _ _ from gt_int q)
 unfold gtN at h;by_cases e1:x.1=y.1
 ·rw [decide_eq_true e1];simp only [J5,T2,if_false];refine C0 (o0 (o0 ((Z4 prog w).eqBool (a:=x.2) (b:=y.2) (N6 prog w _ _) (N6 prog w _ _) ?_)));rw [if_pos e1] at h;by_cases e2:x.2=y.2
  ·rw [decide_eq_true e2];simp only [J5,T2,if_false];rw [decide_eq_false (by omega)] at h;exact C0 (C0 (C0 ⟨_,rfl,(λ z=>nomatch z),h⟩))
  ·rw [decide_eq_false e2];simp only [j9,if_true];exact o0 (o7 (o0 (t (o0 (C0 (C0 (C0 (C0 ⟨_,rfl,(λ z=>nomatch z),h⟩))))))))
 ·rw [decide_eq_false e1];simp only [j9,if_true];rw [if_neg e1] at h;exact o0 (o7 (o0 (tup_gt g e (show A.units + 1 < cLine by omega) (o0 (C0 (C0 (C0 (C0 ⟨_,rfl,(λ z=>nomatch z),h⟩))))))))
noncomputable def bestN (m:Value×((Int×Int)×Int)):List (Value×((Int×Int)×Int))->Value×((Int×Int)×Int)
 | []=>m
 | x :: r=>bestN (if gtN x.2 m.2=true then x else m) r
theorem z8m {I l S:Addr} {its:Array Value} (nl:l≠I) (ns:S≠I) (nsl:l≠S) :∀(xs:List (Value×((Int×Int)×Int))) (k c:Nat) (m:Value×((Int×Int)×Int)) (A:K2) (R:j1a->B0->Prop) (s:B0),A.handled=none->A.units + 9 < cLine->s.heap.IsListIter I l k->s.heap.IsList l its->its.toList.drop k=xs.map (·.1)->
  s.heap.get? S=some { cls:=.type "list",dict:=none,data:=.seq #[m.1,m.1] c,slots:=#[] }->TupN s.heap m.1 m.2->(∀x∈xs,TupN s.heap x.1 x.2)->
  (∀h' tk,(∀b o,b≠I->b≠S->s.heap.get? b=some o->h'.get? b=some o)->R (.ok (.ret (bestN m xs).1)) { s with heap:=h',toks:=tk })->
  A5 (J1 prog w) A (.builtin "max.loop" ⟨[.ref I,.none,.ref S],[]⟩) R s
 | [],k,c,m,A,R,s,hh,hu,hI,hl,hd,hS,hm,hx,q=>by
  have H:its[k]? = none:=by have:=List.drop_eq_nil_iff.mp hd;rw [J2] at this;exact L4 this
  refine J3 j13 ?_;rw [S8 z5 _];refine (show S0 _ A.in1 (seqItems? (.ref S) >>= _) _ _ s from o0 (L9 hS rfl ?_));refine (show S0 _ A.in1 (tryCatch (p7 (.ref I)) _ >>= _) _ _ s from o0 (W6 (U4 (show A.in1.handled=none from hh) hI hl H λ h' d=>?_)));have f:=d S _ ns hS;refine (show S0 _ A.in1 (updateSeq S (λ _=>#[]) >>= _) _ _ _ from o0 (j29 f rfl (o0 (j21 (C0 ?_)))));exact q _ _ λ b o a g e=>(N4 _ _ (X1 g)).trans (d b o a e)
 | x :: xs,k,c,m,A,R,s,hh,hu,hI,hl,hd,hS,hm,hx,q=>by
  have r:its.toList[k]? = some x.1:=by have:=congrArg (λ z=>z[0]?) hd;simpa using this
  have r:its[k]? = some x.1:=by simpa using r
  have B:its.toList.drop (k + 1)=xs.map (·.1):=by have:=congrArg j06 hd;simpa using this
  have v:(toString "max"++toString ".loop" : String) = "max.loop":=by decide
  obtain ⟨K,C,J,_⟩:=id hI;have F:K.cls≠.type "tuple":=by rw [J];decide
  refine J3 j13 ?_;rw [S8 z5 _];refine (show S0 _ A.in1 (seqItems? (.ref S) >>= _) _ _ s from o0 (L9 hS rfl ?_));refine (show S0 _ A.in1 (tryCatch (p7 (.ref I)) _ >>= _) _ _ s from o0 (W6 (Z3 hI hl r λ h' G L=>?_)));have h :∀b o,b≠I->s.heap.get? b=some o->h'.get? b=some o:=λ b o n e=>(L.2 b n).trans e;have f:=h S _ ns hS;have D:h'.IsList l its:=hl.elim λ o z=>⟨o,h l o nl z.1,z.2⟩
  have E:TupN h' m.1 m.2:=hm.kept C F h;have p :∀y∈x :: xs,TupN h' y.1 y.2:=λ y i=>(hx y i).kept C F h;refine (show S0 _ A.in1 (tryCatch (n9 [x.1,x.1] (B8 .Gt x.1 m.1 >>= _)) _ >>= _) _ _ _ from o0 (W6 (V1 (o0 (zk7 (s:={ s with heap:=h' }) (p x (.head _)) E (show A.units + 1 + 3 < cLine by omega) (o0 (V1 (L3 (o0 (j21 (C0 ?_)))))))))));have d:bestN m (x :: xs)=bestN (if gtN x.2 m.2=true then x else m) xs:=rfl;cases hg:gtN x.2 m.2 with
  | true=>rw [hg,if_pos rfl] at d;simp only [if_true];refine o0 (j29 f rfl (o0 (j21 ?_)));rw [v];have j :∀b o,b≠S->h'.get? b=some o->(h'.update S (w4 λ _=>#[x.1,x.1])).get? b=some o:=λ b o n e=>(N4 _ _ (X1 n)).trans e;refine C0 ⟨C7 z5 _,z8m nl ns nsl xs (k + 1) _ x A R { s with heap:=h'.update S (w4 λ _=>#[x.1,x.1]) } hh hu (G.elim λ o z=>⟨o,j I o (X1 ns) z.1,z.2⟩) (D.elim λ o z=>⟨o,j l o nsl z.1,z.2⟩) B (T6 _ f rfl) ((p x (.head _)).kept f (show F3 "list"≠.type "tuple" by decide) j) (λ y i=>(p y (.tail _ i)).kept f (show F3 "list"≠.type "tuple" by decide) j) λ t tk u=>?_⟩;rw [<-d];exact q t tk λ b o a g e=>u b o a g (j b o g (h b o a e))
  | false=>rw [hg,if_neg (by decide)] at d;simp only [T2,if_false];refine o0 (j21 ?_);rw [v];refine C0 ⟨C7 z5 _,z8m nl ns nsl xs (k + 1) c m A R { s with heap:=h' } hh hu G D B f E (λ y i=>p y (.tail _ i)) λ t tk u=>?_⟩;rw [<-d];exact q t tk λ b o a g e=>u b o a g (h b o a e)
theorem zgl {l:Addr} {its:Array Value} {m:Value×((Int×Int)×Int)} {xs:List (Value×((Int×Int)×Int))} {Q:Value->B0->Prop} (hh:A.handled=none) (hu:A.units + 9 < cLine) (hl:s.heap.IsList l its) (hi:its.toList=(m :: xs).map (·.1)) (ht :∀x∈m :: xs,TupN s.heap x.1 x.2)
  (q :∀h' tk,(∀b o,s.heap.get? b=some o->h'.get? b=some o)->Q (bestN m xs).1 { s with heap:=h',toks:=tk }):S0 (J1 prog w) A (call (.builtin "max") [.ref l]) Q E s:=by
 have C:(toString "max"++toString ".loop" : String) = "max.loop":=by decide
 refine call_function_tree F.kind_max F.plain_max F.entry_max (F.args_max1 _) ?_;refine (show S0 _ A.in1 (a9 "max" ["key","default"] 0 ⟨[],[]⟩ >>= _) _ _ s from o0 (j20 (show a9 "max" ["key","default"] 0 ⟨[],[]⟩=V3 [none,none] from rfl) (o0 (C0 ?_))));refine o0 (Y4 hl ?_);refine o0 (X5 ?_);rw [C];dsimp only;generalize hI0:s.heap.push { cls:=.type "list_iterator",data:=.fields #[.ref l,.int 0 0] }=h1;have v:h1.get? s.heap.objs.size=some { cls:=.type "list_iterator",data:=.fields #[.ref l,.int 0 0] }:=by rw [<-hI0];exact C1 _ rfl
 have g:h1.objs.size=s.heap.objs.size + 1:=by rw [<-hI0];exact J6 _ _
 have c :∀b o,s.heap.get? b=some o->h1.get? b=some o:=λ b o e=>by rw [<-hI0];exact F0 _ e
 generalize hS0:h1.push { cls:=.type "list",data:=.seq #[] }=h2;have k:h2.get? h1.objs.size=some { cls:=.type "list",data:=.seq #[] }:=by rw [<-hS0];exact C1 _ rfl
 have a :∀b o,h1.get? b=some o->h2.get? b=some o:=λ b o e=>by rw [<-hS0];exact F0 _ e
 have r:l < s.heap.objs.size:=hl.elim λ o z=>Q0 z.1;generalize hI:s.heap.objs.size=I at v g r;generalize hSS:h1.objs.size=S at k g;have y:S≠I:=by omega
 have D:l≠I:=Y0 r;have K:l≠S:=Y0 (by rw [g];exact Q2 r);have N :∀x∈m :: xs,TupN h2 x.1 x.2:=λ x f=>by obtain ⟨p,o,n,t,u,e,O,P,L,R⟩:=ht x f;exact ⟨p,o,n,t,u,e,a _ _ (c _ _ O),P,L,R.kept2 λ b o e _=>a _ _ (c _ _ e)⟩
 refine C0 ⟨C7 z5 _,J3 j13 ?_⟩;rw [S8 z5 _];refine (show S0 _ A.in1 (seqItems? (.ref S) >>= _) _ _ _ from o0 (L9 k rfl ?_));have M:its[0]? = some m.1:=by have:=congrArg (λ z=>z[0]?) hi;simpa using this
 refine (show S0 _ A.in1 (tryCatch (p7 (.ref I)) _ >>= _) _ _ _ from o0 (W6 (Z3 (l:=l) ⟨_,a _ _ v,rfl,rfl⟩ (hl.elim λ o z=>⟨o,a _ _ (c _ _ z.1),z.2⟩) M λ d T U=>?_)));have h :∀b o,b≠I->h2.get? b=some o->d.get? b=some o:=λ b o n e=>(U.2 b n).trans e;have j:=h S _ y k;refine (show S0 _ A.in1 (updateSeq S (λ _=>#[m.1,m.1]) >>= _) _ _ _ from o0 (j29 j rfl ?_));rw [C];have i :∀b o,b≠S->d.get? b=some o->(d.update S (w4 λ _=>#[m.1,m.1])).get? b=some o:=λ b o n e=>(N4 _ _ (X1 n)).trans e;have J :∀x∈m :: xs,TupN (d.update S (w4 λ _=>#[m.1,m.1])) x.1 x.2:=λ x f=>((N x f).kept (a _ _ v) (show F3 "list_iterator"≠.type "tuple" by decide) h).kept j (show F3 "list"≠.type "tuple" by decide) i;refine C0 ⟨C7 z5 _,z8m D y K xs 1 _ m A _ { s with heap:=d.update S (w4 λ _=>#[m.1,m.1]) } hh hu (T.elim λ o z=>⟨o,i I o (X1 y) z.1,z.2⟩) (hl.elim λ o z=>⟨o,i l o K (h _ _ D (a _ _ (c _ _ z.1))),z.2⟩) ?_ (T6 _ j rfl) (J m (.head _)) (λ x f=>J x (.tail _ f)) λ h' tk V=>?_⟩
 ·rw [hi];rfl
 ·refine q h' tk λ b o e=>?_;have B:b < I:=by rw [<-hI];exact Q0 e
  have H:b≠I:=Y0 B;have G:b≠S:=Y0 (by rw [g];exact Q2 B);exact V b o H G (i _ _ G (h _ _ H (a _ _ (c _ _ e))))
end
section
variable {X:Cx}
theorem zhr (x:(Int×Int)×Int):gtN x x=false:=Bool.eq_false_iff.mpr λ z=>by
 rcases gtN_iff.mp z with z|z
 ·have:=gtI_iff.mp z;omega
 ·omega
theorem zi3 {x y:(Int×Int)×Int} (h:gtN x y=true):gtN y x=false:=Bool.eq_false_iff.mpr λ z=>by obtain ⟨⟨c,a⟩,b⟩:=x;obtain ⟨⟨e,d⟩,f⟩:=y;have h:=gtN_iff.mp h;have z:=gtN_iff.mp z;rw [gtI_iff,g9] at h z;simp only at h z;omega
theorem zb9 :∀(xs:List (Value×((Int×Int)×Int))) (m:Value×((Int×Int)×Int)),bestN m xs∈m :: xs/\∀x∈m :: xs,gtN x.2 (bestN m xs).2=false
 | [],m=>⟨.head _,λ x a=>by rw [List.mem_singleton.mp a];exact zhr _⟩
 | y :: xs,m=>by
  show bestN (if gtN y.2 m.2=true then y else m) xs∈m :: y :: xs/\∀x∈m :: y :: xs,gtN x.2 (bestN (if gtN y.2 m.2=true then y else m) xs).2=false;by_cases z:gtN y.2 m.2=true
  ·rw [if_pos z];obtain ⟨c,b⟩:=zb9 xs y;refine ⟨.tail _ c,λ x a=>?_⟩;rcases List.mem_cons.mp a with e|a
   ·rw [e];exact gtN_tr (zi3 z) (b y (.head _))
   ·exact b x a
  ·rw [if_neg z];obtain ⟨c,b⟩:=zb9 xs m;refine ⟨?_,λ x a=>?_⟩
   ·rcases List.mem_cons.mp c with e|e
    ·rw [e];exact .head _
    ·exact .tail _ (.tail _ e)
   ·rcases List.mem_cons.mp a with e|a
    ·rw [e];exact b m (.head _)
    ·rcases List.mem_cons.mp a with e|a
     ·rw [e];exact gtN_tr (Bool.eq_false_iff.mpr z) (b m (.head _))
     ·exact b x (.tail _ a)
theorem zei {pins:List (Addr×Obj)} {σ:St} {H:Hp} {s:B0} (I:Inv X pins σ H s) {q:Addr} {i j:Int} (st:SqT X.K H q [.int i,.int j]):TupI s.heap (.ref q) (i,j):=by obtain ⟨m,b,⟨o,h,e,n,c⟩,_⟩:=I.tuple st;obtain ⟨l,k,rfl,d,a⟩:=vals2 b;obtain ⟨f,rfl⟩:=d;obtain ⟨g,rfl⟩:=a;exact ⟨q,o,n,f,g,rfl,h,e,c⟩
noncomputable def rGtT (K:j0):R2:=λ x y H Q=>∃(p q:Addr) (a b:Int×Int),x=.ref p/\y=.ref q/\SqT K H p [.int a.1,.int a.2]/\SqT K H q [.int b.1,.int b.2]/\Q (.bl (gtI a b)) H
theorem op_gtT {k:Nat} (hr:Room k X.A):OpR X (X2 .Gt) (rGtT X.K):=by intro i s σ H x y v u Q I d c h;obtain ⟨p,q,a,b,rfl,rfl,g,f,e⟩:=h;cases d;cases c;exact (show S0 _ _ (B8 .Gt _ _) _ _ _ from tup_gt (zei I g) (zei I f) (by have:=hr.units;omega) ⟨.bl _,H,I,rfl,e⟩)
theorem zbv (hcalm:X.calm=true) {k:Nat} (hr:Room k X.A):CallR X (.builtin "max") (λ xs H Q=>∃(l:Addr) (m:Addr×((Int×Int)×Int)) (r:List (Addr×((Int×Int)×Int))),xs=[.ref l]/\SqL X.K H l ((m :: r).map λ x=>V.ref x.1)/\(∀x∈m :: r,∃q,SqT X.K H x.1 [.ref q,.int x.2.2]/\SqT X.K H q [.int x.2.1.1,.int x.2.1.2])/\
  ∀b,(b∈m :: r)->(∀x∈m :: r,gtN x.2 b.2=false)->Q (.ref b.1) H):=by
 intro a0 s σ H xs f Q I U h;obtain ⟨l,m,r,rfl,L,B,q⟩:=h;obtain ⟨u,rfl,z⟩:=vals1 U;cases z;obtain ⟨j,T,C,hz⟩:=I.list L;have S:j.toArray.toList=(((E1 m.1,m.2) :: r.map λ x=>(E1 x.1,x.2)):List (Value×((Int×Int)×Int))).map (·.1):=by
  have go :∀(g:List (Addr×((Int×Int)×Int))) (f:List Value),Vals (g.map λ x=>V.ref x.1) f->f=(g.map λ x=>(E1 x.1,x.2)).map (·.1):=by
   intro g;induction g with
   | nil=>intro f h;cases h;rfl
   | cons y g ih=>
    intro f h;cases h with
    | cons a b=>cases (show _=E1 y.1 from a);rw [U1,U1,<-ih _ b]
  simpa using go (m :: r) j T
 have w :∀x∈(((E1 m.1,m.2) :: r.map λ x=>(E1 x.1,x.2)):List (Value×((Int×Int)×Int))),TupN s.heap x.1 x.2:=λ x c=>by
  obtain ⟨y,d,rfl⟩ :∃y∈m :: r,x=(E1 y.1,y.2):=by
   rcases List.mem_cons.mp c with e|c
   ·exact ⟨m,.head _,e⟩
   ·obtain ⟨y,d,e⟩:=List.mem_map.mp c;exact ⟨y,.tail _ d,e.symm⟩
  obtain ⟨q,v,J⟩:=B y d;obtain ⟨Z,M,⟨o,G,P,n,t⟩,_⟩:=I.tuple v;obtain ⟨O,Y,rfl,D,p⟩:=vals2 M;cases (show O=.ref q from D);obtain ⟨F,rfl⟩:=p;exact ⟨y.1,o,n,.ref q,F,rfl,G,P,t,zei I J⟩
 refine zgl (I.ok.hd hcalm) (by have:=hr.units;omega) C.isList S w λ W N k=>?_;obtain ⟨R,i⟩:=zb9 (r.map λ x=>(E1 x.1,x.2)) (E1 m.1,m.2);obtain ⟨y,d,E⟩ :∃y∈m :: r,bestN (E1 m.1,m.2) (r.map λ x=>(E1 x.1,x.2))=(E1 y.1,y.2):=by
  rcases List.mem_cons.mp R with e|c
  ·exact ⟨m,.head _,e⟩
  ·obtain ⟨y,d,e⟩:=List.mem_map.mp c;exact ⟨y,.tail _ d,e.symm⟩
 rw [E] at i⊢;refine ⟨.ref y.1,H,I.kept (t':=N) k,rfl,q y d λ x c=>?_⟩;rcases List.mem_cons.mp c with e|c
 ·rw [e];exact i _ (.head _)
 ·exact i (E1 x.1,x.2) (.tail _ (List.mem_map.mpr ⟨x,c,rfl⟩))
end
end L2
open PySem PySem.W PyProof.Rows
set_option maxHeartbeats 4000000
namespace TJ
section
variable (p:Program) (w:Z0) (n₀:Nat) (ann:Option Value) (code:Code) (q:Pos)
theorem zh2 {n m:Nat} :∀{s s' s'':B0} {t t' t'':j3a},segGo S3 p w n₀ ann 1 n s t=some (s',t')->segGo S3 p w n₀ ann 1 m s' t'=some (s'',t'')->
  segGo S3 p w n₀ ann 1 (n + m) s t=some (s'',t''):=by
 induction n with
 | zero=>
  intro s s' s'' t t' t'' h k;obtain ⟨rfl,rfl⟩:s=s'/\t=t':=by simpa [segGo] using h
  rw [C5];exact k
 | succ n ih=>
  intro s s' s'' t t' t'' h k;rw [show n + 1 + m=n + m + 1 by omega];unfold segGo at h⊢;cases he:endAt 1 t with
  | some f=>rw [he] at h;cases h
  | none=>
   rw [he] at h;cases hk:stepOk n₀ ann t with
   | false=>rw [hk] at h;cases h
   | true=>
    rw [hk] at h;cases hs:step (denote S3) p w s t with
    | halt o s₂=>rw [hs] at h;cases h
    | go s₂ t₂=>rw [hs] at h;exact ih h k
def Steps (c:Nat) (s:B0) (t:j3a) (s':B0) (t':j3a):Prop:=∃n,n<=c/\segGo S3 p w n₀ ann 1 n s t=some (s',t')
def Goes {α:Type} (c:Nat) (x:Sem α) (s:B0) (pos:Pos) (a:α) (s':B0) (pos':Pos):Prop:=
 ∀(K:α->Sem Fin) (H:Value->Sem Fin) (gd:Bool->Bool) (lv:List Value->List Value),
  Steps p w n₀ ann c s ⟨x.wrap K H gd lv,code,pos,[topFrame q]⟩ s' ⟨K a,code,pos',[topFrame q]⟩
end
section
variable {p:Program} {w:Z0} {n₀:Nat} {ann:Option Value} {code:Code} {q:Pos}
theorem Steps.trans {c d:Nat} {s s' s'':B0} {t t' t'':j3a} (h:Steps p w n₀ ann c s t s' t') (k:Steps p w n₀ ann d s' t' s'' t''):Steps p w n₀ ann (c + d) s t s'' t'':=by obtain ⟨n,b,h⟩:=h;obtain ⟨m,a,k⟩:=k;exact ⟨n + m,by omega,zh2 p w n₀ ann h k⟩
theorem Steps.refl {s:B0} {t:j3a}:Steps p w n₀ ann 0 s t s t:=⟨0,J0 _,rfl⟩
theorem Steps.le {c d:Nat} {s s':B0} {t t':j3a} (h:Steps p w n₀ ann c s t s' t') (l:c<=d):Steps p w n₀ ann d s t s' t':=let ⟨n,a,b⟩:=h;⟨n,L0 a l,b⟩
theorem Steps.one {s s':B0} {t t':j3a} (he:endAt 1 t=none) (hk:stepOk n₀ ann t=true) (hs:step (denote S3) p w s t=.go s' t'):Steps p w n₀ ann 1 s t s' t':=by refine ⟨1,J0 _,?_⟩;unfold segGo;rw [he,hk,hs];rfl
variable {α β:Type} {s s' s'':B0} {pos pos' pos'':Pos} {a:α} {b:β} {c d:Nat}
theorem Goes.pure:Goes p w n₀ ann code q 0 (j2d a:Sem α) s pos a s pos:=λ _ _ _ _=>.refl
theorem Goes.le {x:Sem α} (h:Goes p w n₀ ann code q c x s pos a s' pos') (l:c<=d):Goes p w n₀ ann code q d x s pos a s' pos':=λ K H e b=>(h K H e b).le l
theorem Goes.bind {x:Sem α} {f:α->Sem β} (h:Goes p w n₀ ann code q c x s pos a s' pos') (k:Goes p w n₀ ann code q d (f a) s' pos' b s'' pos''):Goes p w n₀ ann code q (c + d) (x >>= f) s pos b s'' pos'':=by
 intro K H g i;have e:(x >>= f).wrap K H g i=x.wrap (λ a=>(f a).wrap K H g i) H g i:=by rw [Sem.bind_eq_wrap',Sem.wrap_wrap];rfl
 rw [e];exact (h _ H g i).trans (k K H g i)
theorem Goes.keep {x:Sem α} {vs:List Value} (h:Goes p w n₀ ann code q c x s pos a s' pos'):Goes p w n₀ ann code q c (x.keep vs) s pos a s' pos':=by intro K H d b;rw [Sem.keep_eq_wrap,Sem.wrap_wrap];exact h K H _ _
theorem Goes.holding {x:Sem α} {vs:List Value} (h:Goes p w n₀ ann code q c x s pos a s' pos'):Goes p w n₀ ann code q c (n9 vs x) s pos a s' pos':=by rw [holding_eq_keep];exact h.keep
theorem Goes.rule {tag:String}:Goes p w n₀ ann code q 1 (PySem.rule tag) s pos () s pos:=λ _ _ _ _=>.one rfl rfl rfl
theorem Goes.at' {pos₁:Pos}:Goes p w n₀ ann code q 1 (j2g pos₁) s pos () s pos₁:=λ _ _ _ _=>.one rfl rfl rfl
theorem Goes.loadPart {A:Addr} {o:Obj} {part:Option Value} (ho:s.heap.get? A=some o):Goes p w n₀ ann code q 1 (loadPart A part) s pos o s pos:=λ K H b e=>.one rfl rfl (by obtain ⟨heap,a,d,f,c⟩:=s;show (match heap.get? A with|some o=>Step.go _ _|none=>_)=_;have ho:heap.get? A=some o:=ho;rw [ho];rfl)
theorem Goes.updatePart {A:Addr} {o:Obj} {f:Obj->Obj} {part:Option Value} (ho:s.heap.get? A=some o) (hn:Nat.ble n₀ A=true):Goes p w n₀ ann code q 1 (updatePart A part f) s pos () { s with heap:=s.heap.update A f } pos:=λ K H b e=>
 .one rfl (by
  show (_ && (Nat.ble n₀ A || _ || _ || _))=true;rw [hn];rfl) (by
  obtain ⟨heap,a,d,g,c⟩:=s;have ho:heap.get? A=some o:=ho;show (if (heap.get? A).isSome=true then Step.go _ _ else _)=_;rw [ho];rfl)
theorem Goes.leaf {x:Sem α} {sT sT':SharedT} (n:Nat) (h :∀K H gd lv,segGoT S3 p w n₀ ann 1 n sT ⟨x.wrap K H gd lv,code,pos,[topFrame q]⟩=some (sT',⟨K a,code,pos',[topFrame q]⟩)) :
  Goes p w n₀ ann code q n x sT.abs pos a sT'.abs pos':=λ K H gd lv=>⟨n,J0 _,segGo_of (h K H gd lv)⟩
end
end TJ
open PySem PySem.W PyProof.Rows
namespace TJ
section
variable {p:Program} {w:Z0} {n₀:Nat} {ann:Option Value} {code:Code} {q:Pos} {s:B0} {pos:Pos}
theorem Goes.forIn {γ β:Type} {c:Nat} {f:γ->β->Sem (ForInStep β)} {b:β} :∀{l:List γ},(∀x∈l,Goes p w n₀ ann code q c (f x b) s pos (.yield b) s pos)->Goes p w n₀ ann code q (l.length * c) (ForIn.forIn l b f) s pos b s pos
 | [],_=>by rw [O7];exact Goes.pure.le (A2 _)
 | x :: l,h=>by rw [k7];have k:=Goes.forIn (l:=l) λ y a=>h y (O1 _ a);have e:=Goes.bind (f:=λ r=>match r with | .done b=>(j2d b:Sem β) | .yield b=>ForIn.forIn l b f) (h x R1) k;exact e.le (by rw [X0,Nat.add_mul];omega)
theorem Goes.entries {d:Addr} {o:Obj} {es:Array DictEntry} {ep:Nat} {part:Option Value} (ho:s.heap.get? d=some o) (hd:o.data=.dict es ep):Goes p w n₀ ann code q 1 (dictEntries d part) s pos es s pos:=by unfold dictEntries;refine (Goes.bind (d:=0) (Goes.loadPart ho) ?_);rw [hd];exact Goes.pure
theorem Goes.epoch {d:Addr} {o:Obj} {es:Array DictEntry} {ep:Nat} {part:Option Value} (ho:s.heap.get? d=some o) (hd:o.data=.dict es ep):Goes p w n₀ ann code q 1 (dictEpoch d part) s pos ep s pos:=by unfold dictEpoch;refine (Goes.bind (d:=0) (Goes.loadPart ho) ?_);rw [hd];exact Goes.pure
theorem Goes.mayTell {a:Addr} {stored:List Value} {cq:Nat} (hq:Goes p w n₀ ann code q cq (Q6 8 (.ref a)) s pos true s pos) (hs :∀v∈stored,Goes p w n₀ ann code q cq (Q6 8 v) s pos true s pos) :
  Goes p w n₀ ann code q (cq + stored.length * cq) (tableMayTell (.ref a) stored) s pos false s pos:=by
 unfold tableMayTell;split
 ·exact Goes.pure.le (A2 _)
 ·refine Goes.bind hq ?_;simp only [J5,T2,if_false];refine (Goes.bind (a:=(none,())) (d:=0) (Goes.forIn λ v b=>?_) ?_).le (J0 _)
  ·refine (Goes.bind (d:=0) (hs v b) ?_).le (J0 _);simp only [J5,T2,if_false];exact Goes.pure
  ·exact Goes.pure
theorem Goes.find_none {d a:Addr} {o:Obj} {es:Array DictEntry} {ep:Nat} {h:Int} {cq ce:Nat} (ho:s.heap.get? d=some o) (hd:o.data=.dict es ep)
  (hq:Goes p w n₀ ann code q cq (Q6 8 (.ref a)) s pos true s pos)
  (hk :∀e∈es.toList,∃b,e.key=.ref b/\b≠a/\Goes p w n₀ ann code q cq (Q6 8 (.ref b)) s pos true s pos/\Goes p w n₀ ann code q ce (eqBool (.ref b) (.ref a)) s pos false s pos) :
  Goes p w n₀ ann code q (2 + cq + es.size * (cq + ce + 10)) (dictFind d (.ref a) h) s pos none s pos:=by
 have n :∀(i:Nat) (e:DictEntry),es[i]? = some e->e∈es.toList:=λ i e x=>Array.mem_toList_iff.mpr (j31 x);have r:¬ (es.any λ e=>e.key == E1 a && e.hash != h)=true:=by rw [<-Array.any_toList,List.any_eq_true];rintro ⟨e,hin,hc⟩;obtain ⟨b,f,g,_⟩:=hk e hin;simp only [f,P4,beq_iff_eq,Value.ref.injEq] at hc;exact g hc.1
 have l :∀v∈(X6 es.size (λ i=>es[i]?.map (·.hash)) h).filterMap (λ i=>es[i]?.map (·.key)),∃b,v=.ref b/\b≠a/\Goes p w n₀ ann code q cq (Q6 8 v) s pos true s pos:=by
  intro v k;obtain ⟨i,_,j⟩:=List.mem_filterMap.mp k;cases hei:es[i]? with
  | none=>rw [hei] at j;cases j
  | some e=>
   rw [hei] at j;obtain rfl:e.key=v:=by simpa using j
   obtain ⟨b,f,g,t,_⟩:=hk e (n i e hei);exact ⟨b,f,g,f ▸ t⟩
 have m:(X6 es.size (λ i=>es[i]?.map (·.hash)) h).length<=es.size:=by unfold X6;exact L0 (S6 _ _) (by rw [W2];exact J0 _)
 have B:((X6 es.size (λ i=>es[i]?.map (·.hash)) h).filterMap (λ i=>es[i]?.map (·.key))).length<=es.size:=L0 (j28 _ _) m;unfold dictFind;refine Goes.holding ?_;refine (Goes.bind (d:=1 + cq + es.size * (cq + ce + 10)) (Goes.entries ho hd) ?_).le (by omega);dsimp only;rw [if_neg (show ¬ ((E1 a :: (X6 es.size (λ i=>es[i]?.map (·.hash)) h).filterMap (λ i=>es[i]?.map (·.key))).all carriedByValue)=true by simp [carriedByValue])];rw [if_neg r];have y:¬ (((X6 es.size (λ i=>es[i]?.map (·.hash)) h).filterMap (λ i=>es[i]?.map (·.key))) == [E1 a])=true:=by intro e;have e:=eq_of_beq e;obtain ⟨b,f,g,_⟩:=l (.ref a) (by rw [e];exact List.mem_singleton.mpr rfl);exact g (by injection f with f;exact f.symm)
 rw [if_neg y];refine (Goes.bind (d:=1 + es.size * (ce + 10)) (Goes.mayTell hq λ v k=>(let ⟨_,_,_,z⟩:=l v k;z)) ?_).le ?_
 ·rw [if_neg (by simp)];refine (Goes.bind (a:=(none,none)) (d:=0) (Goes.forIn (c:=ce + 10) λ i j=>?_) ?_).le ?_
  ·cases hei:es[i]? with
   | none=>exact Goes.pure.le (A2 _)
   | some e=>
    dsimp only;split
    ·obtain ⟨b,f,g,_,A⟩:=hk e (n i e hei);rw [f];refine (Goes.bind (d:=ce + 2) (Goes.epoch ho hd) (Goes.bind (d:=2) A (Goes.bind (d:=1) (Goes.epoch ho hd) ?_))).le (by omega);rw [if_neg (by simp)];rw [if_neg (by simp)];refine Goes.bind (d:=0) Goes.rule ?_;rw [if_neg (by simp)];exact Goes.pure
    ·exact Goes.pure.le (A2 _)
  ·exact Goes.pure
  ·have:=q9 (ce + 10) m;omega
 ·have:=q9 cq B;have u:es.size * (cq + ce + 10)=es.size * cq + es.size * (ce + 10):=by rw [<-Nat.mul_add,Nat.add_assoc]
  rw [u];omega
end
end TJ
open PySem PySem.W PyProof.Rows
namespace TJ
noncomputable abbrev dObj (es:Array DictEntry) (ep:Nat):Obj:={ cls:=.type "dict",data:=.dict es ep }
noncomputable abbrev KV3:=Addr×Value×Int
noncomputable def ent (x:KV3):DictEntry:=⟨x.2.2,.ref x.1,x.2.1⟩
noncomputable def unh (a:Addr):Sem Value:=do rule "hash.unhashable";raiseError "TypeError" s!"unhashable type: '{← typeNameOf (.ref a)}'"
noncomputable def zc4 (d:Addr) (vs:List (Value×Value)):Sem PUnit:=forIn vs B9 λ (x:Value×Value) (_:PUnit)=>(do j2i d x.1 x.2;V3 (A4 B9):Sem (ForInStep PUnit))
section
variable {p:Program} {w:Z0} {n₀:Nat} {ann:Option Value} {code:Code} {q:Pos} {pos:Pos} {F:Obj->Nat->SharedT} {d:Addr}
structure Fam (n₀:Nat) (d:Addr) (F:Obj->Nat->SharedT):Prop where
 le:Nat.ble n₀ d=true
 get :∀es ep tk,(F (dObj es ep) tk).abs.heap.get? d=some (dObj es ep)
 upd :∀es ep tk (e:DictEntry),({ (F (dObj es ep) tk).abs with heap:=(F (dObj es ep) tk).abs.heap.update d (Q8 (·.push e)) }:B0)=(F (dObj (es.push e) (ep + 1)) tk).abs
theorem Goes.updKeys (Z:Fam n₀ d F) {es:Array DictEntry} {ep tk:Nat} {e:DictEntry} {part:Option Value} (hsz:es.size < sizeLine) :
  Goes p w n₀ ann code q 3 (updateDictKeys d (·.push e) part) (F (dObj es ep) tk).abs pos () (F (dObj (es.push e) (ep + 1)) tk).abs pos:=by
 unfold updateDictKeys;refine (Goes.bind (d:=2) (Goes.loadPart (Z.get es ep tk)) ?_);dsimp only;have u:=Goes.updatePart (p:=p) (w:=w) (ann:=ann) (code:=code) (q:=q) (pos:=pos) (part:=part) (f:=Q8 (·.push e)) (Z.get es ep tk) Z.le;rw [Z.upd es ep tk e] at u;refine Goes.bind (d:=1) u ?_;unfold lookBehind;refine Goes.bind (d:=0) (Goes.loadPart (Z.get _ _ tk)) ?_;have a:(dObj (es.push e) (ep + 1)).data.pastItsLine=none:=by unfold Data.pastItsLine;dsimp only;rw [if_neg (by rw [Array.size_push];omega)]
 rw [a];exact Goes.pure
theorem Goes.set (Z:Fam n₀ d F) {a:Addr} {v:Value} {es:Array DictEntry} {ep tk k cp cq ce:Nat} {hsh:Int} (hsz:es.size < sizeLine)
  (hpy:Goes p w n₀ ann code q cp (pyHash (.ref a)) (F (dObj es ep) tk).abs pos hsh (F (dObj es ep) (tk + k)).abs pos)
  (hq:Goes p w n₀ ann code q cq (Q6 8 (.ref a)) (F (dObj es ep) (tk + k)).abs pos true (F (dObj es ep) (tk + k)).abs pos)
  (hk :∀e∈es.toList,∃b,e.key=.ref b/\b≠a/\Goes p w n₀ ann code q cq (Q6 8 (.ref b)) (F (dObj es ep) (tk + k)).abs pos true (F (dObj es ep) (tk + k)).abs pos/\
   Goes p w n₀ ann code q ce (eqBool (.ref b) (.ref a)) (F (dObj es ep) (tk + k)).abs pos false (F (dObj es ep) (tk + k)).abs pos) :
  Goes p w n₀ ann code q (cp + (2 + cq + es.size * (cq + ce + 10)) + 4) (j2i d (.ref a) v) (F (dObj es ep) tk).abs pos () (F (dObj (es.push ⟨hsh,.ref a,v⟩) (ep + 1)) (tk + k)).abs pos:=by
 unfold j2i;refine Goes.holding ?_;refine (Goes.bind (d:=(2 + cq + es.size * (cq + ce + 10)) + 4) hpy ?_).le (by omega);unfold dictSetHashed;refine Goes.holding ?_;refine Goes.bind (d:=4) (Goes.find_none (h:=hsh) (Z.get es ep (tk + k)) rfl hq hk) ?_;exact Goes.bind (d:=3) Goes.rule (Goes.updKeys Z hsz)
theorem zkn {γ β:Type} {f:γ->β->Sem (ForInStep β)} {x:γ} {xs:List γ} {b b' b'':β} {c c':Nat} {s s' s'':B0} (h:Goes p w n₀ ann code q c (f x b) s pos (.yield b') s' pos) (k:Goes p w n₀ ann code q c' (forIn xs b' f) s' pos b'' s'' pos) :
  Goes p w n₀ ann code q (c + c') (forIn (x :: xs) b f) s pos b'' s'' pos:=by
 rw [k7];exact Goes.bind (f:=λ r=>match r with | .done b=>(j2d b:Sem β) | .yield b=>forIn xs b f) h k
theorem Goes.loop (Z:Fam n₀ d F) {cp cq ce N:Nat} (all:List KV3) (hN:all.length<=N) (hN':N < sizeLine) (hnd:(all.map (·.1)).Nodup)
  (hQ :∀x∈all,∀oD tk,Goes p w n₀ ann code q cq (Q6 8 (.ref x.1)) (F oD tk).abs pos true (F oD tk).abs pos)
  (hE:all.Pairwise λ x y=>∀oD tk,Goes p w n₀ ann code q ce (eqBool (.ref x.1) (.ref y.1)) (F oD tk).abs pos false (F oD tk).abs pos)
  (hH :∀x∈all,∀oD tk,Goes p w n₀ ann code q cp (pyHash (.ref x.1)) (F oD tk).abs pos x.2.2 (F oD (tk + 3)).abs pos) :
  ∀(todo done:List KV3) (tk:Nat),all=done++todo->
   Goes p w n₀ ann code q (todo.length * (cp + (2 + cq + N * (cq + ce + 10)) + 4)) (zc4 d (todo.map λ x=>(E1 x.1,x.2.1)))
    (F (dObj (done.map ent).toArray done.length) tk).abs pos () (F (dObj (all.map ent).toArray all.length) (tk + 3 * todo.length)).abs pos:=by
 intro todo;induction todo with
 | nil=>intro done tk e;rw [C3] at e;subst e;unfold zc4;rw [D7,O7];exact Goes.pure.le (A2 _)
 | cons x todo ih=>
  intro done tk e;have g:x∈all:=by rw [e];exact P1 _ R1
  have h:=ih (done++[x]) (tk + 3) (by rw [e,D2];rfl);unfold zc4 at h⊢;rw [U1];have f:(done.map ent).toArray.size<=N:=by rw [T0,G0];rw [e,I0] at hN;omega
  have c:=Goes.set (p:=p) (w:=w) (ann:=ann) (code:=code) (q:=q) (pos:=pos) (v:=x.2.1) (ep:=done.length) Z (W0 f hN') (hH x g _ tk) (hQ x g _ _) (es:=(done.map ent).toArray) (ce:=ce) (by
   intro s n;obtain ⟨y,a,rfl⟩:=List.mem_map.mp n;have l:y∈all:=by rw [e];exact b7 _ a
   have r:y.1≠x.1:=by rw [e,W1,U1] at hnd;intro q;exact (List.nodup_append.mp hnd).2.2 y.1 (List.mem_map.mpr ⟨y,a,rfl⟩) x.1 R1 q
   rw [e] at hE;exact ⟨y.1,rfl,r,hQ y l _ _,(List.pairwise_append.mp hE).2.2 y a x R1 _ _⟩)
  have i:((done.map ent).toArray.push ⟨x.2.2,.ref x.1,x.2.1⟩)=((done++[x]).map ent).toArray:=by rw [List.push_toArray,W1];rfl
  have m:done.length + 1=(done++[x]).length:=by rw [I0];rfl
  rw [i,m] at c;have o:tk + 3 * (x :: todo).length=(tk + 3) + 3 * todo.length:=by rw [X0];omega
  rw [o];have j:Goes p w n₀ ann code q (_ + 0) (do j2i d (E1 x.1,x.2.1).1 (E1 x.1,x.2.1).2;j2d (A4 B9):Sem (ForInStep PUnit)) _ pos (A4 B9) _ pos:=Goes.bind c Goes.pure;have k:=zkn (b:=B9) (xs:=todo.map λ x=>(E1 x.1,x.2.1)) j h;refine k.le ?_;rw [X0,Nat.add_mul];have:=q9 (cq + ce + 10) f;omega
noncomputable def zbh (acc:Nat):Int:=if acc == 2 ^ 64 - 1 then 1546275796 else if acc < 2 ^ 63 then acc else (acc:Int) - (2 ^ 64:Nat)
theorem z7n (acc:Nat) (h:acc < 2 ^ 64):-(2:Int) ^ 63<=zbh acc/\zbh acc < 2 ^ 63:=by
 unfold zbh;split
 ·constructor<;>decide
 ·split
  ·constructor<;>omega
  ·constructor<;>omega
theorem z6s (hs:List Int):-(2:Int) ^ 63<=A0 hs/\A0 hs < 2 ^ 63:=
 z7n _ (j1g _ (by decide))
theorem Goes.pyHashT {a:Addr} {s s':B0} {hs:List Int} {tok:Tok} (h1:Goes p w n₀ ann code q 1 (cRoomFor "hash" [.ref a]) s pos () s pos)
  (h2:Goes p w n₀ ann code q 1 (specialOf (.ref a) "__hash__") s pos (some (.builtin "tuple.__hash__")) s pos)
  (h3:Goes p w n₀ ann code q 22 (J7 (.ref a) "__hash__" (unh a)) s pos (some (.int (A0 hs) tok)) s' pos) :
  Goes p w n₀ ann code q 25 (pyHash (.ref a)) s pos (Q1 (A0 hs)) s' pos:=by
 have e:pyHash (.ref a)=pyHashByItsType (.ref a):=rfl;rw [e];unfold pyHashByItsType;refine Goes.bind (d:=24) h1 ?_;refine Goes.bind (d:=23) h2 ?_;rw [if_neg (by rw [beq_builtin_none];exact B1)];refine Goes.bind (d:=22) h2 ?_;show Goes p w n₀ ann code q 22 (J7 (.ref a) "__hash__" (unh a) >>= _) s pos _ s' pos;refine Goes.bind (d:=0) h3 ?_;have r:(decide (-(2:Int) ^ 63<=A0 hs) && decide (A0 hs < 2 ^ 63))=true:=by have r:=z6s hs;rw [decide_eq_true r.1,decide_eq_true r.2];rfl
 show Goes p w n₀ ann code q 0 (if (decide (-(2:Int) ^ 63<=A0 hs) && decide (A0 hs < 2 ^ 63))=true then _ else _) s' pos _ s' pos;have b:Q1 (A0 hs)=(if (A0 hs == -1)=true then -2 else A0 hs):=by unfold Q1;rw [if_pos r]
 rw [if_pos r,b];exact Goes.pure
theorem Goes.subDict {pairs:List (Sem Value×Sem Value)} {s s₁ s':B0} {vs:List (Value×Value)} {c c':Nat} {d:Addr} (hlen:pairs.length<=15) (hd:s.heap.objs.size=d)
  (h1:Goes p w n₀ ann code q c (evalPairs pairs) { s with heap:=s.heap.push { cls:=.type "dict",data:=.dict #[] } } pos vs s₁ pos)
  (h2:Goes p w n₀ ann code q c' (zc4 d vs) s₁ pos () s' pos):Goes p w n₀ ann code q (1 + (c + c')) (subDict pairs) s pos d s' pos:=by
 subst hd;unfold PySem.subDict;refine Goes.bind (a:=s.heap.objs.size) (λ _ _ _ _=>.one rfl rfl rfl) ?_;refine (Goes.bind (d:=0) (a:=()) (Goes.holding ?_) Goes.pure);rw [if_pos hlen];refine Goes.bind h1 ?_;exact Goes.holding (Goes.bind (d:=0) h2 Goes.pure)
theorem Goes.execs1 {st:Stmt} {env:Env} {s s':B0} {pos':Pos} {c:Nat} (h:Goes p w n₀ ann code q c (exec st env) s pos .next s' pos'):Goes p w n₀ ann code q c (execs [st] env) s pos .next s' pos':=by rw [execs_cons];exact Goes.bind (d:=0) h Goes.pure
theorem Goes.seg {l:List Stmt} {env:Env} {s s':B0} {pos':Pos} {c:Nat} (h:Goes p w n₀ ann code q c (execs l env) s pos .next s' pos') :∃n,n<=c + 1/\segRun S3 p w n₀ ann 1 n s (piecesOf l env code pos [topFrame q])=some (.next,s',code,pos'):=by obtain ⟨n,a,h⟩:=h doneF deadEnd id id;exact ⟨n + 1,by omega,seg_go h rfl⟩
end
theorem zjc {p q:Program} {loose:List Str} {Xt:B0->Bool} {α:Type} {Yf:B0->α} {Ya:Z0->α} {N:Nat} {H₀:O0->Heap} {gs₀:Array GenState} {d₀:Drawn} {k₀ m₀:Nat} {ann:Option Value} {S:Z0->K3->B0}
  (opens :∀w:Z0,(fencedOpening S3 p w N).map (λ s=>(s.heap,s.gens,s.drawn,s.toks))=some (H₀ w.params,gs₀,d₀,k₀))
  (sizes :∀w:Z0,(((H₀ w.params).isNs P2 && gs₀.size == 0),(H₀ w.params).objs.size,(H₀ w.params).nsMap P2 "__annotations__")=(true,m₀,ann))
  (runs :∀(w:Z0) (os:K3),∃M,M<=N/\topRun S3 p w m₀ ann M ⟨H₀ w.params,gs₀,d₀,k₀,os⟩ (topStub p)=some (S w os))
  (looks1 :∀(w:Z0) (os:K3),(staticsOk (S7 p.main.body) (H₀ w.params) (S w os).heap && namesBound p (S w os).heap && gensDone (S w os) && laidKept (H₀ w.params) (S w os).heap)=true)
  (looks2 :∀(w:Z0) (os:K3),openSeen q loose (S7 p.main.body) Xt true (S w os)=openGood q loose) (looks3 :∀(w:Z0) (os:K3),Yf (S w os)=Ya w):LeftO p q loose Xt Yf Ya N:=by
 intro w;obtain ⟨⟨h,f,d,k,os⟩,e,a⟩:=Option.map_eq_some_iff.mp (opens w);simp only [g9] at a;obtain ⟨rfl,rfl,rfl,rfl⟩:=a;have z:=sizes w;simp only [g9] at z;obtain ⟨g,i,c⟩:=z;obtain ⟨M,b,r⟩:=runs w os;have r:=topRun_mono (N - M) _ _ _ _ r;rw [Nat.add_sub_cancel' b] at r;have t:topFrom S3 p w N ⟨H₀ w.params,f,d,k,os⟩=some (S w os):=by unfold topFrom;dsimp only;rw [g,i,c,r];show (match (staticsOk (S7 p.main.body) (H₀ w.params) (S w os).heap && namesBound p (S w os).heap && gensDone (S w os) && laidKept (H₀ w.params) (S w os).heap) with|true=>some (S w os)|false=>none)=_;rw [looks1 w os]
 unfold openEnds;rw [e];show (topFrom S3 p w N _).map _=_;rw [t];show some (_,_)=some (_,_);rw [looks2 w os,looks3 w os]
theorem ze9 {p:Program} {w:Z0} {n₀:Nat} {ann:Option Value} {env:Env} {q:Pos} {c N:Nat} {s s' r:B0} {l rest:List Stmt} {b:Code} {pos pos':Pos} (h:Goes p w n₀ ann b q c (execs l env) s pos .next s' pos')
  (k:topRun S3 p w n₀ ann N s' (restOf rest env b pos' [topFrame q])=some r) :∃M,M<=c + 1 + N/\topRun S3 p w n₀ ann M s (restOf (l++rest) env b pos [topFrame q])=some r:=by
 obtain ⟨n,a,g⟩:=Goes.seg h;exact ⟨n + N,by omega,piece_app g k⟩
end TJ
open PySem PySem.Spec PyProof.Rows
namespace L2
noncomputable abbrev fnX (x q:Str) (s:Stmt) (m:Str) (k c:Nat):FuncData:=B6 x q (z9b s) (z63 s) (z07 s) .none .none .none (.str m k) none (.ref c) .none
noncomputable abbrev fY (x q:Str) (s:Stmt):=fnX x q s "law_talejudge_k28_as_letters_go" 778
noncomputable abbrev fO (x q:Str) (s:Stmt) (m:Str) (k c:Nat):Obj:=⟨.type "function",none,.func (fnX x q s m k c),#[]⟩
noncomputable abbrev fL (x q:Str) (s:Stmt):=fO x q s "law_talejudge_k28_as_letters_go" 778
noncomputable abbrev cO (x q:Str) (i l n a j:Nat):Obj:=
 ⟨.type "code",none,.fields #[.str x i,.str q (i + 1),.str "/claim/cut.py" (i + 2),.int l 0,.int n 0,.int 0 0,.int 0 0,.int 3 0,.ref a,.bool true,.int 181 0,.ref (a + 1),.none,.ref (a + 2),.ref (a + 3),.ref (a + 4),.int j 0,.int l 0,.str "/claim/cut.py" (j + 1)],#[]⟩
noncomputable abbrev cP (x q:Str) (i l n a j:Nat):Obj:=
 ⟨.type "code",none,.fields #[.str x i,.str q (i + 1),.str "/claim/cut.py" (i + 2),.int l 0,.int n 0,.int 0 0,.int 0 0,.int 3 0,.ref a,.bool true,.int 181 0,.ref (a + 1),.none,.none,.none,.ref (a + 2),.int j 0,.int l 0,.str "/claim/cut.py" (j + 1)],#[]⟩
noncomputable abbrev kR (P:O0) (x:Str) (i a:Nat):DictEntry:=⟨g0 P x,.str x i,.ref a⟩
section
variable {P:Program} {w:Z0} {K:j0} {mg:Str->Option Value} {base:Heap} {x q:Str} {st:Stmt} {f:Addr} {fd:FuncData} {k:Nat} {ps:List Str} {sp:Sp}
theorem z0b {m:Str} {i c:Nat} (l:K.lookup f=some (fO x q st m i c):=by kernel_rfl) (hc:K8 K (.ref c) q=true:=by kernel_rfl) (hk:X4 K (.ref f)=true:=by kernel_rfl):Fun K x q st f (fnX x q st m i c):=fun_mk l hc hk
theorem cal_mk (T:TX K mg) (F:Fun K x q st f fd) (g:N3 K P2 x=some (some (.ref f))) (b:Binds K fd ps []) (G:FnOk P w K mg base CX0 k f fd ps sp):Cal P w K mg base x ps k sp:=⟨⟨f,fd,G,T.of g,F.kp,b⟩⟩
theorem zjx (T:TX K mg) (F:Fun K x q st f fd) (g:N3 K P2 x=some (some (.ref f))) (b:Binds K fd ps []) (G:FnOk P w K mg base (CXE P w base) k f fd ps sp):CalE P w K mg base x ps k sp:=⟨⟨f,fd,G,T.of g,F.kp,b⟩⟩
end
section
variable {p:List Value->Prop}
theorem us1 (h :∀a,p [a]) :∀us:List Value,us.length=1->p us | [a],_=>h a
theorem us2 (h :∀a b,p [a,b]) :∀us:List Value,us.length=2->p us | [a,b],_=>h a b
theorem us3 (h :∀a b c,p [a,b,c]) :∀us:List Value,us.length=3->p us | [a,b,c],_=>h a b c
theorem us4 (h :∀a b c d,p [a,b,c,d]) :∀us:List Value,us.length=4->p us | [a,b,c,d],_=>h a b c d
theorem us5 (h :∀a b c d e,p [a,b,c,d,e]) :∀us:List Value,us.length=5->p us | [a,b,c,d,e],_=>h a b c d e
end
end L2
set_option maxHeartbeats 0
namespace K28
open PySem PySem.W PyProof.Rows TJ L2
noncomputable abbrev PX:Program:=PySem.Challenge.pw_talejudge_k28_as_letters_go
noncomputable abbrev annX:Option Value:=some (.ref 6)
noncomputable def tp (a b:Str) (t:Nat):Obj:={ cls:=.type "tuple",data:=.seq #[.str a t,.str b (t + 1)] 0 }
noncomputable def tups:List Obj:=[tp "register" "read" 394,tp "register" "write" 396,tp "counter" "read" 398,tp "counter" "add" 400,tp "queue" "put" 402,tp "queue" "take" 404,tp "set" "put" 406,tp "set" "cut" 408,tp "set" "has" 410,tp "cell" "read" 412,tp "cell" "write" 414,tp "cell" "swap" 416]
noncomputable def insAll:List Obj->Nat->BT->BT
 | [],_,t=>t
 | x :: r,n,t=>insAll r (n + 1) (t.ins n x)
noncomputable def treeD (P:O0) (oD:Obj):BT:=insAll tups 151 ((K28.pre.tree_167 P).ins 150 oD)
noncomputable def FX (w:Z0) (os:K3) (oD:Obj) (tk:Nat):SharedT:=⟨treeD w.params oD,163,{},⟨[]⟩,{},tk,os⟩
noncomputable abbrev cdX:Code:=.body (behindTheImports PX) K28.pre.env_1
noncomputable abbrev qX:Pos:=⟨0,0,0,0⟩
noncomputable abbrev BX:List Frame:=[topFrame qX]
noncomputable abbrev GX {α:Type} (w:Z0) (c:Nat) (x:Sem α) (s:B0) (pos:Pos) (a:α) (s':B0) (pos':Pos):Prop:=Goes PX w 11 annX cdX qX c x s pos a s' pos'
def LX (n:Nat) {α:Type} (x:Sem α) (w:Z0) (pos:Pos) (s:K3->Obj->Nat->SharedT) (a:Nat->α) (s':K3->Obj->Nat->SharedT) (pos':Pos):Prop:=
 ∀(os:K3) (oD:Obj) (tk:Nat) (K:α->Sem Z9) (H:Value->Sem Z9) (gd:Bool->Bool) (lv:List Value->List Value),
  PySem.W.Fast.tw10295753902157049106 y8 PX w 11 annX 1 n (s os oD tk) ⟨x.wrap K H gd lv,cdX,pos,BX⟩=some (s' os oD tk,⟨K (a tk),cdX,pos',BX⟩)
theorem LX.goes {n:Nat} {α:Type} {x:Sem α} {w:Z0} {pos pos':Pos} {s s':K3->Obj->Nat->SharedT} {a:Nat->α} (h:LX n x w pos s a s' pos') (os:K3) (oD:Obj) (tk:Nat):GX w n x (s os oD tk).abs pos (a tk) (s' os oD tk).abs pos':=by refine Goes.leaf n λ K H b c=>?_;have e:=h os oD tk K H b c;rw [<-PySem.W.Fast.te10295753902157049106,<-Q5] at e;exact e
noncomputable abbrev stay (w:Z0):K3->Obj->Nat->SharedT:=FX w
noncomputable abbrev plus3 (w:Z0):K3->Obj->Nat->SharedT:=λ os oD tk=>FX w os oD (tk + 3)
theorem qtH (a:Addr) (h :∀(w:Z0) (pos:Pos),LX 3 (PySem.W.Fast.tw13066428366354244818 8 (.ref a)) w pos (stay w) (λ _=>true) (stay w) pos:=by intro w pos os oD tk K H gd lv;kernel_rfl) (w:Z0) (pos:Pos):LX 3 (Q6 8 (.ref a)) w pos (stay w) (λ _=>true) (stay w) pos:=by rw [PySem.W.Fast.te13066428366354244818];exact h w pos
noncomputable def qt0:=qtH 151
noncomputable def qt1:=qtH 152
noncomputable def qt2:=qtH 153
noncomputable def qt3:=qtH 154
noncomputable def qt4:=qtH 155
noncomputable def qt5:=qtH 156
noncomputable def qt6:=qtH 157
noncomputable def qt7:=qtH 158
noncomputable def qt8:=qtH 159
noncomputable def qt9:=qtH 160
noncomputable def qt10:=qtH 161
noncomputable def qt11:=qtH 162
theorem eqH (n:Nat) (a b:Addr) (hf :∀(w:Z0) (pos:Pos),LX n (O5 (.ref a) (.ref b)) (w.withFollow "special-get-raises" false) pos (stay (w.withFollow "special-get-raises" false)) (λ _=>false) (stay (w.withFollow "special-get-raises" false)) pos:=by intro w pos os oD tk K H gd lv;kernel_rfl) (ht :∀(w:Z0) (pos:Pos),LX n (O5 (.ref a) (.ref b)) (w.withFollow "special-get-raises" true) pos (stay (w.withFollow "special-get-raises" true)) (λ _=>false) (stay (w.withFollow "special-get-raises" true)) pos:=by intro w pos os oD tk K H gd lv;kernel_rfl) (w:Z0) (pos:Pos):LX n (eqBool (.ref a) (.ref b)) w pos (stay w) (λ _=>false) (stay w) pos:=by rw [PySem.W.Fast.te13926502685295537346];exact byRow2 "special-get-raises" (P:=λ w=>LX n (O5 (.ref a) (.ref b)) w pos (stay w) (λ _=>false) (stay w) pos) (λ w=>hf w pos) (λ w=>ht w pos) w
noncomputable def eq0_1:=eqH 20 151 152
noncomputable def eq0_2:=eqH 16 151 153
noncomputable def eq0_3:=eqH 16 151 154
noncomputable def eq0_4:=eqH 16 151 155
noncomputable def eq0_5:=eqH 16 151 156
noncomputable def eq0_6:=eqH 16 151 157
noncomputable def eq0_7:=eqH 16 151 158
noncomputable def eq0_8:=eqH 16 151 159
noncomputable def eq0_9:=eqH 16 151 160
noncomputable def eq0_10:=eqH 16 151 161
noncomputable def eq0_11:=eqH 16 151 162
noncomputable def eq1_2:=eqH 16 152 153
noncomputable def eq1_3:=eqH 16 152 154
noncomputable def eq1_4:=eqH 16 152 155
noncomputable def eq1_5:=eqH 16 152 156
noncomputable def eq1_6:=eqH 16 152 157
noncomputable def eq1_7:=eqH 16 152 158
noncomputable def eq1_8:=eqH 16 152 159
noncomputable def eq1_9:=eqH 16 152 160
noncomputable def eq1_10:=eqH 16 152 161
noncomputable def eq1_11:=eqH 16 152 162
noncomputable def eq2_3:=eqH 20 153 154
noncomputable def eq2_4:=eqH 16 153 155
noncomputable def eq2_5:=eqH 16 153 156
noncomputable def eq2_6:=eqH 16 153 157
noncomputable def eq2_7:=eqH 16 153 158
noncomputable def eq2_8:=eqH 16 153 159
noncomputable def eq2_9:=eqH 16 153 160
noncomputable def eq2_10:=eqH 16 153 161
noncomputable def eq2_11:=eqH 16 153 162
noncomputable def eq3_4:=eqH 16 154 155
noncomputable def eq3_5:=eqH 16 154 156
noncomputable def eq3_6:=eqH 16 154 157
noncomputable def eq3_7:=eqH 16 154 158
noncomputable def eq3_8:=eqH 16 154 159
noncomputable def eq3_9:=eqH 16 154 160
noncomputable def eq3_10:=eqH 16 154 161
noncomputable def eq3_11:=eqH 16 154 162
noncomputable def eq4_5:=eqH 20 155 156
noncomputable def eq4_6:=eqH 16 155 157
noncomputable def eq4_7:=eqH 16 155 158
noncomputable def eq4_8:=eqH 16 155 159
noncomputable def eq4_9:=eqH 16 155 160
noncomputable def eq4_10:=eqH 16 155 161
noncomputable def eq4_11:=eqH 16 155 162
noncomputable def eq5_6:=eqH 16 156 157
noncomputable def eq5_7:=eqH 16 156 158
noncomputable def eq5_8:=eqH 16 156 159
noncomputable def eq5_9:=eqH 16 156 160
noncomputable def eq5_10:=eqH 16 156 161
noncomputable def eq5_11:=eqH 16 156 162
noncomputable def eq6_7:=eqH 20 157 158
noncomputable def eq6_8:=eqH 20 157 159
noncomputable def eq6_9:=eqH 16 157 160
noncomputable def eq6_10:=eqH 16 157 161
noncomputable def eq6_11:=eqH 16 157 162
noncomputable def eq7_8:=eqH 20 158 159
noncomputable def eq7_9:=eqH 16 158 160
noncomputable def eq7_10:=eqH 16 158 161
noncomputable def eq7_11:=eqH 16 158 162
noncomputable def eq8_9:=eqH 16 159 160
noncomputable def eq8_10:=eqH 16 159 161
noncomputable def eq8_11:=eqH 16 159 162
noncomputable def eq9_10:=eqH 20 160 161
noncomputable def eq9_11:=eqH 20 160 162
noncomputable def zk6:=eqH 20 161 162
theorem crH (a:Addr) (hf :∀(w:Z0) (pos:Pos),LX 1 (P5 "hash" [.ref a]) (w.withFollow "special-get-raises" false) pos (stay (w.withFollow "special-get-raises" false)) (λ _=>()) (stay (w.withFollow "special-get-raises" false)) pos:=by intro w pos os oD tk K H gd lv;kernel_rfl) (ht :∀(w:Z0) (pos:Pos),LX 1 (P5 "hash" [.ref a]) (w.withFollow "special-get-raises" true) pos (stay (w.withFollow "special-get-raises" true)) (λ _=>()) (stay (w.withFollow "special-get-raises" true)) pos:=by intro w pos os oD tk K H gd lv;kernel_rfl) (w:Z0) (pos:Pos):LX 1 (cRoomFor "hash" [.ref a]) w pos (stay w) (λ _=>()) (stay w) pos:=by rw [PySem.W.Fast.te13383273872528276517];exact byRow2 "special-get-raises" (P:=λ w=>LX 1 (P5 "hash" [.ref a]) w pos (stay w) (λ _=>()) (stay w) pos) (λ w=>hf w pos) (λ w=>ht w pos) w
theorem soH (a:Addr) (hf :∀(w:Z0) (pos:Pos),LX 1 (U5 (.ref a) "__hash__") (w.withFollow "special-get-raises" false) pos (stay (w.withFollow "special-get-raises" false)) (λ _=>some (.builtin "tuple.__hash__")) (stay (w.withFollow "special-get-raises" false)) pos:=by intro w pos os oD tk K H gd lv;kernel_rfl) (ht :∀(w:Z0) (pos:Pos),LX 1 (U5 (.ref a) "__hash__") (w.withFollow "special-get-raises" true) pos (stay (w.withFollow "special-get-raises" true)) (λ _=>some (.builtin "tuple.__hash__")) (stay (w.withFollow "special-get-raises" true)) pos:=by intro w pos os oD tk K H gd lv;kernel_rfl) (w:Z0) (pos:Pos):LX 1 (specialOf (.ref a) "__hash__") w pos (stay w) (λ _=>some (.builtin "tuple.__hash__")) (stay w) pos:=by rw [PySem.W.Fast.te4214721358667687652];exact byRow2 "special-get-raises" (P:=λ w=>LX 1 (U5 (.ref a) "__hash__") w pos (stay w) (λ _=>some (.builtin "tuple.__hash__")) (stay w) pos) (λ w=>hf w pos) (λ w=>ht w pos) w
theorem csH (a:Addr) (k l:Str) (hf :∀(w:Z0) (pos:Pos),LX 22 (N5 (.ref a) "__hash__" (unh a)) (w.withFollow "special-get-raises" false) pos (stay (w.withFollow "special-get-raises" false)) (λ tk=>some (.int (A0 [g0 (w.withFollow "special-get-raises" false).params k,g0 (w.withFollow "special-get-raises" false).params l]) (tk + 2))) (plus3 (w.withFollow "special-get-raises" false)) pos:=by intro w pos os oD tk K H gd lv;kernel_rfl) (ht :∀(w:Z0) (pos:Pos),LX 22 (N5 (.ref a) "__hash__" (unh a)) (w.withFollow "special-get-raises" true) pos (stay (w.withFollow "special-get-raises" true)) (λ tk=>some (.int (A0 [g0 (w.withFollow "special-get-raises" true).params k,g0 (w.withFollow "special-get-raises" true).params l]) (tk + 2))) (plus3 (w.withFollow "special-get-raises" true)) pos:=by intro w pos os oD tk K H gd lv;kernel_rfl) (w:Z0) (pos:Pos):LX 22 (J7 (.ref a) "__hash__" (unh a)) w pos (stay w) (λ tk=>some (.int (A0 [g0 w.params k,g0 w.params l]) (tk + 2))) (plus3 w) pos:=by rw [PySem.W.Fast.te16697807410369149715];exact byRow2 "special-get-raises" (P:=λ w=>LX 22 (N5 (.ref a) "__hash__" (unh a)) w pos (stay w) (λ tk=>some (.int (A0 [g0 w.params k,g0 w.params l]) (tk + 2))) (plus3 w) pos) (λ w=>hf w pos) (λ w=>ht w pos) w
noncomputable def cr0:=crH 151
noncomputable def so0:=soH 151
noncomputable def cs0:=csH 151 "register" "read"
noncomputable def cr1:=crH 152
noncomputable def so1:=soH 152
noncomputable def cs1:=csH 152 "register" "write"
noncomputable def cr2:=crH 153
noncomputable def so2:=soH 153
noncomputable def cs2:=csH 153 "counter" "read"
noncomputable def cr3:=crH 154
noncomputable def so3:=soH 154
noncomputable def cs3:=csH 154 "counter" "add"
noncomputable def cr4:=crH 155
noncomputable def so4:=soH 155
noncomputable def cs4:=csH 155 "queue" "put"
noncomputable def cr5:=crH 156
noncomputable def so5:=soH 156
noncomputable def cs5:=csH 156 "queue" "take"
noncomputable def cr6:=crH 157
noncomputable def so6:=soH 157
noncomputable def cs6:=csH 157 "set" "put"
noncomputable def cr7:=crH 158
noncomputable def so7:=soH 158
noncomputable def cs7:=csH 158 "set" "cut"
noncomputable def cr8:=crH 159
noncomputable def so8:=soH 159
noncomputable def cs8:=csH 159 "set" "has"
noncomputable def cr9:=crH 160
noncomputable def so9:=soH 160
noncomputable def cs9:=csH 160 "cell" "read"
noncomputable def cr10:=crH 161
noncomputable def so10:=soH 161
noncomputable def cs10:=csH 161 "cell" "write"
noncomputable def cr11:=crH 162
noncomputable def so11:=soH 162
noncomputable def cs11:=csH 162 "cell" "swap"
noncomputable def allX (P:O0):List KV3:=[(151,(.ref 95),(Q1 (A0 [g0 P "register",g0 P "read"]))),(152,(.ref 102),(Q1 (A0 [g0 P "register",g0 P "write"]))),(153,(.ref 95),(Q1 (A0 [g0 P "counter",g0 P "read"]))),(154,(.ref 109),(Q1 (A0 [g0 P "counter",g0 P "add"]))),(155,(.ref 116),(Q1 (A0 [g0 P "queue",g0 P "put"]))),(156,(.ref 123),(Q1 (A0 [g0 P "queue",g0 P "take"]))),(157,(.ref 130),(Q1 (A0 [g0 P "set",g0 P "put"]))),(158,(.ref 135),(Q1 (A0 [g0 P "set",g0 P "cut"]))),(159,(.ref 142),(Q1 (A0 [g0 P "set",g0 P "has"]))),(160,(.ref 95),(Q1 (A0 [g0 P "cell",g0 P "read"]))),(161,(.ref 102),(Q1 (A0 [g0 P "cell",g0 P "write"]))),(162,(.ref 149),(Q1 (A0 [g0 P "cell",g0 P "swap"])))]
theorem zkb (w:Z0) (os:K3) (pos:Pos):(allX w.params).Pairwise λ x y=>∀oD tk,GX w 20 (eqBool (.ref x.1) (.ref y.1)) (FX w os oD tk).abs pos false (FX w os oD tk).abs pos:=by
 unfold allX;refine
 .cons (λ y a oD tk=>(by
  revert y;simp only [N2,K0,false_implies,implies_true,and_true];exact ⟨(eq0_1 w pos).goes os oD tk |>.le (by decide),(eq0_2 w pos).goes os oD tk |>.le (by decide),(eq0_3 w pos).goes os oD tk |>.le (by decide),(eq0_4 w pos).goes os oD tk |>.le (by decide),(eq0_5 w pos).goes os oD tk |>.le (by decide),(eq0_6 w pos).goes os oD tk |>.le (by decide),(eq0_7 w pos).goes os oD tk |>.le (by decide),(eq0_8 w pos).goes os oD tk |>.le (by decide),(eq0_9 w pos).goes os oD tk |>.le (by decide),(eq0_10 w pos).goes os oD tk |>.le (by decide),(eq0_11 w pos).goes os oD tk |>.le (by decide)⟩))
  (.cons (λ y a oD tk=>(by
  revert y;simp only [N2,K0,false_implies,implies_true,and_true];exact ⟨(eq1_2 w pos).goes os oD tk |>.le (by decide),(eq1_3 w pos).goes os oD tk |>.le (by decide),(eq1_4 w pos).goes os oD tk |>.le (by decide),(eq1_5 w pos).goes os oD tk |>.le (by decide),(eq1_6 w pos).goes os oD tk |>.le (by decide),(eq1_7 w pos).goes os oD tk |>.le (by decide),(eq1_8 w pos).goes os oD tk |>.le (by decide),(eq1_9 w pos).goes os oD tk |>.le (by decide),(eq1_10 w pos).goes os oD tk |>.le (by decide),(eq1_11 w pos).goes os oD tk |>.le (by decide)⟩))
  (.cons (λ y a oD tk=>(by
  revert y;simp only [N2,K0,false_implies,implies_true,and_true];exact ⟨(eq2_3 w pos).goes os oD tk |>.le (by decide),(eq2_4 w pos).goes os oD tk |>.le (by decide),(eq2_5 w pos).goes os oD tk |>.le (by decide),(eq2_6 w pos).goes os oD tk |>.le (by decide),(eq2_7 w pos).goes os oD tk |>.le (by decide),(eq2_8 w pos).goes os oD tk |>.le (by decide),(eq2_9 w pos).goes os oD tk |>.le (by decide),(eq2_10 w pos).goes os oD tk |>.le (by decide),(eq2_11 w pos).goes os oD tk |>.le (by decide)⟩))
  (.cons (λ y a oD tk=>(by
  revert y;simp only [N2,K0,false_implies,implies_true,and_true];exact ⟨(eq3_4 w pos).goes os oD tk |>.le (by decide),(eq3_5 w pos).goes os oD tk |>.le (by decide),(eq3_6 w pos).goes os oD tk |>.le (by decide),(eq3_7 w pos).goes os oD tk |>.le (by decide),(eq3_8 w pos).goes os oD tk |>.le (by decide),(eq3_9 w pos).goes os oD tk |>.le (by decide),(eq3_10 w pos).goes os oD tk |>.le (by decide),(eq3_11 w pos).goes os oD tk |>.le (by decide)⟩))
  (.cons (λ y a oD tk=>(by
  revert y;simp only [N2,K0,false_implies,implies_true,and_true];exact ⟨(eq4_5 w pos).goes os oD tk |>.le (by decide),(eq4_6 w pos).goes os oD tk |>.le (by decide),(eq4_7 w pos).goes os oD tk |>.le (by decide),(eq4_8 w pos).goes os oD tk |>.le (by decide),(eq4_9 w pos).goes os oD tk |>.le (by decide),(eq4_10 w pos).goes os oD tk |>.le (by decide),(eq4_11 w pos).goes os oD tk |>.le (by decide)⟩))
  (.cons (λ y a oD tk=>(by
  revert y;simp only [N2,K0,false_implies,implies_true,and_true];exact ⟨(eq5_6 w pos).goes os oD tk |>.le (by decide),(eq5_7 w pos).goes os oD tk |>.le (by decide),(eq5_8 w pos).goes os oD tk |>.le (by decide),(eq5_9 w pos).goes os oD tk |>.le (by decide),(eq5_10 w pos).goes os oD tk |>.le (by decide),(eq5_11 w pos).goes os oD tk |>.le (by decide)⟩))
  (.cons (λ y a oD tk=>(by
  revert y;simp only [N2,K0,false_implies,implies_true,and_true];exact ⟨(eq6_7 w pos).goes os oD tk |>.le (by decide),(eq6_8 w pos).goes os oD tk |>.le (by decide),(eq6_9 w pos).goes os oD tk |>.le (by decide),(eq6_10 w pos).goes os oD tk |>.le (by decide),(eq6_11 w pos).goes os oD tk |>.le (by decide)⟩))
  (.cons (λ y a oD tk=>(by
  revert y;simp only [N2,K0,false_implies,implies_true,and_true];exact ⟨(eq7_8 w pos).goes os oD tk |>.le (by decide),(eq7_9 w pos).goes os oD tk |>.le (by decide),(eq7_10 w pos).goes os oD tk |>.le (by decide),(eq7_11 w pos).goes os oD tk |>.le (by decide)⟩))
  (.cons (λ y a oD tk=>(by
  revert y;simp only [N2,K0,false_implies,implies_true,and_true];exact ⟨(eq8_9 w pos).goes os oD tk |>.le (by decide),(eq8_10 w pos).goes os oD tk |>.le (by decide),(eq8_11 w pos).goes os oD tk |>.le (by decide)⟩))
  (.cons (λ y a oD tk=>(by
  revert y;simp only [N2,K0,false_implies,implies_true,and_true];exact ⟨(eq9_10 w pos).goes os oD tk |>.le (by decide),(eq9_11 w pos).goes os oD tk |>.le (by decide)⟩))
  (.cons (λ y a oD tk=>(by
  revert y;simp only [N2,K0,false_implies,implies_true,and_true];exact (zk6 w pos).goes os oD tk |>.le (by decide)))
  (.cons (λ y a=>nomatch a)
  (g7))))))))))))
theorem allX_q (w:Z0) (os:K3) (pos:Pos) :∀x∈allX w.params,∀oD tk,GX w 3 (Q6 8 (.ref x.1)) (FX w os oD tk).abs pos true (FX w os oD tk).abs pos:=by unfold allX;simp only [N2,K0,false_implies,implies_true,and_true];exact ⟨λ oD tk=>(qt0 w pos).goes os oD tk,λ oD tk=>(qt1 w pos).goes os oD tk,λ oD tk=>(qt2 w pos).goes os oD tk,λ oD tk=>(qt3 w pos).goes os oD tk,λ oD tk=>(qt4 w pos).goes os oD tk,λ oD tk=>(qt5 w pos).goes os oD tk,λ oD tk=>(qt6 w pos).goes os oD tk,λ oD tk=>(qt7 w pos).goes os oD tk,λ oD tk=>(qt8 w pos).goes os oD tk,λ oD tk=>(qt9 w pos).goes os oD tk,λ oD tk=>(qt10 w pos).goes os oD tk,λ oD tk=>(qt11 w pos).goes os oD tk⟩
theorem allX_h (w:Z0) (os:K3) (pos:Pos) :∀x∈allX w.params,∀oD tk,GX w 25 (pyHash (.ref x.1)) (FX w os oD tk).abs pos x.2.2 (FX w os oD (tk + 3)).abs pos:=by unfold allX;simp only [N2,K0,false_implies,implies_true,and_true];exact ⟨λ oD tk=>Goes.pyHashT ((cr0 w pos).goes os oD tk) ((so0 w pos).goes os oD tk) ((cs0 w pos).goes os oD tk),λ oD tk=>Goes.pyHashT ((cr1 w pos).goes os oD tk) ((so1 w pos).goes os oD tk) ((cs1 w pos).goes os oD tk),λ oD tk=>Goes.pyHashT ((cr2 w pos).goes os oD tk) ((so2 w pos).goes os oD tk) ((cs2 w pos).goes os oD tk),λ oD tk=>Goes.pyHashT ((cr3 w pos).goes os oD tk) ((so3 w pos).goes os oD tk) ((cs3 w pos).goes os oD tk),λ oD tk=>Goes.pyHashT ((cr4 w pos).goes os oD tk) ((so4 w pos).goes os oD tk) ((cs4 w pos).goes os oD tk),λ oD tk=>Goes.pyHashT ((cr5 w pos).goes os oD tk) ((so5 w pos).goes os oD tk) ((cs5 w pos).goes os oD tk),λ oD tk=>Goes.pyHashT ((cr6 w pos).goes os oD tk) ((so6 w pos).goes os oD tk) ((cs6 w pos).goes os oD tk),λ oD tk=>Goes.pyHashT ((cr7 w pos).goes os oD tk) ((so7 w pos).goes os oD tk) ((cs7 w pos).goes os oD tk),λ oD tk=>Goes.pyHashT ((cr8 w pos).goes os oD tk) ((so8 w pos).goes os oD tk) ((cs8 w pos).goes os oD tk),λ oD tk=>Goes.pyHashT ((cr9 w pos).goes os oD tk) ((so9 w pos).goes os oD tk) ((cs9 w pos).goes os oD tk),λ oD tk=>Goes.pyHashT ((cr10 w pos).goes os oD tk) ((so10 w pos).goes os oD tk) ((cs10 w pos).goes os oD tk),λ oD tk=>Goes.pyHashT ((cr11 w pos).goes os oD tk) ((so11 w pos).goes os oD tk) ((cs11 w pos).goes os oD tk)⟩
theorem famX (w:Z0) (os:K3):Fam 11 150 (FX w os):=by
 have g :∀c,(treeD w.params c).get 150=some c:=λ c=>by kernel_rfl
 refine ⟨by decide,λ a b d=>abs_get (show 150 < 163 by decide) (g _),λ a b d e=>?_⟩;have u:(absHeap (treeD w.params (dObj a b)) 163 {}).update 150 (Q8 (·.push e))=absHeap (treeD w.params (dObj (a.push e) (b + 1))) 163 {}:=by
  rw [<-absHeap_set (g _)];have v:(treeD w.params (dObj a b)).set 150 (Q8 (·.push e))=treeD w.params (dObj (a.push e) (b + 1)):=by kernel_rfl
  rw [v]
 exact congrArg (λ h=>(⟨h,⟨[]⟩,{},d,os⟩:B0)) u
noncomputable def stD:Stmt:=(behindTheImports PX).getD 25 (.Pass ⟨0,0,0,0⟩)
noncomputable def sufX:List Stmt:=(behindTheImports PX).drop 26
theorem bodyX:behindTheImports PX=K28.pre.sts_7++(K28.pre.sts_59++(K28.pre.sts_78++(K28.pre.sts_102++([stD]++sufX)))):=by kernel_rfl
noncomputable def dKeys:Stmt->List (Option Expr)
 | .Assign _ (.Dict ks _ _) _=>ks
 | _=>[]
noncomputable def dVals:Stmt->List Expr
 | .Assign _ (.Dict _ vs _) _=>vs
 | _=>[]
noncomputable def dPos:Stmt->Pos
 | .Assign _ (.Dict _ _ p) _=>p
 | _=>⟨0,0,0,0⟩
noncomputable def sPos:Stmt->Pos
 | .Assign _ _ p=>p
 | _=>⟨0,0,0,0⟩
noncomputable abbrev p1X:Pos:=sPos stD
noncomputable abbrev p2X:Pos:=dPos stD
noncomputable abbrev p3X:Pos:=⟨53,0,53,5⟩
noncomputable def runX:List (Sem Value×Sem Value):=(((evalEachOpt (dKeys stD) K28.pre.env_1).zip ((evalEach (dVals stD) K28.pre.env_1).map λ v=>do let x <-v;j2g p2X;V3 x))).filterMap λ x=>x.1.map (·,x.2)
theorem stD_eq:stD=.Assign [.Name "DOERS" p3X] (.Dict (dKeys stD) (dVals stD) p2X) p1X:=by kernel_rfl
theorem evD:R3 (.Dict (dKeys stD) (dVals stD) p2X) K28.pre.env_1=(do j2g p2X;let r <-(do let x <-subDict runX;V3 (some x));match r with|some x=>V3 (E1 x)|none=>newDict):=by kernel_rfl
theorem swD:U8 (.Dict (dKeys stD) (dVals stD) p2X) (some (.Name "DOERS" p3X)) p1X.line K28.pre.env_1=V3 false:=by kernel_rfl
noncomputable def F0X (w:Z0) (os:K3):SharedT:=⟨K28.pre.tree_167 w.params,150,{},⟨[]⟩,{},394,os⟩
noncomputable def F1X (w:Z0) (os:K3):SharedT:=⟨(K28.pre.tree_167 w.params).ins 150 (dObj #[] 0),151,{},⟨[]⟩,{},394,os⟩
noncomputable def vsX:List (Value×Value):=[(.ref 151,(.ref 95)),(.ref 152,(.ref 102)),(.ref 153,(.ref 95)),(.ref 154,(.ref 109)),(.ref 155,(.ref 116)),(.ref 156,(.ref 123)),(.ref 157,(.ref 130)),(.ref 158,(.ref 135)),(.ref 159,(.ref 142)),(.ref 160,(.ref 95)),(.ref 161,(.ref 102)),(.ref 162,(.ref 149))]
theorem zdm (w:Z0):LX 84 (evalPairs runX) w p2X (λ os _ _=>F1X w os) (λ _=>vsX) (λ os _ _=>FX w os (dObj #[] 0) 418) p2X:=by rw [PySem.W.Fast.te1788576489739465902];exact λ os d a K H b c=>by kernel_rfl
noncomputable def F2X (w:Z0) (os:K3) (oD:Obj) (tk:Nat):SharedT:=⟨(treeD w.params oD).set 3 (Obj.putName "DOERS" (g0 w.params "DOERS") (.str "DOERS" tk) (.ref 150)),163,{},⟨[]⟩,{},tk + 1,os⟩
theorem zg8 (w:Z0) (pos:Pos):LX 6 (bindName K28.pre.env_1 "DOERS" (.ref 150)) w pos (stay w) (λ _=>()) (λ os oD tk=>F2X w os oD tk) pos:=by
 rw [PySem.W.Fast.te7536695828754713326];exact byRow2 "special-get-raises" (P:=λ w=>LX 6 (PySem.W.Fast.tw7536695828754713326 K28.pre.env_1 "DOERS" (.ref 150)) w pos (stay w) (λ _=>()) (λ os oD tk=>F2X w os oD tk) pos)
  (λ w os oD tk K H b a=>by kernel_rfl) (λ w os oD tk K H b a=>by kernel_rfl) w
noncomputable abbrev oDX (P:O0):Obj:=dObj ((allX P).map ent).toArray 12
noncomputable abbrev S2X (w:Z0) (os:K3):SharedT:=F2X w os (oDX w.params) 454
theorem stD_go (w:Z0) (os:K3) (pos:Pos):GX w 100000 (exec stD K28.pre.env_1) (F0X w os).abs pos .next (S2X w os).abs p3X:=by
 rw [stD_eq,exec_Assign_Name _ _ _ _ _ swD];have l:=Goes.loop (p:=PX) (w:=w) (ann:=annX) (code:=cdX) (q:=qX) (pos:=p2X) (famX w os) (N:=12) (allX w.params) (show 12<=12 by decide) (by decide) (show ([151,152,153,154,155,156,157,158,159,160,161,162]:List Nat).Nodup by decide) (allX_q w os p2X) (zkb w os p2X) (allX_h w os p2X) (allX w.params) [] 418 rfl;have d:=(zdm w).goes os (dObj #[] 0) 0;have b:GX w _ (subDict runX) (F0X w os).abs p2X 150 (FX w os (oDX w.params) 454).abs p2X:=
  Goes.subDict (by decide +kernel) (absHeap_size _ _ _) (show GX w _ (evalPairs runX) _ p2X vsX _ p2X from by
   have e:({ (F0X w os).abs with heap:=(F0X w os).abs.heap.push { cls:=.type "dict",data:=.dict #[] } }:B0)=(F1X w os).abs:=by have i:=absHeap_ins (t:=K28.pre.tree_167 w.params) (n:=150) (life:={}) (o:=dObj #[] 0) (by kernel_rfl);exact congrArg (λ h=>(⟨h,⟨[]⟩,{},394,os⟩:B0)) i.symm
   rw [e];exact d) l
 refine (Goes.bind Goes.at' (Goes.bind (a:=E1 150) (pos':=p2X) ?_ (Goes.bind Goes.at' (Goes.bind (f:=λ _=>V3 Flow.next) ((zg8 w p3X).goes os (oDX w.params) 454) Goes.pure)))).le (c:=1 + (((1 + ((1 + (84 + 12 * (25 + (2 + 3 + 12 * (3 + 20 + 10)) + 4))) + 0 + 0)) + (1 + (6 + 0))))) (by decide);rw [evD];exact Goes.bind Goes.at' (Goes.bind (Goes.bind b Goes.pure) Goes.pure)
noncomputable abbrev pLX:Pos:=⟨355,0,374,15⟩
noncomputable def R3X (w:Z0) (os:K3):Option (Flow×SharedT×Code×Pos):=PySem.W.Fast.tw10110043849684766642 y8 PX w 11 annX 1 2149 (S2X w os) ⟨(PySem.W.Fast.tw12563942051412417395 sufX K28.pre.env_1).wrap doneF deadEnd id id,cdX,p3X,BX⟩
noncomputable def S3X (w:Z0) (os:K3):SharedT:=match R3X w os with|some r=>r.2.1|none=>S2X w os
theorem R3X_eq (w:Z0) (os:K3):R3X w os=some (.next,S3X w os,cdX,pLX):=by kernel_rfl
theorem zkx (w:Z0) (os:K3):segRun S3 PX w 11 annX 1 2149 (S2X w os).abs (piecesOf sufX K28.pre.env_1 cdX p3X BX)=some (.next,(S3X w os).abs,cdX,pLX):=by have e:=R3X_eq w os;unfold R3X at e;rw [<-PySem.W.Fast.te10110043849684766642,<-Q5,<-PySem.W.Fast.te12563942051412417395] at e;exact segRun_of e
noncomputable def S0X (w:Z0) (os:K3):SharedT:=⟨K28.pre.tree_6 w.params,15,{},⟨[]⟩,{},187,os⟩
theorem pre_go (w:Z0) (os:K3):topGo S3 PX w 11 annX 12 ⟨boot_heap w.params,Array.mk [],boot_drawn,boot_toks,os⟩ (topStub PX)=some ((S0X w os).abs,⟨denote S3 cdX,cdX,qX,BX⟩):=by rw [PySem.W.Fast.te15667345088766844465,Q5,PySem.W.Fast.te11892475500146522536];kernel_rfl
theorem zil (w:Z0) (os:K3) :∃M,M<=200000/\topRun S3 PX w 11 annX M ⟨boot_heap w.params,Array.mk [],boot_drawn,boot_toks,os⟩ (topStub PX)=some (S3X w os).abs:=by have g:topRun S3 PX w 11 annX 2 (S3X w os).abs (restOf [] K28.pre.env_1 cdX pLX BX)=some (S3X w os).abs:=rfl;have a:=piece_app (zkx w os) g;rw [C3] at a;obtain ⟨M,h,c⟩:=ze9 (Goes.execs1 (stD_go w os ⟨49,0,52,21⟩)) a;have b:=K28.pre.chain PX (behindTheImports PX) w os _ M _ c;rw [<-bodyX] at b;have d:segRun S3 PX w 11 annX 1 1 (S0X w os).abs (blockOf (behindTheImports PX) K28.pre.env_1 cdX qX BX)=some (.next,(S0X w os).abs,cdX,qX):=rfl;have e:=piece_block d b;have f:=go_top (pre_go w os) e;refine ⟨_,?_,f⟩;simp only [Nat.add_eq];omega
noncomputable def looseX:List Str:=[("GREATEST_WORTH" : Str),("LONGEST_NAME" : Str),("SMALL_LETTERS" : Str),("is_whole" : Str),("is_within" : Str),("is_worth" : Str),("is_name" : Str),("is_tuple_of" : Str),("TaleError" : Str),("NoTale" : Str),("NoPlan" : Str),("FIRST_STATES" : Str),("WORTHS_OF_VERBS" : Str),("read_state" : Str),("write_state" : Str),("add_to_number" : Str),("put_behind" : Str),("take_first" : Str),("put_into_set" : Str),("cut_from_set" : Str),("has_in_set" : Str),("swap_state" : Str),("DOERS" : Str),("is_kind" : Str),("is_deed" : Str),("planned" : Str),("is_plan" : Str),("is_planned" : Str),("MOST_THINGS" : Str),("MOST_BEGINS" : Str),("LAST_HAND" : Str),("GREATEST_ANSWER" : Str),("ANSWER_WORDS" : Str),("make_tale" : Str),("make_things" : Str),("is_thing" : Str),("make_events" : Str),("is_begin" : Str),("is_end" : Str),("is_event" : Str),("is_hand" : Str),("is_answer" : Str),("go_by_turns" : Str),("MOST_HANDS" : Str),("MOST_DEEDS" : Str),("FIRST_HELD" : Str),("Errand" : Str),("Letter" : Str),("Copies" : Str),("check_plan" : Str),("run_copies" : Str),("_law_cell_at" : Str),("_law_mix" : Str),("_law_parts" : Str),("_law_plan" : Str),("_law_copied" : Str),("_law_begun" : Str),("_law_free" : Str),("_law_sent" : Str),("_law_ended" : Str),("_law_gone_on" : Str),("_law_come" : Str),("_law_moved" : Str),("_law_choice" : Str),("_law_guided" : Str),("_law_raw" : Str),("_law_events" : Str),("_law_kinds" : Str)]
noncomputable def viewX:Program:={ PX with main:={ PX.main with body:=(PX.main.body[75]?).toList } }
noncomputable def top (i:Nat):Stmt:=PX.main.body.getD i (.Pass ⟨0,0,0,0⟩)
noncomputable def subS (s:Stmt) (j:Nat):Stmt:=match s with
 | .ClassDef _ _ _ b _ _ _ _ _ _ _=>b.getD j s
 | _=>s
noncomputable def asX:List Addr:=[3,20,21,27,28,34,35,39,40,46,47,48,50,55,56,57,61,63,68,69,70,73,75,80,81,82,85,86,87,88,150,151,152,153,154,155,156,157,158,159,160,161,162,168,169,173,174,180,181,185,186,192,193,194,200,201,205,206,212,213,217,218,224,225,231,232,238,239,245,246,252,253,259,260,261,262,263,265,275,276,277,278,279,284,286,296,297,298,299,300,305,307,315,316,320,321,327,328,334,335,341,342,348,349,355,356,362,363,369,370,371,372,373,381,382,388,389,395,396,402,403,409,410,414,415,419,420,424,425,429,430,436,437,443,444,450,451,457,458,464,465,471,472,478,479,485,486,492,493,497,498,504,505]
noncomputable def KX (P:O0):Frag:=[
 (3,⟨(.type "dict"),none,(.dict #[⟨(g0 P "__name__"),(.str "__name__" 165),(.str "law_talejudge_k28_as_letters_go" 778)⟩,⟨(g0 P "__doc__"),(.str "__doc__" 166),.none⟩,⟨(g0 P "__package__"),(.str "__package__" 167),.none⟩,⟨(g0 P "__loader__"),(.str "__loader__" 168),(.builtin "__main__.__loader__#opaque")⟩,⟨(g0 P "__spec__"),(.str "__spec__" 169),.none⟩,kR P "__annotations__" 170 6,kR P "__builtins__" 171 4,⟨(g0 P "__file__"),(.str "__file__" 173),(.str "/claim/cut.py" 172)⟩,⟨(g0 P "__cached__"),(.str "__cached__" 174),.none⟩,⟨(g0 P "GREATEST_WORTH"),(.str "GREATEST_WORTH" 190),(.int (1000000000) 189)⟩,⟨(g0 P "LONGEST_NAME"),(.str "LONGEST_NAME" 192),(.int (8) 191)⟩,⟨(g0 P "SMALL_LETTERS"),(.str "SMALL_LETTERS" 194),(.str "abcdefghijklmnopqrstuvwxyz" 193)⟩,kR P "is_whole" 201 21,kR P "is_within" 209 28,kR P "is_worth" 216 35,kR P "is_name" 222 40,kR P "is_tuple_of" 230 47,kR P "TaleError" 250 57,kR P "NoTale" 266 70,kR P "NoPlan" 282 82,kR P "FIRST_STATES" 298 85,kR P "WORTHS_OF_VERBS" 323 88,kR P "read_state" 331 95,kR P "write_state" 339 102,kR P "add_to_number" 347 109,kR P "put_behind" 355 116,kR P "take_first" 363 123,kR P "put_into_set" 371 130,kR P "cut_from_set" 377 135,kR P "has_in_set" 385 142,kR P "swap_state" 393 149,kR P "DOERS" 454 150,kR P "is_kind" 461 169,kR P "is_deed" 467 174,kR P "planned" 478 181,kR P "is_plan" 484 186,kR P "is_planned" 492 193,⟨(g0 P "MOST_THINGS"),(.str "MOST_THINGS" 496),(.int (6) 495)⟩,⟨(g0 P "MOST_BEGINS"),(.str "MOST_BEGINS" 498),(.int (24) 497)⟩,⟨(g0 P "LAST_HAND"),(.str "LAST_HAND" 500),(.int (5) 499)⟩,⟨(g0 P "GREATEST_ANSWER"),(.str "GREATEST_ANSWER" 502),(.int (1000000000000) 501)⟩,kR P "ANSWER_WORDS" 505 194,kR P "make_tale" 514 201,kR P "make_things" 520 206,kR P "is_thing" 527 213,kR P "make_events" 533 218,kR P "is_begin" 541 225,kR P "is_end" 548 232,kR P "is_event" 557 239,kR P "is_hand" 564 246,kR P "is_answer" 571 253,kR P "go_by_turns" 581 260,⟨(g0 P "MOST_HANDS"),(.str "MOST_HANDS" 585),(.int (6) 584)⟩,⟨(g0 P "MOST_DEEDS"),(.str "MOST_DEEDS" 587),(.int (24) 586)⟩,kR P "FIRST_HELD" 592 262,kR P "Errand" 626 279,kR P "Letter" 659 300,kR P "Copies" 759 373,kR P "check_plan" 765 382,kR P "run_copies" 777 389,kR P "_law_cell_at" 787 396,kR P "_law_mix" 796 403,kR P "_law_parts" 807 410,kR P "_law_plan" 813 415,kR P "_law_copied" 819 420,kR P "_law_begun" 825 425,kR P "_law_free" 831 430,kR P "_law_sent" 842 437,kR P "_law_ended" 851 444,kR P "_law_gone_on" 863 451,kR P "_law_come" 879 458,kR P "_law_moved" 895 465,kR P "_law_choice" 908 472,kR P "_law_guided" 925 479,kR P "_law_raw" 935 486,kR P "_law_events" 948 493,kR P "_law_kinds" 954 498,kR P "law" 972 505] 78),#[]⟩),
 (20,cO "is_whole" "is_whole" 195 5 1 15 199),
 (21,fO "is_whole" "is_whole" (top 4) "talejudge.basics" 187 20),
 (27,cO "is_within" "is_within" 202 7 2 22 207),
 (28,fO "is_within" "is_within" (top 5) "talejudge.basics" 187 27),
 (34,cO "is_worth" "is_worth" 210 9 1 29 214),
 (35,fO "is_worth" "is_worth" (top 6) "talejudge.basics" 187 34),
 (39,cP "is_name" "is_name" 217 11 1 36 220),
 (40,fO "is_name" "is_name" (top 7) "talejudge.basics" 187 39),
 (46,cO "is_tuple_of" "is_tuple_of" 223 15 2 41 228),
 (47,fO "is_tuple_of" "is_tuple_of" (top 8) "talejudge.basics" 187 46),
 (48,⟨(.type "tuple"),none,(.seq #[(.type "ValueError")] 0),#[]⟩),
 (50,⟨(.type "dict"),none,(.dict #[⟨(g0 P "__module__"),(.str "__module__" 240),(.str "talejudge.errors" 231)⟩,⟨(g0 P "__qualname__"),(.str "__qualname__" 242),(.str "TaleError" 241)⟩,⟨(g0 P "__firstlineno__"),(.str "__firstlineno__" 244),(.int (18) 243)⟩,kR P "__static_attributes__" 245 55] 4),#[]⟩),
 (55,⟨(.type "tuple"),none,(.seq #[] 0),#[]⟩),
 (56,⟨(.type "dict"),none,(.dict #[⟨(g0 P "__module__"),(.str "__module__" 240),(.str "talejudge.errors" 231)⟩,⟨(g0 P "__firstlineno__"),(.str "__firstlineno__" 244),(.int (18) 243)⟩,kR P "__static_attributes__" 245 55,kR P "__weakref__" 247 58,⟨(g0 P "__doc__"),(.str "__doc__" 248),.none⟩] 3),#[]⟩),
 (57,⟨(.type "type"),none,(.cls ⟨"TaleError",[(.type "ValueError")],[(.ref 57),(.type "ValueError"),(.type "Exception"),(.type "BaseException"),(.type "object")],56,"TaleError",true,[],[(.ref 70),(.ref 82)],false,none,false⟩),#[some (.ref 48),none,some (.str "TaleError" 233),some (.str "TaleError" 241),some (.builtin "ValueError.__new__"),some (.bool true)]⟩),
 (61,⟨(.type "tuple"),none,(.seq #[(.ref 57)] 0),#[]⟩),
 (63,⟨(.type "dict"),none,(.dict #[⟨(g0 P "__module__"),(.str "__module__" 258),(.str "talejudge.errors" 231)⟩,⟨(g0 P "__qualname__"),(.str "__qualname__" 260),(.str "NoTale" 259)⟩,⟨(g0 P "__firstlineno__"),(.str "__firstlineno__" 262),(.int (20) 261)⟩,kR P "__static_attributes__" 263 68] 4),#[]⟩),
 (68,⟨(.type "tuple"),none,(.seq #[] 0),#[]⟩),
 (69,⟨(.type "dict"),none,(.dict #[⟨(g0 P "__module__"),(.str "__module__" 258),(.str "talejudge.errors" 231)⟩,⟨(g0 P "__firstlineno__"),(.str "__firstlineno__" 262),(.int (20) 261)⟩,kR P "__static_attributes__" 263 68,⟨(g0 P "__doc__"),(.str "__doc__" 264),.none⟩] 2),#[]⟩),
 (70,⟨(.type "type"),none,(.cls ⟨"NoTale",[(.ref 57)],[(.ref 70),(.ref 57),(.type "ValueError"),(.type "Exception"),(.type "BaseException"),(.type "object")],69,"NoTale",true,[],[],false,none,false⟩),#[some (.ref 61),none,some (.str "NoTale" 251),some (.str "NoTale" 259),some (.builtin "ValueError.__new__"),some (.bool true)]⟩),
 (73,⟨(.type "tuple"),none,(.seq #[(.ref 57)] 0),#[]⟩),
 (75,⟨(.type "dict"),none,(.dict #[⟨(g0 P "__module__"),(.str "__module__" 274),(.str "talejudge.errors" 231)⟩,⟨(g0 P "__qualname__"),(.str "__qualname__" 276),(.str "NoPlan" 275)⟩,⟨(g0 P "__firstlineno__"),(.str "__firstlineno__" 278),(.int (22) 277)⟩,kR P "__static_attributes__" 279 80] 4),#[]⟩),
 (80,⟨(.type "tuple"),none,(.seq #[] 0),#[]⟩),
 (81,⟨(.type "dict"),none,(.dict #[⟨(g0 P "__module__"),(.str "__module__" 274),(.str "talejudge.errors" 231)⟩,⟨(g0 P "__firstlineno__"),(.str "__firstlineno__" 278),(.int (22) 277)⟩,kR P "__static_attributes__" 279 80,⟨(g0 P "__doc__"),(.str "__doc__" 280),.none⟩] 2),#[]⟩),
 (82,⟨(.type "type"),none,(.cls ⟨"NoPlan",[(.ref 57)],[(.ref 82),(.ref 57),(.type "ValueError"),(.type "Exception"),(.type "BaseException"),(.type "object")],81,"NoPlan",true,[],[],false,none,false⟩),#[some (.ref 73),none,some (.str "NoPlan" 267),some (.str "NoPlan" 275),some (.builtin "ValueError.__new__"),some (.bool true)]⟩),
 (85,⟨(.type "dict"),none,(.dict #[⟨(g0 P "register"),(.str "register" 285),(.int (0) 286)⟩,⟨(g0 P "counter"),(.str "counter" 287),(.int (0) 288)⟩,kR P "queue" 289 86,kR P "set" 290 87,⟨(g0 P "cell"),(.str "cell" 291),(.int (0) 292)⟩] 5),#[]⟩),
 (86,⟨(.type "tuple"),none,(.seq #[] 0),#[]⟩),
 (87,⟨(.type "tuple"),none,(.seq #[] 0),#[]⟩),
 (88,⟨(.type "dict"),none,(.dict #[⟨(g0 P "read"),(.str "read" 299),(.int (0) 300)⟩,⟨(g0 P "take"),(.str "take" 301),(.int (0) 302)⟩,⟨(g0 P "write"),(.str "write" 303),(.int (1) 304)⟩,⟨(g0 P "add"),(.str "add" 305),(.int (1) 306)⟩,⟨(g0 P "put"),(.str "put" 307),(.int (1) 308)⟩,⟨(g0 P "cut"),(.str "cut" 309),(.int (1) 310)⟩,⟨(g0 P "has"),(.str "has" 311),(.int (1) 312)⟩,⟨(g0 P "swap"),(.str "swap" 313),(.int (2) 314)⟩] 8),#[]⟩),
 (150,⟨(.type "dict"),none,(.dict #[⟨(Q1 (A0 [g0 P "register",g0 P "read"])),(.ref 151),(.ref 95)⟩,⟨(Q1 (A0 [g0 P "register",g0 P "write"])),(.ref 152),(.ref 102)⟩,⟨(Q1 (A0 [g0 P "counter",g0 P "read"])),(.ref 153),(.ref 95)⟩,⟨(Q1 (A0 [g0 P "counter",g0 P "add"])),(.ref 154),(.ref 109)⟩,⟨(Q1 (A0 [g0 P "queue",g0 P "put"])),(.ref 155),(.ref 116)⟩,⟨(Q1 (A0 [g0 P "queue",g0 P "take"])),(.ref 156),(.ref 123)⟩,⟨(Q1 (A0 [g0 P "set",g0 P "put"])),(.ref 157),(.ref 130)⟩,⟨(Q1 (A0 [g0 P "set",g0 P "cut"])),(.ref 158),(.ref 135)⟩,⟨(Q1 (A0 [g0 P "set",g0 P "has"])),(.ref 159),(.ref 142)⟩,⟨(Q1 (A0 [g0 P "cell",g0 P "read"])),(.ref 160),(.ref 95)⟩,⟨(Q1 (A0 [g0 P "cell",g0 P "write"])),(.ref 161),(.ref 102)⟩,⟨(Q1 (A0 [g0 P "cell",g0 P "swap"])),(.ref 162),(.ref 149)⟩] 12),#[]⟩),
 (151,⟨(.type "tuple"),none,(.seq #[(.str "register" 394),(.str "read" 395)] 0),#[]⟩),
 (152,⟨(.type "tuple"),none,(.seq #[(.str "register" 396),(.str "write" 397)] 0),#[]⟩),
 (153,⟨(.type "tuple"),none,(.seq #[(.str "counter" 398),(.str "read" 399)] 0),#[]⟩),
 (154,⟨(.type "tuple"),none,(.seq #[(.str "counter" 400),(.str "add" 401)] 0),#[]⟩),
 (155,⟨(.type "tuple"),none,(.seq #[(.str "queue" 402),(.str "put" 403)] 0),#[]⟩),
 (156,⟨(.type "tuple"),none,(.seq #[(.str "queue" 404),(.str "take" 405)] 0),#[]⟩),
 (157,⟨(.type "tuple"),none,(.seq #[(.str "set" 406),(.str "put" 407)] 0),#[]⟩),
 (158,⟨(.type "tuple"),none,(.seq #[(.str "set" 408),(.str "cut" 409)] 0),#[]⟩),
 (159,⟨(.type "tuple"),none,(.seq #[(.str "set" 410),(.str "has" 411)] 0),#[]⟩),
 (160,⟨(.type "tuple"),none,(.seq #[(.str "cell" 412),(.str "read" 413)] 0),#[]⟩),
 (161,⟨(.type "tuple"),none,(.seq #[(.str "cell" 414),(.str "write" 415)] 0),#[]⟩),
 (162,⟨(.type "tuple"),none,(.seq #[(.str "cell" 416),(.str "swap" 417)] 0),#[]⟩),
 (168,cO "is_kind" "is_kind" 455 54 1 163 459),
 (169,fO "is_kind" "is_kind" (top 26) "talejudge.store" 283 168),
 (173,cP "is_deed" "is_deed" 462 56 3 170 465),
 (174,fO "is_deed" "is_deed" (top 27) "talejudge.store" 283 173),
 (180,cO "planned" "planned" 470 66 1 175 476),
 (181,fO "planned" "planned" (top 29) "talejudge.plans" 468 180),
 (185,cP "is_plan" "is_plan" 479 71 4 182 482),
 (186,fO "is_plan" "is_plan" (top 30) "talejudge.plans" 468 185),
 (192,cO "is_planned" "is_planned" 485 76 2 187 490),
 (193,fO "is_planned" "is_planned" (top 31) "talejudge.plans" 468 192),
 (194,⟨(.type "tuple"),none,(.seq #[(.str "ok" 503),(.str "none" 504)] 0),#[]⟩),
 (200,cO "make_tale" "make_tale" 506 84 2 195 512),
 (201,fO "make_tale" "make_tale" (top 38) "talejudge.tales" 493 200),
 (205,cP "make_things" "make_things" 515 87 1 202 518),
 (206,fO "make_things" "make_things" (top 39) "talejudge.tales" 493 205),
 (212,cO "is_thing" "is_thing" 521 95 1 207 525),
 (213,fO "is_thing" "is_thing" (top 40) "talejudge.tales" 493 212),
 (217,cP "make_events" "make_events" 528 97 2 214 531),
 (218,fO "make_events" "make_events" (top 41) "talejudge.tales" 493 217),
 (224,cO "is_begin" "is_begin" 534 105 2 219 539),
 (225,fO "is_begin" "is_begin" (top 42) "talejudge.tales" 493 224),
 (231,cO "is_end" "is_end" 542 109 1 226 546),
 (232,fO "is_end" "is_end" (top 43) "talejudge.tales" 493 231),
 (238,cO "is_event" "is_event" 549 111 3 233 555),
 (239,fO "is_event" "is_event" (top 44) "talejudge.tales" 493 238),
 (245,cO "is_hand" "is_hand" 558 113 1 240 562),
 (246,fO "is_hand" "is_hand" (top 45) "talejudge.tales" 493 245),
 (252,cO "is_answer" "is_answer" 565 115 1 247 569),
 (253,fO "is_answer" "is_answer" (top 46) "talejudge.tales" 493 252),
 (259,cO "go_by_turns" "go_by_turns" 572 119 1 254 579),
 (260,fO "go_by_turns" "go_by_turns" (top 47) "talejudge.tales" 493 259),
 (261,⟨(.type "tuple"),none,(.seq #[(.int (0) 588),(.int (-1) 590)] 0),#[]⟩),
 (262,⟨(.type "tuple"),none,(.seq #[(.ref 261),(.int (0) 591)] 0),#[]⟩),
 (263,⟨(.type "tuple"),none,(.seq #[] 0),#[]⟩),
 (265,⟨(.type "dict"),none,(.dict #[⟨(g0 P "__module__"),(.str "__module__" 600),(.str "talejudge.copies" 582)⟩,⟨(g0 P "__qualname__"),(.str "__qualname__" 602),(.str "Errand" 601)⟩,⟨(g0 P "__firstlineno__"),(.str "__firstlineno__" 604),(.int (131) 603)⟩,kR P "__init__" 614 276,kR P "__static_attributes__" 619 277] 5),#[]⟩),
 (275,cO "__init__" "Errand.__init__" 605 133 4 270 612),
 (276,fO "__init__" "Errand.__init__" (subS (top 52) 0) "talejudge.copies" 582 275),
 (277,⟨(.type "tuple"),none,(.seq #[(.str "deed" 615),(.str "hand" 616),(.str "heard" 617),(.str "kept" 618)] 0),#[]⟩),
 (278,⟨(.type "dict"),none,(.dict #[⟨(g0 P "__module__"),(.str "__module__" 600),(.str "talejudge.copies" 582)⟩,⟨(g0 P "__firstlineno__"),(.str "__firstlineno__" 604),(.int (131) 603)⟩,kR P "__init__" 614 276,kR P "__static_attributes__" 619 277,kR P "__dict__" 621 280,kR P "__weakref__" 623 281,⟨(g0 P "__doc__"),(.str "__doc__" 624),.none⟩] 4),#[]⟩),
 (279,⟨(.type "type"),none,(.cls ⟨"Errand",[(.type "object")],[(.ref 279),(.type "object")],278,"Errand",true,[],[],false,none,false⟩),#[none,none,some (.str "Errand" 593),some (.str "Errand" 601),some (.builtin "object.__new__"),some (.bool true)]⟩),
 (284,⟨(.type "tuple"),none,(.seq #[] 0),#[]⟩),
 (286,⟨(.type "dict"),none,(.dict #[⟨(g0 P "__module__"),(.str "__module__" 634),(.str "talejudge.copies" 582)⟩,⟨(g0 P "__qualname__"),(.str "__qualname__" 636),(.str "Letter" 635)⟩,⟨(g0 P "__firstlineno__"),(.str "__firstlineno__" 638),(.int (138) 637)⟩,kR P "__init__" 648 297,kR P "__static_attributes__" 652 298] 5),#[]⟩),
 (296,cO "__init__" "Letter.__init__" 639 140 4 291 646),
 (297,fO "__init__" "Letter.__init__" (subS (top 53) 0) "talejudge.copies" 582 296),
 (298,⟨(.type "tuple"),none,(.seq #[(.str "errand" 649),(.str "held" 650),(.str "number" 651)] 0),#[]⟩),
 (299,⟨(.type "dict"),none,(.dict #[⟨(g0 P "__module__"),(.str "__module__" 634),(.str "talejudge.copies" 582)⟩,⟨(g0 P "__firstlineno__"),(.str "__firstlineno__" 638),(.int (138) 637)⟩,kR P "__init__" 648 297,kR P "__static_attributes__" 652 298,kR P "__dict__" 654 301,kR P "__weakref__" 656 302,⟨(g0 P "__doc__"),(.str "__doc__" 657),.none⟩] 4),#[]⟩),
 (300,⟨(.type "type"),none,(.cls ⟨"Letter",[(.type "object")],[(.ref 300),(.type "object")],299,"Letter",true,[],[],false,none,false⟩),#[none,none,some (.str "Letter" 627),some (.str "Letter" 635),some (.builtin "object.__new__"),some (.bool true)]⟩),
 (305,⟨(.type "tuple"),none,(.seq #[] 0),#[]⟩),
 (307,⟨(.type "dict"),none,(.dict #[⟨(g0 P "__module__"),(.str "__module__" 667),(.str "talejudge.copies" 582)⟩,⟨(g0 P "__qualname__"),(.str "__qualname__" 669),(.str "Copies" 668)⟩,⟨(g0 P "__firstlineno__"),(.str "__firstlineno__" 671),(.int (144) 670)⟩,kR P "__init__" 677 316,kR P "go_on" 683 321,kR P "begin_deed" 692 328,kR P "send" 701 335,kR P "bring" 709 342,kR P "bring_to_copy" 718 349,kR P "bring_back" 727 356,kR P "go_on_from_asking" 736 363,kR P "end_deed" 745 370,kR P "__static_attributes__" 752 371] 13),#[]⟩),
 (315,cP "__init__" "Copies.__init__" 672 146 4 312 675),
 (316,fO "__init__" "Copies.__init__" (subS (top 54) 0) "talejudge.copies" 582 315),
 (320,cP "go_on" "Copies.go_on" 678 154 2 317 681),
 (321,fO "go_on" "Copies.go_on" (subS (top 54) 1) "talejudge.copies" 582 320),
 (327,cO "begin_deed" "Copies.begin_deed" 684 167 2 322 690),
 (328,fO "begin_deed" "Copies.begin_deed" (subS (top 54) 2) "talejudge.copies" 582 327),
 (334,cO "send" "Copies.send" 693 173 2 329 699),
 (335,fO "send" "Copies.send" (subS (top 54) 3) "talejudge.copies" 582 334),
 (341,cO "bring" "Copies.bring" 702 177 2 336 707),
 (342,fO "bring" "Copies.bring" (subS (top 54) 4) "talejudge.copies" 582 341),
 (348,cO "bring_to_copy" "Copies.bring_to_copy" 710 183 3 343 716),
 (349,fO "bring_to_copy" "Copies.bring_to_copy" (subS (top 54) 5) "talejudge.copies" 582 348),
 (355,cO "bring_back" "Copies.bring_back" 719 188 3 350 725),
 (356,fO "bring_back" "Copies.bring_back" (subS (top 54) 6) "talejudge.copies" 582 355),
 (362,cO "go_on_from_asking" "Copies.go_on_from_asking" 728 197 2 357 734),
 (363,fO "go_on_from_asking" "Copies.go_on_from_asking" (subS (top 54) 7) "talejudge.copies" 582 362),
 (369,cO "end_deed" "Copies.end_deed" 737 206 3 364 743),
 (370,fO "end_deed" "Copies.end_deed" (subS (top 54) 8) "talejudge.copies" 582 369),
 (371,⟨(.type "tuple"),none,(.seq #[(.str "back" 746),(.str "events" 747),(.str "idle" 748),(.str "left" 749),(.str "letters" 750),(.str "stock" 751)] 0),#[]⟩),
 (372,⟨(.type "dict"),none,(.dict #[⟨(g0 P "__module__"),(.str "__module__" 667),(.str "talejudge.copies" 582)⟩,⟨(g0 P "__firstlineno__"),(.str "__firstlineno__" 671),(.int (144) 670)⟩,kR P "__init__" 677 316,kR P "go_on" 683 321,kR P "begin_deed" 692 328,kR P "send" 701 335,kR P "bring" 709 342,kR P "bring_to_copy" 718 349,kR P "bring_back" 727 356,kR P "go_on_from_asking" 736 363,kR P "end_deed" 745 370,kR P "__static_attributes__" 752 371,kR P "__dict__" 754 374,kR P "__weakref__" 756 375,⟨(g0 P "__doc__"),(.str "__doc__" 757),.none⟩] 4),#[]⟩),
 (373,⟨(.type "type"),none,(.cls ⟨"Copies",[(.type "object")],[(.ref 373),(.type "object")],372,"Copies",true,[],[],false,none,false⟩),#[none,none,some (.str "Copies" 660),some (.str "Copies" 668),some (.builtin "object.__new__"),some (.bool true)]⟩),
 (381,cP "check_plan" "check_plan" 760 209 2 378 763),
 (382,fO "check_plan" "check_plan" (top 55) "talejudge.copies" 582 381),
 (388,cO "run_copies" "run_copies" 766 217 4 383 775),
 (389,fO "run_copies" "run_copies" (top 56) "talejudge.copies" 582 388),
 (395,cO "_law_cell_at" "_law_cell_at" 780 224 2 390 785),
 (396,fL "_law_cell_at" "_law_cell_at" (top 58) 395),
 (402,cO "_law_mix" "_law_mix" 788 228 2 397 794),
 (403,fL "_law_mix" "_law_mix" (top 59) 402),
 (409,cO "_law_parts" "_law_parts" 797 232 2 404 805),
 (410,fL "_law_parts" "_law_parts" (top 60) 409),
 (414,cP "_law_plan" "_law_plan" 808 242 4 411 811),
 (415,fL "_law_plan" "_law_plan" (top 61) 414),
 (419,cP "_law_copied" "_law_copied" 814 253 1 416 817),
 (420,fL "_law_copied" "_law_copied" (top 62) 419),
 (424,cP "_law_begun" "_law_begun" 820 255 2 421 823),
 (425,fL "_law_begun" "_law_begun" (top 63) 424),
 (429,cP "_law_free" "_law_free" 826 260 2 426 829),
 (430,fL "_law_free" "_law_free" (top 64) 429),
 (436,cO "_law_sent" "_law_sent" 832 262 4 431 840),
 (437,fL "_law_sent" "_law_sent" (top 65) 436),
 (443,cO "_law_ended" "_law_ended" 843 269 3 438 849),
 (444,fL "_law_ended" "_law_ended" (top 66) 443),
 (450,cO "_law_gone_on" "_law_gone_on" 852 272 3 445 861),
 (451,fL "_law_gone_on" "_law_gone_on" (top 67) 450),
 (457,cO "_law_come" "_law_come" 864 286 3 452 877),
 (458,fL "_law_come" "_law_come" (top 68) 457),
 (464,cO "_law_moved" "_law_moved" 880 298 4 459 893),
 (465,fL "_law_moved" "_law_moved" (top 69) 464),
 (471,cO "_law_choice" "_law_choice" 896 312 4 466 906),
 (472,fL "_law_choice" "_law_choice" (top 70) 471),
 (478,cO "_law_guided" "_law_guided" 909 321 5 473 923),
 (479,fL "_law_guided" "_law_guided" (top 71) 478),
 (485,cO "_law_raw" "_law_raw" 926 333 1 480 933),
 (486,fL "_law_raw" "_law_raw" (top 72) 485),
 (492,cO "_law_events" "_law_events" 936 340 4 487 946),
 (493,fL "_law_events" "_law_events" (top 73) 492),
 (497,cP "_law_kinds" "_law_kinds" 949 348 1 494 952),
 (498,fL "_law_kinds" "_law_kinds" (top 74) 497),
 (504,cO "law" "law" 955 355 1 499 970),
 (505,fL "law" "law" (top 75) 504)]
noncomputable def HX:Hook:=kHook KX asX (λ _=>by kernel_rfl)
noncomputable abbrev XtX:B0->Bool:=λ s=>xlAt viewX [] s && recOk (RowW.records (OpenRow.toRowW PySem.Challenge.rw_talejudge_k28_as_letters_go.row)) s
theorem look1 (w:Z0) (os:K3):(staticsOk (S7 PX.main.body) (boot_heap w.params) (S3X w os).abs.heap && namesBound PX (S3X w os).abs.heap && gensDone (S3X w os).abs && laidKept (boot_heap w.params) (S3X w os).abs.heap)=true:=by kernel_rfl
theorem look2 (w:Z0) (os:K3):openSeen viewX looseX (S7 PX.main.body) XtX true (S3X w os).abs=openGood viewX looseX:=by rw [PySem.W.Fast.te4187177175401517315];kernel_rfl
theorem look3 (w:Z0) (os:K3):Hook.obs HX (S3X w os).abs=Hook.val HX w:=by kernel_rfl
theorem leftX:LeftO PX viewX looseX XtX (Hook.obs HX) (Hook.val HX) 200000:=
 zjc (H₀:=boot_heap) (gs₀:=Array.mk []) (boot_open (by kernel_rfl) (by decide) (λ s=>rfl)) (λ w=>by kernel_rfl) zil look1 look2 look3
end K28
set_option maxHeartbeats 4000000
namespace L2
open PySem PySem.Spec PyProof.Rows
theorem FnScope.k {N P:List Str} {sc:Scope} (a:sc.kind=.function:=by exact rfl) (b:sc.isCoroutine=false:=by exact rfl) (c:sc.isGenerator=false:=by exact rfl) (d:N.Nodup:=by decide +kernel) (e:N.take P.length=P:=by exact rfl) (f :∀x∈P,sc.names.lookup x=some .local\/sc.names.lookup x=some .cell:=by decide +kernel) (g :∀y∈sc.names,y.2≠.free:=by decide +kernel):FnScope N P sc:=⟨a,b,c,d,e,f,g⟩
theorem newA {H:Hp} {p:Addr} (o:HO) (h:H p=none) :∃H',H'=upd H p o/\Same H H'/\H' p=some o:=⟨_,rfl,Same.upd h,z03⟩
theorem iteK {c A B:Prop} [Decidable c] (h:B) (hc:¬ c:=by decide +kernel):if c then A else B:=iteN hc h
theorem pg_cn {X:Cx} {scope:Scope} {cl:List (Str×Addr)} {N:List Str} {C:Addr} {s₂:B0} {H₂:Hp} {fp:List Addr} {x:Str} {px:Pos} (i:Nat) (hN:N.Nodup:=by decide +kernel) (hi:N[i]? = some x:=by exact rfl) (hx:scope.names.lookup x=some .local:=by exact rfl):PG (cxComp X scope cl N C s₂ H₂ fp) (.Name x px) (gName i):=zjd i hN hi hx
theorem pe_cg {X:Cx} {xs:List Str} {tg:Expr} {g:TG} {pos:Pos} {elt iter:Expr} {ifs:List Expr} {scope:Scope} {fr:List (Nat×Str)} {wi:TI} {tc:TT} {te:TE} (hi:PI X tg iter wi)
  (hg :∀cl C s₂ H₂ fp,PG (cxComp X scope cl (xs++fr.map (·.2)) C s₂ H₂ fp) tg g)
  (ht :∀cl C s₂ H₂ fp,PF (cxComp X scope cl (xs++fr.map (·.2)) C s₂ H₂ fp) ifs tc) (he :∀cl C s₂ H₂ fp,PE (cxComp X scope cl (xs++fr.map (·.2)) C s₂ H₂ fp) elt te) (hcalm:X.calm=true:=by exact rfl)
  (hfr :∀p∈fr,X.N[p.1]? = some p.2/\(X.env.kindOf p.2=some .cell\/X.env.kindOf p.2=some .free):=by first|exact λ _ z=>absurd z K0|(intro p hp;obtain rfl:=List.mem_singleton.mp hp;first|exact ⟨rfl,.inl rfl⟩|exact ⟨rfl,.inr rfl⟩))
  (hin:(scope.names.all λ y=>y.2 != F2 || fr.any λ p=>p.2 == y.1)=true:=by decide +kernel)
  (hfs :∀p∈fr,(p.2,F2)∈scope.names/\((C8 scope X.env).names.lookup p.2=some .cell\/(C8 scope X.env).names.lookup p.2=some .free):=by first|exact λ _ z=>absurd z K0|(intro p hp;obtain rfl:=List.mem_singleton.mp hp;exact ⟨by decide +kernel,by first|exact .inl rfl|exact .inr rfl⟩))
  (hcell :∀y∈scope.names,y.2≠NameKind.cell:=by decide +kernel) (hkind:scope.kind=.function:=by exact rfl) (hnames :∀y∈scope.names,y.2=NameKind.local->scope.names.lookup y.1=some .local:=by decide +kernel)
  (hs :∀x,Y5 iter X.env x=V3 x:=by intro _;rfl):PE X (.ListComp elt [⟨tg,iter,ifs,0⟩] scope pos) (tCompG wi xs.length fr g tc te):=
 zf6 hcalm hi hfr (λ y a e=>by
  have h:=List.all_eq_true.mp hin y a;rw [e] at h;obtain ⟨p,hp,z⟩:=List.any_eq_true.mp (show fr.any (λ p=>p.2 == y.1)=true from h);have:=(hfr p hp).2
  rwa [eq_of_beq z] at this) hfs hcell hkind hnames hg ht he hs
end L2
namespace K28
open PySem PySem.Spec PyProof.Rows TJ L2
abbrev Gg (n:Str) (a:Addr):Prop:=∀P,N3 (KX P) P2 n=some (some (.ref a))
abbrev Gn (n:Str):Prop:=∀P,N3 (KX P) P2 n=some none
noncomputable abbrev kx (w:Z0):=KX w.params
noncomputable abbrev Ca (P:Program) (w:Z0) (mg:Str->Option Value) (base:Heap):=Cal P w (KX w.params) mg base
noncomputable abbrev CaE (P:Program) (w:Z0) (mg:Str->Option Value) (base:Heap):=CalE P w (KX w.params) mg base
noncomputable abbrev Fo (P:Program) (w:Z0) (mg:Str->Option Value) (base:Heap):=FnOk P w (KX w.params) mg base
theorem z0e:Gn "isinstance":=λ _=>by kernel_rfl
theorem n_len:Gn "len":=λ _=>by kernel_rfl
theorem n_all:Gn "all":=λ _=>by kernel_rfl
theorem n_max:Gn "max":=λ _=>by kernel_rfl
theorem n_int:Gn "int":=λ _=>by kernel_rfl
theorem n_str:Gn "str":=λ _=>by kernel_rfl
theorem n_bool:Gn "bool":=λ _=>by kernel_rfl
theorem z5d:Gn "tuple":=λ _=>by kernel_rfl
theorem n_list:Gn "list":=λ _=>by kernel_rfl
theorem z3c:Gn "range":=λ _=>by kernel_rfl
theorem zj7:Gn "sorted":=λ _=>by kernel_rfl
theorem n_dict:Gn "dict":=λ _=>by kernel_rfl
theorem n_set:Gn "set":=λ _=>by kernel_rfl
theorem zd3:Gn "enumerate":=λ _=>by kernel_rfl
theorem z6b (P:O0):N3 (KX P) P2 "GREATEST_WORTH" = some (some (.int (1000000000) 189)):=by kernel_rfl
theorem z87 (P:O0):N3 (KX P) P2 "LONGEST_NAME" = some (some (.int (8) 191)):=by kernel_rfl
theorem z6y (P:O0):N3 (KX P) P2 "SMALL_LETTERS" = some (some (.str "abcdefghijklmnopqrstuvwxyz" 193)):=by kernel_rfl
theorem zdv:Gg "is_whole" 21:=λ _=>by kernel_rfl
theorem zdg:Gg "is_within" 28:=λ _=>by kernel_rfl
theorem zfn:Gg "is_worth" 35:=λ _=>by kernel_rfl
theorem zh0:Gg "is_name" 40:=λ _=>by kernel_rfl
theorem z99:Gg "is_tuple_of" 47:=λ _=>by kernel_rfl
theorem zbj:Gg "NoPlan" 82:=λ _=>by kernel_rfl
theorem z8c:Gg "FIRST_STATES" 85:=λ _=>by kernel_rfl
theorem z5j:Gg "WORTHS_OF_VERBS" 88:=λ _=>by kernel_rfl
theorem zka:Gg "DOERS" 150:=λ _=>by kernel_rfl
theorem zhb:Gg "is_kind" 169:=λ _=>by kernel_rfl
theorem zhh:Gg "is_deed" 174:=λ _=>by kernel_rfl
theorem zhi:Gg "planned" 181:=λ _=>by kernel_rfl
theorem zgc:Gg "is_plan" 186:=λ _=>by kernel_rfl
theorem zam:Gg "is_planned" 193:=λ _=>by kernel_rfl
theorem z9i (P:O0):N3 (KX P) P2 "MOST_THINGS" = some (some (.int (6) 495)):=by kernel_rfl
theorem z9a (P:O0):N3 (KX P) P2 "MOST_BEGINS" = some (some (.int (24) 497)):=by kernel_rfl
theorem zdc (P:O0):N3 (KX P) P2 "LAST_HAND" = some (some (.int (5) 499)):=by kernel_rfl
theorem z5i (P:O0):N3 (KX P) P2 "GREATEST_ANSWER" = some (some (.int (1000000000000) 501)):=by kernel_rfl
theorem z7i:Gg "ANSWER_WORDS" 194:=λ _=>by kernel_rfl
theorem zck:Gg "make_tale" 201:=λ _=>by kernel_rfl
theorem z9t:Gg "make_things" 206:=λ _=>by kernel_rfl
theorem zeb:Gg "is_thing" 213:=λ _=>by kernel_rfl
theorem z9z:Gg "make_events" 218:=λ _=>by kernel_rfl
theorem ze8:Gg "is_begin" 225:=λ _=>by kernel_rfl
theorem zic:Gg "is_end" 232:=λ _=>by kernel_rfl
theorem zfa:Gg "is_event" 239:=λ _=>by kernel_rfl
theorem zgi:Gg "is_hand" 246:=λ _=>by kernel_rfl
theorem zd2:Gg "is_answer" 253:=λ _=>by kernel_rfl
theorem za0:Gg "go_by_turns" 260:=λ _=>by kernel_rfl
theorem zb5 (P:O0):N3 (KX P) P2 "MOST_HANDS" = some (some (.int (6) 584)):=by kernel_rfl
theorem zaa (P:O0):N3 (KX P) P2 "MOST_DEEDS" = some (some (.int (24) 586)):=by kernel_rfl
theorem zb8:Gg "FIRST_HELD" 262:=λ _=>by kernel_rfl
theorem zav:Gg "Errand" 279:=λ _=>by kernel_rfl
theorem zfl:Gg "Letter" 300:=λ _=>by kernel_rfl
theorem zir:Gg "Copies" 373:=λ _=>by kernel_rfl
theorem zbc:Gg "check_plan" 382:=λ _=>by kernel_rfl
theorem zac:Gg "run_copies" 389:=λ _=>by kernel_rfl
theorem z8a:Gg "_law_cell_at" 396:=λ _=>by kernel_rfl
theorem zex:Gg "_law_mix" 403:=λ _=>by kernel_rfl
theorem zaj:Gg "_law_parts" 410:=λ _=>by kernel_rfl
theorem zcn:Gg "_law_plan" 415:=λ _=>by kernel_rfl
theorem z8o:Gg "_law_copied" 420:=λ _=>by kernel_rfl
theorem zan:Gg "_law_begun" 425:=λ _=>by kernel_rfl
theorem zdd:Gg "_law_free" 430:=λ _=>by kernel_rfl
theorem zcl:Gg "_law_sent" 437:=λ _=>by kernel_rfl
theorem zb7:Gg "_law_ended" 444:=λ _=>by kernel_rfl
theorem z84:Gg "_law_gone_on" 451:=λ _=>by kernel_rfl
theorem zcu:Gg "_law_come" 458:=λ _=>by kernel_rfl
theorem zar:Gg "_law_moved" 465:=λ _=>by kernel_rfl
theorem za2:Gg "_law_choice" 472:=λ _=>by kernel_rfl
theorem z9q:Gg "_law_guided" 479:=λ _=>by kernel_rfl
theorem zfm:Gg "_law_raw" 486:=λ _=>by kernel_rfl
theorem z98:Gg "_law_events" 493:=λ _=>by kernel_rfl
theorem zaf:Gg "_law_kinds" 498:=λ _=>by kernel_rfl
theorem g_law:Gg "law" 505:=λ _=>by kernel_rfl
theorem zal (P:O0):f9 (KX P) 82 [.type "ValueError",.type "Exception",.type "BaseException",.type "object"] "ValueError.__new__" = true:=by kernel_rfl
noncomputable def kl_FIRST_STATES:List (Str×V):=[("register",.int (0)),("counter",.int (0)),("queue",.ref 86),("set",.ref 87),("cell",.int (0))]
theorem z6w (P:O0):KDict (KX P) P 85 kl_FIRST_STATES:=⟨⟨#[⟨(g0 P "register"),(.str "register" 285),(.int (0) 286)⟩,⟨(g0 P "counter"),(.str "counter" 287),(.int (0) 288)⟩,⟨(g0 P "queue"),(.str "queue" 289),(.ref 86)⟩,⟨(g0 P "set"),(.str "set" 290),(.ref 87)⟩,⟨(g0 P "cell"),(.str "cell" 291),(.int (0) 292)⟩],5,by kernel_rfl,(.cons ⟨⟨_,rfl⟩,rfl,⟨_,rfl⟩⟩ (.cons ⟨⟨_,rfl⟩,rfl,⟨_,rfl⟩⟩ (.cons ⟨⟨_,rfl⟩,rfl,rfl⟩ (.cons ⟨⟨_,rfl⟩,rfl,rfl⟩ (.cons ⟨⟨_,rfl⟩,rfl,⟨_,rfl⟩⟩ .nil)))))⟩,by decide⟩
noncomputable def kl_WORTHS_OF_VERBS:List (Str×V):=[("read",.int (0)),("take",.int (0)),("write",.int (1)),("add",.int (1)),("put",.int (1)),("cut",.int (1)),("has",.int (1)),("swap",.int (2))]
theorem z4v (P:O0):KDict (KX P) P 88 kl_WORTHS_OF_VERBS:=⟨⟨#[⟨(g0 P "read"),(.str "read" 299),(.int (0) 300)⟩,⟨(g0 P "take"),(.str "take" 301),(.int (0) 302)⟩,⟨(g0 P "write"),(.str "write" 303),(.int (1) 304)⟩,⟨(g0 P "add"),(.str "add" 305),(.int (1) 306)⟩,⟨(g0 P "put"),(.str "put" 307),(.int (1) 308)⟩,⟨(g0 P "cut"),(.str "cut" 309),(.int (1) 310)⟩,⟨(g0 P "has"),(.str "has" 311),(.int (1) 312)⟩,⟨(g0 P "swap"),(.str "swap" 313),(.int (2) 314)⟩],8,by kernel_rfl,(.cons ⟨⟨_,rfl⟩,rfl,⟨_,rfl⟩⟩ (.cons ⟨⟨_,rfl⟩,rfl,⟨_,rfl⟩⟩ (.cons ⟨⟨_,rfl⟩,rfl,⟨_,rfl⟩⟩ (.cons ⟨⟨_,rfl⟩,rfl,⟨_,rfl⟩⟩ (.cons ⟨⟨_,rfl⟩,rfl,⟨_,rfl⟩⟩ (.cons ⟨⟨_,rfl⟩,rfl,⟨_,rfl⟩⟩ (.cons ⟨⟨_,rfl⟩,rfl,⟨_,rfl⟩⟩ (.cons ⟨⟨_,rfl⟩,rfl,⟨_,rfl⟩⟩ .nil))))))))⟩,by decide⟩
noncomputable def kl_DOERS:List ((Str×Str)×V):=[(("register","read"),.ref 95),(("register","write"),.ref 102),(("counter","read"),.ref 95),(("counter","add"),.ref 109),(("queue","put"),.ref 116),(("queue","take"),.ref 123),(("set","put"),.ref 130),(("set","cut"),.ref 135),(("set","has"),.ref 142),(("cell","read"),.ref 95),(("cell","write"),.ref 102),(("cell","swap"),.ref 149)]
theorem zje (P:O0):KDictT (KX P) P 150 kl_DOERS:=⟨⟨#[⟨(Q1 (A0 [g0 P "register",g0 P "read"])),(.ref 151),(.ref 95)⟩,⟨(Q1 (A0 [g0 P "register",g0 P "write"])),(.ref 152),(.ref 102)⟩,⟨(Q1 (A0 [g0 P "counter",g0 P "read"])),(.ref 153),(.ref 95)⟩,⟨(Q1 (A0 [g0 P "counter",g0 P "add"])),(.ref 154),(.ref 109)⟩,⟨(Q1 (A0 [g0 P "queue",g0 P "put"])),(.ref 155),(.ref 116)⟩,⟨(Q1 (A0 [g0 P "queue",g0 P "take"])),(.ref 156),(.ref 123)⟩,⟨(Q1 (A0 [g0 P "set",g0 P "put"])),(.ref 157),(.ref 130)⟩,⟨(Q1 (A0 [g0 P "set",g0 P "cut"])),(.ref 158),(.ref 135)⟩,⟨(Q1 (A0 [g0 P "set",g0 P "has"])),(.ref 159),(.ref 142)⟩,⟨(Q1 (A0 [g0 P "cell",g0 P "read"])),(.ref 160),(.ref 95)⟩,⟨(Q1 (A0 [g0 P "cell",g0 P "write"])),(.ref 161),(.ref 102)⟩,⟨(Q1 (A0 [g0 P "cell",g0 P "swap"])),(.ref 162),(.ref 149)⟩],12,by kernel_rfl,(.cons ⟨⟨151,394,395,0,rfl,by kernel_rfl⟩,rfl,rfl⟩ (.cons ⟨⟨152,396,397,0,rfl,by kernel_rfl⟩,rfl,rfl⟩ (.cons ⟨⟨153,398,399,0,rfl,by kernel_rfl⟩,rfl,rfl⟩ (.cons ⟨⟨154,400,401,0,rfl,by kernel_rfl⟩,rfl,rfl⟩ (.cons ⟨⟨155,402,403,0,rfl,by kernel_rfl⟩,rfl,rfl⟩ (.cons ⟨⟨156,404,405,0,rfl,by kernel_rfl⟩,rfl,rfl⟩ (.cons ⟨⟨157,406,407,0,rfl,by kernel_rfl⟩,rfl,rfl⟩ (.cons ⟨⟨158,408,409,0,rfl,by kernel_rfl⟩,rfl,rfl⟩ (.cons ⟨⟨159,410,411,0,rfl,by kernel_rfl⟩,rfl,rfl⟩ (.cons ⟨⟨160,412,413,0,rfl,by kernel_rfl⟩,rfl,rfl⟩ (.cons ⟨⟨161,414,415,0,rfl,by kernel_rfl⟩,rfl,rfl⟩ (.cons ⟨⟨162,416,417,0,rfl,by kernel_rfl⟩,rfl,rfl⟩ .nil))))))))))))⟩,by decide +kernel,by decide⟩
noncomputable abbrev y2e:Stmt:=top 4
noncomputable abbrev y1c:FuncData:=fnX "is_whole" "is_whole" (top 4) "talejudge.basics" 187 20
theorem z6i (P:O0):Fun (KX P) "is_whole" "is_whole" y2e 21 y1c:=z0b
theorem zf5 (P:O0):Binds (KX P) y1c ["value"] []:=(z6i P).binds λ _ _ _ _ _ _=>us1 λ _=>rfl
theorem zdf:FnScope ["value"] ["value"] (z07 y2e):=.k
noncomputable abbrev y26:Stmt:=top 5
noncomputable abbrev y11:FuncData:=fnX "is_within" "is_within" (top 5) "talejudge.basics" 187 27
theorem z50 (P:O0):Fun (KX P) "is_within" "is_within" y26 28 y11:=z0b
theorem zd4 (P:O0):Binds (KX P) y11 ["value","greatest"] []:=(z50 P).binds λ _ _ _ _ _ _=>us2 λ _ _=>rfl
theorem zb4:FnScope ["value","greatest"] ["value","greatest"] (z07 y26):=.k
noncomputable abbrev y2f:Stmt:=top 6
noncomputable abbrev y1d:FuncData:=fnX "is_worth" "is_worth" (top 6) "talejudge.basics" 187 34
theorem z6g (P:O0):Fun (KX P) "is_worth" "is_worth" y2f 35 y1d:=z0b
theorem zek (P:O0):Binds (KX P) y1d ["value"] []:=(z6g P).binds λ _ _ _ _ _ _=>us1 λ _=>rfl
theorem zct:FnScope ["value"] ["value"] (z07 y2f):=.k
noncomputable abbrev y2l:Stmt:=top 7
noncomputable abbrev y1s:FuncData:=fnX "is_name" "is_name" (top 7) "talejudge.basics" 187 39
theorem z7q (P:O0):Fun (KX P) "is_name" "is_name" y2l 40 y1s:=z0b
theorem zhd (P:O0):Binds (KX P) y1s ["value"] []:=(z7q P).binds λ _ _ _ _ _ _=>us1 λ _=>rfl
theorem zff:FnScope ["value"] ["value"] (z07 y2l):=.k
noncomputable abbrev y1j:Stmt:=top 8
noncomputable abbrev y0h:FuncData:=fnX "is_tuple_of" "is_tuple_of" (top 8) "talejudge.basics" 187 46
theorem z2o (P:O0):Fun (KX P) "is_tuple_of" "is_tuple_of" y1j 47 y0h:=z0b
theorem za5 (P:O0):Binds (KX P) y0h ["value","many"] []:=(z2o P).binds λ _ _ _ _ _ _=>us2 λ _ _=>rfl
theorem z7t:FnScope ["value","many"] ["value","many"] (z07 y1j):=.k
noncomputable abbrev y2m:Stmt:=top 26
noncomputable abbrev y1t:FuncData:=fnX "is_kind" "is_kind" (top 26) "talejudge.store" 283 168
theorem z7x (P:O0):Fun (KX P) "is_kind" "is_kind" y2m 169 y1t:=z0b
theorem zgf (P:O0):Binds (KX P) y1t ["kind"] []:=(z7x P).binds λ _ _ _ _ _ _=>us1 λ _=>rfl
theorem zem:FnScope ["kind"] ["kind"] (z07 y2m):=.k
noncomputable abbrev y2n:Stmt:=top 27
noncomputable abbrev y1u:FuncData:=fnX "is_deed" "is_deed" (top 27) "talejudge.store" 283 173
theorem z8k (P:O0):Fun (KX P) "is_deed" "is_deed" y2n 174 y1u:=z0b
theorem zh6 (P:O0):Binds (KX P) y1u ["kind","verb","worth"] []:=(z8k P).binds λ _ _ _ _ _ _=>us3 λ _ _ _=>rfl
theorem sc_is_deed:FnScope ["kind","verb","worth","many"] ["kind","verb","worth"] (z07 y2n):=.k
noncomputable abbrev y2o:Stmt:=top 29
noncomputable abbrev y1v:FuncData:=fnX "planned" "planned" (top 29) "talejudge.plans" 468 180
theorem z7v (P:O0):Fun (KX P) "planned" "planned" y2o 181 y1v:=z0b
theorem zh7 (P:O0):Binds (KX P) y1v ["plan"] []:=(z7v P).binds λ _ _ _ _ _ _=>us1 λ _=>rfl
theorem sc_planned:FnScope ["plan","told","own"] ["plan"] (z07 y2o):=.k
noncomputable abbrev y2p:Stmt:=top 30
noncomputable abbrev y1w:FuncData:=fnX "is_plan" "is_plan" (top 30) "talejudge.plans" 468 185
theorem z8d (P:O0):Fun (KX P) "is_plan" "is_plan" y2p 186 y1w:=z0b
theorem zhf (P:O0):Binds (KX P) y1w ["kind","plan","most_hands","most_deeds"] []:=(z8d P).binds λ _ _ _ _ _ _=>us4 λ _ _ _ _=>rfl
theorem sc_is_plan:FnScope ["kind","plan","most_hands","most_deeds","told"] ["kind","plan","most_hands","most_deeds"] (z07 y2p):=.k
noncomputable abbrev y1y:Stmt:=top 31
noncomputable abbrev y0t:FuncData:=fnX "is_planned" "is_planned" (top 31) "talejudge.plans" 468 192
theorem z3p (P:O0):Fun (KX P) "is_planned" "is_planned" y1y 193 y0t:=z0b
theorem zb1 (P:O0):Binds (KX P) y0t ["kind","deed"] []:=(z3p P).binds λ _ _ _ _ _ _=>us2 λ _ _=>rfl
theorem z95:FnScope ["kind","deed"] ["kind","deed"] (z07 y1y):=.k
noncomputable abbrev y27:Stmt:=top 38
noncomputable abbrev y12:FuncData:=fnX "make_tale" "make_tale" (top 38) "talejudge.tales" 493 200
theorem z4u (P:O0):Fun (KX P) "make_tale" "make_tale" y27 201 y12:=z0b
theorem zd7 (P:O0):Binds (KX P) y12 ["things","events"] []:=(z4u P).binds λ _ _ _ _ _ _=>us2 λ _ _=>rfl
theorem sc_make_tale:FnScope ["things","events","own_things"] ["things","events"] (z07 y27):=.k
noncomputable abbrev y1k:Stmt:=top 39
noncomputable abbrev y0i:FuncData:=fnX "make_things" "make_things" (top 39) "talejudge.tales" 493 205
theorem z2s (P:O0):Fun (KX P) "make_things" "make_things" y1k 206 y0i:=z0b
theorem z8v (P:O0):Binds (KX P) y0i ["things"] []:=(z2s P).binds λ _ _ _ _ _ _=>us1 λ _=>rfl
theorem z7p:FnScope ["things"] ["things"] (z07 y1k):=.k
noncomputable abbrev y2g:Stmt:=top 40
noncomputable abbrev y1e:FuncData:=fnX "is_thing" "is_thing" (top 40) "talejudge.tales" 493 212
theorem z6m (P:O0):Fun (KX P) "is_thing" "is_thing" y2g 213 y1e:=z0b
theorem ze5 (P:O0):Binds (KX P) y1e ["thing"] []:=(z6m P).binds λ _ _ _ _ _ _=>us1 λ _=>rfl
theorem zcq:FnScope ["thing"] ["thing"] (z07 y2g):=.k
noncomputable abbrev y1l:Stmt:=top 41
noncomputable abbrev y0j:FuncData:=fnX "make_events" "make_events" (top 41) "talejudge.tales" 493 217
theorem z2w (P:O0):Fun (KX P) "make_events" "make_events" y1l 218 y0j:=z0b
theorem z9v (P:O0):Binds (KX P) y0j ["events","kinds"] []:=(z2w P).binds λ _ _ _ _ _ _=>us2 λ _ _=>rfl
theorem z8g:FnScope ["events","kinds"] ["events","kinds"] (z07 y1l):=.k
noncomputable abbrev y2h:Stmt:=top 42
noncomputable abbrev y1f:FuncData:=fnX "is_begin" "is_begin" (top 42) "talejudge.tales" 493 224
theorem z67 (P:O0):Fun (KX P) "is_begin" "is_begin" y2h 225 y1f:=z0b
theorem zdw (P:O0):Binds (KX P) y1f ["event","kinds"] []:=(z67 P).binds λ _ _ _ _ _ _=>us2 λ _ _=>rfl
theorem zdb:FnScope ["event","kinds"] ["event","kinds"] (z07 y2h):=.k
noncomputable abbrev y2r:Stmt:=top 43
noncomputable abbrev y28:FuncData:=fnX "is_end" "is_end" (top 43) "talejudge.tales" 493 231
theorem zas (P:O0):Fun (KX P) "is_end" "is_end" y2r 232 y28:=z0b
theorem ziy (P:O0):Binds (KX P) y28 ["event"] []:=(zas P).binds λ _ _ _ _ _ _=>us1 λ _=>rfl
theorem zgo:FnScope ["event"] ["event"] (z07 y2r):=.k
noncomputable abbrev y2i:Stmt:=top 44
noncomputable abbrev y1g:FuncData:=fnX "is_event" "is_event" (top 44) "talejudge.tales" 493 238
theorem z64 (P:O0):Fun (KX P) "is_event" "is_event" y2i 239 y1g:=z0b
theorem zed (P:O0):Binds (KX P) y1g ["event","word","many"] []:=(z64 P).binds λ _ _ _ _ _ _=>us3 λ _ _ _=>rfl
theorem zde:FnScope ["event","word","many"] ["event","word","many"] (z07 y2i):=.k
noncomputable abbrev y2q:Stmt:=top 45
noncomputable abbrev y1x:FuncData:=fnX "is_hand" "is_hand" (top 45) "talejudge.tales" 493 245
theorem z7m (P:O0):Fun (KX P) "is_hand" "is_hand" y2q 246 y1x:=z0b
theorem zgb (P:O0):Binds (KX P) y1x ["hand"] []:=(z7m P).binds λ _ _ _ _ _ _=>us1 λ _=>rfl
theorem zfh:FnScope ["hand"] ["hand"] (z07 y2q):=.k
noncomputable abbrev y29:Stmt:=top 46
noncomputable abbrev y13:FuncData:=fnX "is_answer" "is_answer" (top 46) "talejudge.tales" 493 252
theorem z4h (P:O0):Fun (KX P) "is_answer" "is_answer" y29 253 y13:=z0b
theorem zcx (P:O0):Binds (KX P) y13 ["answer"] []:=(z4h P).binds λ _ _ _ _ _ _=>us1 λ _=>rfl
theorem zau:FnScope ["answer"] ["answer"] (z07 y29):=.k
noncomputable abbrev y1m:Stmt:=top 47
noncomputable abbrev y0k:FuncData:=fnX "go_by_turns" "go_by_turns" (top 47) "talejudge.tales" 493 259
theorem z2q (P:O0):Fun (KX P) "go_by_turns" "go_by_turns" y1m 260 y0k:=z0b
theorem z9m (P:O0):Binds (KX P) y0k ["events"] []:=(z2q P).binds λ _ _ _ _ _ _=>us1 λ _=>rfl
theorem sc_go_by_turns:FnScope ["events","busy","event","begins"] ["events"] (z07 y1m):=.k
noncomputable abbrev y1z:Stmt:=top 55
noncomputable abbrev y0u:FuncData:=fnX "check_plan" "check_plan" (top 55) "talejudge.copies" 582 381
theorem z3v (P:O0):Fun (KX P) "check_plan" "check_plan" y1z 382 y0u:=z0b
theorem zax (P:O0):Binds (KX P) y0u ["many","plan"] []:=(z3v P).binds λ _ _ _ _ _ _=>us2 λ _ _=>rfl
theorem sc_check_plan:FnScope ["many","plan","worths"] ["many","plan"] (z07 y1z):=.k
noncomputable abbrev y20:Stmt:=top 56
noncomputable abbrev y0v:FuncData:=fnX "run_copies" "run_copies" (top 56) "talejudge.copies" 582 388
theorem z3n (P:O0):Fun (KX P) "run_copies" "run_copies" y20 389 y0v:=z0b
theorem zb6 (P:O0):Binds (KX P) y0v ["many","plan","choices","back"] []:=(z3n P).binds λ _ _ _ _ _ _=>us4 λ _ _ _ _=>rfl
theorem sc_run_copies:FnScope ["many","plan","choices","back","copies","choice"] ["many","plan","choices","back"] (z07 y20):=.k
noncomputable abbrev y18:Stmt:=top 58
noncomputable abbrev y0d:FuncData:=fY "_law_cell_at" "_law_cell_at" (top 58) 395
theorem z26 (P:O0):Fun (KX P) "_law_cell_at" "_law_cell_at" y18 396 y0d:=z0b
theorem z7l (P:O0):Binds (KX P) y0d ["script","k"] []:=(z26 P).binds λ _ _ _ _ _ _=>us2 λ _ _=>rfl
theorem z6o:FnScope ["script","k"] ["script","k"] (z07 y18):=.k
noncomputable abbrev y2j:Stmt:=top 59
noncomputable abbrev y1h:FuncData:=fY "_law_mix" "_law_mix" (top 59) 402
theorem z6a (P:O0):Fun (KX P) "_law_mix" "_law_mix" y2j 403 y1h:=z0b
theorem zfw (P:O0):Binds (KX P) y1h ["cell","k"] []:=(z6a P).binds λ _ _ _ _ _ _=>us2 λ _ _=>rfl
theorem sc__law_mix:FnScope ["cell","k","one"] ["cell","k"] (z07 y2j):=.k
noncomputable abbrev y21:Stmt:=top 60
noncomputable abbrev y0w:FuncData:=fY "_law_parts" "_law_parts" (top 60) 409
theorem z3i (P:O0):Fun (KX P) "_law_parts" "_law_parts" y21 410 y0w:=z0b
theorem zbi (P:O0):Binds (KX P) y0w ["cell","least"] []:=(z3i P).binds λ _ _ _ _ _ _=>us2 λ _ _=>rfl
theorem sc__law_parts:FnScope ["cell","least","xs","rest","k"] ["cell","least"] (z07 y21):=.k
noncomputable abbrev y2a:Stmt:=top 61
noncomputable abbrev y14:FuncData:=fY "_law_plan" "_law_plan" (top 61) 414
theorem z4z (P:O0):Fun (KX P) "_law_plan" "_law_plan" y2a 415 y14:=z0b
theorem zcm (P:O0):Binds (KX P) y14 ["script","hands","most","writers"] []:=(z4z P).binds λ _ _ _ _ _ _=>us4 λ _ _ _ _=>rfl
theorem sc__law_plan:FnScope ["script","hands","most","writers","start","step","sign","plan","xs","k","hand","deed"] ["script","hands","most","writers"] (z07 y2a):=.k
noncomputable abbrev y1n:Stmt:=top 62
noncomputable abbrev y0l:FuncData:=fY "_law_copied" "_law_copied" (top 62) 419
theorem z2z (P:O0):Fun (KX P) "_law_copied" "_law_copied" y1n 420 y0l:=z0b
theorem z9g (P:O0):Binds (KX P) y0l ["plan"] []:=(z2z P).binds λ _ _ _ _ _ _=>us1 λ _=>rfl
theorem z8f:FnScope ["plan"] ["plan"] (z07 y1n):=.k
noncomputable abbrev y22:Stmt:=top 63
noncomputable abbrev y0x:FuncData:=fY "_law_begun" "_law_begun" (top 63) 424
theorem z3l (P:O0):Fun (KX P) "_law_begun" "_law_begun" y22 425 y0x:=z0b
theorem zaw (P:O0):Binds (KX P) y0x ["many","plan"] []:=(z3l P).binds λ _ _ _ _ _ _=>us2 λ _ _=>rfl
theorem sc__law_begun:FnScope ["many","plan","state"] ["many","plan"] (z07 y22):=.k
noncomputable abbrev y2b:Stmt:=top 64
noncomputable abbrev y15:FuncData:=fY "_law_free" "_law_free" (top 64) 429
theorem z4p (P:O0):Fun (KX P) "_law_free" "_law_free" y2b 430 y15:=z0b
theorem zd9 (P:O0):Binds (KX P) y15 ["state","plan"] []:=(z4p P).binds λ _ _ _ _ _ _=>us2 λ _ _=>rfl
theorem zb0:FnScope ["state","plan"] ["state","plan"] (z07 y2b):=.k
noncomputable abbrev y2c:Stmt:=top 65
noncomputable abbrev y16:FuncData:=fY "_law_sent" "_law_sent" (top 65) 436
theorem z4m (P:O0):Fun (KX P) "_law_sent" "_law_sent" y2c 437 y16:=z0b
theorem zda (P:O0):Binds (KX P) y16 ["state","hand","stamp","worth"] []:=(z4m P).binds λ _ _ _ _ _ _=>us4 λ _ _ _ _=>rfl
theorem sc__law_sent:FnScope ["state","hand","stamp","worth","copy"] ["state","hand","stamp","worth"] (z07 y2c):=.k
noncomputable abbrev y23:Stmt:=top 66
noncomputable abbrev y0y:FuncData:=fY "_law_ended" "_law_ended" (top 66) 443
theorem z3e (P:O0):Fun (KX P) "_law_ended" "_law_ended" y23 444 y0y:=z0b
theorem zbb (P:O0):Binds (KX P) y0y ["state","hand","answer"] []:=(z3e P).binds λ _ _ _ _ _ _=>us3 λ _ _ _=>rfl
theorem z9l:FnScope ["state","hand","answer"] ["state","hand","answer"] (z07 y23):=.k
noncomputable abbrev y19:Stmt:=top 67
noncomputable abbrev y0e:FuncData:=fY "_law_gone_on" "_law_gone_on" (top 67) 450
theorem z29 (P:O0):Fun (KX P) "_law_gone_on" "_law_gone_on" y19 451 y0e:=z0b
theorem z85 (P:O0):Binds (KX P) y0e ["state","hand","back"] []:=(z29 P).binds λ _ _ _ _ _ _=>us3 λ _ _ _=>rfl
theorem sc__law_gone_on:FnScope ["state","hand","back","deed","stamp","worth"] ["state","hand","back"] (z07 y19):=.k
noncomputable abbrev y2d:Stmt:=top 68
noncomputable abbrev y17:FuncData:=fY "_law_come" "_law_come" (top 68) 457
theorem z4s (P:O0):Fun (KX P) "_law_come" "_law_come" y2d 458 y17:=z0b
theorem zcs (P:O0):Binds (KX P) y17 ["state","letter","back"] []:=(z4s P).binds λ _ _ _ _ _ _=>us3 λ _ _ _=>rfl
theorem sc__law_come:FnScope ["state","letter","back","copy","hand","turn","side","stamp","worth","deed"] ["state","letter","back"] (z07 y2d):=.k
noncomputable abbrev y24:Stmt:=top 69
noncomputable abbrev y0z:FuncData:=fY "_law_moved" "_law_moved" (top 69) 464
theorem z3g (P:O0):Fun (KX P) "_law_moved" "_law_moved" y24 465 y0z:=z0b
theorem zb2 (P:O0):Binds (KX P) y0z ["state","plan","number","back"] []:=(z3g P).binds λ _ _ _ _ _ _=>us4 λ _ _ _ _=>rfl
theorem sc__law_moved:FnScope ["state","plan","number","back","free","hand","verb","worth","at","letter"] ["state","plan","number","back"] (z07 y24):=.k
noncomputable abbrev y1o:Stmt:=top 70
noncomputable abbrev y0m:FuncData:=fY "_law_choice" "_law_choice" (top 70) 471
theorem z2u (P:O0):Fun (KX P) "_law_choice" "_law_choice" y1o 472 y0m:=z0b
theorem z9f (P:O0):Binds (KX P) y0m ["state","plan","x","sure"] []:=(z2u P).binds λ _ _ _ _ _ _=>us4 λ _ _ _ _=>rfl
theorem sc__law_choice:FnScope ["state","plan","x","sure","come","every","number"] ["state","plan","x","sure"] (z07 y1o):=.k
noncomputable abbrev y1p:Stmt:=top 71
noncomputable abbrev y0n:FuncData:=fY "_law_guided" "_law_guided" (top 71) 478
theorem z2t (P:O0):Fun (KX P) "_law_guided" "_law_guided" y1p 479 y0n:=z0b
theorem z96 (P:O0):Binds (KX P) y0n ["script","many","plan","back","sure"] []:=(z2t P).binds λ _ _ _ _ _ _=>us5 λ _ _ _ _ _=>rfl
theorem sc__law_guided:FnScope ["script","many","plan","back","sure","state","choices","cell","k","choice","every"] ["script","many","plan","back","sure"] (z07 y1p):=.k
noncomputable abbrev y2k:Stmt:=top 72
noncomputable abbrev y1i:FuncData:=fY "_law_raw" "_law_raw" (top 72) 485
theorem z6f (P:O0):Fun (KX P) "_law_raw" "_law_raw" y2k 486 y1i:=z0b
theorem zdl (P:O0):Binds (KX P) y1i ["script"] []:=(z6f P).binds λ _ _ _ _ _ _=>us1 λ _=>rfl
theorem sc__law_raw:FnScope ["script","choices","cell","k"] ["script"] (z07 y2k):=.k
noncomputable abbrev y1q:Stmt:=top 73
noncomputable abbrev y0o:FuncData:=fY "_law_events" "_law_events" (top 73) 492
theorem z31 (P:O0):Fun (KX P) "_law_events" "_law_events" y1q 493 y0o:=z0b
theorem z9y (P:O0):Binds (KX P) y0o ["many","plan","choices","back"] []:=(z31 P).binds λ _ _ _ _ _ _=>us4 λ _ _ _ _=>rfl
theorem sc__law_events:FnScope ["many","plan","choices","back","state","choice","every"] ["many","plan","choices","back"] (z07 y1q):=.k
noncomputable abbrev y25:Stmt:=top 74
noncomputable abbrev y10:FuncData:=fY "_law_kinds" "_law_kinds" (top 74) 497
theorem z3y (P:O0):Fun (KX P) "_law_kinds" "_law_kinds" y25 498 y10:=z0b
theorem zak (P:O0):Binds (KX P) y10 ["tale"] []:=(z3y P).binds λ _ _ _ _ _ _=>us1 λ _=>rfl
theorem sc__law_kinds:FnScope ["tale","event"] ["tale"] (z07 y25):=.k
noncomputable abbrev y2s:Stmt:=top 75
noncomputable abbrev fd_law:FuncData:=fY "law" "law" (top 75) 504
theorem F_law (P:O0):Fun (KX P) "law" "law" y2s 505 fd_law:=z0b
theorem sc_law:FnScope ["script","way","hands","plan","many","back","choices","due","handed","kept","tale","some"] ["script"] (z07 y2s):=.k
noncomputable abbrev y0p:Stmt:=subS (top 52) 0
noncomputable abbrev y02:FuncData:=fnX "__init__" "Errand.__init__" (subS (top 52) 0) "talejudge.copies" 582 275
theorem z2d (P:O0):Fun (KX P) "__init__" "Errand.__init__" y0p 276 y02:=z0b
theorem z1g (P:O0):Binds (KX P) y02 ["self","hand","deed","kept"] []:=(z2d P).binds λ _ _ _ _ _ _=>us4 λ _ _ _ _=>rfl
theorem z4i:FnScope ["self","hand","deed","kept"] ["self","hand","deed","kept"] (z07 y0p):=.k
theorem z8b (P:O0):Mk (KX P) 279 276:=⟨by kernel_rfl,by kernel_rfl,by kernel_rfl,by kernel_rfl⟩
theorem z0h (P:O0):Cls (KX P) 279:=⟨by kernel_rfl,by kernel_rfl,by kernel_rfl,by kernel_rfl⟩
theorem z0v (P:O0):NoAttr (KX P) 279 "hand":=by unfold NoAttr;kernel_rfl
theorem z0w (P:O0):NoAttr (KX P) 279 "deed":=by unfold NoAttr;kernel_rfl
theorem z0y (P:O0):NoAttr (KX P) 279 "kept":=by unfold NoAttr;kernel_rfl
theorem z1c (P:O0):NoAttr (KX P) 279 "heard":=by unfold NoAttr;kernel_rfl
noncomputable abbrev y0q:Stmt:=subS (top 53) 0
noncomputable abbrev y03:FuncData:=fnX "__init__" "Letter.__init__" (subS (top 53) 0) "talejudge.copies" 582 296
theorem z2i (P:O0):Fun (KX P) "__init__" "Letter.__init__" y0q 297 y03:=z0b
theorem z2f (P:O0):Binds (KX P) y03 ["self","errand","number","held"] []:=(z2i P).binds λ _ _ _ _ _ _=>us4 λ _ _ _ _=>rfl
theorem z4l:FnScope ["self","errand","number","held"] ["self","errand","number","held"] (z07 y0q):=.k
theorem zbm (P:O0):Mk (KX P) 300 297:=⟨by kernel_rfl,by kernel_rfl,by kernel_rfl,by kernel_rfl⟩
theorem z1w (P:O0):Cls (KX P) 300:=⟨by kernel_rfl,by kernel_rfl,by kernel_rfl,by kernel_rfl⟩
theorem z1m (P:O0):NoAttr (KX P) 300 "errand":=by unfold NoAttr;kernel_rfl
theorem z2r (P:O0):NoAttr (KX P) 300 "number":=by unfold NoAttr;kernel_rfl
theorem z2c (P:O0):NoAttr (KX P) 300 "held":=by unfold NoAttr;kernel_rfl
noncomputable abbrev y0r:Stmt:=subS (top 54) 0
noncomputable abbrev y07:FuncData:=fnX "__init__" "Copies.__init__" (subS (top 54) 0) "talejudge.copies" 582 315
theorem z2h (P:O0):Fun (KX P) "__init__" "Copies.__init__" y0r 316 y07:=z0b
theorem z5h (P:O0):Binds (KX P) y07 ["self","many","plan","back"] []:=(z2h P).binds λ _ _ _ _ _ _=>us4 λ _ _ _ _=>rfl
theorem z4o:FnScope ["self","many","plan","back"] ["self","many","plan","back"] (z07 y0r):=.k
theorem zgy (P:O0):Mk (KX P) 373 316:=⟨by kernel_rfl,by kernel_rfl,by kernel_rfl,by kernel_rfl⟩
theorem z08 (P:O0):Cls (KX P) 373:=⟨by kernel_rfl,by kernel_rfl,by kernel_rfl,by kernel_rfl⟩
theorem z0t (P:O0):NoAttr (KX P) 373 "stock":=by unfold NoAttr;kernel_rfl
theorem z49 (P:O0):NoAttr (KX P) 373 "back":=by unfold NoAttr;kernel_rfl
theorem z2a (P:O0):NoAttr (KX P) 373 "left":=by unfold NoAttr;kernel_rfl
theorem z1k (P:O0):NoAttr (KX P) 373 "idle":=by unfold NoAttr;kernel_rfl
theorem z0s (P:O0):NoAttr (KX P) 373 "letters":=by unfold NoAttr;kernel_rfl
theorem z11 (P:O0):NoAttr (KX P) 373 "events":=by unfold NoAttr;kernel_rfl
noncomputable abbrev y1a:Stmt:=subS (top 54) 1
noncomputable abbrev y0a:FuncData:=fnX "go_on" "Copies.go_on" (subS (top 54) 1) "talejudge.copies" 582 320
theorem z43 (P:O0):Fun (KX P) "go_on" "Copies.go_on" y1a 321 y0a:=z0b
theorem z7k (P:O0):Binds (KX P) y0a ["self","choice"] []:=(z43 P).binds λ _ _ _ _ _ _=>us2 λ _ _=>rfl
theorem sc_Copies_go_on:FnScope ["self","choice","ready","many","chosen","letter"] ["self","choice"] (z07 y1a):=.k
theorem z71 (P:O0):Meth (KX P) 373 "go_on" 321:=⟨by kernel_rfl,by kernel_rfl,by kernel_rfl⟩
noncomputable abbrev y0f:Stmt:=subS (top 54) 2
noncomputable abbrev y05:FuncData:=fnX "begin_deed" "Copies.begin_deed" (subS (top 54) 2) "talejudge.copies" 582 327
theorem z1s (P:O0):Fun (KX P) "begin_deed" "Copies.begin_deed" y0f 328 y05:=z0b
theorem z4b (P:O0):Binds (KX P) y05 ["self","hand"] []:=(z1s P).binds λ _ _ _ _ _ _=>us2 λ _ _=>rfl
theorem sc_Copies_begin_deed:FnScope ["self","hand","deed"] ["self","hand"] (z07 y0f):=.k
theorem z3h (P:O0):Meth (KX P) 373 "begin_deed" 328:=⟨by kernel_rfl,by kernel_rfl,by kernel_rfl⟩
noncomputable abbrev y1r:Stmt:=subS (top 54) 3
noncomputable abbrev y08:FuncData:=fnX "send" "Copies.send" (subS (top 54) 3) "talejudge.copies" 582 334
theorem z5b (P:O0):Fun (KX P) "send" "Copies.send" y1r 335 y08:=z0b
theorem z2x (P:O0):Binds (KX P) y08 ["self","errand"] []:=(z5b P).binds λ _ _ _ _ _ _=>us2 λ _ _=>rfl
theorem sc_Copies_send:FnScope ["self","errand","number"] ["self","errand"] (z07 y1r):=.k
theorem z24 (P:O0):Meth (KX P) 373 "send" 335:=⟨by kernel_rfl,by kernel_rfl,by kernel_rfl⟩
noncomputable abbrev y1b:Stmt:=subS (top 54) 4
noncomputable abbrev y0b:FuncData:=fnX "bring" "Copies.bring" (subS (top 54) 4) "talejudge.copies" 582 341
theorem z48 (P:O0):Fun (KX P) "bring" "Copies.bring" y1b 342 y0b:=z0b
theorem z8j (P:O0):Binds (KX P) y0b ["self","letter"] []:=(z48 P).binds λ _ _ _ _ _ _=>us2 λ _ _=>rfl
theorem z6u:FnScope ["self","letter"] ["self","letter"] (z07 y1b):=.k
theorem z6t (P:O0):Meth (KX P) 373 "bring" 342:=⟨by kernel_rfl,by kernel_rfl,by kernel_rfl⟩
noncomputable abbrev y0c:Stmt:=subS (top 54) 5
noncomputable abbrev y01:FuncData:=fnX "bring_to_copy" "Copies.bring_to_copy" (subS (top 54) 5) "talejudge.copies" 582 348
theorem z1e (P:O0):Fun (KX P) "bring_to_copy" "Copies.bring_to_copy" y0c 349 y01:=z0b
theorem z2p (P:O0):Binds (KX P) y01 ["self","errand","number"] []:=(z1e P).binds λ _ _ _ _ _ _=>us3 λ _ _ _=>rfl
theorem z2l:FnScope ["self","errand","number"] ["self","errand","number"] (z07 y0c):=.k
theorem z2n (P:O0):Meth (KX P) 373 "bring_to_copy" 349:=⟨by kernel_rfl,by kernel_rfl,by kernel_rfl⟩
noncomputable abbrev y0g:Stmt:=subS (top 54) 6
noncomputable abbrev y06:FuncData:=fnX "bring_back" "Copies.bring_back" (subS (top 54) 6) "talejudge.copies" 582 355
theorem z1v (P:O0):Fun (KX P) "bring_back" "Copies.bring_back" y0g 356 y06:=z0b
theorem z3z (P:O0):Binds (KX P) y06 ["self","errand","held"] []:=(z1v P).binds λ _ _ _ _ _ _=>us3 λ _ _ _=>rfl
theorem z3q:FnScope ["self","errand","held"] ["self","errand","held"] (z07 y0g):=.k
theorem z3k (P:O0):Meth (KX P) 373 "bring_back" 356:=⟨by kernel_rfl,by kernel_rfl,by kernel_rfl⟩
noncomputable abbrev y09:Stmt:=subS (top 54) 7
noncomputable abbrev y00:FuncData:=fnX "go_on_from_asking" "Copies.go_on_from_asking" (subS (top 54) 7) "talejudge.copies" 582 362
theorem z10 (P:O0):Fun (KX P) "go_on_from_asking" "Copies.go_on_from_asking" y09 363 y00:=z0b
theorem z1z (P:O0):Binds (KX P) y00 ["self","errand"] []:=(z10 P).binds λ _ _ _ _ _ _=>us2 λ _ _=>rfl
theorem sc_Copies_go_on_from_asking:FnScope ["self","errand","greatest"] ["self","errand"] (z07 y09):=.k
theorem z1q (P:O0):Meth (KX P) 373 "go_on_from_asking" 363:=⟨by kernel_rfl,by kernel_rfl,by kernel_rfl⟩
noncomputable abbrev y0s:Stmt:=subS (top 54) 8
noncomputable abbrev y04:FuncData:=fnX "end_deed" "Copies.end_deed" (subS (top 54) 8) "talejudge.copies" 582 369
theorem z2j (P:O0):Fun (KX P) "end_deed" "Copies.end_deed" y0s 370 y04:=z0b
theorem z2g (P:O0):Binds (KX P) y04 ["self","errand","worth"] []:=(z2j P).binds λ _ _ _ _ _ _=>us3 λ _ _ _=>rfl
theorem z4t:FnScope ["self","errand","worth"] ["self","errand","worth"] (z07 y0s):=.k
theorem z22 (P:O0):Meth (KX P) 373 "end_deed" 370:=⟨by kernel_rfl,by kernel_rfl,by kernel_rfl⟩
section
variable {P:Program} {w:Z0} {mg:Str->Option Value} {base:Heap}
def z36:Sp:=λ vs H Q _=>∃x T,vs=[x]/\TagOf H x T/\Q (.bl (decide (T = "int"))) H
theorem zcv (T:TX (kx w) mg):Fo P w mg base CX0 1 21 y1c ["value"] z36:=by
 refine (z6i w.params).ok zdf (λ b H Q E h=>?_) (λ e A c s H b Q E d h=>?_)
 ·obtain ⟨x,t,rfl,_⟩:=h;rfl
 ·obtain ⟨x,t,rfl,a,q⟩:=h;refine ⟨_,(z05 (ps_ret (pe_and (z06 z0g rfl (T.no (z0e _)) U2 (z01 (pv 0) (z01 (z1h (v:=.ty "int") rfl (T.no (n_int _)) boot_int rfl) pa_nil))) (pe_one (pe_not (z06 z0g rfl (T.no (z0e _)) U2 (z01 (pv 0) (z01 (z1h (v:=.ty "bool") rfl (T.no (n_bool _)) boot_bool rfl) pa_nil)))))))),?_⟩;refine ⟨_,rfl,_,_,_,rfl,a,by decide,_,rfl,?_⟩;by_cases h1:instB t "int" = true
  ·rw [if_pos h1];refine ⟨_,rfl,_,_,_,rfl,a,by decide,_,rfl,?_⟩;rw [z4x a (by decide)];have:(!decide (t = "bool"))=decide (t = "int"):=by rcases a.one with rfl|rfl|rfl|rfl|rfl|rfl|rfl<;>revert h1<;>decide
   rw [this];exact q
  ·rw [if_neg h1];have:decide (t = "int")=false:=by rcases a.one with rfl|rfl|rfl|rfl|rfl|rfl|rfl<;>revert h1<;>decide
   rw [this] at q;exact q
def z3s:Sp:=λ vs H Q _=>∃x T g,vs=[x,.int g]/\TagOf H x T/\Q (.bl (z0j x g)) H
theorem zbe (T:TX (kx w) mg) (c0:Ca P w mg base "is_whole" ["value"] 1 z36):Fo P w mg base CX0 2 28 y11 ["value","greatest"] z3s:=by
 refine (z50 w.params).ok zb4 (λ b H Q E h=>?_) (λ e A d s H b Q E c h=>?_)
 ·obtain ⟨x,t,g,rfl,_⟩:=h;rfl
 ·obtain ⟨x,t,g,rfl,a,q⟩:=h;refine ⟨_,(z05 (ps_ret (pe_and (pe_cal c0 (c.mono (by decide)) rfl (z01 (pv 0) pa_nil)) (pe_one (zft op_le op_le (pe_un un_neg (pv 1)) (pv 0) (pv 1)))))),?_⟩;refine ⟨_,rfl,x,t,rfl,a,_,rfl,?_⟩;by_cases h1:t = "int"
  ·subst h1;obtain ⟨i,rfl⟩:=a.int;refine iteT ?_;refine ⟨_,rfl,_,rfl,_,rfl,_,_,rfl,rfl,_,rfl,?_⟩;unfold z0j at q;dsimp only at q;by_cases h2:-g<=i
   ·rw [decide_eq_true h2] at q⊢;refine iteT ⟨_,rfl,_,_,rfl,rfl,?_⟩;rw [w6] at q;exact q
   ·rw [decide_eq_false h2] at q⊢;refine iteF ?_;rw [Q7] at q;exact q
  ·rw [decide_eq_false h1];refine iteF ?_;rw [noInt a h1] at q;exact q
def z7f:Sp:=λ vs H Q _=>∃x T,vs=[x]/\TagOf H x T/\Q (.bl (z0j x 1000000000)) H
theorem zco (T:TX (kx w) mg) (c0:Ca P w mg base "is_within" ["value","greatest"] 2 z3s):Fo P w mg base CX0 3 35 y1d ["value"] z7f:=by
 refine (z6g w.params).ok zct (λ a H Q E h=>?_) (λ e A d s H a Q E b h=>?_)
 ·obtain ⟨x,t,rfl,_⟩:=h;rfl
 ·obtain ⟨x,t,rfl,c,q⟩:=h;refine ⟨_,(z05 (ps_ret (pe_cal c0 (b.mono (by decide)) rfl (z01 (pv 0) (z01 (z1t (v:=.int (1000000000)) rfl (T.of (z6b _)) ⟨_,rfl⟩) pa_nil))))),?_⟩;exact ⟨_,rfl,x,t,1000000000,rfl,c,q⟩
def z12:Sp:=λ vs H Q _=>∃x T m,vs=[x,.int m]/\TagOf H x T/\Q (.bl (match tupOf H x with|some xs=>decide ((xs.length:Int)=m)|none=>false)) H
theorem z7w (T:TX (kx w) mg):Fo P w mg base CX0 1 47 y0h ["value","many"] z12:=by
 refine (z2o w.params).ok z7t (λ f H Q E h=>?_) (λ j A l s H f Q E k h=>?_)
 ·obtain ⟨x,t,g,rfl,_⟩:=h;rfl
 ·obtain ⟨x,t,g,rfl,b,q⟩:=h;refine ⟨_,(z05 (ps_ret (pe_and (z06 z0g rfl (T.no (z0e _)) U2 (z01 (pv 0) (z01 (z1h (v:=.ty "tuple") rfl (T.no (z5d _)) v7 rfl) pa_nil))) (pe_one (z47 opEq (z06 z0l rfl (T.no (n_len _)) C2 (z01 (pv 0) pa_nil)) (pv 1) (nomark _)))))),?_⟩;refine ⟨_,rfl,_,_,_,rfl,b,by decide,_,rfl,?_⟩;rw [z4x b (by decide)];by_cases h1:t = "tuple"
  ·subst h1;obtain ⟨a,c,rfl,d⟩:=b.tuple;refine iteT ⟨_,rfl,.inl ⟨a,c,rfl,.inr (SqT.of d),_,rfl,rfl,?_⟩⟩;have e:tupOf H (.ref a)=some c:=by unfold tupOf;dsimp only;rw [d]
   rw [e] at q;have i:decide (V.int (c.length:Int)=V.int g)=decide ((c.length:Int)=g):=by simp
   rw [i];exact q
  ·rw [decide_eq_false h1];refine iteF ?_;rw [noTup b h1] at q;exact q
noncomputable def kindB (x:V):Bool:=match x with
 | .str z=>(kl_FIRST_STATES.lookup z).isSome
 | _=>false
def z5x:Sp:=λ vs H Q _=>∃x T,vs=[x]/\TagOf H x T/\Q (.bl (kindB x)) H
theorem zdt (T:TX (kx w) mg):Fo P w mg base CX0 1 169 y1t ["kind"] z5x:=by
 refine (z7x w.params).ok zem (λ b H Q E h=>?_) (λ e A c s H b Q E d h=>?_)
 ·obtain ⟨x,t,rfl,_⟩:=h;rfl
 ·obtain ⟨x,t,rfl,a,q⟩:=h;refine ⟨_,(z05 (ps_ret (pe_and (z06 z0g rfl (T.no (z0e _)) U2 (z01 (pv 0) (z01 (z1h (v:=.ty "str") rfl (T.no (n_str _)) j37 rfl) pa_nil))) (pe_one (z47 (zj0 (z6w _)) (pv 0) (z1t (v:=.ref 85) rfl (T.of (z8c _)) rfl) (by with_unfolding_all rfl)))))),?_⟩;refine ⟨_,rfl,_,_,_,rfl,a,by decide,_,rfl,?_⟩;rw [z4x a (by decide)];by_cases h1:t = "str"
  ·subst h1;obtain ⟨z,rfl⟩:=a.str;exact iteT ⟨_,rfl,z,rfl,rfl,q⟩
  ·rw [decide_eq_false h1];refine iteF ?_;cases x with
   | str z=>exact absurd a h1
   | _=>exact q
noncomputable def formOf (k v:Str):Int:=match kl_DOERS.lookup (k,v) with
 | none=>-1
 | some _=>(match kl_WORTHS_OF_VERBS.lookup v with|some (.int i)=>i|_=>-1)
noncomputable def deedB (H:Hp) (k v x:V):Bool:=match k,v with
 | .str a,.str b=>if formOf a b=0 then decide (x=.non) else if formOf a b=1 then z0j x 1000000000 else if formOf a b=2 then
   (match tupOf H x with|some xs=>decide (xs.length=2) && xs.all λ y=>z0j y 1000000000|none=>false) else false
 | _,_=>false
theorem z9u {a b:Str} {v:V} (h:kl_DOERS.lookup (a,b)=some v):(kl_FIRST_STATES.lookup a).isSome=true/\∃i,kl_WORTHS_OF_VERBS.lookup b=some (.int i)/\(i=0\/i=1\/i=2):=by
 have m:=z5n h;have all :∀p∈kl_DOERS,(kl_FIRST_STATES.lookup p.1.1).isSome=true/\(kl_WORTHS_OF_VERBS.lookup p.1.2=some (.int 0)\/kl_WORTHS_OF_VERBS.lookup p.1.2=some (.int 1)\/kl_WORTHS_OF_VERBS.lookup p.1.2=some (.int 2)):=by decide +kernel
 obtain ⟨d,c⟩:=all _ m;refine ⟨d,?_⟩;rcases c with c|c|c
 ·exact ⟨0,c,.inl rfl⟩
 ·exact ⟨1,c,.inr (.inl rfl)⟩
 ·exact ⟨2,c,.inr (.inr rfl)⟩
def z6h:Sp:=λ vs H Q _=>∃k v x Tk Tv Tx,vs=[k,v,x]/\TagOf H k Tk/\TagOf H v Tv/\TagOf H x Tx/\Flat H x/\∀H',Same H H'->Q (.bl (deedB H k v x)) H'
theorem zev (T:TX (kx w) mg) (c0:Ca P w mg base "is_kind" ["kind"] 1 z5x) (c1:Ca P w mg base "is_worth" ["value"] 3 z7f) (c2:Ca P w mg base "is_tuple_of" ["value","many"] 1 z12):Fo P w mg base CX0 4 174 y1u ["kind","verb","worth"] z6h:=by
 refine (z8k w.params).ok sc_is_deed (λ Z H Q E h=>?_) (λ a1 A a2 s H Z Q E m h=>?_)
 ·obtain ⟨k,v,x,G,O,D,rfl,_⟩:=h;rfl
 ·obtain ⟨k,v,x,G,O,D,rfl,hk,o,B,hf,q⟩:=h;refine ⟨_,(z02 (ps_if (PW.pt (pw_or (pt_not (pt_val (pe_cal c0 (m.mono (by decide)) rfl (z01 (pv 0) pa_nil)) (λ _=>rfl))) (pw_or (pt_not (pt_val (z06 z0g rfl (T.no (z0e _)) U2 (z01 (pv 1) (z01 (z1h (v:=.ty "str") rfl (T.no (n_str _)) j37 rfl) pa_nil))) (λ _=>rfl))) (pw_or1 (z0a (za8 (hu_of m) (zje _)) (pe_tup (z01 (pv 0) (z01 (pv 1) pa_nil))) (z1t (v:=.ref 150) rfl (T.of (zka _)) rfl) (by with_unfolding_all rfl))))))
   (z05 (ps_ret pe_bl))
   z0f)
   (z02 (ps_set (i:=3) sc_is_deed.nd rfl (N1 rfl) (pe_ix (ix_kd (z4v _)) (z1t (v:=.ref 88) rfl (T.of (z5j _)) rfl) (pv 1) (λ _ _=>rfl)))
   (z02 (ps_if (z0a opEq (pv 3) pe_int (nomark _))
   (z05 (ps_ret (z47 op_isN (pv 2) pe_non (nomark _))))
   z0f)
   (z02 (ps_if (z0a opEq (pv 3) pe_int (nomark _))
   (z05 (ps_ret (pe_cal c1 (m.mono (by decide)) rfl (z01 (pv 2) pa_nil))))
   z0f)
   (z05 (ps_ret (pe_and (pe_cal c2 (m.mono (by decide)) rfl (z01 (pv 2) (z01 (pv 3) pa_nil))) (pe_one (z06 (z38 rfl) rfl (T.no (n_all _)) j0i (z01 (pe_cg (xs:=["part"]) (g:=gName 0) (fr:=[]) (pi_tup (pv 2)) (λ _ _ _ _ _=>(pg_cn (N:=["part"]) 0)) (λ _ _ _ _ _=>pf_nil) (λ _ _ _ _ _=>(pe_cal c1 (m.mono (by decide)) rfl (z01 (pv 0) pa_nil)))) pa_nil)))))))))),?_⟩
  refine ⟨_,rfl,k,G,rfl,hk,_,rfl,?_⟩;have S:deedB H k v x=false->Q (.bl false) H:=λ e=>by have:=q H (Same.refl H);rw [e] at this;exact this
  by_cases j :∃a,k=.str a/\(kl_FIRST_STATES.lookup a).isSome=true
  ·obtain ⟨a,rfl,j⟩:=j;have U:kindB (.str a)=true:=j;rw [U];refine iteF ?_;refine ⟨_,rfl,_,_,_,rfl,o,by decide,_,rfl,?_⟩;rw [z4x o (by decide)];by_cases r:O = "str"
   ·subst r;obtain ⟨b,rfl⟩:=o.str;refine iteF ?_;refine ⟨_,rfl,_,rfl,?_⟩;refine ⟨w_2,λ p W=>⟨p,a,b,rfl,z03,rfl,_,rfl,?_⟩⟩;have d:Same H (upd H p (.tup [.str a,.str b])):=Same.upd W;cases h3:kl_DOERS.lookup (a,b) with
    | none=>
     refine iteT ?_;have:=q _ d;have e:deedB H (.str a) (.str b) x=false:=by unfold deedB formOf;dsimp only;rw [h3];rfl
     rw [e] at this;exact this
    | some z=>
     refine iteF ?_;obtain ⟨_,i,I,h5⟩:=z9u h3;have t:formOf a b=i:=by unfold formOf;rw [h3];dsimp only;rw [I]
     refine ⟨_,rfl,b,.int i,rfl,rfl,I,?_⟩;refine ⟨_,rfl,rfl,_,rfl,?_⟩;rcases h5 with rfl|rfl|rfl
     ·refine iteT ⟨_,rfl,rfl,?_⟩;have:=q _ d;have e:deedB H (.str a) (.str b) x=decide (x=.non):=by unfold deedB;dsimp only;rw [t];rfl
      rw [e] at this;exact this
     ·refine iteF ⟨_,rfl,rfl,_,rfl,?_⟩;refine iteT ⟨_,rfl,x,D,rfl,B.same d,?_⟩;have:=q _ d;have e:deedB H (.str a) (.str b) x=z0j x 1000000000:=by unfold deedB;dsimp only;rw [t];rfl
      rw [e] at this;exact this
     ·refine iteF ⟨_,rfl,rfl,_,rfl,?_⟩;refine iteF ⟨_,rfl,_,rfl,x,D,2,rfl,B.same d,_,rfl,?_⟩;rw [zez B d];have e:deedB H (.str a) (.str b) x=(match tupOf H x with|some xs=>decide (xs.length=2) && xs.all λ y=>z0j y 1000000000|none=>false):=by unfold deedB;dsimp only;rw [t];rfl
      rw [e] at q;cases ht:tupOf H x with
      | none=>rw [ht] at q;exact iteF (q _ d)
      | some xs=>
       rw [ht] at q;dsimp only at q⊢;by_cases n:xs.length=2
       ·have u:((xs.length:Nat):Int)=2:=by omega
        rw [if_pos (decide_eq_true u)];rw [decide_eq_true n,w6] at q;obtain ⟨c,rfl,hc⟩:=zee ht;have a0:xs.length<=sizeLine:=by rw [n];decide
        refine e_cb1 ?_;refine zci (K:=KX w.params) (a:=c) (xs:=xs) (H1:=upd H p (.tup [.str a,.str b])) (λ _=>true) (λ i y _=>y=.bl (z0j (xs[i]?.getD .non) 1000000000)) (λ _ _ _ _ _ z=>z) (λ R h=>⟨_,rfl,h⟩) (SqT.of (d _ _ hc)) a0 ?_ ?_
        ·intro i M C Y F L KT KF k1 k2;obtain ⟨Ty,ty⟩:=(hf xs ht).2 C (A1 L);refine ⟨[some C],rfl,rfl,iteT ?_⟩;exact ⟨_,rfl,C,Ty,rfl,(ty.same d).same F,k1 rfl _ _ (Same.refl _) (by rw [L];rfl)⟩
        ·intro l Y ys F n J;rw [List.filter_eq_self.mpr (λ _ _=>rfl)] at J;have ey:ys=xs.map λ y=>V.bl (z0j y 1000000000):=by
          rw [z1l (f:=λ i=>V.bl (z0j (xs[i]?.getD .non) 1000000000)) J];apply V6
          ·simp
          ·intro i j r;have M:i < xs.length:=by simpa using j
           simp [v0 M]
         subst ey;refine ⟨l,_,rfl,SqL.of z03,λ y hy=>?_,?_⟩
         ·obtain ⟨z,_,rfl⟩:=List.mem_map.mp hy;exact ⟨_,rfl⟩
         ·have X:((xs.map λ y=>V.bl (z0j y 1000000000)).all λ y=>decide (y=V.bl true))=xs.all λ y=>z0j y 1000000000:=by rw [E8];congr 1;funext y;simp
          rw [X];exact q _ ((d.trans F).trans (Same.upd n))
       ·have u:¬ ((xs.length:Nat):Int)=2:=by omega
        rw [if_neg (by rw [decide_eq_false u];exact B1)];rw [decide_eq_false n,Q7] at q;exact q _ d
   ·rw [decide_eq_false r];refine iteT ?_;exact S (by unfold deedB;cases v with|str z=>exact absurd o r|_=>rfl)
  ·have e1:kindB k=false:=by
    cases k with
    | str z=>exact Bool.eq_false_iff.mpr λ e=>j ⟨z,rfl,e⟩
    | _=>rfl
   rw [e1];refine iteT ?_;refine S ?_;cases k with
   | str a=>
    cases v with
    | str b=>
     unfold deedB formOf;dsimp only;cases h3:kl_DOERS.lookup (a,b) with
     | none=>rfl
     | some z=>exact absurd ⟨a,rfl,(z9u h3).1⟩ j
    | _=>rfl
   | _=>rfl
inductive Ev
 | beg (h:Int) (n v x:V)
 | fin (h:Int) (a:V)
structure Rc where
 h:Int
 n:V
 v:V
 x:V
 a:V
 b:Nat
 e:Option Nat
noncomputable def endV:Option Nat->V
 | none=>.non
 | some i=>.int i
def RcAt (K:j0) (H:Hp) (r:Rc) (y:V):Prop:=∃p,y=.ref p/\SqT K H p [.int r.h,r.n,r.v,r.x,r.a,.int r.b,endV r.e]
theorem z61 {n j:Nat} (h:j < n):ixN n (j:Nat)=some j:=by unfold ixN;rw [if_pos (by omega),if_pos (by omega)];rfl
theorem Same.keep {H H':Hp} {l:Addr} {o:HO} (s:Same H H') (n:H l=none):Same H (upd H' l o):=λ a x e=>by rw [upd_ne (z0o e n)];exact s a x e
theorem z1j {α β:Type} {R:α->β->Prop} {x:α} {y:β} :∀{xs:List α} {ys:List β},All2 R xs ys->R x y->All2 R (xs++[x]) (ys++[y])
 | _,_,.nil,h=>.cons h .nil
 | _,_,.cons a r,h=>.cons a (z1j r h)
theorem zja {κ:Type} [DecidableEq κ] {kvs:List (κ×V)} {k:κ} {v:V}:(putK kvs k v).length<=kvs.length + 1:=by
 unfold putK;by_cases z:(kvs.any λ a=>decide (a.1=k))=true
 ·rw [if_pos z,G0];omega
 ·rw [if_neg z,I0];exact J0 _
theorem z0q {α β:Type} {R:α->β->Prop} :∀{xs:List α} {ys:List β} {i:Nat} {x:α},All2 R xs ys->xs[i]? = some x->∃y,ys[i]? = some y/\R x y
 | _,_,i,x,.nil,e=>by simp at e
 | _,_,0,x,.cons a _,e=>by rw [E4] at e;cases e;exact ⟨_,E4,a⟩
 | _,_,i + 1,x,.cons _ r,e=>by rw [Z2] at e;obtain ⟨y,b,c⟩:=z0q r e;exact ⟨y,by rw [Z2];exact b,c⟩
end
section
noncomputable def oStep (os:List Int):Ev->List Int
 | .beg h _ _ _=>os++[h]
 | .fin h _=>os.filter λ k=>decide (k≠h)
noncomputable def oOk (os:List Int):Ev->Prop
 | .beg h _ _ _=>h∉os
 | .fin h _=>h∈os
noncomputable def EWf:List Int->List Ev->Prop
 | _,[]=>True
 | os,e :: es=>oOk os e/\EWf (oStep os e) es
theorem EWf.snoc :∀{es:List Ev} {os:List Int} {e:Ev},EWf os es->oOk (es.foldl oStep os) e->EWf os (es++[e])
 | [],os,e,_,h=>⟨h,trivial⟩
 | x :: es,os,e,w,h=>⟨w.1,EWf.snoc w.2 h⟩
structure DInv (i:Nat) (rs:List Rc) (os:List Int):Prop where
 b :∀r∈rs,r.b < i
 e :∀r∈rs,∀e,r.e=some e->e < i
 p :∀(x y:Nat) (r q:Rc),x < y->rs[x]? = some r->rs[y]? = some q->r.b < q.b/\(r.h=q.h->∃e,r.e=some e/\e < q.b)
 o :∀r∈rs,r.h∉os->r.e.isSome=true
 m :∀h∈os,h∈rs.map Rc.h
theorem zd0 {kvs:List (Key×V)} {k:Key}:(valV kvs k).isSome=true↔k∈kvs.map (·.1):=by
 induction kvs with
 | nil=>simp [valV]
 | cons p r ih=>
  obtain ⟨a,pv⟩:=p;by_cases y:a=k
  ·subst y;rw [z1b rfl];simp
  ·rw [z15 y,ih,U1,D3];exact ⟨λ z=>.inr z,λ z=>z.resolve_left λ x=>y x.symm⟩
theorem zf7 {kvs:List (Key×V)} {k:Key} {v:V} (h:k∉kvs.map (·.1)):putK kvs k v=kvs++[(k,v)]:=by unfold putK;rw [if_neg];intro z;obtain ⟨p,a,e⟩:=List.any_eq_true.mp z;exact h (List.mem_map.mpr ⟨p,a,of_decide_eq_true e⟩)
theorem z20 {α β:Type} {R:α->β->Prop} :∀{xs:List α} {ys:List β},ys.length=xs.length->(∀(k:Nat) a b,xs[k]? = some a->ys[k]? = some b->R a b)->All2 R xs ys
 | [],[],_,_=>.nil
 | [],y :: ys,h,_=>by cases h
 | x :: xs,[],h,_=>by cases h
 | x :: xs,y :: ys,h,f=>.cons (f 0 x y rfl rfl) (z20 (by simpa using h) λ k a b d c=>f (k + 1) a b (by rw [Z2];exact d) (by rw [Z2];exact c))
end
section
variable {P:Program} {w:Z0} {mg:Str->Option Value} {base:Heap}
structure NameOk (z:Str):Prop where
 l1:1<=z.length
 l8:z.length<=8
 s :∀c∈z.cps.toList,97<=c/\c<=122
theorem NameOk.ascii {z:Str} (h:NameOk z):z.cps.all (· < 128)=true:=by rw [Array.all_eq_true_iff_forall_mem];intro c a;have:=h.s c (Array.mem_toList_iff.mpr a);exact decide_eq_true (by omega)
theorem zha :∀k:Fin 26,(N7 ("abcdefghijklmnopqrstuvwxyz" : Str) ⟨#[97 + k.val]⟩ 0 ("abcdefghijklmnopqrstuvwxyz" : Str).length 1).isEmpty=false:=by decide +kernel
theorem zgm {c:Nat} (h:97<=c/\c<=122):(N7 ("abcdefghijklmnopqrstuvwxyz" : Str) ⟨#[c]⟩ 0 ("abcdefghijklmnopqrstuvwxyz" : Str).length 1).isEmpty=false:=by have:=zha ⟨c - 97,by omega⟩;rw [show 97 + (c - 97)=c by omega] at this;exact this
def z6d:Sp:=λ vs H Q _=>∃z:Str,vs=[.str z]/\NameOk z/\∀H',Same H H'->Q (.bl true) H'
theorem zer (T:TX (kx w) mg):Fo P w mg base CX0 1 40 y1s ["value"] z6d:=by
 refine (z7q w.params).ok zff (λ j H Q E h=>?_) (λ C A J s H j Q E G h=>?_)
 ·obtain ⟨z,rfl,_⟩:=h;rfl
 ·obtain ⟨z,rfl,b,q⟩:=h;refine ⟨_,(z02 (ps_if (PW.pt (pw_or (pt_not (pt_val (z06 z0g rfl (T.no (z0e _)) U2 (z01 (pv 0) (z01 (z1h (v:=.ty "str") rfl (T.no (n_str _)) j37 rfl) pa_nil))) (λ _=>rfl))) (pw_or1 (pt_not (ziv op_le op_le pe_int (z06 z0l rfl (T.no (n_len _)) C2 (z01 (pv 0) pa_nil)) (z1t (v:=.int (8)) rfl (T.of (z87 _)) ⟨_,rfl⟩))))))
   (z05 (ps_ret pe_bl))
   z0f)
   (z05 (ps_ret (z06 (z38 rfl) rfl (T.no (n_all _)) j0i (z01 (pe_cg (xs:=["sign"]) (g:=gName 0) (fr:=[]) (pi_str (pv 0)) (λ _ _ _ _ _=>(pg_cn (N:=["sign"]) 0)) (λ _ _ _ _ _=>pf_nil) (λ _ _ _ _ _=>(z47 zhk (pv 0) (z1t (v:=.str "abcdefghijklmnopqrstuvwxyz") rfl (T.of (z6y _)) ⟨_,rfl⟩) (by with_unfolding_all rfl)))) pa_nil))))),?_⟩
  have F:=b.l1;have f:=b.l8;refine sq_if (t_or ?_);refine ⟨_,rfl,_,_,"str",rfl,rfl,by decide,_,rfl,iteN (by decide) ?_⟩;refine ⟨_,rfl,.inr ⟨z,rfl,L0 f (by decide),_,_,rfl,rfl,_,rfl,?_⟩⟩;refine iteP (decide_eq_true (by omega)) ?_;refine ⟨_,_,rfl,rfl,_,rfl,iteN (by rw [decide_eq_true (show (z.length:Int)<=8 by omega)];decide) ?_⟩;refine t_nx (sq_ret (e_cb1 ?_));refine tcompS (x:=z) (H1:=H) (λ _=>true) (λ _ y _=>y=.bl true) (λ _ _ _ _ _ z=>z) (λ R h=>⟨_,rfl,h⟩) b.ascii (L0 (m:=8) f (by decide)) ?_ ?_
  ·intro i I v H1 d n KT B l D;obtain ⟨c,o,rfl⟩:=n;have t:c∈z.cps.toList:=Array.mem_toList_iff.mpr (j31 o);refine ⟨[some (.str ⟨#[c]⟩)],rfl,rfl,iteT ?_⟩;refine ⟨_,rfl,_,_,rfl,rfl,?_⟩;rw [zgm (b.s c t)];exact l rfl _ _ (Same.refl _) rfl
  intro p H1 bs d k r;have e :∀y∈bs,y=.bl true:=λ y a=>by obtain ⟨m,u⟩:=List.mem_iff_getElem?.mp a;obtain ⟨_,_,z⟩:=z0n r u;exact z
  refine ⟨p,bs,rfl,SqL.of z03,λ y a=>⟨true,e y a⟩,?_⟩;rw [List.all_eq_true.mpr (λ y a=>decide_eq_true (e y a))];exact q _ (d.trans (Same.upd k))
structure ThingOk (t:Str×Str):Prop where
 n:NameOk t.1
 k:kindB (.str t.2)=true
def ThV (H:Hp) (t:Str×Str) (y:V):Prop:=∃p,y=.ref p/\H p=some (.tup [.str t.1,.str t.2])
theorem ThV.same {H H':Hp} {t:Str×Str} {y:V} (s:Same H H') (h:ThV H t y):ThV H' t y:=h.elim λ p z=>⟨p,z.1,s _ _ z.2⟩
theorem z4k {H:Hp} {p:Addr} {xs:List V} (e:H p=some (.tup xs)):tupOf H (.ref p)=some xs:=by unfold tupOf;dsimp only;rw [e]
def z7c:Sp:=λ vs H Q _=>∃t y,vs=[y]/\ThV H t y/\ThingOk t/\∀H',Same H H'->Q (.bl true) H'
theorem zd5 (T:TX (kx w) mg) (c0:Ca P w mg base "is_tuple_of" ["value","many"] 1 z12) (c1:Ca P w mg base "is_name" ["value"] 1 z6d) (c2:Ca P w mg base "is_kind" ["kind"] 1 z5x):Fo P w mg base CX0 2 213 y1e ["thing"] z7c:=by
 refine (z6m w.params).ok zcq (λ d H Q E h=>?_) (λ g A f s H d Q E b h=>?_)
 ·obtain ⟨t,y,rfl,_⟩:=h;rfl
 ·obtain ⟨t,y,rfl,⟨p,rfl,a⟩,ok,q⟩:=h;refine ⟨_,(z05 (ps_ret (pe_and (pe_cal c0 (b.mono (by decide)) rfl (z01 (pv 0) (z01 pe_int pa_nil))) (pe_and (pe_cal c1 (b.mono (by decide)) rfl (z01 (pe_ix ix_seq (pv 0) pe_int (λ _ _=>rfl)) pa_nil)) (pe_one (pe_cal c2 (b.mono (by decide)) rfl (z01 (pe_ix ix_seq (pv 0) pe_int (λ _ _=>rfl)) pa_nil))))))),?_⟩;refine ⟨_,rfl,_,"tuple",2,rfl,.inr (.inl ⟨⟨_,a⟩,rfl⟩),?_⟩;rw [z4k a];refine ⟨_,rfl,iteP (by simp) ?_⟩;refine ⟨_,rfl,.inr (.inl ⟨p,_,0,.str t.1,rfl,rfl,SqT.of a,z09 (j:=0) rfl,t.1,rfl,ok.n,λ e c=>⟨true,rfl,iteP rfl ?_⟩⟩)⟩;refine ⟨_,rfl,.inr (.inl ⟨p,_,1,.str t.2,rfl,rfl,SqT.of (c _ _ a),z09 (j:=1) rfl,_,"str",rfl,rfl,?_⟩)⟩;rw [ok.k];exact q _ c
theorem zgu {H:Hp} {ts:List (Str×Str)} {ys zs:List V}:All2 (ThV H) ts ys->(All2 (λ (i:Nat) z=>z=V.str ((ts[i]?.getD ("","")).1)) (V0 ys.length) zs)->zs=(ts.map (·.1)).map V.str:=λ c e=>by
 have d:ys.length=ts.length:=z04 c;rw [z1l e,d];apply V6
 ·simp
 ·intro i a b;have f:i < ts.length:=by simpa using a
  simp [v0 f]
theorem z8w :∀(us ns:List Str),us.Nodup->(∀u∈us,u∉ns)->(us.foldl addT ns).length=ns.length + us.length
 | [],ns,_,_=>rfl
 | u :: us,ns,nd,h=>by
  rw [D5] at nd;have e:addT ns u=ns++[u]:=by unfold addT;rw [if_neg (h u (.head _))]
  rw [J4,e,z8w us (ns++[u]) nd.2 λ v a z=>?_]
  ·simp only [I0,X0,X3];omega
  ·rcases List.mem_append.mp z with z|z
   ·exact h v (.tail _ a) z
   ·rw [List.mem_singleton.mp z] at a;exact nd.1 a
theorem zhz {K:j0} {H:Hp} :∀{ts:List (Str×Str)} {ys:List V},All2 (ThV H) ts ys->All2 (λ y k=>∃(p:Addr) (r:List V),y=V.ref p/\SqT K H p (.str k :: r)) ys (ts.map (·.1))
 | _,_,.nil=>.nil
 | _,_,.cons a r=>.cons (a.elim λ p z=>⟨p,_,z.1,SqT.of z.2⟩) (zhz r)
def z46 (K:j0):Sp:=λ vs H Q _=>∃a ys ts,vs=[.ref a]/\H a=some (.lst ys)/\All2 (ThV H) ts ys/\ts.length<=6/\(ts.map (·.1)).Nodup/\(∀t∈ts,ThingOk t)/\∀(p:List Nat) c H',Same H H'->H' c=some (.tup (p.map λ i=>ys.getD i .non))->p.Perm (V0 ys.length)->(p.map λ i=>(ts.map (·.1)).getD i ("" : Str)).Pairwise (λ x y=>ltS x y=true)->Q (.ref c) H'
theorem z88 (T:TX (kx w) mg) (c0:Ca P w mg base "is_thing" ["thing"] 2 z7c):Fo P w mg base CX0 3 206 y0i ["things"] (z46 (kx w)):=by
 refine (z2s w.params).ok z7p (λ vs H Q E h=>?_) (λ a4 A a5 s H vs Q E hr h=>?_)
 ·obtain ⟨a,f,b,rfl,_⟩:=h;rfl
 ·obtain ⟨a,f,b,rfl,r,I,l6,O,ok,q⟩:=h;refine ⟨_,(z02 (ps_if (PW.pt (pw_or (pt_not (pt_val (z06 z0g rfl (T.no (z0e _)) U2 (z01 (pv 0) (z01 (z1h (v:=.ty "list") rfl (T.no (n_list _)) V8 rfl) pa_nil))) (λ _=>rfl))) (pw_or1 (pt_not (pt_val (z06 (z38 rfl) rfl (T.no (n_all _)) j0i (z01 (pe_cg (xs:=["thing"]) (g:=gName 0) (fr:=[]) (z14 (pv 0)) (λ _ _ _ _ _=>(pg_cn (N:=["thing"]) 0)) (λ _ _ _ _ _=>pf_nil) (λ _ _ _ _ _=>(pe_cal c0 (hr.mono (by decide)) rfl (z01 (pv 0) pa_nil)))) pa_nil)) (λ _=>rfl))))))
   (z05 z4r)
   z0f)
   (z02 (ps_if (z0a op_gt (z06 z0l rfl (T.no (n_len _)) C2 (z01 (pv 0) pa_nil)) (z1t (v:=.int (6)) rfl (T.of (z9i _)) ⟨_,rfl⟩) (nomark _))
   (z05 z4r)
   z0f)
   (z02 (ps_if (z0a op_lt (ze7 rfl rfl (T.no (n_len _)) rfl (T.no (n_set _)) C2 boot_set (pe_cg (xs:=["thing"]) (g:=gName 0) (fr:=[]) (z14 (pv 0)) (λ _ _ _ _ _=>(pg_cn (N:=["thing"]) 0)) (λ _ _ _ _ _=>pf_nil) (λ _ _ _ _ _=>(pe_ix (z73 (K:=KX w.params) rfl) (pv 0) pe_int (λ _ _=>rfl))))) (z06 z0l rfl (T.no (n_len _)) C2 (z01 (pv 0) pa_nil)) (nomark _))
   (z05 z4r)
   z0f)
   (z05 (ps_ret (z1u z1x rfl (T.no (z5d _)) v7 (z01 (z06 zbd rfl (T.no (zj7 _)) boot_sorted (z01 (pv 0) pa_nil)) pa_nil))))))),?_⟩
  have ly:f.length=b.length:=z04 I;refine sq_if (t_or ?_);refine ⟨_,rfl,_,_,"list",rfl,.inl ⟨⟨_,r⟩,rfl⟩,by decide,_,rfl,iteN (by decide) ?_⟩;refine tB_not (e_cb1 ?_);refine z2b (K:=KX w.params) (a:=a) (xs:=f) (H1:=H) (λ _=>true) (λ _ y _=>y=.bl true) (λ _ _ _ _ _ z=>z) (λ R h=>⟨_,rfl,h⟩) (SqL.of r) (L0 (m:=6) (by omega) (by decide)) ?_ ?_
  ·intro i hi v H1 u F KT Y G k2;obtain ⟨t,B,tv⟩:=z0n I F;refine ⟨[some v],rfl,rfl,iteT ?_⟩;exact ⟨_,rfl,t,v,rfl,tv.same u,ok t (A1 B),λ S d=>G rfl _ _ d rfl⟩
  intro U H1 bs u a1 a3;have L :∀y∈bs,y=.bl true:=λ y k=>by obtain ⟨m,hm⟩:=List.mem_iff_getElem?.mp k;obtain ⟨_,_,z⟩:=z0n a3 hm;exact z
  refine ⟨U,bs,rfl,SqL.of z03,λ y k=>⟨true,L y k⟩,?_⟩;rw [List.all_eq_true.mpr (λ y k=>decide_eq_true (L y k))];refine ⟨_,rfl,iteN (by decide) ?_⟩;have d:=u.trans (Same.upd (o:=.lst bs) a1);generalize upd H1 U (.lst bs)=S at d⊢;have J:=d _ _ r;have C:=z00 (λ _ _ z=>ThV.same d z) I;refine t_nx (sq_if ?_);refine ⟨_,rfl,.inl ⟨a,_,rfl,.inl (SqL.of J),_,_,rfl,rfl,_,rfl,iteN (λ e=>absurd (of_decide_eq_true e) (by omega)) ?_⟩⟩;refine t_nx (sq_if (t_test (zkw ?_)));refine z2b (K:=KX w.params) (a:=a) (xs:=f) (H1:=S) (λ _=>true) (λ i y _=>y=.str ((b[i]?.getD ("","")).1)) (λ _ _ _ _ _ z=>z) (λ R h=>⟨_,rfl,h⟩) (SqL.of J) (L0 (m:=6) (by omega) (by decide)) ?_ ?_
  ·intro i hi v D x F KT Y G k2;obtain ⟨t,B,p,rfl,ep⟩:=z0n C F;refine ⟨[some (.ref p)],rfl,rfl,iteT ?_⟩;exact ⟨_,rfl,.inr (.inl ⟨p,_,0,.str t.1,rfl,rfl,SqT.of (x _ _ ep),z09 (j:=0) rfl,G rfl _ _ (Same.refl _) (by rw [B];rfl)⟩)⟩
  intro n D zs x a0 X;rw [List.filter_eq_self.mpr (λ _ _=>rfl)] at X;have ez:=zgu C X;subst ez;have l:=x.trans (Same.upd (o:=.lst ((b.map (·.1)).map V.str)) a0);have M:upd D n (.lst ((b.map (·.1)).map V.str)) n=some (.lst ((b.map (·.1)).map V.str)):=z03;generalize upd D n (.lst ((b.map (·.1)).map V.str))=H4 at l M⊢;have W:=l _ _ J;have Z:=z00 (λ _ _ z=>ThV.same l z) C;refine ⟨n,b.map (·.1),rfl,SqL.of M,by rw [G0];omega,_,rfl,.inl ⟨a,_,rfl,.inl (SqL.of W),_,_,rfl,rfl,_,rfl,iteN (λ e=>absurd (of_decide_eq_true e) ?_) ?_⟩⟩
  ·rw [z8w _ [] O (λ _ _=>K0),X3,G0];omega
  refine t_nx (sq_ret ?_);refine ⟨_,rfl,a,f,b.map (·.1),rfl,SqL.of W,zhz Z,by omega,O,λ l5 p a2 pp pw=>?_⟩;have s5:=l.trans (Same.upd (o:=.lst (p.map λ i=>f.getD i .non)) a2);refine ⟨l5,_,rfl,.inl ⟨SqL.of z03,λ c hc=>?_⟩⟩;exact q p c _ (d.trans (s5.trans (Same.upd hc))) z03 pp pw
def za3:Sp:=λ vs H Q _=>∃h:Int,vs=[.int h]/\0<=h/\h<=5/\Q (.bl true) H
theorem ze2 (T:TX (kx w) mg) (c0:Ca P w mg base "is_whole" ["value"] 1 z36):Fo P w mg base CX0 2 246 y1x ["hand"] za3:=by
 refine (z7m w.params).ok zfh (λ a H Q E h=>?_) (λ g A f s H a Q E c h=>?_)
 ·obtain ⟨h,rfl,_⟩:=h;rfl
 ·obtain ⟨h,rfl,d,e,q⟩:=h;refine ⟨_,(z05 (ps_ret (pe_and (pe_cal c0 (c.mono (by decide)) rfl (z01 (pv 0) pa_nil)) (pe_one (zft op_le op_le pe_int (pv 0) (z1t (v:=.int (5)) rfl (T.of (zdc _)) ⟨_,rfl⟩)))))),?_⟩;refine ⟨_,rfl,_,"int",rfl,rfl,_,rfl,iteP (by decide) ?_⟩;refine ⟨_,rfl,_,_,rfl,rfl,_,rfl,?_⟩;rw [decide_eq_true d];refine iteT ⟨_,_,rfl,rfl,?_⟩;have b:decide (h<=5)=true:=decide_eq_true e;show Q (.bl (decide (h<=5))) H;rw [b];exact q
def z4n:Sp:=λ vs H Q _=>∃(p:Addr) (xs:List V) (z wd:Str) (h m:Int),vs=[.ref p,.str wd,.int m]/\H p=some (.tup (.str z :: .int h :: xs))/\0<=h/\h<=5/\Q (.bl (decide (((xs.length + 2:Nat):Int)=m) && decide (z=wd))) H
theorem zd1 (T:TX (kx w) mg) (c0:Ca P w mg base "is_tuple_of" ["value","many"] 1 z12) (c1:Ca P w mg base "is_hand" ["hand"] 2 za3):Fo P w mg base CX0 3 239 y1g ["event","word","many"] z4n:=by
 refine (z64 w.params).ok zde (λ f H Q E h=>?_) (λ k A l s H f Q E d h=>?_)
 ·obtain ⟨p,c,z,b,h,m,rfl,_⟩:=h;rfl
 ·obtain ⟨p,c,z,b,h,m,rfl,a,g,i,q⟩:=h;refine ⟨_,(z05 (ps_ret (pe_and (pe_cal c0 (d.mono (by decide)) rfl (z01 (pv 0) (z01 (pv 2) pa_nil))) (pe_and (z06 z0g rfl (T.no (z0e _)) U2 (z01 (pe_ix ix_seq (pv 0) pe_int (λ _ _=>rfl)) (z01 (z1h (v:=.ty "str") rfl (T.no (n_str _)) j37 rfl) pa_nil))) (pe_and (z47 opEq (pe_ix ix_seq (pv 0) pe_int (λ _ _=>rfl)) (pv 1) (nomark _)) (pe_one (pe_cal c1 (d.mono (by decide)) rfl (z01 (pe_ix ix_seq (pv 0) pe_int (λ _ _=>rfl)) pa_nil)))))))),?_⟩;refine ⟨_,rfl,_,rfl,_,"tuple",m,rfl,.inr (.inl ⟨⟨_,a⟩,rfl⟩),?_⟩;rw [z4k a];refine ⟨_,rfl,?_⟩;by_cases hm:((c.length + 2:Nat):Int)=m;rotate_left
  ·rw [decide_eq_false hm,Q7] at q;exact iteN (λ e=>hm (of_decide_eq_true e)) q
  rw [decide_eq_true hm,w6] at q;refine iteP (decide_eq_true hm) ?_;refine ⟨_,rfl,.inr (.inl ⟨p,_,0,.str z,rfl,rfl,SqT.of a,z09 (j:=0) rfl,_,_,"str",rfl,rfl,by decide,_,rfl,iteP (by decide) ?_⟩)⟩;refine ⟨_,rfl,.inr (.inl ⟨p,_,0,.str z,rfl,rfl,SqT.of a,z09 (j:=0) rfl,_,rfl,rfl,_,rfl,?_⟩)⟩;by_cases hz:z=b
  ·subst hz;refine iteP (decide_eq_true rfl) ?_;rw [decide_eq_true rfl] at q;exact ⟨_,rfl,.inr (.inl ⟨p,_,1,.int h,rfl,rfl,SqT.of a,z09 (j:=1) rfl,h,rfl,g,i,q⟩)⟩
  ·refine iteN (λ e=>hz (by have:=of_decide_eq_true e;injection this)) ?_;rw [decide_eq_false hz] at q;exact q
def AnsOk (a:V):Prop:=a=.str "ok"\/a=.str "none"\/∃i,a=.int i/\z0j (.int i) 1000000000000=true
theorem zfe {H:Hp}:SqT (kx w) H 194 [.str "ok",.str "none"]:=
 .inr ⟨⟨(.type "tuple"),none,(.seq #[(.str "ok" 503),(.str "none" 504)] 0),#[]⟩,#[(.str "ok" 503),(.str "none" 504)],0,by kernel_rfl,rfl,rfl,w_2,.cons ⟨_,rfl⟩ (.cons ⟨_,rfl⟩ .nil)⟩
def z5y:Sp:=λ vs H Q _=>∃a,vs=[a]/\AnsOk a/\Q (.bl true) H
theorem zbg (T:TX (kx w) mg) (c0:Ca P w mg base "is_within" ["value","greatest"] 2 z3s):Fo P w mg base CX0 3 253 y13 ["answer"] z5y:=by
 refine (z4h w.params).ok zau (λ b H Q E h=>?_) (λ e A d s H b Q E c h=>?_)
 ·obtain ⟨a,rfl,_⟩:=h;rfl
 ·obtain ⟨a,rfl,ok,q⟩:=h;refine ⟨_,(z02 (ps_if (pt_val (z06 z0g rfl (T.no (z0e _)) U2 (z01 (pv 0) (z01 (z1h (v:=.ty "str") rfl (T.no (n_str _)) j37 rfl) pa_nil))) (λ _=>rfl))
   (z05 (ps_ret (z47 zc6 (pv 0) (z1t (v:=.ref 194) rfl (T.of (z7i _)) rfl) (by with_unfolding_all rfl))))
   z0f)
   (z05 (ps_ret (pe_cal c0 (c.mono (by decide)) rfl (z01 (pv 0) (z01 (z1t (v:=.int (1000000000000)) rfl (T.of (z5i _)) ⟨_,rfl⟩) pa_nil)))))),?_⟩
  refine sq_if ?_;rcases ok with rfl|rfl|⟨i,rfl,hi⟩
  ·refine ⟨_,rfl,_,_,"str",rfl,rfl,by decide,_,rfl,iteP (by decide) ?_⟩;exact ⟨_,rfl,194,_,rfl,.inr zfe,rfl,rfl,q⟩
  ·refine ⟨_,rfl,_,_,"str",rfl,rfl,by decide,_,rfl,iteP (by decide) ?_⟩;exact ⟨_,rfl,194,_,rfl,.inr zfe,rfl,rfl,q⟩
  ·refine ⟨_,rfl,_,_,"int",rfl,rfl,by decide,_,rfl,iteN (by decide) ?_⟩;refine t_nx (sq_ret ?_);refine ⟨_,rfl,_,"int",_,rfl,rfl,?_⟩;rw [hi];exact q
inductive XOk (H:Hp):Str->Str->V->Prop
 | none {k v:Str}:formOf k v=0->XOk H k v .non
 | one {k v:Str} {i:Int}:formOf k v=1->z0j (.int i) 1000000000=true->XOk H k v (.int i)
 | two {k v:Str} {i j:Int} {p:Addr}:formOf k v=2->H p=some (.tup [.int i,.int j])->z0j (.int i) 1000000000=true->z0j (.int j) 1000000000=true->XOk H k v (.ref p)
theorem XOk.same {H H':Hp} {k v:Str} {x:V} (s:Same H H') (h:XOk H k v x):XOk H' k v x:=by
 cases h with
 | none e=>exact .none e
 | one e h=>exact .one e h
 | two e h1 h2 h3=>exact .two e (s _ _ h1) h2 h3
theorem XOk.deed {H:Hp} {k v:Str} {x:V} (h:XOk H k v x):deedB H (.str k) (.str v) x=true/\(∃T,TagOf H x T)/\Flat H x:=by
 cases h with
 | none e=>refine ⟨?_,⟨"NoneType",rfl⟩,λ b z=>by cases z⟩;unfold deedB;dsimp only;rw [e,if_pos rfl];rfl
 | one e h=>refine ⟨?_,⟨"int",rfl⟩,λ b z=>by cases z⟩;unfold deedB;dsimp only;rw [e,if_neg (by decide),if_pos rfl];exact h
 | two e h1 h2 h3=>
  rename_i i j p;refine ⟨?_,⟨"tuple",.inr (.inl ⟨⟨_,h1⟩,rfl⟩)⟩,λ b z=>?_⟩
  ·unfold deedB;dsimp only;rw [e,if_neg (by decide),if_neg (by decide),if_pos rfl,z4k h1];show (decide ([V.int i,V.int j].length=2) && (z0j (.int i) 1000000000 && (z0j (.int j) 1000000000 && true)))=true;rw [h2,h3];rfl
  ·rw [z4k h1] at z;cases z;refine ⟨(show (2:Nat)<=1000 by decide),λ y a=>?_⟩;simp only [D3,K0,or_false] at a;rcases a with rfl|rfl<;>exact ⟨"int",rfl⟩
noncomputable def EvT (H:Hp) (ts:List (Str×Str)):Ev->V->Prop
 | .beg h n v x,y=>∃p nm k vb,y=.ref p/\H p=some (.tup [.str "begin",.int h,n,v,x])/\0<=h/\h<=5/\n=.str nm/\v=.str vb/\(nm,k)∈ts/\NameOk nm/\XOk H k vb x
 | .fin h a,y=>∃p,y=.ref p/\H p=some (.tup [.str "end",.int h,a])/\0<=h/\h<=5/\AnsOk a
theorem EvT.same {H H':Hp} {ts:List (Str×Str)} (s:Same H H') :∀{e:Ev} {y:V},EvT H ts e y->EvT H' ts e y
 | .beg h n v x,_,⟨p,nm,k,vb,h1,h2,h3,h4,h5,h6,h7,h8,h9⟩=>⟨p,nm,k,vb,h1,s _ _ h2,h3,h4,h5,h6,h7,h8,h9.same s⟩
 | .fin h a,_,⟨p,h1,h2,h3⟩=>⟨p,h1,s _ _ h2,h3⟩
def KdAt (H:Hp) (d:Addr) (ts:List (Str×Str)):Prop:=∃kvs:List (Key×V),H d=some (.dK kvs)/\∀nm k,(nm,k)∈ts->valV kvs (.inr nm)=some (.str k)
theorem KdAt.same {H H':Hp} {d:Addr} {ts:List (Str×Str)} (s:Same H H') (h:KdAt H d ts):KdAt H' d ts:=h.elim λ a z=>⟨a,s _ _ z.1,z.2⟩
noncomputable def isBeg:Ev->Bool
 | .beg _ _ _ _=>true
 | .fin _ _=>false
def z7b:Sp:=λ vs H Q _=>∃e y d ts,vs=[y,.ref d]/\EvT H ts e y/\KdAt H d ts/\∀H',Same H H'->Q (.bl (isBeg e)) H'
theorem zd8 (T:TX (kx w) mg) (c0:Ca P w mg base "is_event" ["event","word","many"] 3 z4n) (c1:Ca P w mg base "is_name" ["value"] 1 z6d) (c2:Ca P w mg base "is_deed" ["kind","verb","worth"] 4 z6h):Fo P w mg base CX0 5 225 y1f ["event","kinds"] z7b:=by
 refine (z67 w.params).ok zdb (λ B H Q E h=>?_) (λ R A U s H B Q E f h=>?_)
 ·obtain ⟨e,y,d,t,rfl,_⟩:=h;rfl
 ·obtain ⟨e,y,d,t,rfl,o,⟨O,J,L⟩,q⟩:=h;refine ⟨_,(z02 (ps_if (PW.pt (pw_or (pt_not (pt_val (pe_cal c0 (f.mono (by decide)) rfl (z01 (pv 0) (z01 pe_str (z01 pe_int pa_nil)))) (λ _=>rfl))) (pw_or (pt_not (pt_val (pe_cal c1 (f.mono (by decide)) rfl (z01 (pe_ix ix_seq (pv 0) pe_int (λ _ _=>rfl)) pa_nil)) (λ _=>rfl))) (pw_or1 (pt_cmp (zg9 (hu_of f) (pe_ix ix_seq (pv 0) pe_int (λ _ _=>rfl)) (pv 1)) (by with_unfolding_all rfl))))))
   (z05 (ps_ret pe_bl))
   z0f)
   (z05 (ps_ret (pe_cal c2 (f.mono (by decide)) rfl (z01 (z0d (hu_of f) (pv 1) (pe_ix ix_seq (pv 0) pe_int (λ _ _=>rfl)) (λ _ _=>rfl)) (z01 (pe_ix ix_seq (pv 0) pe_int (λ _ _=>rfl)) (z01 (pe_ix ix_seq (pv 0) pe_int (λ _ _=>rfl)) pa_nil))))))),?_⟩
  refine sq_if ?_;cases e with
  | fin h a=>obtain ⟨p,rfl,c,l,m,_⟩:=o;refine ⟨_,rfl,p,[a],"end","begin",h,5,rfl,c,l,m,_,rfl,iteP (by rw [show decide (("end" : Str) = "begin")=false by decide +kernel,j18];rfl) ?_⟩;exact iteP rfl (q _ (Same.refl _))
  | beg h n v x=>obtain ⟨p,b,k,N,rfl,c,l,m,rfl,rfl,M,K,z⟩:=o;refine ⟨_,rfl,p,_,"begin","begin",h,5,rfl,c,l,m,_,rfl,iteN (by rw [show decide (("begin" : Str) = "begin")=true by decide +kernel];show ¬ (!(decide (((3 + 2:Nat):Int)=5) && true))=true;decide) ?_⟩;refine ⟨_,rfl,.inr (.inl ⟨p,_,2,.str b,rfl,rfl,SqT.of c,z09 (j:=2) rfl,b,rfl,K,λ r g=>⟨true,rfl,iteN (by decide) ?_⟩⟩)⟩;have C:=g _ _ J;have i:=g _ _ c;have dg:DGet r d (.str b) (some (.str k)):=(L b k M) ▸ DGet.k (k:=.inr b) C;refine ⟨_,rfl,.inr (.inl ⟨p,_,2,.str b,rfl,rfl,SqT.of i,z09 (j:=2) rfl,?_⟩)⟩;refine ⟨_,rfl,d,_,rfl,dg,_,rfl,iteN (by show ¬ (!true)=true;decide) ?_⟩;refine t_nx (sq_ret ?_);obtain ⟨F,⟨D,u⟩,I⟩:=(z.same g).deed;refine ⟨_,rfl,_,rfl,.inr (.inl ⟨p,_,2,.str b,rfl,rfl,SqT.of i,z09 (j:=2) rfl,d,_,rfl,dg,?_⟩)⟩;refine ⟨_,rfl,.inr (.inl ⟨p,_,3,.str N,rfl,rfl,SqT.of i,z09 (j:=3) rfl,?_⟩)⟩;refine ⟨_,rfl,.inr (.inl ⟨p,_,4,x,rfl,rfl,SqT.of i,z09 (j:=4) rfl,_,_,_,"str","str",D,rfl,rfl,rfl,u,I,λ S G=>?_⟩)⟩;rw [F];exact q _ (g.trans G)
def zc0:Sp:=λ vs H Q _=>∃h a y ts,vs=[y]/\EvT H ts (.fin h a) y/\Q (.bl true) H
theorem zgs (T:TX (kx w) mg) (c0:Ca P w mg base "is_event" ["event","word","many"] 3 z4n) (c1:Ca P w mg base "is_answer" ["answer"] 3 z5y):Fo P w mg base CX0 4 232 y28 ["event"] zc0:=by
 refine (zas w.params).ok zgo (λ e H Q E h=>?_) (λ k A l s H e Q E c h=>?_)
 ·obtain ⟨h,a,y,d,rfl,_⟩:=h;rfl
 ·obtain ⟨h,a,y,d,rfl,⟨p,rfl,b,f,g,i⟩,q⟩:=h;refine ⟨_,(z05 (ps_ret (pe_and (pe_cal c0 (c.mono (by decide)) rfl (z01 (pv 0) (z01 pe_str (z01 pe_int pa_nil)))) (pe_one (pe_cal c1 (c.mono (by decide)) rfl (z01 (pe_ix ix_seq (pv 0) pe_int (λ _ _=>rfl)) pa_nil)))))),?_⟩;refine ⟨_,rfl,p,[a],"end","end",h,3,rfl,b,f,g,_,rfl,iteP (by rw [show decide (("end" : Str) = "end")=true by decide +kernel];rfl) ?_⟩;exact ⟨_,rfl,.inr (.inl ⟨p,_,2,a,rfl,rfl,SqT.of b,z09 (j:=2) rfl,a,rfl,i,q⟩)⟩
def z40 (K:j0):Sp:=λ vs H Q _=>∃a ys ts es,vs=[.ref a]/\SqL K H a ys/\All2 (EvT H ts) es ys/\es.length<=1000/\EWf [] es/\∀H',Same H H'->Q (.bl true) H'
theorem z7s (T:TX (kx w) mg):Fo P w mg base CX0 1 260 y0k ["events"] (z40 (kx w)):=by
 refine (z2q w.params).ok sc_go_by_turns (λ S H Q E h=>?_) (λ a0 A a1 s H S Q E D h=>?_)
 ·obtain ⟨a,o,I,f,rfl,_⟩:=h;rfl
 ·obtain ⟨a,o,I,f,rfl,B,F,ln,wf,q⟩:=h;refine ⟨_,(z02 (ps_set (i:=1) sc_go_by_turns.nd rfl (N1 rfl) ziq)
   (z02 (ps_for Y2 rfl (z14 (pv 0)) (z0m (i:=2) sc_go_by_turns.nd rfl (N1 rfl))
   (z02 (ps_set (i:=3) sc_go_by_turns.nd rfl (N1 rfl) (z47 opEq (pe_ix ix_seq (pv 2) pe_int (λ _ _=>rfl)) pe_str (nomark _)))
   (z02 (ps_if (z0a opEq (zjf (hu_of D) (pv 1) (pe_ix ix_seq (pv 2) pe_int (λ _ _=>rfl)) pe_bl ⟨rfl,rfl,rfl,rfl⟩) (pv 3) (nomark _))
   (z05 (ps_ret pe_bl))
   z0f)
   (z05 (z42 (hu_of D) (pv 1) (pe_ix ix_seq (pv 2) pe_int (λ _ _=>rfl)) (pv 3) rfl)))))
   (z05 (ps_ret pe_bl)))),?_⟩
  have ly:o.length=f.length:=z04 F;refine z0c ?_;intro d t;refine g_name ?_;obtain ⟨H0,R,C,M⟩:=newA (.dK []) t;rw [<-R];refine ⟨_,rfl,a,rfl,⟨_,C.seq B⟩,?_⟩;refine z4y (K:=KX w.params) (a:=a) (xs:=o) (λ i σ l=>Same H l/\(∃kvs os,l d=some (.dK kvs)/\kvs.length<=i/\EWf os (f.drop i)/\∀h:Int,(valV kvs (.inl h)).getD (.bl false)=.bl (decide (h∈os)))/\∃x2 x3,σ=[some (.ref a),some (.ref d),x2,x3])
   ⟨C,⟨[],[],M,J0 _,by rw [F6];exact wf,λ h=>by rw [decide_eq_false K0];rfl⟩,_,_,rfl⟩ (λ _ σ l _ h=>h.1.seq B) ?_ ?_
  ·rintro i y σ r U ⟨s1,⟨kvs,os,ed,lk,wf1,kv⟩,x2,x3,rfl⟩;obtain ⟨e,X,Y⟩:=z0n F U;obtain ⟨Z,ee⟩:=List.getElem?_eq_some_iff.mp X;have dr:f.drop i=e :: f.drop (i + 1):=by rw [j1i Z,ee]
   rw [dr] at wf1;have G:=EvT.same s1 Y;refine g_name ?_;obtain ⟨p,xs,z,h,b,g,c,N,W,J,O⟩ :∃(p:Addr) (xs:List V) (z:Str) (h:Int) (b:Bool),y=.ref p/\r p=some (.tup (.str z :: .int h :: xs))/\decide (z = "begin")=b/\decide (h∈os) = !b/\(∀k:Int,decide (k∈oStep os e)=if k=h then b else decide (k∈os))/\EWf (oStep os e) (f.drop (i + 1)):=by
    cases e with
    | beg h n v x=>
     obtain ⟨p,nm,k,vb,g,c,_⟩:=G;refine ⟨p,_,"begin",h,true,g,c,by decide +kernel,by rw [decide_eq_false (show h∉os from wf1.1)];rfl,λ k=>?_,wf1.2⟩;show decide (k∈os++[h])=_;by_cases z:k=h
     ·rw [if_pos z,decide_eq_true (List.mem_append.mpr (.inr (List.mem_singleton.mpr z)))]
     ·rw [if_neg z];by_cases y:k∈os
      ·rw [decide_eq_true y,decide_eq_true (List.mem_append.mpr (.inl y))]
      ·rw [decide_eq_false y,decide_eq_false (λ w=>(List.mem_append.mp w).elim y λ u=>z (List.mem_singleton.mp u))]
    | fin h a'=>
     obtain ⟨p,g,c,_⟩:=G;refine ⟨p,_,"end",h,false,g,c,by decide +kernel,by rw [decide_eq_true (show h∈os from wf1.1)];rfl,λ k=>?_,wf1.2⟩;show decide (k∈os.filter λ j=>decide (j≠h))=_;by_cases z:k=h
     ·rw [if_pos z,decide_eq_false (λ w=>(of_decide_eq_true (List.mem_filter.mp w).2) z)]
     ·rw [if_neg z];by_cases y:k∈os
      ·rw [decide_eq_true y,decide_eq_true (List.mem_filter.mpr ⟨y,decide_eq_true z⟩)]
      ·rw [decide_eq_false y,decide_eq_false (λ w=>y (List.mem_filter.mp w).1)]
   subst g;refine z0c ?_;refine ⟨_,rfl,.inr (.inl ⟨p,_,0,.str z,rfl,rfl,SqT.of c,z09 (j:=0) rfl,rfl,?_⟩)⟩;have L:decide (V.str z=V.str "begin")=b:=by
    rw [<-N];by_cases y:z = "begin"
    ·rw [y,decide_eq_true rfl,decide_eq_true rfl]
    ·rw [decide_eq_false y,decide_eq_false (λ e=>y (by injection e))]
   rw [L];refine g_name ?_;refine sq_if ?_;refine ⟨_,rfl,d,rfl,.inl ⟨_,.inl ed⟩,_,rfl,.inr (.inl ⟨p,_,1,.int h,rfl,rfl,SqT.of c,z09 (j:=1) rfl,_,DGet.k (k:=.inl h) ed,?_⟩)⟩;rw [kv h,W];refine ⟨_,rfl,rfl,_,rfl,iteN (by cases b<;>decide) ?_⟩;refine t_nx ?_;refine ⟨_,rfl,_,rfl,_,rfl,.inr (.inl ⟨p,_,1,.int h,rfl,rfl,SqT.of c,z09 (j:=1) rfl,d,_,rfl,DPut.k (k:=.inl h) ed (W0 (m:=1000) (by omega) (by decide)),?_⟩)⟩;refine ⟨Same.keep s1 t,⟨_,oStep os e,z03,L0 zja (by omega),O,λ k=>?_⟩,_,_,rfl⟩;rw [zad,J k];by_cases z:k=h
   ·rw [if_pos (by rw [z]),if_pos z];rfl
   ·rw [if_neg (λ e=>z (Sum.inl.inj e)),if_neg z];exact kv k
  ·rintro σ r ⟨s1,_,x2,x3,rfl⟩;exact q _ s1
theorem zkg {H:Hp} {ts:List (Str×Str)} {e:Ev} {y:V} (h:EvT H ts e y) :∃(p:Addr) (z:Str) (r:List V),y=.ref p/\H p=some (.tup (.str z :: r))/\decide (z = "begin")=isBeg e:=by
 cases e with
 | beg h n v x=>obtain ⟨p,d,k,f,b,c,_⟩:=h;exact ⟨p,_,_,b,c,(show decide (("begin" : Str) = "begin")=true by decide +kernel)⟩
 | fin h a=>obtain ⟨p,b,c,_⟩:=h;exact ⟨p,_,_,b,c,(show decide (("end" : Str) = "begin")=false by decide +kernel)⟩
theorem zbn {z y:Str}:decide (V.str z=V.str y)=decide (z=y):=by
 by_cases e:z=y
 ·rw [e,decide_eq_true rfl,decide_eq_true rfl]
 ·rw [decide_eq_false e,decide_eq_false (λ x=>e (by injection x))]
def z4f (K:j0):Sp:=λ vs H Q _=>∃a d ys ts es,vs=[.ref a,.ref d]/\H a=some (.lst ys)/\KdAt H d ts/\All2 (EvT H ts) es ys/\es.length<=1000/\(es.filter isBeg).length<=24/\EWf [] es/\∀c H',Same H H'->H' c=some (.tup ys)->Q (.ref c) H'
theorem z7g (T:TX (kx w) mg) (c0:Ca P w mg base "is_begin" ["event","kinds"] 5 z7b) (c1:Ca P w mg base "is_end" ["event"] 4 zc0) (c2:Ca P w mg base "go_by_turns" ["events"] 1 (z40 (kx w))):Fo P w mg base CX0 6 218 y0j ["events","kinds"] (z4f (kx w)):=by
 refine (z2w w.params).ok z8g (λ vs H Q E h=>?_) (λ a9 A b0 s H vs Q E L h=>?_)
 ·obtain ⟨a,d,t,u,k,rfl,_⟩:=h;rfl
 ·obtain ⟨a,d,t,u,k,rfl,F,kd,M,ln,a7,wf,q⟩:=h;refine ⟨_,(z02 (ps_if (PW.pt (pw_or (pt_not (pt_val (z06 z0g rfl (T.no (z0e _)) U2 (z01 (pv 0) (z01 (z1h (v:=.ty "list") rfl (T.no (n_list _)) V8 rfl) pa_nil))) (λ _=>rfl))) (pw_or1 (pt_not (pt_val (z06 (z38 rfl) rfl (T.no (n_all _)) j0i (z01 (pe_cg (xs:=["event"]) (g:=gName 0) (fr:=[(1,"kinds")]) (z14 (pv 0)) (λ _ _ _ _ _=>(pg_cn (N:=["event","kinds"]) 0)) (λ _ _ _ _ _=>pf_nil) (λ _ _ _ _ _=>(pe_or (pe_cal c0 (L.mono (by decide)) rfl (z01 (pv 0) (z01 (pv 1) pa_nil))) (pe_one (pe_cal c1 (L.mono (by decide)) rfl (z01 (pv 0) pa_nil)))))) pa_nil)) (λ _=>rfl))))))
   (z05 z4r)
   z0f)
   (z02 (ps_if (z0a op_gt (z06 z0l rfl (T.no (n_len _)) C2 (z01 (pe_cg (xs:=["event"]) (g:=gName 0) (fr:=[]) (z14 (pv 0)) (λ _ _ _ _ _=>(pg_cn (N:=["event"]) 0)) (λ _ _ _ _ _=>(pf_one (z0a opEq (pe_ix (z73 (K:=KX w.params) rfl) (pv 0) pe_int (λ _ _=>rfl)) pe_str (nomark _)))) (λ _ _ _ _ _=>(pv 0))) pa_nil)) (z1t (v:=.int (24)) rfl (T.of (z9a _)) ⟨_,rfl⟩) (nomark _))
   (z05 z4r)
   z0f)
   (z02 (ps_if (pt_not (pt_val (pe_cal c2 (L.mono (by decide)) rfl (z01 (pv 0) pa_nil)) (λ _=>rfl)))
   (z05 z4r)
   z0f)
   (z05 (ps_ret (z1u z1x rfl (T.no (z5d _)) v7 (z01 (pv 0) pa_nil))))))),?_⟩
  have ly:t.length=k.length:=z04 M;refine sq_if (t_or ?_);refine ⟨_,rfl,_,_,"list",rfl,.inl ⟨⟨_,F⟩,rfl⟩,by decide,_,rfl,iteN (by decide) ?_⟩;refine tB_not (e_cb1 ?_);refine z2b (K:=KX w.params) (a:=a) (xs:=t) (H1:=H) (λ _=>true) (λ _ y _=>y=.bl true) (λ _ _ _ _ _ z=>z) (λ R h=>⟨_,rfl,h⟩) (SqL.of F) (L0 (m:=1000) (by omega) (by decide)) ?_ ?_
  ·intro i hi v H1 B J KT KF l I;obtain ⟨e,W,O⟩:=z0n M J;have a1:=EvT.same B O;refine ⟨[some v],rfl,rfl,iteT ?_⟩;refine ⟨_,rfl,_,rfl,e,v,d,u,rfl,a1,kd.same B,λ X b=>⟨_,rfl,?_⟩⟩;cases e with
   | beg h n v' x=>exact iteP rfl (l rfl _ _ b rfl)
   | fin h a'=>exact iteN (λ z=>by cases z) ⟨_,rfl,h,a',v,u,rfl,EvT.same b a1,l rfl _ _ b rfl⟩
  intro Y H1 bs B a5 a6;have S :∀y∈bs,y=.bl true:=λ y f=>by obtain ⟨m,hm⟩:=List.mem_iff_getElem?.mp f;obtain ⟨_,_,z⟩:=z0n a6 hm;exact z
  refine ⟨Y,bs,rfl,SqL.of z03,λ y f=>⟨true,S y f⟩,?_⟩;rw [List.all_eq_true.mpr (λ y f=>decide_eq_true (S y f))];refine ⟨_,rfl,iteN (by decide) ?_⟩;have b:=B.trans (Same.upd (o:=.lst bs) a5);generalize upd H1 Y (.lst bs)=X at b⊢;have a2:=b _ _ F;have U:=z00 (λ _ _ z=>EvT.same b z) M;refine t_nx (sq_if (zif ?_));refine z2b (K:=KX w.params) (a:=a) (xs:=t) (H1:=X) (λ i=>isBeg (k[i]?.getD (.fin 0 .non))) (λ _ y _=>True) (λ _ _ _ _ _ z=>z) (λ R h=>⟨_,rfl,h⟩) (SqL.of a2) (L0 (m:=1000) (by omega) (by decide)) ?_ ?_
  ·intro i hi v V G J KT KF l I;obtain ⟨e,W,O⟩:=z0n U J;rw [W] at l I;obtain ⟨p,z,r,rfl,ep,hz⟩:=zkg (EvT.same G O);refine ⟨[some (.ref p)],rfl,rfl,?_⟩;refine ⟨_,rfl,.inr (.inl ⟨p,_,0,.str z,rfl,rfl,SqT.of ep,z09 (j:=0) rfl,rfl,_,rfl,?_⟩)⟩;rw [zbn,hz];cases hbe:isBeg e with
   | true=>exact iteP rfl ⟨_,rfl,l hbe _ _ (Same.refl _) trivial⟩
   | false=>exact iteN (by decide) (I hbe _ (Same.refl _))
  intro Z V D G a4 a8;have lz:D.length<=24:=by rw [z04 a8,ly];have:=congrArg j46 (z6l isBeg (λ e=>e) (.fin 0 .non) k);rw [G0,G0] at this;rw [this];exact a7
  have C:=G.trans (Same.upd (o:=.lst D) a4);refine .inl ⟨Z,D,rfl,.inl (SqL.of z03),?_⟩;generalize upd V Z (.lst D)=H4 at C⊢;refine ⟨_,_,rfl,rfl,_,rfl,iteN (λ e=>absurd (of_decide_eq_true e) (by omega)) ?_⟩;refine t_nx (sq_if ?_);have a0:=C _ _ a2;have a3:=z00 (λ _ _ z=>EvT.same C z) U;refine ⟨_,rfl,a,t,u,k,rfl,SqL.of a0,a3,ln,wf,λ H5 s5=>⟨true,rfl,iteN (by decide) ?_⟩⟩;refine t_nx (sq_ret ?_);refine ⟨_,rfl,a,_,rfl,.inl ⟨SqL.of (s5 _ _ a0),λ c hc=>?_⟩⟩;exact q c _ (((b.trans C).trans s5).trans (Same.upd hc)) z03
theorem z7a :∀(more kvs:List (Key×V)),((kvs++more).map (·.1)).Nodup->mergeK kvs more=kvs++more
 | [],kvs,_=>(C3 _).symm
 | kv :: more,kvs,nd=>by
  have fr:kv.1∉kvs.map (·.1):=λ z=>by rw [W1,Y7] at nd;exact nd.2.2 _ z _ (.head _) rfl
  show mergeK (putK kvs kv.1 kv.2) more=_;rw [zf7 fr,z7a more (kvs++[(kv.1,kv.2)]) (by rw [D2];exact nd),D2];rfl
theorem val_in :∀{kvs:List (Key×V)} {k:Key} {v:V},(kvs.map (·.1)).Nodup->(k,v)∈kvs->valV kvs k=some v
 | (k',v') :: kvs,k,v,nd,h=>by
  rw [U1,D5] at nd;rcases List.mem_cons.mp h with e|h
  ·cases e;exact z1b rfl
  ·rw [z15 (λ e=>nd.1 (by have e:k'=k:=e;subst e;exact List.mem_map.mpr ⟨_,h,rfl⟩))];exact val_in nd.2 h
def z6n (K:j0):Sp:=λ vs H Q _=>∃a b ys ts zs es,vs=[.ref a,.ref b]/\H a=some (.lst ys)/\All2 (ThV H) ts ys/\ts.length<=6/\(ts.map (·.1)).Nodup/\(∀t∈ts,ThingOk t)/\H b=some (.lst zs)/\All2 (EvT H ts) es zs/\es.length<=1000/\(es.filter isBeg).length<=24/\EWf [] es/\
 ∀(p:List Nat) t c e H',Same H H'->H' t=some (.tup [.ref c,.ref e])->H' c=some (.tup (p.map λ i=>ys.getD i .non))->H' e=some (.tup zs)->p.Perm (V0 ys.length)->(p.map λ i=>(ts.map (·.1)).getD i ("" : Str)).Pairwise (λ x y=>ltS x y=true)->Q (.ref t) H'
theorem zae (T:TX (kx w) mg) (c0:Ca P w mg base "make_things" ["things"] 3 (z46 (kx w))) (c1:Ca P w mg base "make_events" ["events","kinds"] 6 (z4f (kx w))):Fo P w mg base CX0 7 201 y12 ["things","events"] (z6n (kx w)):=by
 refine (z4u w.params).ok sc_make_tale (λ vs H Q E h=>?_) (λ a2 A a3 s H vs Q E R h=>?_)
 ·obtain ⟨a,b,l,f,N,M,rfl,_⟩:=h;rfl
 ·obtain ⟨a,b,l,f,N,M,rfl,X,v,Y,nd,ok,B,av,ln,a1,wf,q⟩:=h;refine ⟨_,(z02 (ps_set (i:=2) sc_make_tale.nd rfl (N1 rfl) (pe_cal c0 (R.mono (by decide)) rfl (z01 (pv 0) pa_nil)))
   (z05 (ps_ret (pe_tup (z01 (pv 2) (z01 (pe_cal c1 (R.mono (by decide)) rfl (z01 (pv 1) (z01 (z1u (zcw rfl) rfl (T.no (n_dict _)) boot_dict (z01 (pv 2) pa_nil)) pa_nil))) pa_nil)))))),?_⟩
  have ly:l.length=f.length:=z04 v;refine z0c ?_;refine ⟨_,rfl,a,l,f,rfl,X,v,Y,nd,ok,λ p c m D I u L=>?_⟩;refine g_name ?_;have S :∀i∈p,i < f.length:=λ i g=>by have:=List.mem_range.mp (u.mem_iff.mp g);omega
  have a0 :∀p:List Nat,(∀i∈p,i < f.length)->All2 (λ (q:Key×V) y=>∃b,y=.ref b/\SqT (kx w) m b [kV q.1,q.2]) (p.map λ i=>((.inr (f.getD i ("","")).1,.str (f.getD i ("","")).2):Key×V)) (p.map λ i=>l.getD i .non):=by
   intro p;induction p with
   | nil=>intro _;exact .nil
   | cons i p ih=>
    intro F;have g:=F i (.head _);obtain ⟨y,hy,b,hb,B⟩:=z0q v (v0 g);refine .cons ⟨b,?_,?_⟩ (ih λ j hj=>F j (.tail _ hj))
    ·show l.getD i .non=_;rw [L1,hy];exact hb
    ·show SqT (kx w) m b [.str (f.getD i ("","")).1,.str (f.getD i ("","")).2];rw [L1,v0 g];exact SqT.of (D _ _ B)
  refine ⟨_,rfl,_,rfl,_,rfl,c,_,_,rfl,.inr I,a0 p S,λ d C=>?_⟩;have G:((p.map λ i=>((.inr (f.getD i ("","")).1,.str (f.getD i ("","")).2):Key×V)).map (·.1)).Nodup:=by
   rw [B5];have O:(p.map λ i=>(f.map (·.1)).getD i ("" : Str)).Nodup:=L.imp λ {x y} z e=>by rw [e,z69] at z;cases z
   have e1:(p.map λ i=>(f.map (·.1)).getD i ("" : Str))=p.map λ i=>(f.getD i ("","")).1:=List.map_congr_left λ i g=>by have g:=S i g;rw [L1,L1,R0,v0 g];rfl
   rw [e1] at O;have:(p.map ((·.1) ∘ λ i=>((.inr (f.getD i ("","")).1,.str (f.getD i ("","")).2):Key×V)))=(p.map λ i=>(f.getD i ("","")).1).map Sum.inr:=by rw [B5];rfl
   rw [this];exact L2.nodup_map_on (λ a _ b _ e=>j2b e) O
  have mg:mergeK [] (p.map λ i=>((.inr (f.getD i ("","")).1,.str (f.getD i ("","")).2):Key×V))=p.map λ i=>((.inr (f.getD i ("","")).1,.str (f.getD i ("","")).2):Key×V):=z7a _ [] G;rw [mg];have n:=D.trans (Same.upd (o:=.dK (p.map λ i=>((.inr (f.getD i ("","")).1,.str (f.getD i ("","")).2):Key×V))) C);have U:KdAt (upd m d (.dK (p.map λ i=>((.inr (f.getD i ("","")).1,.str (f.getD i ("","")).2):Key×V)))) d f:=⟨_,z03,λ nm k W=>by obtain ⟨i,g⟩:=List.mem_iff_getElem?.mp W;refine val_in G (List.mem_map.mpr ⟨i,u.mem_iff.mpr (List.mem_range.mpr (by rw [ly];exact (List.getElem?_eq_some_iff.mp g).1)),?_⟩);rw [L1,g];rfl⟩
  have K:=(Same.upd (o:=.dK (p.map λ i=>((.inr (f.getD i ("","")).1,.str (f.getD i ("","")).2):Key×V))) C) _ _ I;generalize upd m d (.dK (p.map λ i=>((.inr (f.getD i ("","")).1,.str (f.getD i ("","")).2):Key×V)))=H2 at n U K⊢;refine ⟨b,d,N,f,M,rfl,n _ _ B,U,z00 (λ _ _ z=>EvT.same n z) av,ln,a1,wf,λ e H3 J ee=>⟨w_2,λ t Z=>?_⟩⟩;have r:=Same.upd (o:=.tup [.ref c,.ref e]) Z;exact q p t c e _ ((n.trans J).trans r) z03 (r _ _ (J _ _ K)) (r _ _ ee) u L
end
section
mutual
noncomputable def HPd (H:Hp):PyData->V->Prop
 | .none,v=>v=.non
 | .bool b,v=>v=.bl b
 | .int i,v=>v=.int i
 | .str z,v=>v=.str z
 | .list ds,v=>∃a xs,v=.ref a/\H a=some (.lst xs)/\HPds H ds xs
 | .tuple ds,v=>∃a xs,v=.ref a/\H a=some (.tup xs)/\HPds H ds xs
 | .dict kvs,v=>kvs=[]/\∃a,v=.ref a/\H a=some (.dK [])
noncomputable def HPds (H:Hp):List PyData->List V->Prop
 | [],xs=>xs=[]
 | d :: ds,xs=>∃x r,xs=x :: r/\HPd H d x/\HPds H ds r
end
mutual
theorem HPd.mono' {H H':Hp} (s :∀a xs,H a=some (.tup xs)->H' a=some (.tup xs)) (t :∀a xs,H a=some (.lst xs)->H' a=some (.lst xs)) (u :∀a,H a=some (.dK [])->H' a=some (.dK [])) :∀(d:PyData) (v:V),HPd H d v->HPd H' d v
 | .none,_,h=>h
 | .bool _,_,h=>h
 | .int _,_,h=>h
 | .str _,_,h=>h
 | .list ds,v,h=>by obtain ⟨a,xs,rfl,e,r⟩:=h;exact ⟨a,xs,rfl,t _ _ e,HPds.mono' s t u ds xs r⟩
 | .tuple ds,v,h=>by obtain ⟨a,xs,rfl,e,r⟩:=h;exact ⟨a,xs,rfl,s _ _ e,HPds.mono' s t u ds xs r⟩
 | .dict _,v,h=>by obtain ⟨e,a,rfl,b⟩:=h;exact ⟨e,a,rfl,u _ b⟩
theorem HPds.mono' {H H':Hp} (s :∀a xs,H a=some (.tup xs)->H' a=some (.tup xs)) (t :∀a xs,H a=some (.lst xs)->H' a=some (.lst xs)) (u :∀a,H a=some (.dK [])->H' a=some (.dK [])) :∀(ds:List PyData) (xs:List V),HPds H ds xs->HPds H' ds xs
 | [],_,h=>h
 | d :: ds,xs,h=>by obtain ⟨x,r,rfl,a,b⟩:=h;exact ⟨x,r,rfl,HPd.mono' s t u d x a,HPds.mono' s t u ds r b⟩
end
theorem HPd.same {H H':Hp} {d:PyData} {v:V} (h:HPd H d v) (s:Same H H'):HPd H' d v:=HPd.mono' (λ _ _ q=>s _ _ q) (λ _ _ q=>s _ _ q) (λ _ q=>s _ _ q) d v h
theorem HPds.all {H:Hp} :∀{ds:List PyData} {xs:List V},HPds H ds xs->All2 (HPd H) ds xs
 | [],_,h=>by cases (show _=[] from h);exact .nil
 | d :: ds,xs,h=>by obtain ⟨x,r,rfl,a,b⟩:=h;exact .cons a (HPds.all b)
noncomputable def dif (B H:Hp):Hp:=λ p=>if B p=none then H p else none
noncomputable def tDat (P:L2.St->Prop) (d:PyData):TE:=λ σ H Q=>P σ/\∀v H',Same H H'->HPd (dif H H') d v->Q v H'
noncomputable def tDats (P:L2.St->Prop) (ds:List PyData):TA:=λ σ H Q=>P σ/\∀xs H',Same H H'->HPds (dif H H') ds xs->Q xs H'
variable {X:Cx} {pos:Pos} {P:L2.St->Prop}
structure QD (X:Cx) (P:L2.St->Prop) (e:Expr) (d:PyData):Prop where
 run:PE X e (tDat P d)
structure QDs (X:Cx) (P:L2.St->Prop) (es:List Expr) (ds:List PyData):Prop where
 run:PA X es (tDats P ds)
theorem HPds.length {H:Hp} {ds:List PyData} {xs:List V} (h:HPds H ds xs):xs.length=ds.length:=z04 h.all
theorem zbx {P P':Program} {w w':Z0} {h:Heap} {a:Addr} (d:h.DictOf (z0k P w) a []):h.DictOf (z0k P' w') a []:=by
 obtain ⟨o,g,j,l,k,c,m,i,f⟩:=d;have b:g = #[]:=by have:=i.length;exact Array.eq_empty_of_size_eq_zero (by simpa using this)
 subst b;exact ⟨o,#[],j,l,k,c,(λ e b=>by simp at b),.nil,f⟩
theorem zc5 (n:Nat):(V0 n).all (λ _=>true)=true:=List.all_eq_true.mpr λ _ _=>rfl
mutual
theorem zkt {pins:List (Addr×Obj)} {σ:L2.St} {H:Hp} {s:B0} (I:Inv X pins σ H s) :∀(d:PyData) (A:K2) (x y:V) (u v:Value),HPd H d x->HPd H d y->RelV x u->RelV y v->A.units + d.depth + 1 < cLine->j10 A s u v true
 | .none,A,x,y,u,v,hx,hy,rx,ry,hu=>by cases (show x=.non from hx);cases (show y=.non from hy);cases (show u=.none from rx);cases (show v=.none from ry);exact V5 _
 | .bool b,A,x,y,u,v,hx,hy,rx,ry,hu=>by cases (show x=.bl b from hx);cases (show y=.bl b from hy);cases (show u=.bool b from rx);cases (show v=.bool b from ry);exact V5 _
 | .int i,A,x,y,u,v,hx,hy,rx,ry,hu=>by
  cases (show x=.int i from hx);cases (show y=.int i from hy);obtain ⟨t,rfl⟩:=rx;obtain ⟨B,rfl⟩:=ry;have:=j26 (A:=A) (s:=s) i t i B
  rwa [beq_self_eq_true] at this
 | .str i,A,x,y,u,v,hx,hy,rx,ry,hu=>by
  cases (show x=.str i from hx);cases (show y=.str i from hy);obtain ⟨t,rfl⟩:=rx;obtain ⟨B,rfl⟩:=ry;have:=j23 (A:=A) (s:=s) i t i B
  rwa [beq_self_eq_true] at this
 | .list ds,A,x,y,u,v,hx,hy,rx,ry,hu=>by
  obtain ⟨a,z,rfl,f,h⟩:=hx;obtain ⟨b,D,rfl,k,l⟩:=hy;cases (show u=.ref a from rx);cases (show v=.ref b from ry);obtain ⟨m,c,p,_⟩:=I.list (SqL.of f);obtain ⟨n,g,o,_⟩:=I.list (SqL.of k);have J:A.units + (E2 ds + 1) + 1 < cLine:=hu;have P:=c.length;have N:=g.length;have R:=h.length;have L:=l.length;by_cases hll:a=b
  ·subst hll;exact V5 _
  ·refine P8 hll ?_;have:=SeqAt.RcAt.lists (A:=A) (e:=λ _=>true) p.isList o.isList (by simp;omega) (by omega) (λ j F C=>?_)
   ·rwa [zc5] at this
   ·have:=z62 I ds A.in1 z D m n h l c g (show A.units + 1 + E2 ds + 1 < cLine by omega) j (by simpa using F) (by simpa using C);simpa using this
 | .tuple ds,A,x,y,u,v,hx,hy,rx,ry,hu=>by
  obtain ⟨a,z,rfl,f,h⟩:=hx;obtain ⟨b,D,rfl,k,l⟩:=hy;cases (show u=.ref a from rx);cases (show v=.ref b from ry);obtain ⟨m,c,p,_⟩:=I.tuple (SqT.of f);obtain ⟨n,g,o,_⟩:=I.tuple (SqT.of k);have J:A.units + (E2 ds + 1) + 1 < cLine:=hu;have P:=c.length;have N:=g.length;have R:=h.length;have L:=l.length;by_cases hll:a=b
  ·subst hll;exact V5 _
  ·refine P8 hll ?_;have:=SeqAt.RcAt.tuples (A:=A) (e:=λ _=>true) p o (by omega) (λ j F C=>?_)
   ·rw [zc5,w6] at this
    rwa [show (m.toArray.size == n.toArray.size)=true by simp;omega] at this
   ·have:=z62 I ds A.in1 z D m n h l c g (show A.units + 1 + E2 ds + 1 < cLine by omega) j (by simpa using F) (by simpa using C);simpa using this
 | .dict kvs,A,x,y,u,v,hx,hy,rx,ry,hu=>by
  obtain ⟨rfl,a,rfl,f⟩:=hx;obtain ⟨_,b,rfl,k⟩:=hy;cases (show u=.ref a from rx);cases (show v=.ref b from ry);by_cases hll:a=b
  ·subst hll;exact V5 _
  ·refine P8 hll λ T w E Q q=>?_;obtain ⟨_,K,U,c,O⟩:=dk_of I.hok f;obtain ⟨_,G,Y,M,S⟩:=dk_of I.hok k;cases c;cases M;exact PySem.W.keq_eq (r:=true) K G (zbx O) (zbx S) (by omega) (λ _=>.nil) q
theorem z62 {pins:List (Addr×Obj)} {σ:L2.St} {H:Hp} {s:B0} (I:Inv X pins σ H s) :∀(ds:List PyData) (A:K2) (xs ys:List V) (us vs:List Value),HPds H ds xs->HPds H ds ys->Vals xs us->Vals ys vs->A.units + E2 ds + 1 < cLine->∀j (h1:j < us.length) (h2:j < vs.length),j10 A s us[j] vs[j] true
 | [],A,xs,ys,us,vs,hx,hy,rx,ry,hu,j,h1,h2=>by cases (show xs=[] from hx);cases rx;exact absurd h1 (j12 _)
 | d :: ds,A,xs,ys,us,vs,hx,hy,rx,ry,hu,j,h1,h2=>by
  obtain ⟨x,a,rfl,b,e⟩:=hx;obtain ⟨y,c,rfl,f,g⟩:=hy;cases rx with
  | cons r1 r2=>
   cases ry with
   | cons q1 q2=>
    have h:A.units + max d.depth (E2 ds) + 1 < cLine:=hu;cases j with
    | zero=>exact zkt I d A x y _ _ b f r1 q1 (by omega)
    | succ j=>exact z62 I ds A a c _ _ e g r2 q2 (by omega) j (j3d h1) (j3d h2)
end
noncomputable def rNeS:R2:=λ x y H Q=>∃ds,((HPd H (.list ds) x/\HPd H (.list ds) y)\/(HPd H (.tuple ds) x/\HPd H (.tuple ds) y))/\E2 ds<=49/\Q (.bl false) H
theorem op_neS {k:Nat} (hr:Room k X.A):OpR X (X2 .NotEq) rNeS:=by
 intro R s σ H x y u v Q I J G h;obtain ⟨i,L,S,q⟩:=h;have P:=hr.units;rcases L with ⟨E,r⟩|⟨E,r⟩
 ·obtain ⟨a,z,rfl,n,d⟩:=E;obtain ⟨b,C,rfl,F,g⟩:=r;cases (show u=.ref a from J);cases (show v=.ref b from G);obtain ⟨l,f,t,_⟩:=I.list (SqL.of n);obtain ⟨m,c,o,_⟩:=I.list (SqL.of F);have N:=f.length;have M:=c.length;have O:=d.length;have K:=g.length;have p:SeqAt.RcNeAt X.A s (.ref a) (.ref b) false:=by
   have:=j15 (A:=X.A) (e:=λ _=>true) t.isList o.isList (by simp;omega) (by omega) (λ j D B=>?_)
   ·rwa [zc5] at this
   ·have:=z62 I i X.A.in1 z C l m d g f c (show X.A.units + 1 + E2 i + 1 < cLine by omega) j (by simpa using D) (by simpa using B);simpa using this
  exact p X.prog X.w _ _ ⟨.bl _,H,I,rfl,q⟩
 ·obtain ⟨a,z,rfl,n,d⟩:=E;obtain ⟨b,C,rfl,F,g⟩:=r;cases (show u=.ref a from J);cases (show v=.ref b from G);obtain ⟨l,f,t,_⟩:=I.tuple (SqT.of n);obtain ⟨m,c,o,_⟩:=I.tuple (SqT.of F);have N:=f.length;have M:=c.length;have O:=d.length;have K:=g.length;have p:SeqAt.RcNeAt X.A s (.ref a) (.ref b) false:=by
   have:=SeqAt.RcNeAt.tuples (A:=X.A) (e:=λ _=>true) t o (by omega) (λ j D B=>?_)
   ·rw [zc5,w6] at this
    rwa [show (l.toArray.size == m.toArray.size)=true by simp;omega] at this
   ·have:=z62 I i X.A.in1 z C l m d g f c (show X.A.units + 1 + E2 i + 1 < cLine by omega) j (by simpa using D) (by simpa using B);simpa using this
  exact p X.prog X.w _ _ ⟨.bl _,H,I,rfl,q⟩
end
section
noncomputable def sc:PyData->V
 | .none=>.non
 | .bool b=>.bl b
 | .int i=>.int i
 | .str z=>.str z
 | _=>.ref 0
theorem sc_f {H:Hp} {d:PyData} {v:V} (h:HPd H d v) {β:Type} (f:V->β) (hf :∀a b,f (.ref a)=f (.ref b)):f v=f (sc d):=by
 cases d with
 | none=>cases (show v=.non from h);rfl
 | bool b=>cases (show v=.bl b from h);rfl
 | int i=>cases (show v=.int i from h);rfl
 | str z=>cases (show v=.str z from h);rfl
 | list ds=>obtain ⟨a,c,rfl,_⟩:=h;exact hf _ _
 | tuple ds=>obtain ⟨a,c,rfl,_⟩:=h;exact hf _ _
 | dict ds=>obtain ⟨_,a,rfl,_⟩:=h;exact hf _ _
noncomputable def tupD:PyData->Option (List PyData)
 | .tuple ds=>some ds
 | _=>none
theorem tup_D {H:Hp} {d:PyData} {v:V} (h:HPd H d v):(tupD d=none/\tupOf H v=none)\/∃ds xs,d=.tuple ds/\tupOf H v=some xs/\All2 (HPd H) ds xs:=by
 cases d with
 | none=>cases (show v=.non from h);exact .inl ⟨rfl,rfl⟩
 | bool b=>cases (show v=.bl b from h);exact .inl ⟨rfl,rfl⟩
 | int i=>cases (show v=.int i from h);exact .inl ⟨rfl,rfl⟩
 | str z=>cases (show v=.str z from h);exact .inl ⟨rfl,rfl⟩
 | list ds=>obtain ⟨a,xs,rfl,e,_⟩:=h;refine .inl ⟨rfl,?_⟩;unfold tupOf;dsimp only;rw [e]
 | tuple ds=>obtain ⟨a,xs,rfl,e,c⟩:=h;exact .inr ⟨ds,xs,rfl,z4k e,c.all⟩
 | dict ds=>obtain ⟨_,a,rfl,e⟩:=h;refine .inl ⟨rfl,?_⟩;unfold tupOf;dsimp only;rw [e]
theorem zbl {α β:Type} {R:α->β->Prop} {xs:List α} {ys:List β} (h:All2 R xs ys) {y:β} (hy:y∈ys) :∃x∈xs,R x y:=by
 induction h with
 | nil=>cases hy
 | cons a r ih=>
  rcases List.mem_cons.mp hy with rfl|hy
  ·exact ⟨_,.head _,a⟩
  ·obtain ⟨x,b,h⟩:=ih hy;exact ⟨x,.tail _ b,h⟩
theorem tag_D {H:Hp} {d:PyData} {v:V} (h:HPd H d v) :∃T,TagOf H v T:=by
 cases d with
 | none=>cases (show v=.non from h);exact ⟨_,rfl⟩
 | bool b=>cases (show v=.bl b from h);exact ⟨_,rfl⟩
 | int i=>cases (show v=.int i from h);exact ⟨_,rfl⟩
 | str z=>cases (show v=.str z from h);exact ⟨_,rfl⟩
 | list ds=>obtain ⟨a,c,rfl,e,_⟩:=h;exact ⟨_,.inl ⟨⟨_,e⟩,rfl⟩⟩
 | tuple ds=>obtain ⟨a,c,rfl,e,_⟩:=h;exact ⟨_,.inr (.inl ⟨⟨_,e⟩,rfl⟩)⟩
 | dict ds=>obtain ⟨_,a,rfl,e⟩:=h;exact ⟨_,.inr (.inr ⟨⟨_,e⟩,rfl⟩)⟩
noncomputable def deedP (k v:V) (d:PyData):Bool:=match k,v with
 | .str a,.str b=>if formOf a b=0 then decide (sc d=.non) else if formOf a b=1 then z0j (sc d) 1000000000 else if formOf a b=2 then
   (match tupD d with|some ds=>decide (ds.length=2) && ds.all λ y=>z0j (sc y) 1000000000|none=>false) else false
 | _,_=>false
theorem deed_D {H:Hp} {k v x:V} {d:PyData} (h:HPd H d x):deedB H k v x=deedP k v d:=by
 cases k with
 | str a=>
  cases v with
  | str b=>
   show (if formOf a b=0 then decide (x=.non) else if formOf a b=1 then z0j x 1000000000 else if formOf a b=2 then
    (match tupOf H x with|some xs=>decide (xs.length=2) && xs.all λ y=>z0j y 1000000000|none=>false) else false)=(if formOf a b=0 then decide (sc d=.non) else if formOf a b=1 then z0j (sc d) 1000000000 else if formOf a b=2 then
    (match tupD d with|some ds=>decide (ds.length=2) && ds.all λ y=>z0j (sc y) 1000000000|none=>false) else false)
   rw [sc_f h (λ v=>decide (v=.non)) (λ _ _=>rfl),sc_f h (λ v=>z0j v 1000000000) (λ _ _=>rfl)];have f:(match tupOf H x with|some xs=>decide (xs.length=2) && xs.all λ y=>z0j y 1000000000|none=>false)=(match tupD d with|some ds=>decide (ds.length=2) && ds.all λ y=>z0j (sc y) 1000000000|none=>false):=by
    rcases tup_D h with ⟨e,c⟩|⟨ds,ys,rfl,c,al⟩
    ·rw [c,e]
    rw [c];show (decide (ys.length=2) && ys.all λ y=>z0j y 1000000000)=(decide (ds.length=2) && ds.all λ y=>z0j (sc y) 1000000000);rw [z04 al];congr 1;clear c h;induction al with
    | nil=>rfl
    | cons a r ih=>rw [F5,F5,ih,sc_f a (λ v=>z0j v 1000000000) (λ _ _=>rfl)]
   rw [f]
  | _=>rfl
 | _=>rfl
end
section
variable {X:Cx}
theorem z54 {X:Cx} {K:j0} (hK:X.K=K):CallR X (.type "list") (λ xs H Q=>∃p ys,xs=[.ref p]/\(SqL K H p ys\/SqT K H p ys)/\∀l,H l=none->Q (.ref l) (upd H l (.lst ys))):=hK ▸ z6e
theorem zdy {o e:Expr} {es:List Expr} {to:TE} {t:TA} {apos cpos:Pos} (ho:PE X o to) (ha:PA X (e :: es) t)
  (hbase:w5 o "extend" X.env (R3 o X.env)=R3 o X.env:=by rfl)
  (hfew:((O4 cpos (G1 (e :: es) X.env)).all (λ x=>!x.1) && (W8 cpos (P6 [] X.env)).all (λ x=>x.1.isSome) && decide ((e :: es).length + ([]:List G6).length + (if ([]:List G6).isEmpty then 0 else 1) < 30))=true:=by rfl)
  (hline:(apos.endLine == cpos.line)=true:=by rfl) (hs:G1 (e :: es) X.env=(false,R3 e X.env) :: G1 es X.env:=by rfl) (hplain:(O4 cpos (G1 es X.env)).any (·.1)=false:=by rfl) :
  PE X (.Call (.Attribute o "extend" apos) (e :: es) [] cpos) (tBM X.K "list" zia to t):=pe_bm X7 PySem.F.slot_list_extend PySem.F.type_list_extend zgt ho ha hbase hfew hline hs hplain
end
theorem z81 (x:Int) :∀ns:List Int,inV (.int x) (ns.map V.int)=decide (x∈ns)
 | []=>by rw [decide_eq_false K0];rfl
 | n :: r=>by
  show ((n == x) || inV (.int x) (r.map V.int))=_;rw [z81 x r];by_cases e:n=x
  ·rw [beq_iff_eq.mpr e,Bool.true_or,decide_eq_true (List.mem_cons.mpr (.inl e.symm))]
  ·rw [Bool.eq_false_iff.mpr (λ h=>e (beq_iff_eq.mp h)),Bool.false_or];by_cases m:x∈r
   ·rw [decide_eq_true m,decide_eq_true (List.mem_cons.mpr (.inr m))]
   ·rw [decide_eq_false m,decide_eq_false (λ h=>(List.mem_cons.mp h).elim (λ y=>e y.symm) m)]
theorem zc3 :∀ns:List Int,(ns.map V.int).all flatV=true
 | []=>rfl
 | _ :: r=>by show (true && (r.map V.int).all flatV)=true;rw [zc3 r];rfl
theorem zhv :∀(l ns:List Int),(l.foldl addI ns).length<=ns.length + l.length
 | [],ns=>J0 _
 | x :: l,ns=>by
  have h:=zhv l (addI ns x);have a:(addI ns x).length<=ns.length + 1:=by unfold addI;split<;>simp
  rw [J4,X0];omega
theorem zbz :∀(l ns:List Int),ns.length + l.length<=(l.foldl addI ns).length->l.Nodup/\∀x∈l,x∉ns
 | [],ns,_=>⟨.nil,λ _ h=>absurd h K0⟩
 | x :: l,ns,h=>by
  rw [J4,X0] at h;have le:=zhv l (addI ns x);by_cases z:x∈ns
  ·have e:addI ns x=ns:=if_pos z;rw [e] at le h;omega
  ·have e:addI ns x=ns++[x]:=if_neg z;rw [e] at h;obtain ⟨c,b⟩:=zbz l (ns++[x]) (by rw [I0];show ns.length + 1 + l.length<=_;omega);refine ⟨List.nodup_cons.mpr ⟨λ y=>b x y (List.mem_append.mpr (.inr (List.mem_singleton.mpr rfl))),c⟩,λ y a=>?_⟩;rcases List.mem_cons.mp a with rfl|a
   ·exact z
   ·exact λ q=>b y a (List.mem_append.mpr (.inl q))
theorem z92 :∀(us ns:List Int),us.Nodup->(∀u∈us,u∉ns)->(us.foldl addI ns).length=ns.length + us.length
 | [],ns,_,_=>rfl
 | u :: us,ns,nd,h=>by
  rw [D5] at nd;have e:addI ns u=ns++[u]:=by unfold addI;rw [if_neg (h u (.head _))]
  rw [J4,e,z92 us (ns++[u]) nd.2 λ v a z=>?_]
  ·simp only [I0,X0,X3];omega
  ·rcases List.mem_append.mp z with z|z
   ·exact h v (.tail _ a) z
   ·rw [List.mem_singleton.mp z] at a;exact nd.1 a
noncomputable def ddP:Option Int->PyData
 | none=>.tuple [.str "read",.none]
 | some i=>.tuple [.str "write",.int i]
noncomputable def listD:PyData->Option (List PyData)
 | .list ds=>some ds
 | _=>none
noncomputable def flatP (rows:List PyData):List PyData:=(rows.map λ r=>(listD r).getD []).flatten
noncomputable def z17 (d:PyData):Bool:=match tupD d with
 | some [u,v]=>deedP (.str "register") (sc u) v
 | _=>false
noncomputable def planB (rows:List PyData):Bool:=decide (rows.length<=6) && (rows.all (λ r=>(listD r).isSome) && (decide ((flatP rows).length<=24) && (flatP rows).all z17))
noncomputable def wr1:PyData->Option Int
 | .tuple [.str z,.int i]=>if z = "write" then some i else none
 | _=>none
noncomputable def wsP (ds:List PyData):List Int:=ds.filterMap wr1
noncomputable def goodB (rows:List PyData):Bool:=planB rows && (decide ((0:Int)∉wsP (flatP rows)) && decide (wsP (flatP rows)).Nodup)
noncomputable def small1 (d:PyData):Bool:=match tupD d with
 | some ds=>decide (ds.length<=1000)
 | none=>true
noncomputable def smallB (d:PyData):Bool:=match tupD d with
 | some ds=>ds.all small1
 | none=>true
structure PlOk (rows:List PyData):Prop where
 n:rows.length<=100
 f:(flatP rows).length<=100
 s :∀d∈flatP rows,smallB d=true
theorem zgk {v:V} {d:PyData} (h:deedP (.str "register") v d=true):(v=.str "read"/\d=.none)\/∃i,v=.str "write"/\d=.int i:=by
 cases v with
 | str b=>
  have h:(if formOf "register" b=0 then decide (sc d=.non) else if formOf "register" b=1 then z0j (sc d) 1000000000 else if formOf "register" b=2 then
   (match tupD d with|some ds=>decide (ds.length=2) && ds.all λ y=>z0j (sc y) 1000000000|none=>false) else false)=true:=h
  by_cases b1:b = "read"
  ·subst b1;rw [if_pos (by decide +kernel)] at h;refine .inl ⟨rfl,?_⟩;have h:=of_decide_eq_true h;cases d<;>first|rfl|cases h
  by_cases b2:b = "write"
  ·subst b2;rw [if_neg (by decide +kernel),if_pos (by decide +kernel)] at h;cases d with
   | int i=>exact .inr ⟨i,rfl,rfl⟩
   | _=>cases h
  ·exfalso;have e:formOf "register" b=-1:=by
    unfold formOf;cases hl:kl_DOERS.lookup (("register" : Str),b) with
    | none=>rfl
    | some v=>
     exfalso;have a:(kl_DOERS.all λ p=>!decide (p.1.1 = "register") || (decide (p.1.2 = "read") || decide (p.1.2 = "write")))=true:=by decide +kernel
     have m:=List.all_eq_true.mp a _ (z5n hl);rw [decide_eq_true (show (("register" : Str),b).1 = "register" from rfl),decide_eq_false b1,decide_eq_false b2] at m;cases m
   rw [e,if_neg (by decide),if_neg (by decide),if_neg (by decide)] at h;cases h
 | _=>cases h
theorem zfc {d:PyData} (h:z17 d=true) :∃o,d=ddP o:=by
 unfold z17 at h;cases d with
 | tuple ds=>
  change (match some ds with|some [u,v]=>deedP (.str "register") (sc u) v|_=>false)=true at h
  match ds,h with
  | [u,v],h=>
   rcases zgk (show deedP (.str "register") (sc u) v=true from h) with ⟨b,a⟩|⟨i,b,a⟩
   ·subst a;refine ⟨none,?_⟩;cases u<;>cases b;rfl
   ·subst a;refine ⟨some i,?_⟩;cases u<;>cases b;rfl
  | [],h=>cases h
  | [_],h=>cases h
  | _ :: _ :: _ :: _,h=>cases h
 | _=>cases h
theorem wr1_dd (o:Option Int):wr1 (ddP o)=o:=by
 cases o with
 | none=>rfl
 | some i=>simp [wr1,ddP]
section
variable {P:Program} {w:Z0} {mg:Str->Option Value} {base:Heap}
theorem z9d {oss:List (List V)} {i:Nat} {own:List V} (h:oss[i]? = some own):(oss.take (i + 1)).flatten=(oss.take i).flatten++own:=by obtain ⟨a,e⟩:=List.getElem?_eq_some_iff.mp h;rw [List.take_succ_eq_append_getElem a,List.flatten_append,e];simp
theorem zis {oss:List (List V)} (i:Nat):(oss.take i).flatten.length<=oss.flatten.length:=by
 have a:oss.flatten=(oss.take i).flatten++(oss.drop i).flatten:=by rw [<-List.flatten_append,j3e]
 have b:=congrArg j46 a;rw [I0] at b;omega
def LsAt (H:Hp) (ys:List V) (o:V):Prop:=∃b,o=.ref b/\H b=some (.lst ys)
theorem LsAt.same {H H':Hp} {ys:List V} {o:V} (s:Same H H') (h:LsAt H ys o):LsAt H' ys o:=h.elim λ b z=>⟨b,z.1,s _ _ z.2⟩
def z5w (K:j0):Sp:=λ vs H Q _=>∃a os oss,vs=[.ref a]/\H a=some (.lst os)/\All2 (LsAt H) oss os/\oss.flatten.length<=100/\∀l H',Same H H'->H' l=some (.lst oss.flatten)->Q (.ref l) H'
theorem ze1 (T:TX (kx w) mg):Fo P w mg base CX0 1 181 y1v ["plan"] (z5w (kx w)):=by
 refine (z7v w.params).ok sc_planned (λ p H Q E h=>?_) (λ D A G s H p Q E F h=>?_)
 ·obtain ⟨a,d,oss,rfl,_⟩:=h;rfl
 ·obtain ⟨a,d,oss,rfl,e,k,C,q⟩:=h;refine ⟨_,(z02 (ps_set (i:=1) sc_planned.nd rfl (N1 rfl) (pe_lst pa_nil))
   (z02 (ps_for Y2 rfl (z14 (pv 0)) (z0m (i:=2) sc_planned.nd rfl (N1 rfl))
   (z05 (z0i (zdy (pv 1) (z01 (pv 2) pa_nil)))))
   (z05 (ps_ret (pv 1))))),?_⟩
  have B:d.length=oss.length:=z04 k;refine zhx ?_;refine ⟨w_0,λ l n=>?_⟩;refine g_name ?_;obtain ⟨z,o,f,u⟩:=newA (.lst []) n;rw [<-o];refine ⟨_,rfl,a,rfl,⟨_,SqL.of (f _ _ e)⟩,?_⟩;refine z4y (K:=KX w.params) (a:=a) (xs:=d) (λ i σ c=>Same H c/\c l=some (.lst (oss.take i).flatten)/\∃x2,σ=[some (.ref a),some (.ref l),x2]) ⟨f,u,_,rfl⟩ (λ _ σ c _ h=>SqL.of (h.1 _ _ e)) ?_ ?_
  ·rintro i y σ j r ⟨s2,el,x2,rfl⟩;obtain ⟨t,g,b,rfl,x⟩:=z0n k r;have v:=zis (oss:=oss) (i + 1);rw [z9d g,I0] at v;refine g_name ?_;refine ⟨_,rfl,.inl ⟨rfl,_,SqL.of el⟩,_,rfl,l,b,_,t,rfl,rfl,el,s2 _ _ x,L0 (m:=100) (by omega) (by decide),?_⟩;refine ⟨Same.keep s2 n,?_,_,rfl⟩;rw [z9d g];exact z03
  ·rintro σ j ⟨s2,el,x2,rfl⟩;rw [D6 (by omega)] at el;exact ⟨_,rfl,q l j s2 el⟩
theorem zh9 {α β:Type} {R:α->β->Prop} {ds:List α} {xs:List β} (h:All2 R ds xs):(∃u v x1 x2,ds=[u,v]/\xs=[x1,x2]/\R u x1/\R v x2)\/(xs.length≠2/\∀u v,ds≠[u,v]):=by
 cases h with
 | nil=>exact .inr ⟨by simp,by simp⟩
 | cons a h=>
  cases h with
  | nil=>exact .inr ⟨by simp,by simp⟩
  | cons b h=>
   cases h with
   | nil=>exact .inl ⟨_,_,_,_,rfl,rfl,a,b⟩
   | cons c h=>exact .inr ⟨by simp,by simp⟩
theorem zfu {ds:List PyData} (h :∀u v,ds≠[u,v]):z17 (.tuple ds)=false:=by
 show (match some ds with|some [u,v]=>deedP (.str "register") (sc u) v|_=>false)=false;split
 ·rename_i u v e;cases e;exact absurd rfl (h u v)
 ·rfl
def z59:Sp:=λ vs H Q _=>∃y d,vs=[.str "register",y]/\HPd H d y/\smallB d=true/\∀H',Same H H'->Q (.bl (z17 d)) H'
theorem z9n (T:TX (kx w) mg) (c0:Ca P w mg base "is_tuple_of" ["value","many"] 1 z12) (c1:Ca P w mg base "is_deed" ["kind","verb","worth"] 4 z6h):Fo P w mg base CX0 5 193 y0t ["kind","deed"] z59:=by
 refine (z3p w.params).ok z95 (λ t H Q E h=>?_) (λ M A R s H t Q E m h=>?_)
 ·obtain ⟨y,d,rfl,_⟩:=h;rfl
 ·obtain ⟨y,d,rfl,a,c,q⟩:=h;refine ⟨_,(z05 (ps_ret (pe_and (pe_cal c0 (m.mono (by decide)) rfl (z01 (pv 1) (z01 pe_int pa_nil))) (pe_one (pe_cal c1 (m.mono (by decide)) rfl (z01 (pv 0) (z01 (pe_ix ix_seq (pv 1) pe_int (λ _ _=>rfl)) (z01 (pe_ix ix_seq (pv 1) pe_int (λ _ _=>rfl)) pa_nil)))))))),?_⟩;obtain ⟨C,r⟩:=tag_D a;refine ⟨_,rfl,_,C,2,rfl,r,?_⟩;rcases tup_D a with ⟨F,b⟩|⟨ds,xs,rfl,b,al⟩
  ·rw [b];have e:z17 d=false:=by unfold z17;rw [F]
   rw [e] at q;exact ⟨_,rfl,iteN (by decide) (q _ (Same.refl _))⟩
  ·rw [b];obtain ⟨p,o,rfl,f,S⟩:=a;have K:o=xs:=by rw [z4k f] at b;exact O2 b
   subst K;rcases zh9 al with ⟨u,v,J,k,rfl,rfl,l,g⟩|⟨nl,nd⟩
   ·refine ⟨_,rfl,iteP (by simp) ?_⟩;obtain ⟨L,G⟩:=tag_D l;obtain ⟨I,B⟩:=tag_D g;have n:Flat H k:=λ N e=>by
     rcases tup_D g with ⟨_,i⟩|⟨es,ys,rfl,i,al2⟩
     ·rw [i] at e;cases e
     ·rw [i] at e;cases e;refine ⟨?_,λ y x=>?_⟩
      ·have c:(small1 u && (small1 (.tuple es) && true))=true:=c;rw [C4,C4] at c;rw [z04 al2];exact of_decide_eq_true c.2.1
      ·obtain ⟨d,_,a⟩:=zbl al2 x;exact tag_D a
    refine ⟨_,rfl,_,rfl,.inr (.inl ⟨p,_,0,J,rfl,rfl,SqT.of f,z09 (j:=0) rfl,?_⟩)⟩;refine ⟨_,rfl,.inr (.inl ⟨p,_,1,k,rfl,rfl,SqT.of f,z09 (j:=1) rfl,_,_,_,"str",L,I,rfl,rfl,G,B,n,λ O D=>?_⟩)⟩;rw [deed_D g,sc_f l (λ z=>deedP (.str "register") z v) (λ _ _=>rfl)];exact q _ D
   ·rw [zfu nd] at q;exact ⟨_,rfl,iteN (λ e=>nl (by have:=of_decide_eq_true e;omega)) (q _ (Same.refl _))⟩
theorem all_bl {cs:List V} {bs:List Bool} (h:All2 (λ (b:Bool) y=>y=V.bl b) bs cs):(∀y∈cs,∃b,y=V.bl b)/\(cs.all λ y=>decide (y=.bl true))=bs.all id:=by
 induction h with
 | nil=>exact ⟨(λ y a=>nomatch a),rfl⟩
 | cons e r ih=>
  subst e;refine ⟨λ y a=>?_,?_⟩
  ·rcases List.mem_cons.mp a with rfl|a
   ·exact ⟨_,rfl⟩
   ·exact ih.1 y a
  ·rw [F5,F5,ih.2];congr 1;simp
theorem zdo {bs:List Bool} {cs:List V} {n:Nat} (hb:bs.length=n) (h:All2 (λ i y=>∀b,bs[i]? = some b->y=V.bl b) (V0 n) cs):All2 (λ (b:Bool) y=>y=V.bl b) bs cs:=by
 have k:=z04 h;rw [W2] at k;have m :∀(bs:List Bool) (cs:List V),cs.length=bs.length->(∀(i:Nat) (y:V) (b:Bool),cs[i]? = some y->bs[i]? = some b->y=V.bl b)->All2 (λ (b:Bool) y=>y=V.bl b) bs cs:=by
  intro bs;induction bs with
  | nil=>intro cs d _;rw [List.length_eq_zero_iff.mp d];exact .nil
  | cons b bs ih=>
   intro cs d f;cases cs with
   | nil=>cases d
   | cons c cs=>exact .cons (f 0 c b rfl rfl) (ih cs (by simpa using d) λ i y b e a=>f (i + 1) y b (by simpa using e) (by simpa using a))
 refine m bs cs (by omega) λ i y b e a=>?_;obtain ⟨j,g,l⟩:=z0n h e;have o:i < n:=by have:=(List.getElem?_eq_some_iff.mp a).1;omega
 rw [List.getElem?_range o] at g;cases g;exact l b a
theorem ziz {α β:Type} {R:α->β->Prop} {xs:List α} {ys:List β} {us:List α} {vs:List β} (h:All2 R xs ys) (k:All2 R us vs):All2 R (xs++us) (ys++vs):=by
 induction h with
 | nil=>exact k
 | cons a r ih=>exact .cons a ih
theorem z5t {H:Hp} :∀{rows:List PyData} {os:List V},All2 (HPd H) rows os->(rows.all λ r=>(listD r).isSome)=true->∃oss,All2 (LsAt H) oss os/\All2 (HPd H) (flatP rows) oss.flatten
 | _,_,.nil,_=>⟨[],.nil,.nil⟩
 | r :: rows,_,.cons a al,h=>by
  rw [F5,C4] at h;obtain ⟨oss,c,g⟩:=z5t al h.2;cases r with
  | list ds=>obtain ⟨b,d,rfl,e,f⟩:=a;exact ⟨d :: oss,.cons ⟨b,rfl,e⟩ c,ziz f.all g⟩
  | _=>cases h.1
theorem zj2 {H:Hp} {d:PyData} {v:V} (h:HPd H d v) :∃T,TagOf H v T/\decide (T = "list")=(listD d).isSome:=by
 cases d with
 | none=>cases (show v=.non from h);exact ⟨_,rfl,rfl⟩
 | bool b=>cases (show v=.bl b from h);exact ⟨_,rfl,rfl⟩
 | int i=>cases (show v=.int i from h);exact ⟨_,rfl,rfl⟩
 | str z=>cases (show v=.str z from h);exact ⟨_,rfl,rfl⟩
 | list ds=>obtain ⟨a,c,rfl,e,_⟩:=h;exact ⟨_,.inl ⟨⟨_,e⟩,rfl⟩,rfl⟩
 | tuple ds=>obtain ⟨a,c,rfl,e,_⟩:=h;exact ⟨_,.inr (.inl ⟨⟨_,e⟩,rfl⟩),rfl⟩
 | dict ds=>obtain ⟨_,a,rfl,e⟩:=h;exact ⟨_,.inr (.inr ⟨⟨_,e⟩,rfl⟩),rfl⟩
def z9x:Sp:=λ vs H Q _=>∃x rows,vs=[.str "register",x,.int 6,.int 24]/\HPd H (.list rows) x/\PlOk rows/\∀H',Same H H'->Q (.bl (planB rows)) H'
theorem zfq (T:TX (kx w) mg) (c0:Ca P w mg base "planned" ["plan"] 1 (z5w (kx w))) (c3:Ca P w mg base "is_planned" ["kind","deed"] 5 z59):Fo P w mg base CX0 6 186 y1w ["kind","plan","most_hands","most_deeds"] z9x:=by
 refine (z8d w.params).ok sc_is_plan (λ vs H Q E h=>?_) (λ a2 A a3 s H vs Q E U h=>?_)
 ·obtain ⟨x,j,rfl,_⟩:=h;rfl
 ·obtain ⟨x,j,rfl,⟨a,V,rfl,t,J⟩,C,q⟩:=h;refine ⟨_,(z02 (ps_if (PW.pt (pw_or (pt_not (pt_val (z06 z0g rfl (T.no (z0e _)) U2 (z01 (pv 1) (z01 (z1h (v:=.ty "list") rfl (T.no (n_list _)) V8 rfl) pa_nil))) (λ _=>rfl))) (pw_or (z0a op_gt (z06 z0l rfl (T.no (n_len _)) C2 (z01 (pv 1) pa_nil)) (pv 2) (nomark _)) (pw_or1 (pt_not (pt_val (z06 (z38 rfl) rfl (T.no (n_all _)) j0i (z01 (pe_cg (xs:=["own"]) (g:=gName 0) (fr:=[]) (z14 (pv 1)) (λ _ _ _ _ _=>(pg_cn (N:=["own"]) 0)) (λ _ _ _ _ _=>pf_nil) (λ _ _ _ _ _=>(z06 z0g rfl (T.no (z0e _)) U2 (z01 (pv 0) (z01 (z1h (v:=.ty "list") rfl (T.no (n_list _)) V8 rfl) pa_nil))))) pa_nil)) (λ _=>rfl)))))))
   (z05 (ps_ret pe_bl))
   z0f)
   (z02 (ps_set (i:=4) sc_is_plan.nd rfl (N1 rfl) (pe_cal c0 (U.mono (by decide)) rfl (z01 (pv 1) pa_nil)))
   (z05 (ps_ret (pe_and (z47 op_le (z06 z0l rfl (T.no (n_len _)) C2 (z01 (pv 4) pa_nil)) (pv 3) (nomark _)) (pe_one (z06 (z38 rfl) rfl (T.no (n_all _)) j0i (z01 (pe_cg (xs:=["deed"]) (g:=gName 0) (fr:=[(0,"kind")]) (z14 (pv 4)) (λ _ _ _ _ _=>(pg_cn (N:=["deed","kind"]) 0)) (λ _ _ _ _ _=>pf_nil) (λ _ _ _ _ _=>(pe_cal c3 (U.mono (by decide)) rfl (z01 (pv 1) (z01 (pv 0) pa_nil))))) pa_nil)))))))),?_⟩
  have lo:=J.length;have ln:=C.n;refine sq_if (t_or ?_);refine ⟨_,rfl,_,_,"list",rfl,.inl ⟨⟨_,t⟩,rfl⟩,by decide,_,rfl,iteN (by decide) ?_⟩;refine t_or ?_;refine ⟨_,rfl,.inl ⟨a,_,rfl,.inl (SqL.of t),_,rfl,_,_,rfl,rfl,_,rfl,?_⟩⟩;by_cases l6:j.length<=6;rotate_left
  ·have e:planB j=false:=by unfold planB;rw [decide_eq_false l6];rfl
   rw [e] at q;exact iteP (decide_eq_true (by omega)) (iteP rfl (sq_ret (q _ (Same.refl _))))
  refine iteN (λ e=>absurd (of_decide_eq_true e) (by omega)) ?_;refine tB_not (e_cb1 ?_);refine z2b (K:=KX w.params) (a:=a) (xs:=V) (H1:=H) (λ _=>true) (λ i y _=>∀b,(j.map λ r=>(listD r).isSome)[i]? = some b->y=.bl b) (λ _ _ _ _ _ z=>z) (λ R h=>⟨_,rfl,h⟩) (SqL.of t) (L0 (m:=6) (by omega) (by decide)) ?_ ?_
  ·intro i hi v H1 B G KT KF I k2;obtain ⟨d,hd,u⟩:=z0n J.all G;obtain ⟨T1,u,e1⟩:=zj2 u;refine ⟨[some v],rfl,rfl,iteT ?_⟩;refine ⟨_,rfl,_,_,T1,rfl,u.same B,by decide,?_⟩;rw [z4x u (by decide)];refine I rfl _ _ (Same.refl _) λ b l=>?_;rw [R0,hd] at l;cases l;rw [e1]
  intro X H1 p B a0 Z;rw [List.filter_eq_self.mpr (λ _ _=>rfl)] at Z;obtain ⟨c1,c2⟩:=all_bl (zdo (by rw [G0];exact lo.symm) Z);refine ⟨X,p,rfl,SqL.of z03,c1,?_⟩;rw [c2];have k:=B.trans (Same.upd (o:=.lst p) a0);generalize upd H1 X (.lst p)=H2 at k⊢;have em:((j.map λ r=>(listD r).isSome).all id)=j.all λ r=>(listD r).isSome:=by rw [E8];rfl
  rw [em];cases eb:j.all λ r=>(listD r).isSome with
  | false=>
   have e:planB j=false:=by unfold planB;rw [eb];simp
   rw [e] at q;exact ⟨_,rfl,iteP rfl (sq_ret (q _ k))⟩
  | true=>
  refine ⟨_,rfl,iteN (by decide) ?_⟩;obtain ⟨Y,z,S⟩:=z5t J.all eb;have lf:=C.f;have lz:=z04 S;refine t_nx (z0c ?_);refine ⟨_,rfl,a,V,Y,rfl,k _ _ t,z00 (λ _ _ z=>LsAt.same k z) z,by omega,λ W H3 D M=>?_⟩;refine g_name ?_;refine sq_ret ?_;refine ⟨_,rfl,.inl ⟨W,_,rfl,.inl (SqL.of M),_,rfl,_,_,rfl,rfl,_,rfl,?_⟩⟩;have e0:planB j=(decide ((flatP j).length<=24) && (flatP j).all z17):=by unfold planB;rw [eb,decide_eq_true l6];rfl
  rw [e0] at q;by_cases c6:(flatP j).length<=24
  ·rw [decide_eq_true c6,w6] at q;refine iteP (decide_eq_true (by omega)) ?_;refine e_cb1 ?_;refine z2b (K:=KX w.params) (a:=W) (xs:=Y.flatten) (H1:=H3) (λ _=>true) (λ i y _=>∀b,((flatP j).map z17)[i]? = some b->y=.bl b) (λ _ _ _ _ _ z=>z) (λ R h=>⟨_,rfl,h⟩) (SqL.of M) (L0 (m:=100) (by omega) (by decide)) ?_ ?_
   ·intro i hi v H4 F G KT KF I k2;obtain ⟨c,O,ev⟩:=z0n S G;refine ⟨[some v],rfl,rfl,iteT ?_⟩;refine ⟨_,rfl,_,rfl,v,c,rfl,ev.same ((k.trans D).trans F),C.s c (A1 O),λ H5 s5=>I rfl _ _ s5 λ b l=>?_⟩;rw [R0,O] at l;cases l;rfl
   intro l4 H4 p F a1 L;rw [List.filter_eq_self.mpr (λ _ _=>rfl)] at L;obtain ⟨d1,d2⟩:=all_bl (zdo (by rw [G0];exact lz.symm) L);refine ⟨l4,p,rfl,SqL.of z03,d1,?_⟩;rw [d2,E8];exact q _ ((k.trans D).trans (F.trans (Same.upd a1)))
  ·rw [decide_eq_false c6,Q7] at q;exact iteN (λ e=>c6 (by have:=of_decide_eq_true e;omega)) (q _ (k.trans D))
theorem zec {rows:List PyData} (h:planB rows=true):rows.length<=6/\(rows.all λ r=>(listD r).isSome)=true/\(flatP rows).length<=24/\∃os:List (Option Int),flatP rows=os.map ddP:=by
 unfold planB at h;rw [C4,C4,C4] at h;refine ⟨of_decide_eq_true h.1,h.2.1,of_decide_eq_true h.2.2.1,?_⟩;have b :∀a:List PyData,a.all z17=true->∃os:List (Option Int),a=os.map ddP:=by
  intro a;induction a with
  | nil=>exact λ _=>⟨[],rfl⟩
  | cons d a ih=>intro h;rw [F5,C4] at h;obtain ⟨o,rfl⟩:=zfc h.1;obtain ⟨os,rfl⟩:=ih h.2;exact ⟨o :: os,rfl⟩
 exact b _ h.2.2.2
theorem ws_dd (os:List (Option Int)):wsP (os.map ddP)=os.filterMap id:=by unfold wsP;rw [List.filterMap_map];congr 1;funext o;exact wr1_dd o
theorem zc9 {α β:Type} {R S:α->β->Prop} :∀{xs:List α} {ys:List β},(∀a b,a∈xs->R a b->S a b)->All2 R xs ys->All2 S xs ys
 | _,_,_,.nil=>.nil
 | _,_,h,.cons a r=>.cons (h _ _ (.head _) a) (zc9 (λ x y c=>h x y (.tail _ c)) r)
theorem ws_of {os:List (Option Int)} {zs ys:List V} (lz:zs.length=os.length) (h:All2 (λ (i:Nat) y=>∀k,os[i]? = some (some k)->y=V.int k) ((V0 zs.length).filter λ i=>(os[i]?.getD none).isSome) ys):ys=(os.filterMap id).map V.int:=by
 rw [lz] at h;clear lz zs;have g :∀(n:Nat) (os:List (Option Int)) (ys:List V),All2 (λ (i:Nat) y=>∀k,os[i - n]? = some (some k)->y=V.int k) ((j43 n os.length).filter λ i=>(os[i - n]?.getD none).isSome) ys->ys=(os.filterMap id).map V.int:=by
  intro n os;induction os generalizing n with
  | nil=>intro ys h;cases h;rfl
  | cons o os ih=>
   intro ys h;have m :∀(l:List Nat),(∀i∈l,n < i)->(l.filter λ i=>((o :: os)[i - n]?.getD none).isSome)=l.filter λ i=>(os[i - (n + 1)]?.getD none).isSome:=λ l e=>List.filter_congr λ i b=>by have:=e i b;rw [show i - n=(i - (n + 1)) + 1 by omega,Z2]
   have d :∀i∈j43 (n + 1) os.length,n < i:=λ i b=>by
    have:=(List.mem_range'.mp b)
    omega
   rw [X0,List.range'_succ,List.filter_cons,m _ d] at h;have c :∀ys,All2 (λ (i:Nat) y=>∀k,(o :: os)[i - n]? = some (some k)->y=V.int k) ((j43 (n + 1) os.length).filter λ i=>(os[i - (n + 1)]?.getD none).isSome) ys->ys=(os.filterMap id).map V.int:=λ ys h=>by refine ih (n + 1) ys (zc9 (λ i y b f k j=>f k ?_) h);have:=d i (List.mem_filter.mp b).1;rw [show i - n=(i - (n + 1)) + 1 by omega,Z2];exact j
   rw [L8,E4] at h;cases o with
   | none=>rw [if_neg (show ¬ ((some (none:Option Int)).getD none).isSome=true from B1)] at h;exact c ys h
   | some k=>
    rw [if_pos (show ((some (some k)).getD none).isSome=true from rfl)] at h;cases h with
    | cons a r=>rw [a k (by rw [L8];rfl),c _ r];rfl
 refine g 0 os ys ?_;rw [<-List.range_eq_range'];exact h
def z5f (K:j0):Sp:=λ vs H Q E=>∃(m:Int) (x:V) (rows:List PyData),vs=[.int m,x]/\HPd H (.list rows) x/\PlOk rows/\
 (∀H',Same H H'->(m=3\/m=5)->goodB rows=true->Q .non H')/\(∀H',Same H H'->(m=3\/m=5->goodB rows=false)->E (.ref 82) none H')
theorem in35 {m:Int}:inV (.int m) [.int 3,.int 5]=decide (m=3\/m=5):=by rw [show ([.int 3,.int 5]:List V)=([3,5]:List Int).map V.int from rfl,z81];simp
theorem z8t (T:TX (kx w) mg) (c0:Ca P w mg base "is_whole" ["value"] 1 z36) (c1:Ca P w mg base "is_plan" ["kind","plan","most_hands","most_deeds"] 6 z9x) (c2:Ca P w mg base "planned" ["plan"] 1 (z5w (kx w))):Fo P w mg base (CXE P w base) 7 382 y0u ["many","plan"] (z5f (kx w)):=by
 refine (z3v w.params).okE sc_check_plan (λ vs H Q E h=>?_) (λ a4 A a5 s H vs Q E Y h=>?_)
 ·obtain ⟨m,x,t,rfl,_⟩:=h;rfl
 ·obtain ⟨m,x,t,rfl,hx,pk,q,qe⟩:=h;refine ⟨_,(z02 (ps_if (PW.pt (pw_or (pt_not (pt_val (pe_cal c0 (Y.mono (by decide)) rfl (z01 (pv 0) pa_nil)) (λ _=>rfl))) (pw_or1 (z0a zah (pv 0) (pe_tup (z01 pe_int (z01 pe_int pa_nil))) (by with_unfolding_all rfl)))))
   (z05 (z89 C9 (T.of (zbj _)) (zal _) rfl (z01 pe_str pa_nil)))
   z0f)
   (z02 (ps_if (pt_not (pt_val (pe_cal c1 (Y.mono (by decide)) rfl (z01 pe_str (z01 (pv 1) (z01 (z1t (v:=.int (6)) rfl (T.of (zb5 _)) ⟨_,rfl⟩) (z01 (z1t (v:=.int (24)) rfl (T.of (zaa _)) ⟨_,rfl⟩) pa_nil))))) (λ _=>rfl)))
   (z05 (z89 C9 (T.of (zbj _)) (zal _) rfl (z01 pe_str pa_nil)))
   z0f)
   (z02 (zdu (i:=2) sc_check_plan.nd rfl (N1 rfl) (xs:=["verb","worth"]) (g:=gTup (kx w) 2 (gCons (gName 0) (gCons (gName 1) gNil))) (fr:=[]) rfl (z14 (pe_cal c2 (Y.mono (by decide)) rfl (z01 (pv 1) pa_nil))) (λ _ z=>absurd z K0) (zby rfl) (λ _ z=>absurd z K0) (by decide +kernel) rfl (by decide +kernel) (λ _ _ _ _ _=>(pg_tup rfl (z0u (pg_cn (N:=["verb","worth"]) 0) (z0u (pg_cn (N:=["verb","worth"]) 1) z74)))) (λ _ _ _ _ _=>(pf_one (z0a opEq (pv 0) pe_str (nomark _)))) (λ _ _ _ _ _=>(pv 1)))
   (z05 (ps_if (PW.pt (pw_or (z0a zc6 pe_int (pv 2) (by with_unfolding_all rfl)) (pw_or1 (z0a op_lt (zg2 rfl rfl (T.no (n_len _)) rfl (T.no (n_set _)) C2 boot_set (pv 2)) (z06 z0l rfl (T.no (n_len _)) C2 (z01 (pv 2) pa_nil)) (nomark _)))))
   (z05 (z89 C9 (T.of (zbj _)) (zal _) rfl (z01 pe_str pa_nil)))
   z0f))))),?_⟩
  have L :∀{n:Hp},Same H n->(m=3\/m=5->goodB t=false)->(1:Nat)<=sizeLine/\E (.ref 82) none n:=λ s' b=>⟨by decide,qe _ s' b⟩
  refine sq_if (t_or (tB_not ?_));refine ⟨_,rfl,_,"int",rfl,rfl,?_⟩;refine ⟨_,rfl,iteN (by decide) ?_⟩;refine ⟨_,rfl,w_2,λ p hp=>⟨p,_,rfl,.inr (SqT.of z03),rfl,rfl,_,rfl,?_⟩⟩;have C:=Same.upd (o:=.tup [.int 3,.int 5]) hp;generalize upd H p (.tup [.int 3,.int 5])=H1 at C⊢;rw [in35];by_cases m35:m=3\/m=5;rotate_left
  ·rw [decide_eq_false m35];exact iteP rfl (L C λ z=>absurd z m35)
  rw [decide_eq_true m35];refine iteN (by decide) ?_;refine t_nx (sq_if (tB_not ?_));refine ⟨_,rfl,x,t,rfl,hx.same C,pk,λ H2 s2=>?_⟩;have u:=C.trans s2;cases hb:planB t with
  | false=>exact ⟨_,rfl,iteP rfl (L u λ _=>by unfold goodB;rw [hb];rfl)⟩
  | true=>
  refine ⟨_,rfl,iteN (by decide) ?_⟩;obtain ⟨l6,al,J,c,a0⟩:=zec hb;have j:goodB t=(decide ((0:Int)∉c.filterMap id) && decide (c.filterMap id).Nodup):=by unfold goodB;rw [hb,a0,ws_dd];rfl
  obtain ⟨a,a2,rfl,ea,a3⟩:=hx;obtain ⟨a1,z,X⟩:=z5t a3.all al;have G:=z04 X;rw [a0] at X G J;rw [G0] at G J;refine t_nx (z0c ?_);refine zih (K:=KX w.params) (λ l Z n=>Same H2 n/\n l=some (.lst Z)/\Z=a1.flatten) (λ R h=>?_) (λ a' xs H1 z=>⟨SqL.of z.2.1,?_⟩) (λ i=>(c[i]?.getD none).isSome) (λ i y _=>∀k,c[i]? = some (some k)->y=V.int k) (λ _ _ _ _ _ z=>z) ?_ ?_
  ·exact ⟨_,rfl,a,a2,a1,rfl,u _ _ ea,z00 (λ _ _ z=>LsAt.same u z) z,by omega,λ l H3 r S=>h _ _ _ ⟨r,S,rfl⟩⟩
  ·rw [z.2.2,G];exact L0 (m:=24) J (by decide)
  ·rintro l xs H3 ⟨r,S,rfl⟩ i hi v H4 s4 hv KT KF h1 h2;obtain ⟨d,f,I⟩:=z0n X hv;rw [R0] at f;cases ho:c[i]? with
   | none=>rw [ho] at f;cases f
   | some o=>
   rw [ho] at f;cases f;rw [ho] at h1 h2;have I:=I.same (u.trans (r.trans s4));cases o with
   | none=>obtain ⟨p,zs,rfl,U,x1,r1,rfl,W,O,M,rfl,B,e3⟩:=I;cases (show x1=.str "read" from W);cases (show O=.non from B);cases (show M=[] from e3);refine ⟨p,_,rfl,SqT.of U,rfl,_,_,rfl,_,_,rfl,rfl,[some (.str "read"),some .non],rfl,rfl,?_⟩;exact ⟨_,rfl,rfl,_,rfl,iteK (h2 rfl _ (Same.refl _))⟩
   | some k=>obtain ⟨p,zs,rfl,U,x1,r1,rfl,W,O,M,rfl,B,e3⟩:=I;cases (show x1=.str "write" from W);cases (show O=.int k from B);cases (show M=[] from e3);refine ⟨p,_,rfl,SqT.of U,rfl,_,_,rfl,_,_,rfl,rfl,[some (.str "write"),some (.int k)],rfl,rfl,?_⟩;exact ⟨_,rfl,rfl,_,rfl,iteP (by decide +kernel) ⟨_,rfl,h1 rfl _ _ (Same.refl _) λ k' e=>by cases e;rfl⟩⟩
  rintro l xs H3 ⟨r,S,rfl⟩ l1 H4 Z s4 hl1 al1;have ey:=ws_of (by rw [G]) al1;subst ey;have lu:(c.filterMap id).length<=24:=L0 (j28 _ _) J;generalize c.filterMap id=us at lu j al1⊢;have s5:=Same.upd (o:=.lst (us.map V.int)) hl1;have F:upd H4 l1 (.lst (us.map V.int)) l1=some (.lst (us.map V.int)):=z03;have D:=u.trans (r.trans (s4.trans s5));generalize upd H4 l1 (.lst (us.map V.int))=H5 at s5 F D⊢;refine g_name ?_;refine z2e (t_or ?_);refine ⟨_,rfl,l1,_,rfl,.inl (SqL.of F),rfl,zc3 _,_,rfl,?_⟩;by_cases n0:(0:Int)∈us
  ·exact iteP (by show inV _ _=true;rw [z81,decide_eq_true n0]) (iteP rfl (L D λ _=>by rw [j,decide_eq_false (λ h=>h n0)];rfl))
  refine iteN (by show ¬ inV _ _=true;rw [z81,decide_eq_false n0];decide) ?_;refine ⟨_,rfl,l1,us,rfl,SqL.of F,by omega,_,rfl,.inl ⟨l1,_,rfl,.inl (SqL.of F),_,_,rfl,rfl,_,rfl,?_⟩⟩;rw [decide_eq_true n0,w6] at j;by_cases nd:us.Nodup;rotate_left
  ·refine iteP (decide_eq_true ?_) (L D λ _=>by rw [j,decide_eq_false nd]);rw [G0];rcases Nat.lt_or_ge (us.foldl addI []).length us.length with z|z
   ·omega
   ·exact absurd (zbz us [] (by rw [X3,C5];exact z)).1 nd
  ·refine iteN (λ e=>?_) (q _ D m35 (by rw [j,decide_eq_true nd]));have:=of_decide_eq_true e;have B:=z92 us [] nd (λ _ _ h=>by cases h);rw [G0] at this;rw [B,X3,C5] at this;omega
theorem z39 {K:j0} {ta tv:TE} {f:Str} {rest:TS} {D:Ends} {σ:L2.St} {H:Hp} (h:tv σ H λ y H1=>ta σ H1 λ x H2=>∃a C dx fs,x=.ref a/\H2 a=some (.ins C dx fs)/\Cls K C/\NoAttr K C f/\fs.length < 1000/\rest D σ (upd H2 a (.ins C dx (putF f y fs)))):tSeq (sFld K ta tv f) rest D σ H:=h
theorem zfg {K:j0} {ta tv:TE} {f:Str} {D:Ends} {σ:L2.St} {H:Hp} (h:tv σ H λ y H1=>ta σ H1 λ x H2=>∃a C dx fs,x=.ref a/\H2 a=some (.ins C dx fs)/\Cls K C/\NoAttr K C f/\fs.length < 1000/\D.nx σ (upd H2 a (.ins C dx (putF f y fs)))):sFld K ta tv f D σ H:=h
theorem zey (f:Str) (v:V) :∀fs:List (Str×V),(putF f v fs).length<=fs.length + 1
 | []=>J0 _
 | (g,x) :: r=>by
  unfold putF;split
  ·simp
  ·have:=zey f v r;simp only [X0];omega
theorem z16 {K:j0} {x dx C:Addr} {H H1:Hp} {fs:List (Str×V)} {R:L2.St->Hp->Prop} {σ:L2.St} {f:Str} {y:V} {i n:Nat} (k:Kept x H H1) (e:H1 x=some (.ins C dx fs)) (hv:σ[i]? = some (some (.ref x))) (c:Cls K C) (na:NoAttr K C f) (l:fs.length<=n) (hn:n < 100)
  (q :∀H2,Kept x H H2->(∀b o,b≠x->H1 b=some o->H2 b=some o)->H2 x=some (.ins C dx (putF f y fs))->(putF f y fs).length<=n + 1->R σ H2) :
  tVar i σ H1 λ z H2=>∃a C dx fs,z=.ref a/\H2 a=some (.ins C dx fs)/\Cls K C/\NoAttr K C f/\fs.length < 1000/\R σ (upd H2 a (.ins C dx (putF f y fs))):=
 ⟨_,hv,x,C,dx,fs,rfl,e,c,na,by omega,q _ (k.trans .set) (λ b o g d=>by rw [upd_ne g];exact d) z03 (L0 (zey f y fs) (by omega))⟩
theorem Kept.upd {x p:Addr} {H:Hp} {o:HO} (h:H p=none):Kept x H (upd H p o):=(Same.upd h).kept
end
section
noncomputable def mixZ (c k:Int):Int:=((c + 15485867 * (k + 1)) % 2147483579 * ((c + 15485867 * (k + 1)) % 2147483579) % 2147483563) * (((c + 15485867 * (k + 1)) % 2147483579 * ((c + 15485867 * (k + 1)) % 2147483579) % 2147483563) + 9001 + 5 * k) % 2147483549 / 32
noncomputable def rowsP (pl:List (List (Option Int))):List PyData:=pl.map λ r=>.list (r.map ddP)
structure PlG (pl:List (List (Option Int))):Prop where
 n0:0 < pl.length
 n6:pl.length<=6
 f:pl.flatten.length<=24
 nd:(pl.flatten.filterMap id).Nodup
 nz:(0:Int)∉pl.flatten.filterMap id
 bd :∀i∈pl.flatten.filterMap id,-1000000000<=i/\i<=1000000000
theorem ze6 (L:List (List PyData)):flatP (L.map PyData.list)=L.flatten:=by
 unfold flatP;rw [B5];congr 1;induction L with
 | nil=>rfl
 | cons a r ih=>rw [U1,ih];rfl
theorem zin (pl:List (List (Option Int))):rowsP pl=(pl.map (List.map ddP)).map PyData.list:=by unfold rowsP;rw [B5];rfl
theorem z8l (pl:List (List (Option Int))):flatP (rowsP pl)=pl.flatten.map ddP:=by rw [zin,ze6,List.map_flatten]
theorem zb3 {i:Int} (h0:-1000000000<=i) (h1:i<=1000000000):z17 (ddP (some i))=true:=by show deedP (.str "register") (.str "write") (.int i)=true;unfold deedP;dsimp only;rw [if_neg (by decide +kernel),if_pos (by decide +kernel)];show z0j (.int i) 1000000000=true;unfold z0j;dsimp only;rw [decide_eq_true h0,decide_eq_true h1];rfl
theorem zag:z17 (ddP none)=true:=by decide +kernel
theorem zg0 {pl:List (List (Option Int))} (h:PlG pl):goodB (rowsP pl)=true:=by
 unfold goodB planB;rw [z8l,ws_dd,G0,decide_eq_true h.f,decide_eq_true h.nz,decide_eq_true h.nd,decide_eq_true (show (rowsP pl).length<=6 by unfold rowsP;rw [G0];exact h.n6)];have c:((rowsP pl).all λ r=>(listD r).isSome)=true:=by unfold rowsP;rw [E8];exact List.all_eq_true.mpr λ _ _=>rfl
 have a:((pl.flatten.map ddP).all z17)=true:=by
  rw [E8];refine List.all_eq_true.mpr λ o b=>?_;cases o with
  | none=>exact zag
  | some i=>have:=h.bd i (List.mem_filterMap.mpr ⟨_,b,rfl⟩);exact zb3 this.1 this.2
 rw [c,a];rfl
theorem zj8 (o:Option Int):smallB (ddP o)=true:=by cases o<;>rfl
theorem zit (o:Option Int):(ddP o).depth<=5:=by cases o<;>simp [ddP,j27,E2]
theorem zjr {pl:List (List (Option Int))} (h:PlG pl):PlOk (rowsP pl):=by have:=h.n6;have:=h.f;refine ⟨by unfold rowsP;rw [G0];omega,by rw [z8l,G0];omega,λ d a=>?_⟩;rw [z8l] at a;obtain ⟨o,_,rfl⟩:=List.mem_map.mp a;exact zj8 o
theorem z4w {n:Nat} :∀{ds:List PyData},(∀d∈ds,d.depth<=n)->E2 ds<=n
 | [],_=>A2 _
 | d :: ds,h=>by show max d.depth (E2 ds)<=n;have b:=h d (.head _);have c:=z4w (ds:=ds) λ e a=>h e (.tail _ a);omega
theorem zdz {n:Nat} {ds:List PyData} (h :∀d∈ds,d.depth<=n):(PyData.list ds).depth<=n + 1:=by show E2 ds + 1<=n + 1;have:=z4w h;omega
theorem zef (pl:List (List (Option Int))) :∀d∈rowsP pl,d.depth<=6:=λ d a=>by unfold rowsP at a;obtain ⟨r,_,rfl⟩:=List.mem_map.mp a;exact zdz λ e b=>by obtain ⟨o,_,rfl⟩:=List.mem_map.mp b;exact zit o
theorem z5s {α:Type} :∀{L:List (List α)} {h:Nat} {own X:List α},L[h]? = some own->(L.set h X).flatten.Perm (X++(L.eraseIdx h).flatten)/\L.flatten.Perm (own++(L.eraseIdx h).flatten)
 | a :: L,0,own,X,e=>by cases (show some a=some own from e);exact ⟨.refl _,.refl _⟩
 | a :: L,h + 1,own,X,e=>by
  obtain ⟨c,d⟩:=z5s (L:=L) (h:=h) (own:=own) (X:=X) (by simpa using e);have b :∀(Y:List α),(a++(Y++(L.eraseIdx h).flatten)).Perm (Y++(a++(L.eraseIdx h).flatten)):=λ Y=>by rw [<-D2,<-D2];exact List.perm_append_comm.append_right _
  exact ⟨(c.append_left a).trans (b X),(d.append_left a).trans (b own)⟩
end
section
variable {P:Program} {w:Z0} {mg:Str->Option Value} {base:Heap}
def z1y (K:j0):Sp:=λ vs H Q _=>∃(a:Addr) (ns:List Int) (k:Nat),vs=[.ref a,.int (k:Nat)]/\SqL K H a (ns.map V.int)/\∀i,Q (.int i) H
theorem z6q (T:TX (kx w) mg):Fo P w mg base CX0 1 396 y0d ["script","k"] (z1y (kx w)):=by
 refine (z26 w.params).ok z6o (λ d H Q E h=>?_) (λ i A f s H d Q E g h=>?_)
 ·obtain ⟨a,b,k,rfl,_⟩:=h;rfl
 ·obtain ⟨a,b,k,rfl,c,q⟩:=h;refine ⟨_,(z02 (ps_if (z0a op_lt (pv 1) (z06 z0l rfl (T.no (n_len _)) C2 (z01 (pv 0) pa_nil)) (nomark _))
   (z05 (ps_ret (pe_ix ix_seq (pv 0) (pv 1) (λ _ _=>rfl))))
   z0f)
   (z05 (ps_ret pe_int))),?_⟩
  refine sq_if ?_;refine ⟨_,rfl,_,rfl,.inl ⟨a,_,rfl,.inl c,_,_,rfl,rfl,_,rfl,?_⟩⟩;by_cases z:k < b.length
  ·refine iteP (decide_eq_true (by rw [G0];omega)) ?_;refine ⟨_,rfl,_,rfl,.inl ⟨a,_,k,.int b[k],rfl,rfl,c,z09 (by rw [R0,v0 z];rfl),q _⟩⟩
  ·exact iteN (λ e=>z (by have:=of_decide_eq_true e;rw [G0] at this;omega)) (t_nx (sq_ret (q 0)))
def z34:Sp:=λ vs H Q _=>∃(c k:Int),vs=[.int c,.int k]/\0<=k/\k < 1000/\Q (.int (mixZ c k)) H
theorem zcj (T:TX (kx w) mg):Fo P w mg base CX0 1 403 y1h ["cell","k"] z34:=by
 refine (z6a w.params).ok sc__law_mix (λ a H Q E h=>?_) (λ j A f s H a Q E g h=>?_)
 ·obtain ⟨c,k,rfl,_⟩:=h;rfl
 ·obtain ⟨c,k,rfl,e,l,q⟩:=h;refine ⟨_,(z02 (ps_set (i:=2) sc__law_mix.nd rfl (N1 rfl) (pe_op op_mod (pe_op opAdd (pv 0) (pe_op op_mul pe_int (pe_op opAdd (pv 1) pe_int))) pe_int))
   (z02 (ps_set (i:=2) sc__law_mix.nd rfl (N1 rfl) (pe_op op_mod (pe_op op_mul (pv 2) (pv 2)) pe_int))
   (z05 (ps_ret (pe_op z1f (pe_op op_mod (pe_op op_mul (pv 2) (pe_op opAdd (pe_op opAdd (pv 2) pe_int) (pe_op op_mul pe_int (pv 1)))) pe_int) pe_int))))),?_⟩
  refine ⟨_,rfl,_,rfl,.inl ⟨_,_,rfl,rfl,_,_,rfl,rfl,.inl ⟨by decide,by decide⟩,.inl ⟨_,_,rfl,rfl,_,_,rfl,rfl,(show (0:Int) < 2147483579 by decide),?_⟩⟩⟩;have d :∀z:Int,-(2 ^ 64) < z % 2147483579/\z % 2147483579 < 2 ^ 64:=λ z=>⟨by omega,by omega⟩
  have b :∀z:Int,-(2 ^ 64) < z % 2147483563/\z % 2147483563 < 2 ^ 64:=λ z=>⟨by omega,by omega⟩
  refine ⟨_,rfl,_,rfl,_,_,rfl,rfl,.inl (d _),_,_,rfl,rfl,(show (0:Int) < 2147483563 by decide),?_⟩;exact ⟨_,rfl,_,rfl,.inl ⟨_,_,rfl,rfl,_,rfl,_,_,rfl,rfl,.inl ⟨by decide,by decide⟩,.inl ⟨_,_,rfl,rfl,_,_,rfl,rfl,.inl (b _),_,_,rfl,rfl,(show (0:Int) < 2147483549 by decide),_,_,rfl,rfl,⟨by decide,by decide⟩,q⟩⟩⟩
theorem p18c:CPow 10 18:=⟨by decide,by decide,by decide⟩
def z55:Sp:=λ vs H Q _=>∃(c:Int) (a:Addr) (ls:List Int),vs=[.int c,.ref a]/\H a=some (.lst (ls.map V.int))/\(∀l∈ls,0 < l/\l < 2 ^ 62)/\ls.length<=30/\
 ∀(b:Addr) (xs:List Int) H',Same H H'->H b=none->H' b=some (.lst (xs.map V.int))->xs.length=ls.length->(∀(j:Nat) x l,xs[j]? = some x->ls[j]? = some l->0<=x/\x < l)->Q (.ref b) H'
theorem z9s (T:TX (kx w) mg) (c0:Ca P w mg base "_law_mix" ["cell","k"] 1 z34):Fo P w mg base CX0 2 410 y0w ["cell","least"] z55:=by
 refine (z3i w.params).ok sc__law_parts (λ N H Q E h=>?_) (λ X A Y s H N Q E O h=>?_)
 ·obtain ⟨c,a,e,rfl,_⟩:=h;rfl
 ·obtain ⟨c,a,e,rfl,t,S,W,q⟩:=h;refine ⟨_,(z02 (ps_set (i:=2) sc__law_parts.nd rfl (N1 rfl) (pe_lst pa_nil))
   (z02 (ps_set (i:=3) sc__law_parts.nd rfl (N1 rfl) (pe_op op_sub (pv 0) (pe_op op_pow pe_int pe_int)))
   (z02 (ps_for Y2 rfl (z1d rfl (T.no (z3c _)) (z01 (z06 z0l rfl (T.no (n_len _)) C2 (z01 (pv 1) pa_nil)) pa_nil)) (z0m (i:=4) sc__law_parts.nd rfl (N1 rfl))
   (z05 (ps_if (z0a op_lt (pv 0) (pe_op op_pow pe_int pe_int) (nomark _))
   (z05 (z0i (z0r (pv 2) (z01 (pe_op op_mod (pe_op op_mul (pe_cal c0 (O.mono (by decide)) rfl (z01 (pv 0) (z01 (pv 4) pa_nil))) pe_int) (pe_ix ix_seq (pv 1) (pv 4) (λ _ _=>rfl))) pa_nil))))
   (z02 (z0i (z0r (pv 2) (z01 (pe_op op_mod (pv 3) (pe_ix ix_seq (pv 1) (pv 4) (λ _ _=>rfl))) pa_nil)))
   (z05 (ps_set (i:=3) sc__law_parts.nd rfl (N1 rfl) (pe_op z1f (pv 3) (pe_ix ix_seq (pv 1) (pv 4) (λ _ _=>rfl)))))))))
   (z05 (ps_ret (pv 2)))))),?_⟩
  refine zhx ?_;refine ⟨w_0,λ b o=>?_⟩;refine g_name ?_;obtain ⟨U,M,F,d⟩:=newA (.lst []) o;rw [<-M];refine z0c ⟨_,rfl,_,_,rfl,rfl,p18c,_,_,rfl,rfl,g_name ?_⟩;refine ⟨_,rfl,.inl ⟨a,_,rfl,.inl (SqL.of (F _ _ t)),_,rfl,by omega,by rw [G0];omega,?_⟩⟩;rw [R5,G0];have L:a≠b:=λ z=>by rw [z,o] at t;cases t
  refine z33 (lo:=0) (n:=e.length) (λ i σ G=>∃xs r x4,Same H G/\G b=some (.lst (xs.map V.int))/\xs.length=i/\(∀(j:Nat) x l,xs[j]? = some x->e[j]? = some l->0<=x/\x < l)/\σ=[some (.int c),some (.ref a),some (.ref b),some (.int r),x4]) ⟨[],_,_,F,d,rfl,(λ j x l h=>by simp at h),rfl⟩ ?_ ?_
  ·rintro j σ J I ⟨xs,r,x4,s2,eb,lx,bd,rfl⟩;rw [N8];refine g_name ?_;have C:e[j]? = some e[j]:=v0 I;have f:=S _ (E3 I);generalize e[j]=l at C f;have v:atI (e.map V.int) (j:Nat)=some (.int l):=z09 (by rw [R0,C];rfl);have D:=s2 _ _ t;have snoc :∀y,0<=y->y < l->∀(i:Nat) x u,(xs++[y])[i]? = some x->e[i]? = some u->0<=x/\x < u:=λ y g p i x u d B=>by
    by_cases z:i < xs.length
    ·rw [F1 z] at d;exact bd i x u d B
    ·rw [D1 (by omega)] at d;have R:i - xs.length=0:=by have:=(List.getElem?_eq_some_iff.mp d).1;simp only [Q3] at this;omega
     rw [R] at d;cases d;have:i=j:=by omega
     rw [this,C] at B;cases B;exact ⟨g,p⟩
   have K:(xs.map V.int).length < sizeLine:=by rw [G0];exact W0 (m:=30) (by omega) (by decide)
   refine z2e ?_;refine ⟨_,rfl,_,_,rfl,rfl,p18c,_,_,rfl,rfl,_,rfl,?_⟩;refine ite2 (λ _=>?_) λ _=>?_
   ·refine ⟨_,rfl,.inl ⟨rfl,_,SqL.of eb⟩,_,rfl,_,rfl,c,j,rfl,by omega,by omega,?_⟩;refine ⟨_,_,rfl,rfl,.inr ⟨by decide,by decide⟩,_,rfl,_,rfl,.inl ⟨a,_,_,.int l,rfl,rfl,SqL.of D,v,_,_,rfl,rfl,f.1,?_⟩⟩;have g:=G5 (mixZ c j * 1009) (show l≠0 by omega);have p:=R4 (mixZ c j * 1009) f.1;refine ⟨b,_,_,rfl,rfl,eb,K,xs++[mixZ c j * 1009 % l],_,_,Same.keep s2 o,?_,by rw [I0,lx];rfl,snoc _ g p,rfl⟩;rw [W1];exact z03
   ·refine ⟨_,rfl,.inl ⟨rfl,_,SqL.of eb⟩,_,rfl,_,rfl,_,rfl,.inl ⟨a,_,_,.int l,rfl,rfl,SqL.of D,v,_,_,rfl,rfl,f.1,?_⟩⟩;have g:=G5 r (show l≠0 by omega);have p:=R4 r f.1;refine ⟨b,_,_,rfl,rfl,eb,K,?_⟩;refine ⟨_,rfl,_,rfl,_,rfl,.inl ⟨a,_,_,.int l,rfl,rfl,SqL.of (by rw [upd_ne L];exact D),v,_,_,rfl,rfl,⟨f.1,by omega⟩,?_⟩⟩;refine ⟨xs++[r % l],_,_,Same.keep s2 o,?_,by rw [I0,lx];rfl,snoc _ g p,rfl⟩;rw [W1];exact z03
  ·rintro σ J ⟨xs,r,x4,s2,eb,lx,bd,rfl⟩;exact ⟨_,rfl,q b xs J s2 o eb lx bd⟩
theorem dd_tk {H H':Hp} {o:Option Int} {y:V} (ht :∀p xs,H p=some (.tup xs)->H' p=some (.tup xs)) (h:HPd H (ddP o) y):HPd H' (ddP o) y:=by
 cases o with
 | none=>obtain ⟨p,xs,rfl,e,r⟩:=h;exact ⟨p,xs,rfl,ht _ _ e,r⟩
 | some i=>obtain ⟨p,xs,rfl,e,r⟩:=h;exact ⟨p,xs,rfl,ht _ _ e,r⟩
structure PlJ (H0 H:Hp) (a:Addr) (bs:List Addr) (pl:List (List (Option Int))):Prop where
 l:H a=some (.lst (bs.map V.ref))
 nd:bs.Nodup
 fr :∀b∈bs,H0 b=none/\b≠a
 ln:bs.length=pl.length
 ow :∀(j:Nat) (own:List (Option Int)) (b:Addr),pl[j]? = some own->bs[j]? = some b->∃ys,H b=some (.lst ys)/\All2 (λ o y=>HPd H (ddP o) y) own ys
theorem PlJ.same {H0 H H':Hp} {a:Addr} {bs:List Addr} {pl:List (List (Option Int))} (h:PlJ H0 H a bs pl) (s:Same H H'):PlJ H0 H' a bs pl:=
 ⟨s _ _ h.l,h.nd,h.fr,h.ln,λ j own b f c=>by obtain ⟨e,d,g⟩:=h.ow j own b f c;exact ⟨e,s _ _ d,z00 (λ _ _ z=>z.same s) g⟩⟩
theorem PlJ.add {H0 H:Hp} {a b:Addr} {bs:List Addr} {pl:List (List (Option Int))} {t:Nat} {own:List (Option Int)} {d:Option Int} {ys:List V} {y:V} (h:PlJ H0 H a bs pl) (ht:pl[t]? = some own) (hb:bs[t]? = some b) (ey:H b=some (.lst ys)) (ay:All2 (λ o y=>HPd H (ddP o) y) own ys) (ep:HPd H (ddP d) y) :
  PlJ H0 (upd H b (.lst (ys++[y]))) a bs (pl.set t (own++[d])):=by
 have s:=A1 hb;have g :∀(q:Addr) (i:List V),H q=some (.tup i)->upd H b (.lst (ys++[y])) q=some (.tup i):=λ q i e=>by rw [upd_ne (λ z=>by rw [z,ey] at e;cases e)];exact e
 have lt:t < pl.length:=(List.getElem?_eq_some_iff.mp ht).1;refine ⟨by rw [upd_ne (X1 (h.fr b s).2)];exact h.l,h.nd,h.fr,by rw [U0];exact h.ln,λ j p k f c=>?_⟩;by_cases z:j=t
 ·subst z;rw [hb] at c;cases c;rw [P0 lt] at f;cases f;exact ⟨_,z03,z1j (z00 (λ _ _ z=>dd_tk g z) ay) (dd_tk g ep)⟩
 ·rw [Y1 (X1 z)] at f;obtain ⟨r,n,u⟩:=h.ow j p k f c;have m:k≠b:=λ e=>by subst e;have:=(List.getElem?_inj (List.getElem?_eq_some_iff.mp hb).1 h.nd).mp (hb.trans c.symm);exact z this.symm
  exact ⟨r,by rw [upd_ne m];exact n,z00 (λ _ _ z=>dd_tk g z) u⟩
theorem z8i {H:Hp} {α:Type} {f:α->PyData} :∀{xs:List α} {ys:List V},All2 (λ o y=>HPd H (f o) y) xs ys->HPds H (xs.map f) ys
 | _,_,.nil=>(rfl:([]:List V)=[])
 | _,_,.cons a r=>⟨_,_,rfl,a,z8i r⟩
theorem z82 {H:Hp} {α:Type} {f:α->PyData} :∀{xs:List α} {ys:List V},HPds H (xs.map f) ys->All2 (λ o y=>HPd H (f o) y) xs ys
 | [],_,h=>by cases (show _=[] from h);exact .nil
 | x :: xs,_,h=>by obtain ⟨y,r,rfl,a,b⟩:=h;exact .cons a (z82 b)
theorem zfd {H:Hp} {a:Addr} {bs:List Addr} {pl:List (List (Option Int))} (l:H a=some (.lst (bs.map V.ref))) (ln:bs.length=pl.length) (ow :∀(j:Nat) (own:List (Option Int)) (b:Addr),pl[j]? = some own->bs[j]? = some b->∃ys,H b=some (.lst ys)/\All2 (λ o y=>HPd H (ddP o) y) own ys):HPd H (.list (rowsP pl)) (.ref a):=by
 have h :∀(pl:List (List (Option Int))) (bs:List Addr),bs.length=pl.length->(∀(j:Nat) (own:List (Option Int)) (b:Addr),pl[j]? = some own->bs[j]? = some b->∃ys,H b=some (.lst ys)/\All2 (λ o y=>HPd H (ddP o) y) own ys)->HPds H (rowsP pl) (bs.map V.ref):=by
  intro pl;induction pl with
  | nil=>intro bs d _;rw [List.length_eq_zero_iff.mp d];exact (rfl:([]:List V)=[])
  | cons p pl ih=>
   intro bs d e;cases bs with
   | nil=>cases d
   | cons b bs=>obtain ⟨ys,g,k⟩:=e 0 p b rfl rfl;exact ⟨_,_,rfl,⟨b,ys,rfl,g,z8i k⟩,ih bs (by simpa using d) λ j own c i f=>e (j + 1) own c (by simpa using i) (by simpa using f)⟩
 exact ⟨a,_,rfl,l,h pl bs ln ow⟩
theorem ziu {pl:List (List (Option Int))} {t:Nat} {own:List (Option Int)} {d:Option Int} (ht:pl[t]? = some own):(pl.set t (own++[d])).flatten.Perm (d :: pl.flatten):=by obtain ⟨a,b⟩:=z5s (X:=own++[d]) ht;refine a.trans (.trans ?_ (b.symm.cons d));rw [D2];exact List.perm_middle
noncomputable def wrF (sg st sp:Int) (k:Nat):Int:=(1 - 2 * sg) * (1 + st + k * (1 + sp))
structure PlK (sg st sp:Int) (n:Nat) (pl:List (List (Option Int))):Prop where
 f:pl.flatten.length=n
 nd:(pl.flatten.filterMap id).Nodup
 by_ :∀i∈pl.flatten.filterMap id,∃k:Nat,k < n/\i=wrF sg st sp k
theorem zkr {sg st sp:Int} {i j:Nat} (s0:sg=0\/sg=1) (p0:0<=sp) (h:wrF sg st sp i=wrF sg st sp j):i=j:=by
 unfold wrF at h;have a:(i:Int) * (1 + sp)=(j:Int) * (1 + sp):=by rcases s0 with rfl|rfl<;>omega
 have:=Int.eq_of_mul_eq_mul_right (show (1 + sp)≠0 by omega) a;omega
theorem wrF_bd {sg st sp:Int} {k:Nat} (s0:sg=0\/sg=1) (t0:0<=st) (t1:st < 400000000) (p0:0<=sp) (p1:sp < 20000000) (hk:k < 24):wrF sg st sp k≠0/\-1000000000<=wrF sg st sp k/\wrF sg st sp k<=1000000000:=by unfold wrF;have a:0<=(k:Int) * (1 + sp):=Int.mul_nonneg (by omega) (by omega);have b:(k:Int) * (1 + sp)<=23 * (1 + sp):=Int.mul_le_mul_of_nonneg_right (by omega) (by omega);rcases s0 with rfl|rfl<;>omega
theorem PlK.add {sg st sp:Int} {n:Nat} {pl:List (List (Option Int))} {t:Nat} {own:List (Option Int)} {d:Option Int} (h:PlK sg st sp n pl) (s0:sg=0\/sg=1) (p0:0<=sp) (ht:pl[t]? = some own) (hd:d=none\/d=some (wrF sg st sp n)):PlK sg st sp (n + 1) (pl.set t (own++[d])):=by
 have b:=ziu (d:=d) ht;have g:=b.filterMap (id:Option Int->Option Int);refine ⟨by rw [b.length_eq,X0,h.f],?_,λ i a=>?_⟩
 ·rw [g.nodup_iff];rcases hd with rfl|rfl
  ·exact h.nd
  ·refine List.nodup_cons.mpr ⟨λ z=>?_,h.nd⟩;obtain ⟨k,c,e⟩:=h.by_ _ z;have:=zkr s0 p0 e;omega
 ·have a:=g.mem_iff.mp a;rcases hd with rfl|rfl
  ·obtain ⟨k,c,e⟩:=h.by_ i a;exact ⟨k,by omega,e⟩
  ·rcases List.mem_cons.mp a with rfl|a
   ·exact ⟨n,by omega,rfl⟩
   ·obtain ⟨k,c,e⟩:=h.by_ i a;exact ⟨k,by omega,e⟩
def z5o (K:j0):Sp:=λ vs H Q _=>∃(a:Addr) (ns:List Int) (hn mo:Nat) (wr:Int),vs=[.ref a,.int hn,.int mo,.int wr]/\SqL K H a (ns.map V.int)/\0 < hn/\hn<=6/\0 < mo/\mo<=24/\∀b pl H',Same H H'->PlG pl->pl.length=hn->pl.flatten.length<=mo->HPd H' (.list (rowsP pl)) (.ref b)->Q (.ref b) H'
theorem zap (T:TX (kx w) mg) (c0:Ca P w mg base "_law_cell_at" ["script","k"] 1 (z1y (kx w))) (c3:Ca P w mg base "_law_parts" ["cell","least"] 2 z55):Fo P w mg base CX0 3 415 y14 ["script","hands","most","writers"] (z5o (kx w)):=by
 refine (z4z w.params).ok sc__law_plan (λ vs H Q E h=>?_) (λ d5 A d6 s H vs Q E hr h=>?_)
 ·obtain ⟨a,ns,F,u,wr,rfl,_⟩:=h;rfl
 ·obtain ⟨a,ns,F,u,wr,rfl,sq,n0,n6,d8,d4,q⟩:=h;refine q_of (z3m (QS.mk (ps_asg (pe_cal c3 (hr.mono (by decide)) rfl (z01 (pe_cal c0 (hr.mono (by decide)) rfl (z01 (pv 0) (z01 pe_int pa_nil))) (z01 (pe_lst (z01 pe_int (z01 pe_int (z01 pe_int pa_nil)))) pa_nil))) (pg_lst rfl (z0u (z0m (i:=4) sc__law_plan.nd rfl (N1 rfl)) (z0u (z0m (i:=5) sc__law_plan.nd rfl (N1 rfl)) (z0u (z0m (i:=6) sc__law_plan.nd rfl (N1 rfl)) z74))))))
   (z3m (QS.mk (zdu (i:=7) sc__law_plan.nd rfl (N1 rfl) (xs:=["hand"]) (g:=gName 0) (fr:=[]) rfl (z1d rfl (T.no (z3c _)) (z01 (pv 1) pa_nil)) (λ _ z=>absurd z K0) (zby rfl) (λ _ z=>absurd z K0) (by decide +kernel) rfl (by decide +kernel) (λ _ _ _ _ _=>(pg_cn (N:=["hand"]) 0)) (λ _ _ _ _ _=>pf_nil) (λ _ _ _ _ _=>(pe_lst pa_nil))))
   (z3m (QS.mk (ps_set (i:=8) sc__law_plan.nd rfl (N1 rfl) (pe_cal c3 (hr.mono (by decide)) rfl (z01 (pe_cal c0 (hr.mono (by decide)) rfl (z01 (pv 0) (z01 pe_int pa_nil))) (z01 (pe_op opAdd (pe_lst (z01 (pv 2) pa_nil)) (pe_op op_rep (pe_lst (z01 (pe_op op_mul pe_int (pv 1)) pa_nil)) pe_int)) pa_nil)))))
   (z3m (qs_for Y2 rfl (z1d rfl (T.no (z3c _)) (z01 (pe_op opAdd pe_int (pe_ix ix_seq (pv 8) pe_int (λ _ _=>rfl))) pa_nil)) (z0m (i:=9) sc__law_plan.nd rfl (N1 rfl))
   (z3m (QS.mk (ps_set (i:=10) sc__law_plan.nd rfl (N1 rfl) (pe_op op_mod (pe_ix ix_seq (pv 8) (pe_op opAdd pe_int (pv 9)) (λ _ _=>rfl)) (pv 1))))
   (z3m (qs_set (i:=11) sc__law_plan.nd rfl (N1 rfl) (qe_tup (zi0 (QE.mk pe_str) (zi0 (QE.mk pe_non) qa_nil))))
   (z3m (QS.mk (ps_if (PW.pt (pw_and (z0a opEq (pe_op z1f (pe_ix ix_seq (pv 8) (pe_op opAdd pe_int (pv 9)) (λ _ _=>rfl)) (pv 1)) pe_int (nomark _)) (z6k (z0a op_lt (pv 10) (pv 3) (nomark _)))))
   (z05 (ps_set (i:=11) sc__law_plan.nd rfl (N1 rfl) (pe_tup (z01 pe_str (z01 (pe_op op_mul (pe_op op_sub pe_int (pe_op op_mul pe_int (pv 6))) (pe_op opAdd (pe_op opAdd pe_int (pv 4)) (pe_op op_mul (pv 9) (pe_op opAdd pe_int (pv 5))))) pa_nil)))))
   z0f))
   (zi4 (QS.mk (z0i (z0r (pe_ix ix_seq (pv 7) (pv 10) (λ _ _=>rfl)) (z01 (pv 11) pa_nil)))))))))
   (zi4 (QS.mk (ps_ret (pv 7)))))))) ?_
  refine z0c ?_;refine ⟨_,rfl,a,ns,2,rfl,sq,λ c2=>⟨w_3,λ l1 b6=>?_⟩⟩;have s1:=Same.upd (o:=.lst [V.int 400000000,.int 20000000,.int 2]) b6;have C:upd H l1 (.lst [V.int 400000000,.int 20000000,.int 2]) l1=some (.lst (([400000000,20000000,2]:List Int).map V.int)):=z03;generalize upd H l1 (.lst [V.int 400000000,.int 20000000,.int 2])=H1 at s1 C⊢;refine ⟨c2,l1,[400000000,20000000,2],rfl,C,by decide,by decide,λ b2 xs K s2 _ O W B=>?_⟩
  match xs,W with
  | [st,sp,sg],_=>
  have b0:=B 0 st _ rfl rfl;have U:=B 1 sp _ rfl rfl;have b3:=B 2 sg _ rfl rfl;have s0:sg=0\/sg=1:=by omega
  clear B;have a5:=s1.trans s2;refine ⟨b2,_,rfl,SqL.of O,rfl,_,_,rfl,_,_,rfl,_,_,rfl,rfl,?_⟩;refine z0c ?_;refine ⟨_,rfl,_,rfl,by omega,by omega,?_⟩;rw [R5];refine ⟨λ i m D I=>m=F - i/\i<=F/\Same K I/\∃bs:List Addr,D=bs.map V.ref/\bs.length=i/\bs.Nodup/\(∀b∈bs,K b=none/\I b=some (.lst [])),⟨F,rfl,A2 _,Same.refl _,[],rfl,rfl,.nil,λ b r=>by cases r⟩,?_⟩;rintro i m D H3 ⟨rfl,hi,s3,bs,rfl,lb,nd,fb⟩;by_cases hlt:i < F
  ·refine .inr ⟨hlt,by rw [G0,lb];exact L0 (m:=6) (by omega) (by decide),λ v H4 y=>?_⟩;obtain ⟨rfl,rfl⟩:=y;refine ⟨[some (.int (0 + (i:Int)))],rfl,rfl,iteT ?_⟩;refine ⟨w_0,λ b r=>?_⟩;refine ⟨F - (i + 1),by omega,rfl,hlt,s3.trans (Same.upd r),bs++[b],by rw [W1];rfl,by rw [I0,lb];rfl,?_,λ c J=>?_⟩
   ·rw [Y7];refine ⟨nd,List.nodup_cons.mpr ⟨K0,.nil⟩,λ x hx y hy e=>?_⟩;rw [List.mem_singleton.mp hy] at e;rw [e] at hx;have:=(fb b hx).2;rw [r] at this;cases this
   ·rcases List.mem_append.mp J with J|J
    ·exact ⟨(fb c J).1,(Same.upd r) _ _ (fb c J).2⟩
    ·rw [List.mem_singleton.mp J];exact ⟨s3.free r,z03⟩
  have ei:i=F:=by omega
  subst ei;refine .inl ⟨J0 _,by rw [G0,lb];exact L0 (m:=6) n6 (by decide),λ p Z=>?_⟩;refine g_name ?_;have s4:=Same.upd (o:=.lst (bs.map V.ref)) Z;have S:PlJ K (upd H3 p (.lst (bs.map V.ref))) p bs (N0 i []):=by
   refine ⟨z03,nd,λ b r=>⟨(fb b r).1,λ z=>?_⟩,by rw [Z1];exact lb,λ j own b C O=>?_⟩
   ·have:=(fb b r).2;rw [z,Z] at this;cases this
   ·have eo:own=[]:=(List.mem_replicate.mp (A1 C)).2;subst eo;exact ⟨[],s4 _ _ (fb b (A1 O)).2,.nil⟩
  have fp:K p=none:=s3.free Z;have b9:PlK sg st sp 0 (N0 i []):=by have e:(N0 i ([]:List (Option Int))).flatten=[]:=List.flatten_replicate_nil;exact ⟨by rw [e];rfl,by rw [e];exact .nil,λ z hz=>by rw [e] at hz;cases hz⟩
  have a1:=s3.trans s4;generalize upd H3 p (.lst (bs.map V.ref))=H4 at S a1⊢;clear s3 s4 fb Z;refine z0c ?_;refine ⟨_,rfl,a,ns,1,rfl,(a5.trans a1).seq sq,λ c1=>?_⟩;refine ⟨_,rfl,w_1,λ l5 b7=>⟨_,rfl,_,_,rfl,rfl,.inl ⟨by decide,by decide⟩,w_1,λ l6 c6=>?_⟩⟩;refine ⟨l6,24,_,rfl,rfl,z03,by decide,by decide,(show 1 * 24<=sizeLine by decide),λ l7 c8=>?_⟩;have u5:=Same.upd (o:=.lst [V.int u]) b7;have u6:=Same.upd (o:=.lst [V.int (2 * (i:Int))]) c6;have u7:=Same.upd (o:=.lst (N0 (24:Int).toNat [V.int (2 * (i:Int))]).flatten) c8;refine .inr (.inr (.inl ⟨l5,l7,_,_,rfl,rfl,u7 _ _ (u6 _ _ z03),z03,(show 1 + 24<=sizeLine by decide),λ l8 b8=>?_⟩));have u8:=Same.upd (o:=.lst ([V.int u]++(N0 (24:Int).toNat [V.int (2 * (i:Int))]).flatten)) b8;have a0:=((u5.trans u6).trans u7).trans u8;have e8:upd (upd (upd (upd H4 l5 (.lst [V.int u])) l6 (.lst [V.int (2 * (i:Int))])) l7 (.lst (N0 (24:Int).toNat [V.int (2 * (i:Int))]).flatten)) l8 (.lst ([V.int u]++(N0 (24:Int).toNat [V.int (2 * (i:Int))]).flatten)) l8=some (.lst (((u:Int) :: N0 24 (2 * (i:Int))).map V.int)):=z03;generalize upd (upd (upd (upd H4 l5 (.lst [V.int u])) l6 (.lst [V.int (2 * (i:Int))])) l7 (.lst (N0 (24:Int).toNat [V.int (2 * (i:Int))]).flatten)) l8 (.lst ([V.int u]++(N0 (24:Int).toNat [V.int (2 * (i:Int))]).flatten))=H8 at a0 e8⊢;refine ⟨c1,l8,(u:Int) :: N0 24 (2 * (i:Int)),rfl,e8,λ l hl=>?_,by rw [X0,Z1];decide,λ G xs H9 s9 a6 e9 W B=>?_⟩
  ·rcases List.mem_cons.mp hl with rfl|hl
   ·omega
   ·rw [(List.mem_replicate.mp hl).2];omega
  have W:xs.length=25:=W;have a7 :∀j:Nat,j < 25->∃x,xs[j]? = some x:=λ j L=>⟨_,v0 (by omega)⟩
  obtain ⟨x0,a4⟩:=a7 0 (by decide);have d7:=B 0 x0 u a4 rfl;have c4 :∀(j:Nat) x,j < 24->xs[1 + j]? = some x->0<=x/\x < 2 * (i:Int):=λ j x L hx=>B (1 + j) x _ hx (by rw [j01,Z2,C6,if_pos L]);have b5:=a1.trans (a0.trans s9);have b4:=S.same (a0.trans s9);have c5 :∀b∈bs,b≠G:=λ b r z=>by
   obtain ⟨j,L,e⟩:=g6 r;have d3:j < (N0 i ([]:List (Option Int))).length:=by rw [<-S.ln];exact L
   obtain ⟨D,C,_⟩:=S.ow j _ b (v0 d3) (by rw [v0 L,e]);have:=a0 _ _ C;rw [z,a6] at this;cases this
  clear S B a6;refine g_name ?_;refine ⟨_,rfl,.inl ⟨G,_,0,.int x0,rfl,rfl,SqL.of e9,z09 (j:=0) (by rw [R0,a4];rfl),.inl ⟨_,_,rfl,rfl,_,rfl,by omega,by omega,?_⟩⟩⟩;refine z33 (lo:=0) (n:=(1 + x0).toNat) (λ j σ I=>∃pl x9 x10 x11,Same K I/\I G=some (.lst (xs.map V.int))/\PlJ K I p bs pl/\PlK sg st sp j pl/\pl.length=i/\σ=[some (.ref a),some (.int i),some (.int u),some (.int wr),some (.int st),some (.int sp),some (.int sg),some (.ref p),some (.ref G),x9,x10,x11]) ⟨_,_,_,_,b5,e9,b4,b9,Z1,rfl⟩ ?_ ?_
  ·rintro j σ H5 L ⟨pl,x9,x10,x11,s5,e5,PJ,PK,lp,rfl⟩;rw [N8];refine g_name ?_;have a9:j < 24:=by omega
   obtain ⟨t,a8⟩:=a7 (1 + j) (by omega);have bj:=c4 j t a9 a8;have a3:atI (xs.map V.int) (1 + (j:Int))=some (.int t):=by rw [show (1 + (j:Int))=((1 + j:Nat):Int) by omega];exact z09 (by rw [R0,a8];rfl)
   refine ⟨_,rfl,_,rfl,.inl ⟨_,_,rfl,rfl,.inl ⟨G,_,_,.int t,rfl,rfl,SqL.of e5,a3,_,rfl,_,_,rfl,rfl,(show (0:Int) < i by omega),?_⟩⟩⟩;have h0:=G5 t (show (i:Int)≠0 by omega);have h1:=R4 t (show (0:Int) < i by omega);refine g_name (t_nx (z0c ?_));refine ⟨w_2,λ d0 c9=>?_⟩;obtain ⟨H6,v_,Y,e6⟩:=newA (.tup [.str "read",.non]) c9;rw [<-v_];refine g_name ?_;refine za4 (λ σ1 H7=>∃d y,(d=none\/d=some (wrF sg st sp j))/\HPd H7 (ddP d) y/\Same H5 H7/\σ1=[some (.ref a),some (.int i),some (.int u),some (.int wr),some (.int st),some (.int sp),some (.int sg),some (.ref p),some (.ref G),some (.int (j:Nat)),some (.int (t % i)),some y]) ?_ ?_
   ·rintro σ1 H7 ⟨d,y,hd,hy,s7,rfl⟩;have R:=PJ.same s7;have ht:(t % (i:Int)).toNat < bs.length:=by omega
    have r:bs[(t % (i:Int)).toNat]? = some bs[(t % (i:Int)).toNat]:=v0 ht;generalize bs[(t % (i:Int)).toNat]=b at r;have d2:atI (bs.map V.ref) (t % i)=some (.ref b):=by rw [<-E7 h0];exact z09 (by rw [R0,r];rfl)
    have M:pl[(t % (i:Int)).toNat]? = some pl[(t % (i:Int)).toNat]:=v0 (by rw [<-R.ln];exact ht);generalize pl[(t % (i:Int)).toNat]=own at M;obtain ⟨D,ey,ay⟩:=R.ow _ own b M r;have ly:D.length<=24:=by have C:=z04 ay;have O:=(z5s (X:=[]) M).2.length_eq;rw [I0,PK.f] at O;omega
    have mb:=A1 r;refine ⟨_,rfl,_,rfl,.inl ⟨p,_,_,.ref b,rfl,rfl,SqL.of R.l,d2,.inl ⟨rfl,D,SqL.of ey⟩,_,rfl,?_⟩⟩;refine ⟨b,D,_,rfl,rfl,ey,W0 (m:=24) ly (by decide),?_⟩;refine ⟨_,_,_,_,Same.keep (s5.trans s7) (R.fr b mb).1,by rw [upd_ne (X1 (c5 b mb))];exact s7 _ _ e5,R.add M r ey ay hy,PK.add s0 U.1 M hd,by rw [U0];exact lp,rfl⟩
   ·intro a2;have nw:HPd H6 (ddP none) (.ref d0):=⟨d0,_,rfl,e6,_,_,rfl,rfl,_,_,rfl,rfl,rfl⟩
    refine z2e ?_;refine ⟨_,rfl,_,rfl,.inl ⟨_,_,rfl,rfl,.inl ⟨G,_,_,.int t,rfl,rfl,SqL.of (Y _ _ e5),a3,_,rfl,_,_,rfl,rfl,⟨by omega,by omega⟩,rfl,_,rfl,?_⟩⟩⟩;refine ite2 (λ _=>?_) λ _=>?_
    ·refine ⟨_,rfl,_,rfl,_,_,rfl,rfl,_,rfl,?_⟩;refine ite2 (λ _=>?_) λ _=>?_
     ·refine ⟨_,rfl,_,_,rfl,rfl,.inl ⟨by decide,by decide⟩,_,_,rfl,rfl,_,rfl,.inl ⟨_,_,rfl,rfl,_,rfl,_,rfl,.inl ⟨_,_,rfl,rfl,_,_,rfl,rfl,.inl ⟨by omega,by omega⟩,.inl ⟨_,_,rfl,rfl,_,_,rfl,rfl,.inl ⟨by omega,by omega⟩,w_2,λ d1 c7=>?_⟩⟩⟩⟩;exact a2 _ _ ⟨some (wrF sg st sp j),_,.inr rfl,⟨d1,_,rfl,z03,_,_,rfl,rfl,_,_,rfl,rfl,rfl⟩,Y.trans (Same.upd c7),rfl⟩
     ·exact a2 _ _ ⟨none,_,.inl rfl,nw,Y,rfl⟩
    ·exact a2 _ _ ⟨none,_,.inl rfl,nw,Y,rfl⟩
  ·rintro σ H5 ⟨pl,x9,x10,x11,s5,e5,PJ,PK,lp,rfl⟩;refine ⟨_,rfl,q p pl H5 (a5.trans s5) ⟨by omega,by omega,by rw [PK.f];omega,PK.nd,λ z=>?_,λ k hk=>?_⟩ lp (by rw [PK.f];omega) (zfd PJ.l PJ.ln PJ.ow)⟩
   ·obtain ⟨k,hk,e⟩:=PK.by_ _ z;exact (wrF_bd s0 b0.1 b0.2 U.1 U.2 (show k < 24 by omega)).1 e.symm
   ·obtain ⟨k',d9,e⟩:=PK.by_ _ hk;rw [e];exact (wrF_bd s0 b0.1 b0.2 U.1 U.2 (show k' < 24 by omega)).2
theorem zk0 {H:Hp} {pl:List (List (Option Int))} {os:List V} (h:HPds H (rowsP pl) os) {i:Nat} {v:V} (hv:os[i]? = some v) :∃own b zs,pl[i]? = some own/\v=.ref b/\H b=some (.lst zs)/\All2 (λ o y=>HPd H (ddP o) y) own zs:=by have e:=z82 (f:=λ (r:List (Option Int))=>PyData.list (r.map ddP)) h;obtain ⟨own,d,b,zs,rfl,a,c⟩:=z0n e hv;exact ⟨own,b,zs,d,rfl,a,z82 c⟩
theorem z75 {K:j0} {tl:TE} {σ:L2.St} {H:Hp} {Q:VK} {a:Addr} {pl:List (List (Option Int))} {os:List V} (htl :∀R:VK,R (.ref a) H->tl σ H R) (ea:H a=some (.lst os)) (hos:HPds H (rowsP pl) os) (l6:pl.length<=6) (q :∀(a':Addr) (bs:List Addr) H',Same H H'->H a'=none->PlJ H H' a' bs pl->Q (.ref a') H') :
  tCompG (iList K tl) 1 [] (gName 0) (λ _ H Q=>Q true H) (tCB (λ xs H Q=>∃p ys,xs=[.ref p]/\(SqL K H p ys\/SqT K H p ys)/\∀l,H l=none->Q (.ref l) (upd H l (.lst ys))) (tCons (tVar 0) tNil)) σ H Q:=by
 have N:os.length=pl.length:=by have:=hos.length;unfold rowsP at this;rw [G0] at this;exact this
 refine htl _ ⟨a,rfl,⟨os,SqL.of ea⟩,?_⟩;refine ⟨λ i m ys H'=>m=pl.length - i/\i<=pl.length/\Same H H'/\∃bs:List Addr,ys=bs.map V.ref/\bs.length=i/\bs.Nodup/\(∀b∈bs,H b=none/\H' b≠none)/\(∀(j:Nat) (own:List (Option Int)) (b:Addr),pl[j]? = some own->bs[j]? = some b->∃g,H' b=some (.lst g)/\All2 (λ o y=>HPd H' (ddP o) y) own g),⟨pl.length,rfl,A2 _,Same.refl _,[],rfl,rfl,.nil,(λ b f=>by cases f),λ j own b _ h=>by simp at h⟩,?_⟩;rintro i m ys O ⟨rfl,hi,s3,bs,rfl,lb,nd,fb,ow⟩;by_cases hlt:i < pl.length
 ·have s:os[i]? = some os[i]:=v0 (by omega);generalize os[i]=v at s;refine .inr ⟨⟨os,v,SqL.of (s3 _ _ ea),s⟩,by rw [G0,lb];exact L0 (m:=6) (by omega) (by decide),λ P J y=>?_⟩;obtain ⟨rfl,y⟩:=y;have y:=y os (SqL.of (s3 _ _ ea));rw [s] at y;cases y;obtain ⟨own,c,g,F,rfl,C,I⟩:=zk0 hos s;refine ⟨[some (.ref c)],rfl,rfl,iteT ?_⟩;refine ⟨_,rfl,c,g,rfl,.inl (SqL.of (s3 _ _ C)),λ b f=>?_⟩;have d:=Same.upd (o:=.lst g) f;refine ⟨pl.length - (i + 1),by omega,rfl,hlt,s3.trans d,bs++[b],by rw [W1];rfl,by rw [I0,lb];rfl,?_,λ c n=>?_,λ j G L r k=>?_⟩
  ·rw [Y7];refine ⟨nd,List.nodup_cons.mpr ⟨K0,.nil⟩,λ x A y D e=>?_⟩;rw [List.mem_singleton.mp D] at e;rw [e] at A;exact (fb b A).2 f
  ·rcases List.mem_append.mp n with n|n
   ·refine ⟨(fb c n).1,?_⟩;cases z:J c with
    | none=>exact absurd z (fb c n).2
    | some o=>rw [d _ _ z];exact j3c o
   ·rw [List.mem_singleton.mp n];exact ⟨s3.free f,by rw [z03];exact j3c _⟩
  ·by_cases z:j < bs.length
   ·rw [F1 z] at k;obtain ⟨B,u,w⟩:=ow j G L r k;exact ⟨B,d _ _ u,z00 (λ _ _ z=>z.same d) w⟩
   ·rw [D1 (by omega)] at k;have M:j - bs.length=0:=by have:=(List.getElem?_eq_some_iff.mp k).1;simp only [Q3] at this;omega
    rw [M] at k;cases k;have:j=i:=by omega
    rw [this,F] at r;cases r;exact ⟨g,z03,z00 (λ _ _ z=>z.same (s3.trans d)) I⟩
 have E:i=pl.length:=by omega
 subst E;refine .inl ⟨⟨os,SqL.of (s3 _ _ ea),by omega⟩,by rw [G0,lb];exact L0 (m:=6) l6 (by decide),λ p t=>?_⟩;have d:=Same.upd (o:=.lst (bs.map V.ref)) t;refine q p bs _ (s3.trans d) (s3.free t) ⟨z03,nd,λ b f=>⟨(fb b f).1,λ z=>(fb b f).2 (by rw [z];exact t)⟩,lb,λ j own b r k=>?_⟩;obtain ⟨g,u,w⟩:=ow j own b r k;exact ⟨g,d _ _ u,z00 (λ _ _ z=>z.same d) w⟩
def z4a (K:j0):Sp:=λ vs H Q _=>∃(a:Addr) (pl:List (List (Option Int))),vs=[.ref a]/\HPd H (.list (rowsP pl)) (.ref a)/\pl.length<=6/\∀(a':Addr) (bs:List Addr) H',Same H H'->H a'=none->PlJ H H' a' bs pl->Q (.ref a') H'
theorem z7u (T:TX (kx w) mg):Fo P w mg base CX0 1 420 y0l ["plan"] (z4a (kx w)):=by
 refine (z2z w.params).ok z8f (λ e H Q E h=>?_) (λ k A n s H e Q E l h=>?_)
 ·obtain ⟨a,f,rfl,_⟩:=h;rfl
 ·obtain ⟨a,f,rfl,⟨j,m,d,b,i⟩,c,q⟩:=h;cases d;refine ⟨_,(z05 (ps_ret (pe_cg (xs:=["row"]) (g:=gName 0) (fr:=[]) (z14 (pv 0)) (λ _ _ _ _ _=>(pg_cn (N:=["row"]) 0)) (λ _ _ _ _ _=>pf_nil) (λ _ _ _ _ _=>(z1u (z54 (K:=KX w.params) rfl) rfl (T.no (n_list _)) V8 (z01 (pv 0) pa_nil)))))),?_⟩;exact sq_ret (z75 (λ R h=>⟨_,rfl,h⟩) b i c q)
theorem PlJ.hpd {H0 H:Hp} {a:Addr} {bs:List Addr} {pl:List (List (Option Int))} (h:PlJ H0 H a bs pl):HPd H (.list (rowsP pl)) (.ref a):=zfd h.l h.ln h.ow
end
section
theorem zkd {X:Cx} {K:j0} (hK:X.K=K) {e:Expr} {f:Str} {pos:Pos} {ta:TE} (he:PE X e ta) (hb:w5 e f X.env (R3 e X.env)=R3 e X.env):PE X (.Attribute e f pos) (tFld K ta f):=hK ▸ pe_fld he hb
noncomputable abbrev Hd:=(Int×Int)×Int
structure Er where
 hand:Nat
 deed:Option Int
 kept:Option Hd
 heard:List Hd
structure Lt where
 e:Nat
 num:Nat
 held:Option Hd
inductive CEv
 | beg (h:Nat) (d:Option Int)
 | fin (h:Nat) (a:Option Int)
structure CM where
 stock:List Hd
 back:Bool
 left:List (List (Option Int))
 idle:List Bool
 letters:List Lt
 ers:List Er
 events:List CEv
noncomputable def maxHd:List Hd->Hd
 | []=>((0,0),0)
 | x :: r=>r.foldl (λ m y=>if gtN y m=true then y else m) x
noncomputable def CM.send (M:CM) (e:Nat):CM:={ M with letters:=M.letters++(V0 M.stock.length).map λ k=>⟨e,k,none⟩ }
noncomputable def CM.make (M:CM) (er:Er):CM:={ M with ers:=M.ers++[er] }
noncomputable def CM.start (M:CM) (h:Nat) (d:Option Int) (rest:List (Option Int)):CM:=
 CM.send (CM.make { M with left:=M.left.set h rest,idle:=M.idle.set h false,events:=M.events++[.beg h d] } ⟨h,d,none,[]⟩) M.ers.length
noncomputable def ansC (d:Option Int) (w:Int):Option Int:=match d with
 | some _=>none
 | none=>some w
noncomputable def CM.stop (M:CM) (er:Er) (w:Int):CM:={ M with idle:=M.idle.set er.hand true,events:=M.events++[.fin er.hand (ansC er.deed w)] }
noncomputable def CM.ask (M:CM) (er:Er):CM:=match er.deed with
 | some w0=>(M.make ⟨er.hand,er.deed,some (((maxHd er.heard).1.1 + 1,er.hand),w0),[]⟩).send M.ers.length
 | none=>if M.back=true then (M.make ⟨er.hand,er.deed,some (maxHd er.heard),[]⟩).send M.ers.length else M.stop er (maxHd er.heard).2
noncomputable def Er.hear (er:Er) (x:Hd):Er:={ er with heard:=er.heard++[x] }
noncomputable def CM.comeBack (M:CM) (e:Nat) (er:Er) (x:Hd):CM:=
 if (er.hear x).heard.length≠M.stock.length / 2 + 1 then { M with ers:=M.ers.set e (er.hear x) }
 else match er.kept with
  | some k=>CM.stop { M with ers:=M.ers.set e (er.hear x) } (er.hear x) k.2
  | none=>CM.ask { M with ers:=M.ers.set e (er.hear x) } (er.hear x)
noncomputable def keepH (k:Option Hd) (s:Hd):Hd:=match k with
 | some k=>if gtI k.1 s.1=true then k else s
 | none=>s
noncomputable def CM.comeTo (M:CM) (e:Nat) (er:Er) (n:Nat) (s:Hd):CM:={ M with stock:=M.stock.set n (keepH er.kept s),letters:=M.letters++[⟨e,n,some (keepH er.kept s)⟩] }
noncomputable def CM.come (M:CM) (L:Lt):CM:=match M.ers[L.e]?,L.held,M.stock[L.num]? with
 | some er,some x,_=>M.comeBack L.e er x
 | some er,none,some s=>M.comeTo L.e er L.num s
 | _,_,_=>M
noncomputable def CM.rdy (M:CM) (h:Nat):Bool:=!(M.left[h]?.getD []).isEmpty && M.idle[h]?.getD false
noncomputable def CM.ready (M:CM):List Nat:=(V0 M.left.length).filter M.rdy
noncomputable def CM.go (M:CM) (c:Int):CM:=
 if M.ready.length + M.letters.length=0 then M else
 let ch:=(c % ((M.ready.length:Int) + 2 * (M.letters.length:Int))).toNat
 if ch < M.ready.length then
  (match M.left[M.ready[ch]?.getD 0]? with
   | some (d :: rest)=>M.start (M.ready[ch]?.getD 0) d rest
   | _=>M)
 else
  (match M.letters[(ch - M.ready.length) % M.letters.length]? with
   | some L=>if ch < M.ready.length + M.letters.length then CM.come { M with letters:=M.letters.eraseIdx ((ch - M.ready.length) % M.letters.length) } L else { M with letters:=M.letters.eraseIdx ((ch - M.ready.length) % M.letters.length) }
   | none=>M)
theorem zfi {l:List Hd} {b:Hd} (hb:b∈l) (h :∀x∈l,gtN x b=false):maxHd l=b:=by
 have f :∀(r:List Hd) (m:Hd),(r.foldl (λ m y=>if gtN y m=true then y else m) m)∈m :: r/\∀x∈m :: r,gtN x (r.foldl (λ m y=>if gtN y m=true then y else m) m)=false:=by
  intro r;induction r with
  | nil=>exact λ m=>⟨.head _,λ x a=>by rw [List.mem_singleton.mp a];exact zhr _⟩
  | cons y r ih=>
   intro m;rw [J4];by_cases z:gtN y m=true
   ·rw [if_pos z];obtain ⟨d,c⟩:=ih y;refine ⟨.tail _ d,λ x a=>?_⟩;rcases List.mem_cons.mp a with e|a
    ·rw [e];exact gtN_tr (zi3 z) (c y (.head _))
    ·exact c x a
   ·rw [if_neg z];obtain ⟨d,c⟩:=ih m;refine ⟨?_,λ x a=>?_⟩
    ·rcases List.mem_cons.mp d with e|e
     ·rw [e];exact .head _
     ·exact .tail _ (.tail _ e)
    ·rcases List.mem_cons.mp a with e|a
     ·rw [e];exact c m (.head _)
     ·rcases List.mem_cons.mp a with e|a
      ·rw [e];exact gtN_tr (Bool.eq_false_iff.mpr z) (c m (.head _))
      ·exact c x (.tail _ a)
 cases l with
 | nil=>cases hb
 | cons x r=>obtain ⟨d,c⟩:=f r x;exact (zks (c b hb) (h _ d)).symm
structure WfM (M:CM) (n:Nat):Prop where
 il:M.idle.length=M.left.length
 st:0 < M.stock.length/\M.stock.length<=5
 le :∀L∈M.letters,L.e < M.ers.length/\L.num < M.stock.length
 eh :∀er∈M.ers,er.hand < M.idle.length
 hn :∀er∈M.ers,er.heard.length<=n
 ln:M.letters.length<=6 * n
 vn:M.events.length<=n
 l6:M.left.length<=6
 lw :∀own∈M.left,own.length<=24
structure Imm (H H':Hp):Prop where
 t :∀p xs,H p=some (.tup xs)->H' p=some (.tup xs)
 i :∀p C dx fs,H p=some (.ins C dx fs)->H' p=some (.ins C dx fs)
 f :∀p o u,H p=some (.frz o u)->H' p=some (.frz o u)
theorem Imm.of {H H':Hp} (s:Same H H'):Imm H H':=⟨λ _ _ e=>s _ _ e,λ _ _ _ _ e=>s _ _ e,λ _ _ _ e=>s _ _ e⟩
theorem Imm.lst {H:Hp} {l:Addr} {o:HO} {xs:List V} (e:H l=some (.lst xs)):Imm H (upd H l o):=
 ⟨λ p a q=>by rw [upd_ne (λ z=>by rw [z,e] at q;cases q)];exact q,λ p C b fs q=>by rw [upd_ne (λ z=>by rw [z,e] at q;cases q)];exact q,λ p o u q=>by rw [upd_ne (λ z=>by rw [z,e] at q;cases q)];exact q⟩
theorem Imm.trans {H H1 H2:Hp} (a:Imm H H1) (b:Imm H1 H2):Imm H H2:=⟨λ _ _ e=>b.t _ _ (a.t _ _ e),λ _ _ _ _ e=>b.i _ _ _ _ (a.i _ _ _ _ e),λ _ _ _ e=>b.f _ _ _ (a.f _ _ _ e)⟩
theorem Imm.seqT {K:j0} {H H':Hp} {p:Addr} {xs:List V} (m:Imm H H') (h:SqT K H p xs):SqT K H' p xs:=by
 rcases h with h|h
 ·rcases h with h|⟨o,h⟩
  ·exact .inl (.inl (m.t _ _ h))
  ·exact .inl (.inr ⟨o,m.f _ _ _ h⟩)
 ·exact .inr h
def HdAt (K:j0) (H:Hp) (x:Hd) (v:V):Prop:=∃p q,v=.ref p/\SqT K H p [.ref q,.int x.2]/\SqT K H q [.int x.1.1,.int x.1.2]
theorem HdAt.imm {K:j0} {H H':Hp} {x:Hd} {v:V} (m:Imm H H') (h:HdAt K H x v):HdAt K H' x v:=by obtain ⟨p,q,e,a,b⟩:=h;exact ⟨p,q,e,m.seqT a,m.seqT b⟩
noncomputable def OptHd (K:j0) (H:Hp):Option Hd->V->Prop
 | none,v=>v=.non
 | some x,v=>HdAt K H x v
theorem OptHd.imm {K:j0} {H H':Hp} {x:Option Hd} {v:V} (m:Imm H H') (h:OptHd K H x v):OptHd K H' x v:=by
 cases x with
 | none=>exact h
 | some x=>exact HdAt.imm m h
noncomputable def vbD:Option Int->Str
 | none=>"read"
 | some _=>"write"
noncomputable def wvD:Option Int->V
 | none=>.non
 | some i=>.int i
def DdV (H:Hp) (d:Option Int) (y:V):Prop:=∃p,y=.ref p/\H p=some (.tup [.str (vbD d),wvD d])
theorem DdV.imm {H H':Hp} {d:Option Int} {y:V} (m:Imm H H') (h:DdV H d y):DdV H' d y:=h.elim λ p z=>⟨p,z.1,m.t _ _ z.2⟩
noncomputable def avD:Option Int->V
 | none=>.str "ok"
 | some i=>.int i
noncomputable def EvV (H:Hp):CEv->V->Prop
 | .beg h d,y=>∃p,y=.ref p/\H p=some (.tup [.str "begin",.int h,.str "r",.str (vbD d),wvD d])
 | .fin h a,y=>∃p,y=.ref p/\H p=some (.tup [.str "end",.int h,avD a])
theorem EvV.imm {H H':Hp} {e:CEv} {y:V} (m:Imm H H') (h:EvV H e y):EvV H' e y:=by
 cases e with
 | beg h d=>exact h.elim λ p z=>⟨p,z.1,m.t _ _ z.2⟩
 | fin h a=>exact h.elim λ p z=>⟨p,z.1,m.t _ _ z.2⟩
def LtAt (K:j0) (H:Hp) (es:List Addr) (L:Lt) (v:V):Prop:=∃x dx fs ea hv,v=.ref x/\H x=some (.ins 300 dx fs)/\es[L.e]? = some ea/\fs.lookup ("errand" : Str)=some (V.ref ea)/\fs.lookup ("number" : Str)=some (V.int L.num)/\fs.lookup ("held" : Str)=some hv/\OptHd K H L.held hv
theorem LtAt.imm {K:j0} {H H':Hp} {es:List Addr} {L:Lt} {v:V} (m:Imm H H') (h:LtAt K H es L v):LtAt K H' es L v:=by obtain ⟨x,l,fs,c,b,e,a,j,f,g,k,d⟩:=h;exact ⟨x,l,fs,c,b,e,m.i _ _ _ _ a,j,f,g,k,d.imm m⟩
theorem LtAt.more {K:j0} {H:Hp} {es:List Addr} {L:Lt} {v:V} (e:Addr) (h:LtAt K H es L v):LtAt K H (es++[e]) L v:=by obtain ⟨x,f,fs,c,g,e,b,a,d⟩:=h;exact ⟨x,f,fs,c,g,e,b,by rw [F1 (List.getElem?_eq_some_iff.mp a).1];exact a,d⟩
def ErAt (K:j0) (H:Hp) (er:Er) (e hl:Addr):Prop:=∃dx fs dv kv,H e=some (.ins 279 dx fs)/\fs.lookup ("hand" : Str)=some (V.int er.hand)/\fs.lookup ("deed" : Str)=some dv/\DdV H er.deed dv/\fs.lookup ("kept" : Str)=some kv/\OptHd K H er.kept kv/\fs.lookup ("heard" : Str)=some (V.ref hl)
theorem ErAt.imm {K:j0} {H H':Hp} {er:Er} {e hl:Addr} (m:Imm H H') (h:ErAt K H er e hl):ErAt K H' er e hl:=by obtain ⟨l,fs,j,n,b,g,f,d,k,c,a⟩:=h;exact ⟨l,fs,j,n,m.i _ _ _ _ b,g,f,d.imm m,k,c.imm m,a⟩
structure Ls (B H:Hp) (ms:List Addr) (cs:List (List V)):Prop where
 c:All2 (λ m c=>H m=some (.lst c)) ms cs
 nd:ms.Nodup
 fr :∀m∈ms,B m=none
theorem Ls.same {B H H':Hp} {ms:List Addr} {cs:List (List V)} (h:Ls B H ms cs) (s:Same H H'):Ls B H' ms cs:=⟨z00 (λ _ _ z=>s _ _ z) h.c,h.nd,h.fr⟩
theorem Ls.at {B H:Hp} {ms:List Addr} {cs:List (List V)} {i:Nat} {m:Addr} {c:List V} (h:Ls B H ms cs) (hm:ms[i]? = some m) (hc:cs[i]? = some c):H m=some (.lst c):=by obtain ⟨d,a,b⟩:=z0q h.c hm;rw [hc] at a;cases a;exact b
theorem Ls.set {B H:Hp} {ms:List Addr} {cs:List (List V)} {i:Nat} {m:Addr} {c:List V} (h:Ls B H ms cs) (hm:ms[i]? = some m):Ls B (upd H m (.lst c)) ms (cs.set i c):=by
 refine ⟨z20 (by rw [U0];exact z04 h.c) λ k a b f d=>?_,h.nd,h.fr⟩;by_cases z:k=i
 ·subst z;rw [hm] at f;cases f;have j:k < cs.length:=by have:=(List.getElem?_eq_some_iff.mp d).1;rw [U0] at this;exact this
  rw [P0 j] at d;cases d;exact z03
 ·rw [Y1 (X1 z)] at d;have n:a≠m:=λ e=>by subst e;exact z ((List.getElem?_inj (List.getElem?_eq_some_iff.mp hm).1 h.nd).mp (hm.trans f.symm)).symm
  rw [upd_ne n];obtain ⟨o,g,l⟩:=z0q h.c f;rw [d] at g;cases g;exact l
theorem Ls.snoc {B H:Hp} {ms:List Addr} {cs:List (List V)} {m:Addr} {c:List V} (h:Ls B H ms cs) (hm:H m=some (.lst c)) (nm:m∉ms) (fm:B m=none):Ls B H (ms++[m]) (cs++[c]):=by
 refine ⟨z1j h.c hm,?_,λ x a=>?_⟩
 ·rw [Y7];refine ⟨h.nd,List.nodup_cons.mpr ⟨K0,.nil⟩,λ x a y b e=>?_⟩;rw [List.mem_singleton.mp b] at e;exact nm (e ▸ a)
 ·rcases List.mem_append.mp a with a|a
  ·exact h.fr x a
  ·rw [List.mem_singleton.mp a];exact fm
theorem Ls.not {B H:Hp} {ms:List Addr} {cs:List (List V)} {m:Addr} (h:Ls B H ms cs) (e:H m=none):m∉ms:=λ z=>by obtain ⟨i,d,b⟩:=g6 z;obtain ⟨c,_,a⟩:=z0q h.c (v0 d);rw [b,e] at a;cases a
end
section
variable {P:Program} {w:Z0} {mg:Str->Option Value} {base:Heap}
noncomputable def fldC:List Str:=["stock","back","left","idle","letters","events"]
structure Cp (K:j0) (B H:Hp) (cx st lf id lt ev:Addr) (bs es hls:List Addr) (M:CM):Prop where
 ins :∃dx fs,H cx=some (.ins 373 dx fs)/\fs.lookup ("stock" : Str)=some (V.ref st)/\fs.lookup ("back" : Str)=some (V.bl M.back)/\fs.lookup ("left" : Str)=some (V.ref lf)/\fs.lookup ("idle" : Str)=some (V.ref id)/\fs.lookup ("letters" : Str)=some (V.ref lt)/\fs.lookup ("events" : Str)=some (V.ref ev)/\∀m:Str,m∉fldC->fs.lookup m=none
 ct :∃sv lv vv lefts heards,Ls B H (st :: lf :: id :: lt :: ev :: (bs++hls)) (sv :: bs.map V.ref :: M.idle.map V.bl :: lv :: vv :: (lefts++heards))/\lefts.length=bs.length/\All2 (HdAt K H) M.stock sv/\All2 (LtAt K H es) M.letters lv/\All2 (EvV H) M.events vv/\All2 (λ own ys=>All2 (DdV H) own ys) M.left lefts/\All2 (λ (er:Er) hs=>All2 (HdAt K H) er.heard hs) M.ers heards
 er :∀(k:Nat) r,M.ers[k]? = some r->∃e hl,es[k]? = some e/\hls[k]? = some hl/\ErAt K H r e hl
 el:es.length=M.ers.length/\hls.length=M.ers.length/\bs.length=M.left.length
theorem Cp.same {K:j0} {B H H':Hp} {cx st lf id lt ev:Addr} {bs es hls:List Addr} {M:CM} (h:Cp K B H cx st lf id lt ev bs es hls M) (s:Same H H'):Cp K B H' cx st lf id lt ev bs es hls M:=by obtain ⟨t,fs,j,o⟩:=h.ins;obtain ⟨d,f,q,b,x,A,p,g,i,l,w,a⟩:=h.ct;have m:=Imm.of s;refine ⟨⟨t,fs,s _ _ j,o⟩,⟨d,f,q,b,x,A.same s,p,z00 (λ _ _ z=>z.imm m) g,z00 (λ _ _ z=>z.imm m) i,z00 (λ _ _ z=>z.imm m) l,z00 (λ _ _ z=>z00 (λ _ _ z=>z.imm m) z) w,z00 (λ _ _ z=>z00 (λ _ _ z=>z.imm m) z) a⟩,λ k r e=>?_,h.el⟩;obtain ⟨c,v,n,u,y⟩:=h.er k r e;exact ⟨c,v,n,u,y.imm m⟩
theorem z7d {H H':Hp} {cx:Addr} {R:Addr->List (Str×V)->Prop} (m:Imm H H') (h :∃dx fs,H cx=some (.ins 373 dx fs)/\R dx fs) :∃dx fs,H' cx=some (.ins 373 dx fs)/\R dx fs:=by obtain ⟨dx,fs,a,b⟩:=h;exact ⟨dx,fs,m.i _ _ _ _ a,b⟩
theorem Cp.setL {K:j0} {B H:Hp} {cx st lf id lt ev:Addr} {bs es hls:List Addr} {M:CM} {Ls':List Lt} {lv':List V} (h:Cp K B H cx st lf id lt ev bs es hls M) (a :∀H',Imm H H'->All2 (LtAt K H' es) Ls' lv'):Cp K B (upd H lt (.lst lv')) cx st lf id lt ev bs es hls { M with letters:=Ls' }:=by obtain ⟨l,n,t,f,x,b,s,o,A,p,w,d⟩:=h.ct;have j:H lt=some (.lst n):=b.at (i:=3) rfl rfl;have m:Imm H (upd H lt (.lst lv')):=Imm.lst j;refine ⟨z7d m h.ins,⟨l,lv',t,f,x,b.set (i:=3) (c:=lv') rfl,s,z00 (λ _ _ z=>z.imm m) o,a _ m,z00 (λ _ _ z=>z.imm m) p,z00 (λ _ _ z=>z00 (λ _ _ z=>z.imm m) z) w,z00 (λ _ _ z=>z00 (λ _ _ z=>z.imm m) z) d⟩,λ k r e=>?_,h.el⟩;obtain ⟨g,v,q,u,y⟩:=h.er k r e;exact ⟨g,v,q,u,y.imm m⟩
theorem Cp.setS {K:j0} {B H:Hp} {cx st lf id lt ev:Addr} {bs es hls:List Addr} {M:CM} {S':List Hd} {sv':List V} (h:Cp K B H cx st lf id lt ev bs es hls M) (a :∀H',Imm H H'->All2 (HdAt K H') S' sv'):Cp K B (upd H st (.lst sv')) cx st lf id lt ev bs es hls { M with stock:=S' }:=by obtain ⟨l,n,t,f,x,b,s,A,o,p,w,d⟩:=h.ct;have j:H st=some (.lst l):=b.at (i:=0) rfl rfl;have m:Imm H (upd H st (.lst sv')):=Imm.lst j;refine ⟨z7d m h.ins,⟨sv',n,t,f,x,b.set (i:=0) (c:=sv') rfl,s,a _ m,z00 (λ _ _ z=>z.imm m) o,z00 (λ _ _ z=>z.imm m) p,z00 (λ _ _ z=>z00 (λ _ _ z=>z.imm m) z) w,z00 (λ _ _ z=>z00 (λ _ _ z=>z.imm m) z) d⟩,λ k r e=>?_,h.el⟩;obtain ⟨g,v,q,u,y⟩:=h.er k r e;exact ⟨g,v,q,u,y.imm m⟩
theorem Cp.setI {K:j0} {B H:Hp} {cx st lf id lt ev:Addr} {bs es hls:List Addr} {M:CM} {I':List Bool} {iv:List V} (h:Cp K B H cx st lf id lt ev bs es hls M) (a:iv=I'.map V.bl):Cp K B (upd H id (.lst iv)) cx st lf id lt ev bs es hls { M with idle:=I' }:=by subst a;obtain ⟨l,n,u,f,y,b,t,o,p,q,x,d⟩:=h.ct;have j:H id=some (.lst (M.idle.map V.bl)):=b.at (i:=2) rfl rfl;have m:Imm H (upd H id (.lst (I'.map V.bl))):=Imm.lst j;refine ⟨z7d m h.ins,⟨l,n,u,f,y,b.set (i:=2) (c:=I'.map V.bl) rfl,t,z00 (λ _ _ z=>z.imm m) o,z00 (λ _ _ z=>z.imm m) p,z00 (λ _ _ z=>z.imm m) q,z00 (λ _ _ z=>z00 (λ _ _ z=>z.imm m) z) x,z00 (λ _ _ z=>z00 (λ _ _ z=>z.imm m) z) d⟩,λ k r e=>?_,h.el⟩;obtain ⟨g,w,s,v,A⟩:=h.er k r e;exact ⟨g,w,s,v,A.imm m⟩
theorem Cp.setV {K:j0} {B H:Hp} {cx st lf id lt ev:Addr} {bs es hls:List Addr} {M:CM} {E':List CEv} {vv':List V} (h:Cp K B H cx st lf id lt ev bs es hls M) (a :∀H',Imm H H'->All2 (EvV H') E' vv'):Cp K B (upd H ev (.lst vv')) cx st lf id lt ev bs es hls { M with events:=E' }:=by obtain ⟨l,n,t,f,x,b,s,o,p,A,w,d⟩:=h.ct;have j:H ev=some (.lst t):=b.at (i:=4) rfl rfl;have m:Imm H (upd H ev (.lst vv')):=Imm.lst j;refine ⟨z7d m h.ins,⟨l,n,vv',f,x,b.set (i:=4) (c:=vv') rfl,s,z00 (λ _ _ z=>z.imm m) o,z00 (λ _ _ z=>z.imm m) p,a _ m,z00 (λ _ _ z=>z00 (λ _ _ z=>z.imm m) z) w,z00 (λ _ _ z=>z00 (λ _ _ z=>z.imm m) z) d⟩,λ k r e=>?_,h.el⟩;obtain ⟨g,v,q,u,y⟩:=h.er k r e;exact ⟨g,v,q,u,y.imm m⟩
theorem Cp.setW {K:j0} {B H:Hp} {cx st lf id lt ev b:Addr} {bs es hls:List Addr} {M:CM} {k:Nat} {own:List (Option Int)} {ys:List V} (h:Cp K B H cx st lf id lt ev bs es hls M) (hb:bs[k]? = some b) (a :∀H',Imm H H'->All2 (DdV H') own ys):Cp K B (upd H b (.lst ys)) cx st lf id lt ev bs es hls { M with left:=M.left.set k own }:=by
 obtain ⟨i,l,n,g,o,u,I,C,D,G,s,v⟩:=h.ct;have F:k < bs.length:=(List.getElem?_eq_some_iff.mp hb).1;have t:(st :: lf :: id :: lt :: ev :: (bs++hls))[k + 5]? = some b:=by show (bs++hls)[k]? = some b;rw [F1 F];exact hb
 obtain ⟨Q,O,d⟩:=z0q u.c t;have m:Imm H (upd H b (.lst ys)):=Imm.lst d;have q:=u.set (c:=ys) t;have A:(i :: bs.map V.ref :: M.idle.map V.bl :: l :: n :: (g++o)).set (k + 5) ys=i :: bs.map V.ref :: M.idle.map V.bl :: l :: n :: (g.set k ys++o):=by show i :: bs.map V.ref :: M.idle.map V.bl :: l :: n :: (g++o).set k ys=_;rw [List.set_append_left _ _ (by omega)]
 rw [A] at q;refine ⟨z7d m h.ins,⟨i,l,n,g.set k ys,o,q,by rw [U0];exact I,z00 (λ _ _ z=>z.imm m) C,z00 (λ _ _ z=>z.imm m) D,z00 (λ _ _ z=>z.imm m) G,?_,z00 (λ _ _ z=>z00 (λ _ _ z=>z.imm m) z) v⟩,λ k r e=>?_,h.el.1,h.el.2.1,by rw [U0];exact h.el.2.2⟩
 ·have E:=z00 (λ _ _ z=>z00 (λ _ _ z=>DdV.imm m z) z) s;refine z20 (by rw [U0,U0];exact z04 s) λ j x y d f=>?_;by_cases z:j=k
  ·subst z;rw [P0 (by have:=(List.getElem?_eq_some_iff.mp d).1;rw [U0] at this;exact this)] at d;rw [P0 (by have:=(List.getElem?_eq_some_iff.mp f).1;rw [U0] at this;exact this)] at f;cases d;cases f;exact a _ m
  ·rw [Y1 (X1 z)] at d f;obtain ⟨P,p,N⟩:=z0q E d;rw [f] at p;cases p;exact N
 ·obtain ⟨w,J,d,f,L⟩:=h.er k r e;exact ⟨w,J,d,f,L.imm m⟩
theorem Cp.setH {K:j0} {B H:Hp} {cx st lf id lt ev b:Addr} {bs es hls:List Addr} {M:CM} {k:Nat} {er:Er} {hd:List Hd} {ys:List V} (h:Cp K B H cx st lf id lt ev bs es hls M) (hk:M.ers[k]? = some er) (hb:hls[k]? = some b) (a :∀H',Imm H H'->All2 (HdAt K H') hd ys):Cp K B (upd H b (.lst ys)) cx st lf id lt ev bs es hls { M with ers:=M.ers.set k { er with heard:=hd } }:=by
 obtain ⟨i,l,n,g,o,D,w,F,G,J,L,t⟩:=h.ct;have C:(st :: lf :: id :: lt :: ev :: (bs++hls))[bs.length + k + 5]? = some b:=by show (bs++hls)[bs.length + k]? = some b;rw [D1 (by omega),G4];exact hb
 obtain ⟨Q,O,d⟩:=z0q D.c C;have m:Imm H (upd H b (.lst ys)):=Imm.lst d;have A:=D.set (c:=ys) C;have E:(i :: bs.map V.ref :: M.idle.map V.bl :: l :: n :: (g++o)).set (bs.length + k + 5) ys=i :: bs.map V.ref :: M.idle.map V.bl :: l :: n :: (g++o.set k ys):=by show i :: bs.map V.ref :: M.idle.map V.bl :: l :: n :: (g++o).set (bs.length + k) ys=_;rw [List.set_append_right _ _ (by omega),w,G4]
 rw [E] at A;have u:k < M.ers.length:=(List.getElem?_eq_some_iff.mp hk).1;refine ⟨z7d m h.ins,⟨i,l,n,g,o.set k ys,A,w,z00 (λ _ _ z=>z.imm m) F,z00 (λ _ _ z=>z.imm m) G,z00 (λ _ _ z=>z.imm m) J,z00 (λ _ _ z=>z00 (λ _ _ z=>z.imm m) z) L,?_⟩,λ j r e=>?_,by rw [U0];exact h.el.1,by rw [U0];exact h.el.2.1,h.el.2.2⟩
 ·have I:=z00 (λ _ _ z=>z00 (λ _ _ z=>HdAt.imm m z) z) t;refine z20 (by rw [U0,U0];exact z04 t) λ j x y d f=>?_;by_cases z:j=k
  ·subst z;rw [P0 u] at d;rw [P0 (by have:=(List.getElem?_eq_some_iff.mp f).1;rw [U0] at this;exact this)] at f;cases d;cases f;exact a _ m
  ·rw [Y1 (X1 z)] at d f;obtain ⟨P,v,N⟩:=z0q I d;rw [f] at v;cases v;exact N
 ·by_cases z:j=k
  ·subst z;rw [P0 u] at e;cases e;obtain ⟨p,q,d,f,s⟩:=h.er j er hk;exact ⟨p,q,d,f,s.imm m⟩
  ·rw [Y1 (X1 z)] at e;obtain ⟨p,q,d,f,s⟩:=h.er j r e;exact ⟨p,q,d,f,s.imm m⟩
theorem Cp.make {K:j0} {B H:Hp} {cx st lf id lt ev e hl:Addr} {bs es hls:List Addr} {M:CM} {er:Er} (h:Cp K B H cx st lf id lt ev bs es hls M) (he:ErAt K H er e hl) (hh:er.heard=[]) (el:H hl=some (.lst [])) (nl:hl∉st :: lf :: id :: lt :: ev :: (bs++hls)) (fl:B hl=none):Cp K B H cx st lf id lt ev bs (es++[e]) (hls++[hl]) (M.make er):=by
 obtain ⟨g,i,q,d,v,x,p,j,l,m,u,c⟩:=h.ct;have t:=x.snoc el nl fl;refine ⟨h.ins,⟨g,i,q,d,v++[[]],?_,p,j,z00 (λ _ _ z=>z.more e) l,m,u,z1j c (by rw [hh];exact .nil)⟩,λ k r a=>?_,?_⟩
 ·rw [<-D2,<-D2];exact t
 ·have a:(M.ers++[er])[k]? = some r:=a;by_cases z:k < M.ers.length
  ·rw [F1 z] at a;obtain ⟨f,o,n,s,w⟩:=h.er k r a;exact ⟨f,o,by rw [F1 (by rw [h.el.1];exact z)];exact n,by rw [F1 (by rw [h.el.2.1];exact z)];exact s,w⟩
  ·rw [D1 (by omega)] at a;have b:k - M.ers.length=0:=by have:=(List.getElem?_eq_some_iff.mp a).1;simp only [Q3] at this;omega
   rw [b] at a;cases a;exact ⟨e,hl,by rw [D1 (by rw [h.el.1];omega),h.el.1,b];rfl,by rw [D1 (by rw [h.el.2.1];omega),h.el.2.1,b];rfl,he⟩
 ·refine ⟨?_,?_,h.el.2.2⟩
  ·show (es++[e]).length=(M.ers++[er]).length;rw [I0,I0,h.el.1];rfl
  ·show (hls++[hl]).length=(M.ers++[er]).length;rw [I0,I0,h.el.2.1];rfl
theorem lk_eq {f:Str} {v:V} {fs:List (Str×V)}:(putF f v fs).lookup f=some v:=by rw [z37,if_pos rfl]
theorem lk_ne {f g:Str} {v:V} {fs:List (Str×V)} (h:g≠f):(putF f v fs).lookup g=fs.lookup g:=by rw [z37,if_neg h]
theorem lk_n {f g:Str} {v:V} {fs:List (Str×V)} {o:Option V} (e:fs.lookup g=o) (h:g≠f:=by decide +kernel):(putF f v fs).lookup g=o:=(lk_ne h).trans e
theorem z5k {x dx:Addr} {o1 o2:HO} {H H':Hp} (hx:H x=none) (hd:H dx=none) (k:Kept x (upd (upd H dx o1) x o2) H'):Same H H':=λ p o e=>by
 have a:p≠x:=λ z=>by rw [z,hx] at e;cases e
 have b:p≠dx:=λ z=>by rw [z,hd] at e;cases e
 exact k p o a (by rw [upd_ne a,upd_ne b];exact e)
def z19:Sp:=λ vs H Q _=>∃(x dx:Addr) (hv dv kv:V),vs=[.ref x,hv,dv,kv]/\H x=some (.ins 279 dx [])/\∀hl fs H',Kept x H H'->H hl=none->H' hl=some (.lst [])->H' x=some (.ins 279 dx fs)->fs.lookup ("hand" : Str)=some hv->fs.lookup ("deed" : Str)=some dv->fs.lookup ("kept" : Str)=some kv->fs.lookup ("heard" : Str)=some (V.ref hl)->Q .non H'
theorem zg3 (T:TX (kx w) mg):Fo P w mg base (CXE P w base) 1 276 y02 ["self","hand","deed","kept"] z19:=by
 refine (z2d w.params).okE z4i (λ l H Q E h=>?_) (λ K A N s H l Q E L h=>?_)
 ·obtain ⟨x,C,t,I,D,rfl,_⟩:=h;rfl
 ·obtain ⟨x,C,t,I,D,rfl,y,q⟩:=h;refine ⟨_,(z02 (ps_fld (pv 0) (pv 1) rfl)
   (z02 (ps_fld (pv 0) (pv 2) rfl)
   (z02 (ps_fld (pv 0) (pv 3) rfl)
   (z05 (ps_fld (pv 0) (pe_lst pa_nil) rfl))))),?_⟩
  refine z39 ⟨_,rfl,z16 Kept.refl y rfl (z0h _) (z0v _) (n:=0) (J0 _) (by decide) λ J u _ p a=>?_⟩;refine z39 ⟨_,rfl,z16 u p rfl (z0h _) (z0w _) a (by decide) λ M r _ F a=>?_⟩;refine z39 ⟨_,rfl,z16 r F rfl (z0h _) (z0y _) a (by decide) λ f g _ j a=>?_⟩;refine zfg ⟨w_0,λ b c=>?_⟩;have d:=Same.upd (o:=.lst []) c;have e:upd f b (.lst []) b=some (.lst []):=z03;have i:b≠x:=λ z=>by rw [z,j] at c;cases c
  have B:H b=none:=by
   cases z:H b with
   | none=>rfl
   | some o=>rw [g b o i z] at c;cases c
  generalize upd f b (.lst [])=H4 at d e⊢;refine z16 (g.trans d.kept) (d _ _ j) rfl (z0h _) (z1c _) a (by decide) λ k G m v a=>?_;exact q b _ k G B (m _ _ i e) v (lk_n (lk_n (lk_n lk_eq))) (lk_n (lk_n lk_eq)) (lk_n lk_eq) lk_eq
def z18:Sp:=λ vs H Q _=>∃(x dx:Addr) (ev nv hv:V),vs=[.ref x,ev,nv,hv]/\H x=some (.ins 300 dx [])/\∀fs H',Kept x H H'->H' x=some (.ins 300 dx fs)->fs.lookup ("errand" : Str)=some ev->fs.lookup ("number" : Str)=some nv->fs.lookup ("held" : Str)=some hv->Q .non H'
theorem zhc (T:TX (kx w) mg):Fo P w mg base (CXE P w base) 1 297 y03 ["self","errand","number","held"] z18:=by
 refine (z2i w.params).okE z4l (λ b H Q E h=>?_) (λ t A y s H b Q E u h=>?_)
 ·obtain ⟨x,j,f,p,l,rfl,_⟩:=h;rfl
 ·obtain ⟨x,j,f,p,l,rfl,i,q⟩:=h;refine ⟨_,(z02 (ps_fld (pv 0) (pv 1) rfl)
   (z02 (ps_fld (pv 0) (pv 2) rfl)
   (z05 (ps_fld (pv 0) (pv 3) rfl)))),?_⟩
  refine z39 ⟨_,rfl,z16 Kept.refl i rfl (z1w _) (z1m _) (n:=0) (J0 _) (by decide) λ r g _ e a=>?_⟩;refine z39 ⟨_,rfl,z16 g e rfl (z1w _) (z2r _) a (by decide) λ v d _ m a=>?_⟩;refine zfg ⟨_,rfl,z16 d m rfl (z1w _) (z2c _) a (by decide) λ c k _ o a=>?_⟩;exact q _ c k o (lk_n (lk_n lk_eq)) (lk_n lk_eq) lk_eq
def z1i (K:j0):Sp:=λ vs H Q _=>∃(cx ea:Addr) (B:Hp) (st lf id lt ev:Addr) (bs es hls:List Addr) (M:CM) (e:Nat),vs=[.ref cx,.ref ea]/\Cp K B H cx st lf id lt ev bs es hls M/\es[e]? = some ea/\Same B H/\M.stock.length<=5/\M.letters.length<=10000/\
 ∀H',Same B H'->Cp K B H' cx st lf id lt ev bs es hls (M.send e)->Q .non H'
theorem z7r (T:TX (kx w) mg) (c0:Fo P w mg base (CXE P w base) 1 297 y03 ["self","errand","number","held"] z18):Fo P w mg base CX0 3 335 y08 ["self","errand"] (z1i (kx w)):=by
 refine (z5b w.params).ok sc_Copies_send (λ V H Q E h=>?_) (λ a3 A a4 s H V Q E hr h=>?_)
 ·obtain ⟨b,g,B,p,K,id,lt,I,bs,F,J,M,e,rfl,_⟩:=h;rfl
 ·obtain ⟨b,g,B,p,K,id,lt,I,bs,F,J,M,e,rfl,t,he,R,n5,n4,q⟩:=h;refine ⟨_,(z05 (ps_for Y2 rfl (z1d rfl (T.no (z3c _)) (z01 (z06 z0l rfl (T.no (n_len _)) C2 (z01 (pe_fld (pv 0) rfl) pa_nil)) pa_nil)) (z0m (i:=2) sc_Copies_send.nd rfl (N1 rfl))
   (z05 (z0i (z0r (pe_fld (pv 0) rfl) (z01 (z78 (zbm _) c0 (hr.mono (by decide)) rfl (T.of (zfl _)) (z2f _) .nil passN (z01 (pv 1) (z01 (pv 2) (z01 pe_non pa_nil)))) pa_nil)))))),?_⟩
  obtain ⟨u,fs,r,G,i3,i4,U,D,i7,S⟩:=t.ins;obtain ⟨j,a,vv,N,a1,f,c2,C,o,c5,c6,L⟩:=t.ct;have Y:j.length=M.stock.length:=z04 C;refine ⟨_,rfl,b,_,u,fs,_,rfl,r,z08 _,z0t _,G,.inl ⟨p,j,rfl,.inl (SqL.of (f.at (i:=0) rfl rfl)),_,rfl,by omega,by omega,?_⟩⟩;rw [R5,Y];refine z33 (lo:=0) (n:=M.stock.length) (λ i σ l=>∃x2,Same B l/\Cp (kx w) B l b p K id lt I bs F J { M with letters:=M.letters++(V0 i).map λ k=>⟨e,k,none⟩ }/\σ=[some (.ref b),some (.ref g),x2]) ⟨_,R,?_,rfl⟩ ?_ ?_
  ·have em:({ M with letters:=M.letters++(V0 0).map λ k=>(⟨e,k,none⟩:Lt) }:CM)=M:=by rw [List.range_zero,D7,C3]
   rw [em];exact t
  ·rintro i σ d hi ⟨x2,s2,cp2,rfl⟩;rw [N8];refine g_name ?_;obtain ⟨u,fs,r,G,i3,i4,U,D,i7,S⟩:=cp2.ins;obtain ⟨j,a,vv,N,a1,f,c2,C,o,c5,c6,L⟩:=cp2.ct;have y:d lt=some (.lst a):=f.at (i:=3) rfl rfl;have X:a.length<=10005:=by have:=z04 o;rw [this,I0,G0,W2];omega
   refine ⟨_,rfl,b,_,u,fs,_,rfl,r,z08 _,z0s _,D,.inl ⟨rfl,a,SqL.of y⟩,_,rfl,_,rfl,λ x v hx a2 ne=>?_⟩;refine ⟨x,v,_,_,_,rfl,z03,λ a0 Z k3 e3 f1 W f3=>⟨rfl,?_⟩⟩;have c:Same d Z:=z5k hx a2 k3;have O:=cp2.same c;refine ⟨lt,a,_,rfl,rfl,c _ _ y,W0 X (by decide),?_⟩;refine ⟨_,Same.keep (s2.trans c) (f.fr lt (by simp)),?_,rfl⟩;have:=O.setL (Ls':=M.letters++(V0 (i + 1)).map λ k=>⟨e,k,none⟩) (lv':=a++[.ref x]) λ l m=>?_
   ·exact this
   ·rw [j0d,W1,<-D2];exact z1j (z00 (λ _ _ z=>(z.imm (Imm.of c)).imm m) o) ⟨x,v,a0,g,.non,rfl,m.i _ _ _ _ e3,he,f1,W,f3,rfl⟩
  ·rintro σ d ⟨x2,s2,cp2,rfl⟩;exact q d s2 cp2
def z1a (K:j0):Sp:=λ vs H Q _=>∃(cx ea:Addr) (wd:Int) (B:Hp) (st lf id lt ev:Addr) (bs es hls:List Addr) (M:CM) (e:Nat) (er:Er),vs=[.ref cx,.ref ea,.int wd]/\Cp K B H cx st lf id lt ev bs es hls M/\es[e]? = some ea/\M.ers[e]? = some er/\er.hand < M.idle.length/\Same B H/\M.events.length<=10000/\
 ∀H',Same B H'->Cp K B H' cx st lf id lt ev bs es hls (M.stop er wd)->Q .non H'
theorem z4g (T:TX (kx w) mg):Fo P w mg base CX0 1 370 y04 ["self","errand","worth"] (z1a (kx w)):=by
 refine (z2j w.params).ok z4t (λ Z H Q E h=>?_) (λ a3 A a4 s H Z Q E hr h=>?_)
 ·obtain ⟨F,n,v,B,st,lf,id,lt,l,bs,es,a1,M,e,b,rfl,_⟩:=h;rfl
 ·obtain ⟨F,n,v,B,st,lf,id,lt,l,bs,es,a1,M,e,b,rfl,r,he,a2,hh,sB,n4,q⟩:=h;refine ⟨_,(z02 (ps_asg pe_bl (pg_sub (pe_fld (pv 0) rfl) (pe_fld (pv 1) rfl) z3w))
   (z05 (z0i (z0r (pe_fld (pv 0) rfl) (z01 (pe_tup (z01 pe_str (z01 (pe_fld (pv 1) rfl) (z01 (zji (z0a opEq (pe_ix ix_seq (pe_fld (pv 1) rfl) pe_int (λ _ _=>rfl)) pe_str (nomark _)) pe_str (pv 2)) pa_nil)))) pa_nil))))),?_⟩
  obtain ⟨X,fs,S,i2,i3,i4,i5,i6,i7,i8⟩:=r.ins;obtain ⟨O,hl,I,e2,D,G,dv,kv,y,W,j3,Y,j5,j6,j7⟩:=r.er e b a2;rw [he] at I;cases I;obtain ⟨sv,lv,g,a5,a6,u,c2,c3,c4,K,c6,c7⟩:=r.ct;have N:H id=some (.lst (M.idle.map V.bl)):=u.at (i:=2) rfl rfl;refine ⟨_,rfl,F,_,X,fs,_,rfl,S,z08 _,z1k _,i5,_,rfl,n,_,D,G,_,rfl,y,z0h _,z0v _,W,id,_,_,b.hand,rfl,rfl,N,z61 (by rw [G0];exact hh),?_⟩;have R:=r.setI (I':=M.idle.set b.hand true) (iv:=(M.idle.map V.bl).set b.hand (.bl true)) (by rw [S9]);have k:Imm H (upd H id (.lst ((M.idle.map V.bl).set b.hand (.bl true)))):=Imm.lst N;have J:Same B (upd H id (.lst ((M.idle.map V.bl).set b.hand (.bl true)))):=Same.keep sB (u.fr id (by simp));have x:=(u.set (i:=2) (c:=(M.idle.map V.bl).set b.hand (.bl true)) rfl).at (i:=4) rfl rfl;generalize upd H id (.lst ((M.idle.map V.bl).set b.hand (.bl true)))=H1 at R k J x⊢;refine t_nx ?_;have L:g.length<=10000:=by rw [z04 K];exact n4
  obtain ⟨p,rfl,ep⟩:=Y;refine ⟨_,rfl,F,_,X,fs,_,rfl,k.i _ _ _ _ S,z08 _,z11 _,i7,.inl ⟨rfl,g,SqL.of x⟩,_,rfl,n,_,D,G,_,rfl,k.i _ _ _ _ y,z0h _,z0v _,W,?_⟩;refine ⟨_,rfl,n,_,D,G,_,rfl,k.i _ _ _ _ y,z0h _,z0w _,j3,.inr (.inl ⟨p,_,0,.str (vbD b.deed),rfl,rfl,SqT.of (k.t _ _ ep),z09 (j:=0) rfl,rfl,_,rfl,?_⟩)⟩;have U :∀(a:V),a=avD (ansC b.deed v)->∀d,H1 d=none->Q .non (upd (upd H1 d (.tup [.str "end",.int b.hand,a])) l (.lst (g++[.ref d]))):=λ a O d f=>by subst O;have C:=Same.upd (o:=.tup [.str "end",.int b.hand,avD (ansC b.deed v)]) f;have a0:=R.same C;refine q _ (Same.keep (J.trans C) (u.fr l (by simp))) (a0.setV (E':=M.events++[.fin b.hand (ansC b.deed v)]) (vv':=g++[.ref d]) λ H' m=>?_);exact z1j (z00 (λ _ _ z=>z.imm (k.trans ((Imm.of C).trans m))) K) ⟨d,rfl,m.t _ _ z03⟩
  cases hd:b.deed with
  | none=>refine iteK ⟨_,rfl,w_3,λ d f=>?_⟩;refine ⟨l,g,_,rfl,rfl,(Same.upd f) _ _ x,W0 L (by decide),U _ (by rw [hd];rfl) d f⟩
  | some i=>refine iteP (show decide (V.str "write" = V.str "write")=true by decide +kernel) ⟨w_3,λ d f=>?_⟩;refine ⟨l,g,_,rfl,rfl,(Same.upd f) _ _ x,W0 L (by decide),U _ (by rw [hd];rfl) d f⟩
theorem z86 {H:Hp} {a b:Addr} {o:HO} (h:upd H a o b=none):b≠a/\H b=none:=by
 have n:b≠a:=λ z=>by rw [z,z03] at h;cases h
 rw [upd_ne n] at h;exact ⟨n,h⟩
theorem z51 {K:j0} {H:Hp} :∀{hs:List Hd} {vs:List V},All2 (HdAt K H) hs vs->∃ps:List (Addr×Hd),vs=ps.map (λ x=>V.ref x.1)/\ps.map (·.2)=hs/\∀x∈ps,∃q,SqT K H x.1 [.ref q,.int x.2.2]/\SqT K H q [.int x.2.1.1,.int x.2.1.2]
 | _,_,.nil=>⟨[],rfl,rfl,λ _ h=>nomatch h⟩
 | x :: _,_,.cons a r=>by
  obtain ⟨ps,c,g,e⟩:=z51 r;obtain ⟨p,q,rfl,d,f⟩:=a;refine ⟨(p,x) :: ps,by rw [c];rfl,by rw [U1,g],λ y b=>?_⟩;rcases List.mem_cons.mp b with rfl|b
  ·exact ⟨q,d,f⟩
  ·exact e y b
theorem zim {d:Option Int}:decide (V.str (vbD d)=V.str "write")=d.isSome:=by
 cases d with
 | none=>decide +kernel
 | some i=>exact (show decide (V.str "write" = V.str "write")=true by decide +kernel)
def z0z (K:j0):Sp:=λ vs H Q _=>∃(cx ea:Addr) (B:Hp) (st lf id lt ev:Addr) (bs es hls:List Addr) (M:CM) (e:Nat) (er:Er),vs=[.ref cx,.ref ea]/\Cp K B H cx st lf id lt ev bs es hls M/\es[e]? = some ea/\M.ers[e]? = some er/\er.heard≠[]/\er.hand < M.idle.length/\Same B H/\M.stock.length<=5/\M.letters.length<=10000/\M.events.length<=10000/\
 ∀es' hls' H',Same B H'->Cp K B H' cx st lf id lt ev bs es' hls' (M.ask er)->(∀(k:Nat) a,es[k]? = some a->es'[k]? = some a)->Q .non H'
theorem z1r (T:TX (kx w) mg) (c0:Fo P w mg base (CXE P w base) 1 276 y02 ["self","hand","deed","kept"] z19) (c8:Fo P w mg base CX0 3 335 y08 ["self","errand"] (z1i (kx w))) (c9:Fo P w mg base CX0 1 370 y04 ["self","errand","worth"] (z1a (kx w))):Fo P w mg base CX0 4 363 y00 ["self","errand"] (z0z (kx w)):=by
 refine (z10 w.params).ok sc_Copies_go_on_from_asking (λ vs H Q E h=>?_) (λ b8 A b9 s H vs Q E G h=>?_)
 ·obtain ⟨v,g,B,st,lf,id,lt,Y,bs,es,X,M,e,er,rfl,_⟩:=h;rfl
 ·obtain ⟨v,g,B,st,lf,id,lt,Y,bs,es,X,M,e,er,rfl,D,he,a5,b6,hh,sB,n5,nl,nv,q⟩:=h;refine ⟨_,(z02 (ps_set (i:=2) sc_Copies_go_on_from_asking.nd rfl (N1 rfl) (z06 (zbv rfl G) rfl (T.no (n_max _)) boot_max (z01 (pe_fld (pv 1) rfl) pa_nil)))
   (z05 (ps_if (z0a opEq (pe_ix ix_seq (pe_fld (pv 1) rfl) pe_int (λ _ _=>rfl)) pe_str (nomark _))
   (z05 (z0i (z2v (pv 0) (z08 _) (z24 _) c8 (G.mono (by decide)) (z2x _) .nil pass0 (z01 (z78 (z8b _) c0 (G.mono (by decide)) rfl (T.of (zav _)) (z1g _) .nil passN (z01 (pe_fld (pv 1) rfl) (z01 (pe_fld (pv 1) rfl) (z01 (pe_tup (z01 (pe_tup (z01 (pe_op opAdd (pe_ix ix_seq (pe_ix ix_seq (pv 2) pe_int (λ _ _=>rfl)) pe_int (λ _ _=>rfl)) pe_int) (z01 (pe_fld (pv 1) rfl) pa_nil))) (z01 (pe_ix ix_seq (pe_fld (pv 1) rfl) pe_int (λ _ _=>rfl)) pa_nil))) pa_nil)))) pa_nil))))
   (z05 (ps_if (pt_val (pe_fld (pv 0) rfl) (λ _=>rfl))
   (z05 (z0i (z2v (pv 0) (z08 _) (z24 _) c8 (G.mono (by decide)) (z2x _) .nil pass0 (z01 (z78 (z8b _) c0 (G.mono (by decide)) rfl (T.of (zav _)) (z1g _) .nil passN (z01 (pe_fld (pv 1) rfl) (z01 (pe_fld (pv 1) rfl) (z01 (pv 2) pa_nil)))) pa_nil))))
   (z05 (z0i (z2v (pv 0) (z08 _) (z22 _) c9 (G.mono (by decide)) (z2g _) .nil pass0 (z01 (pv 1) (z01 (pe_ix ix_seq (pv 2) pe_int (λ _ _=>rfl)) pa_nil)))))))))),?_⟩
  obtain ⟨dx,fs,i1,i2,i3,i4,i5,i6,i7,i8⟩:=D.ins;obtain ⟨d0,hl,e1,e2,u,C,dv,kv,t,j2,j3,j4,j5,j6,j7⟩:=D.er e er a5;rw [he] at e1;cases e1;obtain ⟨sv,lv,vv,b1,b3,c1,c2,c3,c4,c5,c6,c7⟩:=D.ct;obtain ⟨hs,a9,ah⟩:=z0q c7 a5;have b7:H hl=some (.lst hs):=by
   refine c1.at (i:=bs.length + e + 5) ?_ ?_
   ·show (bs++X)[bs.length + e]? = some hl;rw [D1 (by omega),G4];exact e2
   ·show (b1++b3)[bs.length + e]? = some hs;rw [D1 (by omega),c2,G4];exact a9
  obtain ⟨ps,rfl,a1,a7⟩:=z51 ah;cases ps with
  | nil=>exact absurd a1.symm b6
  | cons m r=>
  refine z0c ⟨_,rfl,g,_,u,C,_,rfl,t,z0h _,z1c _,j7,hl,m,r,rfl,SqL.of b7,a7,λ b hb hg=>g_name ?_⟩;have a2:maxHd er.heard=b.2:=by rw [<-a1];refine zfi (z7 hb) λ x F=>?_;obtain ⟨y,hy,rfl⟩:=List.mem_map.mp F;exact hg y hy
  obtain ⟨bq,a4,a6⟩:=a7 b hb;obtain ⟨p,rfl,ep⟩:=j4;have b2 :∀{c:Addr},H c=none->c∉st :: lf :: id :: lt :: Y :: (bs++X):=λ z=>c1.not z;have go :∀(a0:V) (Z:Hd) (n:Hp),Same H n->HdAt (kx w) n Z a0->M.ask er=(M.make ⟨er.hand,er.deed,some Z,[]⟩).send M.ers.length->∀(x d:Addr),n x=none->n d=none->∀(c:Addr) (f:List (Str×V)) (l:Hp),Kept x (upd (upd n d (.own x)) x (.ins 279 d [])) l->upd (upd n d (.own x)) x (.ins 279 d []) c=none->l c=some (.lst [])->l x=some (.ins 279 d f)->f.lookup ("hand" : Str)=some (V.int er.hand)->f.lookup ("deed" : Str)=some (V.ref p)->f.lookup ("kept" : Str)=some a0->f.lookup ("heard" : Str)=some (V.ref c)->z1i (kx w) [.ref v,.ref x] l Q E0:=by intro a0 Z n s1 b5 ask x d F K c f l N L S O W I J U;have s3:Same n l:=z5k F K N;have a8:n c=none:=(z86 (z86 L).2).2;have fh:H c=none:=s1.free a8;have a3:=s1.trans s3;have b4:=(D.same a3).make (er:=⟨er.hand,er.deed,some Z,[]⟩) (e:=x) (hl:=c) ⟨d,f,_,a0,O,W,I,⟨p,rfl,a3 _ _ ep⟩,J,b5.imm (Imm.of s3),U⟩ rfl S (b2 fh) (sB.free fh);refine ⟨v,x,B,st,lf,id,lt,Y,bs,es++[x],X++[c],_,M.ers.length,rfl,b4,by rw [D1 (by rw [D.el.1];exact J0 _),D.el.1,L8];rfl,sB.trans a3,n5,nl,λ H' s' R=>?_⟩;rw [<-ask] at R;exact q _ _ H' s' R λ k a ek=>by rw [F1 (List.getElem?_eq_some_iff.mp ek).1];exact ek
  refine z2e ⟨_,rfl,g,_,u,C,_,rfl,t,z0h _,z0w _,j3,.inr (.inl ⟨p,_,0,.str (vbD er.deed),rfl,rfl,SqT.of ep,z09 (j:=0) rfl,rfl,_,rfl,?_⟩)⟩;rw [zim];cases hd:er.deed with
  | some w0=>
   refine iteP rfl ?_;have ask:M.ask er=(M.make ⟨er.hand,er.deed,some (((maxHd er.heard).1.1 + 1,er.hand),w0),[]⟩).send M.ers.length:=by unfold CM.ask;rw [hd]
   rw [hd] at ep;refine ⟨_,rfl,v,dx,fs,rfl,i1,i8 _ (by decide +kernel),?_⟩;refine ⟨_,rfl,g,_,u,C,_,rfl,t,z0h _,z0v _,j2,_,rfl,g,_,u,C,_,rfl,t,z0h _,z0w _,j3,?_⟩;refine ⟨_,rfl,.inr (.inl ⟨b.1,_,0,.ref bq,rfl,rfl,a4,z09 (j:=0) rfl,.inr (.inl ⟨bq,_,0,.int b.2.1.1,rfl,rfl,a6,z09 (j:=0) rfl,.inl ⟨_,_,rfl,rfl,?_⟩⟩)⟩)⟩;refine ⟨_,rfl,g,_,u,C,_,rfl,t,z0h _,z0v _,j2,w_2,λ p1 b0=>?_⟩;have u1:=Same.upd (o:=.tup [.int (b.2.1.1 + 1),.int er.hand]) b0;refine ⟨_,rfl,g,_,u,C,_,rfl,u1 _ _ t,z0h _,z0w _,j3,.inr (.inl ⟨p,_,1,.int w0,rfl,rfl,SqT.of (u1 _ _ ep),z09 (j:=1) rfl,w_2,λ p2 a1=>?_⟩)⟩;have u2:=Same.upd (o:=.tup [.ref p1,.int w0]) a1;have ek:HdAt (kx w) (upd (upd H p1 (.tup [.int (b.2.1.1 + 1),.int er.hand])) p2 (.tup [.ref p1,.int w0])) (((maxHd er.heard).1.1 + 1,(er.hand:Int)),w0) (.ref p2):=⟨p2,p1,rfl,SqT.of z03,by rw [a2];exact SqT.of (u2 _ _ z03)⟩
   refine λ x d F K ne=>⟨x,d,_,_,_,rfl,z03,λ c f l N L S O W I J U=>⟨rfl,?_⟩⟩
   exact go _ _ _ (u1.trans u2) ek ask x d F K c f l N L S O W I J U
  | none=>
   refine iteN (by decide) ?_;refine z2e ⟨_,rfl,v,_,dx,fs,_,rfl,i1,z08 _,z49 _,i3,_,rfl,?_⟩;by_cases bk:M.back=true
   ·refine iteP bk ?_;have ask:M.ask er=(M.make ⟨er.hand,er.deed,some (maxHd er.heard),[]⟩).send M.ers.length:=by unfold CM.ask;rw [hd];exact if_pos bk
    refine ⟨_,rfl,v,dx,fs,rfl,i1,i8 _ (by decide +kernel),?_⟩;refine ⟨_,rfl,g,_,u,C,_,rfl,t,z0h _,z0v _,j2,_,rfl,g,_,u,C,_,rfl,t,z0h _,z0w _,j3,_,rfl,?_⟩;refine λ x d F K ne=>⟨x,d,_,_,_,rfl,z03,λ c f l N L S O W I J U=>⟨rfl,?_⟩⟩
    exact go _ _ _ (Same.refl _) ⟨b.1,bq,rfl,by rw [a2];exact a4,by rw [a2];exact a6⟩ ask x d F K c f l N L S O W I J U
   ·refine iteN bk ?_;have ask:M.ask er=M.stop er (maxHd er.heard).2:=by unfold CM.ask;rw [hd];exact if_neg bk
    refine ⟨_,rfl,v,dx,fs,rfl,i1,i8 _ (by decide +kernel),_,rfl,_,rfl,.inr (.inl ⟨b.1,_,1,.int b.2.2,rfl,rfl,a4,z09 (j:=1) rfl,?_⟩)⟩;refine ⟨v,g,b.2.2,B,st,lf,id,lt,Y,bs,es,X,M,e,er,rfl,D,he,a5,hh,sB,nv,λ H' s' R=>?_⟩;rw [<-a2,<-ask] at R;exact q _ _ H' s' R λ _ _ z=>z
theorem Cp.heard {K:j0} {B H:Hp} {cx st lf id lt ev:Addr} {bs es hls:List Addr} {M:CM} {e:Nat} {er:Er} {ea:Addr} (cp:Cp K B H cx st lf id lt ev bs es hls M) (he:es[e]? = some ea) (her:M.ers[e]? = some er) :∃hl hs,hls[e]? = some hl/\H hl=some (.lst hs)/\All2 (HdAt K H) er.heard hs/\ErAt K H er ea hl/\hl∈st :: lf :: id :: lt :: ev :: (bs++hls):=by
 obtain ⟨r,hl,a,b,j⟩:=cp.er e er her;rw [he] at a;cases a;obtain ⟨m,n,s,g,k,l,h,o,p,q,t,d⟩:=cp.ct;obtain ⟨hs,f,i⟩:=z0q d her;have c:(st :: lf :: id :: lt :: ev :: (bs++hls))[bs.length + e + 5]? = some hl:=by show (bs++hls)[bs.length + e]? = some hl;rw [D1 (by omega),G4];exact b
 refine ⟨hl,hs,b,l.at c ?_,i,j,A1 c⟩;show (g++k)[bs.length + e]? = some hs;rw [D1 (by omega),h,G4];exact f
theorem Cp.fr {K:j0} {B H:Hp} {cx st lf id lt ev:Addr} {bs es hls:List Addr} {M:CM} (cp:Cp K B H cx st lf id lt ev bs es hls M) {m:Addr} (hm:m∈st :: lf :: id :: lt :: ev :: (bs++hls)):B m=none:=by obtain ⟨e,f,c,b,d,a,_⟩:=cp.ct;exact a.fr m hm
def z1o (K:j0):Sp:=λ vs H Q _=>∃(cx ea:Addr) (hv:V) (B:Hp) (st lf id lt ev:Addr) (bs es hls:List Addr) (M:CM) (e:Nat) (er:Er) (x:Hd),vs=[.ref cx,.ref ea,hv]/\Cp K B H cx st lf id lt ev bs es hls M/\es[e]? = some ea/\M.ers[e]? = some er/\HdAt K H x hv/\er.hand < M.idle.length/\Same B H/\M.stock.length<=5/\M.letters.length<=10000/\M.events.length<=10000/\er.heard.length<=10000/\
 ∀es' hls' H',Same B H'->Cp K B H' cx st lf id lt ev bs es' hls' (M.comeBack e er x)->Q .non H'
theorem z3o (T:TX (kx w) mg) (c0:Fo P w mg base CX0 1 370 y04 ["self","errand","worth"] (z1a (kx w))) (c8:Fo P w mg base CX0 4 363 y00 ["self","errand"] (z0z (kx w))):Fo P w mg base CX0 5 356 y06 ["self","errand","held"] (z1o (kx w)):=by
 refine (z1v w.params).ok z3q (λ vs H Q E h=>?_) (λ a6 A a7 s H vs Q E hr h=>?_)
 ·obtain ⟨l,f,c,B,p,y,id,lt,v,bs,n,o,M,e,b,x,rfl,_⟩:=h;rfl
 ·obtain ⟨l,f,c,B,p,y,id,lt,v,bs,n,o,M,e,b,x,rfl,J,I,S,hx,U,sB,n5,nl,X,nh,q⟩:=h;refine ⟨_,(z02 (z0i (z0r (pe_fld (pv 1) rfl) (z01 (pv 2) pa_nil)))
   (z02 (ps_if (z0a opNe (z06 z0l rfl (T.no (n_len _)) C2 (z01 (pe_fld (pv 1) rfl) pa_nil)) (pe_op opAdd (pe_op z1f (z06 z0l rfl (T.no (n_len _)) C2 (z01 (pe_fld (pv 0) rfl) pa_nil)) pe_int) pe_int) (nomark _))
   (z05 z7e)
   z0f)
   (z05 (ps_if (z0a z8s (pe_fld (pv 1) rfl) pe_non (nomark _))
   (z05 (z0i (z2v (pv 0) (z08 _) (z22 _) c0 (hr.mono (by decide)) (z2g _) .nil pass0 (z01 (pv 1) (z01 (pe_ix ix_seq (pe_fld (pv 1) rfl) pe_int (λ _ _=>rfl)) pa_nil)))))
   (z05 (z0i (z2v (pv 0) (z08 _) (z1q _) c8 (hr.mono (by decide)) (z1z _) .nil pass0 (z01 (pv 1) pa_nil)))))))),?_⟩
  obtain ⟨g,a,e2,O,ah,⟨F,G,dv,Y,u,j2,j3,j4,j5,t,Z⟩,mh⟩:=J.heard I S;have a4:a.length=b.heard.length:=z04 ah;refine ⟨_,rfl,f,_,F,G,_,rfl,u,z0h _,z1c _,Z,.inl ⟨rfl,a,SqL.of O⟩,_,rfl,g,a,_,rfl,rfl,O,W0 (m:=10000) (by omega) (by decide),?_⟩;have r:Imm H (upd H g (.lst (a++[c]))):=Imm.lst O;have d:=J.setH (hd:=b.heard++[x]) (ys:=a++[c]) S e2 λ D m=>z1j (z00 (λ _ _ z=>z.imm m) ah) (hx.imm m);have C:Same B (upd H g (.lst (a++[c]))):=Same.keep sB (J.fr mh);have W:upd H g (.lst (a++[c])) g=some (.lst (a++[c])):=z03;generalize upd H g (.lst (a++[c]))=H1 at r d C W⊢;have d:Cp (kx w) B H1 l p y id lt v bs n o { M with ers:=M.ers.set e (b.hear x) }:=d;have kl:e < M.ers.length:=(List.getElem?_eq_some_iff.mp S).1;have a1:({ M with ers:=M.ers.set e (b.hear x) }:CM).ers[e]? = some (b.hear x):=P0 kl;obtain ⟨R,fs,N,i2,i3,i4,i5,i6,i7,i8⟩:=d.ins;obtain ⟨sv,lv,vv,a8,a9,c1,c2,c3,c4,c5,c6,c7⟩:=d.ct;have a5:sv.length=M.stock.length:=z04 c3;refine t_nx (sq_if ?_);refine ⟨_,rfl,f,_,F,G,_,rfl,r.i _ _ _ _ u,z0h _,z1c _,Z,.inl ⟨g,_,rfl,.inl (SqL.of W),?_⟩⟩;refine ⟨_,rfl,l,_,R,fs,_,rfl,N,z08 _,z0t _,i2,.inl ⟨p,sv,rfl,.inl (SqL.of (c1.at (i:=0) rfl rfl)),_,_,rfl,rfl,⟨by decide,by decide⟩,.inl ⟨_,_,rfl,rfl,rfl,_,rfl,?_⟩⟩⟩;have a0:(b.hear x).heard.length=a.length + 1:=by show (b.heard++[x]).length=_;rw [I0,a4];rfl
  have ll:(a++[c]).length=a.length + 1:=by rw [I0];rfl
  rw [ll,a5];unfold CM.comeBack at q;by_cases ne:(b.hear x).heard.length≠M.stock.length / 2 + 1
  ·rw [if_pos ne] at q;refine iteP ?_ (q n o H1 C d);have:V.int ((a.length + 1:Nat):Int)≠V.int ((M.stock.length:Int) / 2 + 1):=λ z=>by injection z with z;rw [a0] at ne;omega
   simpa using this
  rw [if_neg ne] at q;refine iteN ?_ (t_nx ?_)
  ·have:V.int ((a.length + 1:Nat):Int)=V.int ((M.stock.length:Int) / 2 + 1):=by congr 1;rw [a0] at ne;omega
   simpa using this
  refine z2e ⟨_,rfl,f,_,F,G,_,rfl,r.i _ _ _ _ u,z0h _,z0y _,j5,rfl,_,rfl,?_⟩;cases hk:b.kept with
  | some k=>
   rw [hk] at q t;obtain ⟨kp,kq,rfl,k1,k2⟩:=(show HdAt (kx w) H k Y from t)
   refine iteP (by simp) ?_;refine ⟨_,rfl,l,R,fs,rfl,N,i8 _ (by decide +kernel),_,rfl,_,rfl,f,_,F,G,_,rfl,r.i _ _ _ _ u,z0h _,z0y _,j5,.inr (.inl ⟨kp,_,1,.int k.2,rfl,rfl,r.seqT k1,z09 (j:=1) rfl,?_⟩)⟩;exact ⟨l,f,k.2,B,p,y,id,lt,v,bs,n,o,_,e,_,rfl,d,I,a1,U,C,X,λ D L K=>q n o D L K⟩
  | none=>rw [hk] at q t;cases (show Y=.non from t);refine iteN (by simp) ?_;refine ⟨_,rfl,l,R,fs,rfl,N,i8 _ (by decide +kernel),_,rfl,?_⟩;exact ⟨l,f,B,p,y,id,lt,v,bs,n,o,_,e,_,rfl,d,I,a1,(by show b.heard++[x]≠[];simp),U,C,n5,nl,X,λ a2 a3 D L K _=>q a2 a3 D L K⟩
theorem zgp {α:Type} {R:α->V->Prop} {xs:List α} {ys:List V} {n:Nat} {x:α} {y:V} (h:All2 R xs ys) (r:R x y):All2 R (xs.set n x) (ys.set n y):=by
 induction h generalizing n with
 | nil=>exact .nil
 | cons a t ih=>
  cases n with
  | zero=>exact .cons r t
  | succ n=>exact .cons a ih
def z13 (K:j0):Sp:=λ vs H Q _=>∃(cx ea:Addr) (n:Nat) (B:Hp) (st lf id lt ev:Addr) (bs es hls:List Addr) (M:CM) (e:Nat) (er:Er) (x:Hd),vs=[.ref cx,.ref ea,.int n]/\Cp K B H cx st lf id lt ev bs es hls M/\es[e]? = some ea/\M.ers[e]? = some er/\M.stock[n]? = some x/\Same B H/\M.letters.length<=10000/\
 ∀H',Same B H'->Cp K B H' cx st lf id lt ev bs es hls (M.comeTo e er n x)->Q .non H'
theorem z2m (T:TX (kx w) mg) (c0:Fo P w mg base (CXE P w base) 1 297 y03 ["self","errand","number","held"] z18):Fo P w mg base CX0 3 349 y01 ["self","errand","number"] (z13 (kx w)):=by
 refine (z1e w.params).ok z2l (λ vs H Q E h=>?_) (λ b3 A b5 s H vs Q E hr h=>?_)
 ·obtain ⟨b,c,n,B,d,J,id,lt,I,bs,K,Z,M,e,a,x,rfl,_⟩:=h;rfl
 ·obtain ⟨b,c,n,B,d,J,id,lt,I,bs,K,Z,M,e,a,x,rfl,l,he,b1,C,sB,nl,q⟩:=h;refine ⟨_,(z02 (ps_if (PW.pt (pw_and (z0a z8s (pe_fld (pv 1) rfl) pe_non (nomark _)) (z6k (z0a (op_gtT hr) (pe_ix ix_seq (pe_fld (pv 1) rfl) pe_int (λ _ _=>rfl)) (pe_ix ix_seq (pe_ix ix_seq (pe_fld (pv 0) rfl) (pv 2) (λ _ _=>rfl)) pe_int (λ _ _=>rfl)) (nomark _)))))
   (z05 (ps_asg (pe_fld (pv 1) rfl) (pg_sub (pe_fld (pv 0) rfl) (pv 2) z3w)))
   z0f)
   (z05 (z0i (z0r (pe_fld (pv 0) rfl) (z01 (z78 (zbm _) c0 (hr.mono (by decide)) rfl (T.of (zfl _)) (z2f _) .nil passN (z01 (pv 1) (z01 (pv 2) (z01 (pe_ix ix_seq (pe_fld (pv 0) rfl) (pv 2) (λ _ _=>rfl)) pa_nil)))) pa_nil))))),?_⟩
  obtain ⟨hl,hs,e2,b9,ah,⟨O,U,dv,kv,G,j2,j3,j4,N,v,j7⟩,mh⟩:=l.heard he b1;obtain ⟨u,fs,t,y,i3,i4,i5,i6,i7,i8⟩:=l.ins;obtain ⟨o,lv,vv,b6,b8,c1,c2,c3,c4,c5,c6,c7⟩:=l.ct;have Y:H d=some (.lst o):=c1.at (i:=0) rfl rfl;obtain ⟨sx,a0,F,xq,rfl,x1,x2⟩:=z0q c3 C;have a5:atI o (n:Nat)=some (.ref F):=z09 a0;have hn:n < o.length:=(List.getElem?_eq_some_iff.mp a0).1;refine za4 (λ f g=>Same B g/\Cp (kx w) B g b d J id lt I bs K Z { M with stock:=M.stock.set n (keepH a.kept x) }/\Imm H g/\f=[some (.ref b),some (.ref c),some (.int n)]) ?_ (λ L=>?_)
  ·rintro f g ⟨s1,cp1,m1,rfl⟩;obtain ⟨u,fs,t,y,i3,i4,i5,i6,i7,i8⟩:=cp1.ins;obtain ⟨a8,p,b4,b2,b7,X,d2,d3,d4,d5,d6,d7⟩:=cp1.ct;have a7:(M.stock.set n (keepH a.kept x))[n]? = some (keepH a.kept x):=P0 (List.getElem?_eq_some_iff.mp C).1;obtain ⟨S,a2,hy⟩:=z0q d3 a7;have el:g lt=some (.lst p):=X.at (i:=3) rfl rfl;have ll:p.length<=10000:=by rw [z04 d4];exact nl
   refine ⟨_,rfl,b,_,u,fs,_,rfl,t,z08 _,z0s _,i6,.inl ⟨rfl,p,SqL.of el⟩,_,rfl,_,rfl,_,rfl,b,_,u,fs,_,rfl,t,z08 _,z0t _,y,_,rfl,.inl ⟨d,a8,_,S,rfl,rfl,SqL.of (X.at (i:=0) rfl rfl),z09 a2,λ D a1 b0 a4 ne=>?_⟩⟩;refine ⟨D,a1,_,_,_,rfl,z03,λ a9 H3 k3 e3 f1 f2 f3=>⟨rfl,?_⟩⟩;have r:Same g H3:=z5k b0 a4 k3;have a6:=cp1.same r;refine ⟨lt,p,_,rfl,rfl,r _ _ el,W0 ll (by decide),?_⟩;refine q _ (Same.keep (s1.trans r) (X.fr lt (by simp))) ?_;exact a6.setL (Ls':=M.letters++[⟨e,n,some (keepH a.kept x)⟩]) (lv':=p++[.ref D]) λ H' m=>z1j (x:=(⟨e,n,some (keepH a.kept x)⟩:Lt)) (z00 (λ _ _ z=>(z.imm (Imm.of r)).imm m) d4) ⟨D,a1,a9,c,S,rfl,m.i _ _ _ _ e3,he,f1,f2,f3,(show OptHd (kx w) H' (some (keepH a.kept x)) S from (hy.imm (Imm.of r)).imm m)⟩
  ·have same:keepH a.kept x=x->∀f,f=[some (V.ref b),some (V.ref c),some (V.int n)]->Same B H/\Cp (kx w) B H b d J id lt I bs K Z { M with stock:=M.stock.set n (keepH a.kept x) }/\Imm H H/\f=[some (V.ref b),some (V.ref c),some (V.int n)]:=λ W f a3=>by
    have e0:M.stock.set n (keepH a.kept x)=M.stock:=by
     rw [W];apply List.ext_getElem?;intro j;by_cases z:j=n
     ·subst z;rw [P0 (List.getElem?_eq_some_iff.mp C).1,C]
     ·rw [Y1 (X1 z)]
    refine ⟨sB,?_,Imm.of (Same.refl _),a3⟩;rw [e0];exact l
   refine z2e ⟨_,rfl,c,_,O,U,_,rfl,G,z0h _,z0y _,N,rfl,_,rfl,?_⟩;cases hk:a.kept with
   | none=>rw [hk] at v;cases (show kv=.non from v);exact iteN (by simp) (L _ _ (same (by rw [hk];rfl) _ rfl))
   | some k=>
    rw [hk] at v;obtain ⟨kp,R,rfl,k1,k2⟩:=(show HdAt (kx w) H k kv from v)
    refine iteP (by simp) ?_;refine ⟨_,rfl,c,_,O,U,_,rfl,G,z0h _,z0y _,N,.inr (.inl ⟨kp,_,0,.ref R,rfl,rfl,k1,z09 (j:=0) rfl,?_⟩)⟩;refine ⟨_,rfl,b,_,u,fs,_,rfl,t,z08 _,z0t _,y,_,rfl,.inl ⟨d,o,_,.ref F,rfl,rfl,SqL.of Y,a5,.inr (.inl ⟨F,_,0,.ref xq,rfl,rfl,x1,z09 (j:=0) rfl,?_⟩)⟩⟩;refine ⟨R,xq,k.1,x.1,rfl,rfl,k2,x2,_,rfl,?_⟩;by_cases gt:gtI k.1 x.1=true
    ·refine iteP gt ?_;refine ⟨_,rfl,c,_,O,U,_,rfl,G,z0h _,z0y _,N,_,rfl,b,_,u,fs,_,rfl,t,z08 _,z0t _,y,_,rfl,d,o,_,n,rfl,rfl,Y,z61 hn,?_⟩;refine L _ _ ⟨Same.keep sB (c1.fr d (by simp)),l.setS λ H' m=>?_,Imm.lst Y,rfl⟩;have W:keepH a.kept x=k:=by rw [hk];exact if_pos gt
     rw [W];exact zgp (z00 (λ _ _ z=>z.imm m) c3) ⟨kp,R,rfl,m.seqT k1,m.seqT k2⟩
    ·exact iteN gt (L _ _ (same (by rw [hk];exact if_neg gt) _ rfl))
theorem z27 {X:Cx} {K:j0} (hK:X.K=K):CallR X (.builtin "len") (λ xs H Q=>(∃p ys,xs=[.ref p]/\(SqL K H p ys\/SqT K H p ys)/\Q (.int ys.length) H)\/∃z,xs=[.str z]/\z.length<=sizeLine/\Q (.int z.length) H):=hK ▸ z0l
theorem z7z {j n:Nat} (h:j < n):PySem.seqIndex? (j:Int) n=some j:=by
 unfold PySem.seqIndex?;have:¬ ((j:Int) < 0):=by omega
 simp only [if_neg this];rw [if_pos (by simp [h])];rfl
def z3a (K:j0):Sp:=λ vs H Q _=>∃(cx:Addr) (v:V) (B:Hp) (st lf id lt ev:Addr) (bs es hls:List Addr) (M:CM) (L:Lt) (er:Er) (x:Hd),vs=[.ref cx,v]/\Cp K B H cx st lf id lt ev bs es hls M/\LtAt K H es L v/\M.ers[L.e]? = some er/\M.stock[L.num]? = some x/\er.hand < M.idle.length/\Same B H/\M.stock.length<=5/\M.letters.length<=10000/\M.events.length<=10000/\er.heard.length<=10000/\
 ∀es' hls' H',Same B H'->Cp K B H' cx st lf id lt ev bs es' hls' (M.come L)->Q .non H'
theorem z6v (T:TX (kx w) mg) (c0:Fo P w mg base CX0 3 349 y01 ["self","errand","number"] (z13 (kx w))) (c1:Fo P w mg base CX0 5 356 y06 ["self","errand","held"] (z1o (kx w))):Fo P w mg base CX0 6 342 y0b ["self","letter"] (z3a (kx w)):=by
 refine (z48 w.params).ok z6u (λ Y H Q E h=>?_) (λ a2 A a3 s H Y Q E N h=>?_)
 ·obtain ⟨g,v,B,m,p,id,lt,o,bs,i,k,M,L,u,x,rfl,_⟩:=h;rfl
 ·obtain ⟨g,v,B,m,p,id,lt,o,bs,i,k,M,L,u,x,rfl,n,⟨b,c,d,F,j,rfl,f,K,O,V,U,a⟩,r,R,Z,D,W,I,nv,nh,q⟩:=h;refine ⟨_,(z05 (ps_if (z0a op_isN (pe_fld (pv 1) rfl) pe_non (nomark _))
   (z05 (z0i (z2v (pv 0) (z08 _) (z2n _) c0 (N.mono (by decide)) (z2p _) .nil pass0 (z01 (pe_fld (pv 1) rfl) (z01 (pe_fld (pv 1) rfl) pa_nil)))))
   (z05 (z0i (z2v (pv 0) (z08 _) (z3k _) c1 (N.mono (by decide)) (z3z _) .nil pass0 (z01 (pe_fld (pv 1) rfl) (z01 (pe_fld (pv 1) rfl) pa_nil))))))),?_⟩
  obtain ⟨S,fs,J,i2,i3,i4,i5,i6,i7,G⟩:=n.ins;refine z2e ⟨_,rfl,b,_,c,d,_,rfl,f,z1w _,z2c _,U,rfl,_,rfl,?_⟩;unfold CM.come at q;rw [r,R] at q;cases hk:L.held with
  | none=>rw [hk] at q a;cases (show j=.non from a);refine iteP (by simp) ?_;refine ⟨_,rfl,g,S,fs,rfl,J,G _ (by decide +kernel),_,rfl,b,_,c,d,_,rfl,f,z1w _,z1m _,O,_,rfl,b,_,c,d,_,rfl,f,z1w _,z2r _,V,?_⟩;exact ⟨g,F,L.num,B,m,p,id,lt,o,bs,i,k,M,L.e,u,x,rfl,n,K,r,R,D,I,λ l C t=>q i k l C t⟩
  | some y=>
   rw [hk] at q a;have a:HdAt (kx w) H y j:=a;have X:j≠.non:=λ z=>by obtain ⟨_,_,e,_⟩:=a;rw [z] at e;cases e
   refine iteN (by simpa using X) ?_;refine ⟨_,rfl,g,S,fs,rfl,J,G _ (by decide +kernel),_,rfl,b,_,c,d,_,rfl,f,z1w _,z1m _,O,_,rfl,b,_,c,d,_,rfl,f,z1w _,z2c _,U,?_⟩;exact ⟨g,F,j,B,m,p,id,lt,o,bs,i,k,M,L.e,u,y,rfl,n,K,r,a,Z,D,W,I,nv,nh,λ a1 a0 l C t=>q a1 a0 l C t⟩
theorem Cp.own {K:j0} {B H:Hp} {cx st lf id lt ev:Addr} {bs es hls:List Addr} {M:CM} {h:Nat} {own:List (Option Int)} (cp:Cp K B H cx st lf id lt ev bs es hls M) (ho:M.left[h]? = some own) :∃b ys,bs[h]? = some b/\H b=some (.lst ys)/\All2 (DdV H) own ys/\b∈st :: lf :: id :: lt :: ev :: (bs++hls):=by
 obtain ⟨o,p,n,d,i,k,m,q,s,r,g,l⟩:=cp.ct;have e:h < M.left.length:=(List.getElem?_eq_some_iff.mp ho).1;have a:h < bs.length:=by rw [cp.el.2.2];exact e
 obtain ⟨ys,j,f⟩:=z0q g ho;have c:(st :: lf :: id :: lt :: ev :: (bs++hls))[h + 5]? = some bs[h]:=by show (bs++hls)[h]? = some bs[h];rw [F1 a];exact v0 a
 refine ⟨bs[h],ys,v0 a,k.at c ?_,f,A1 c⟩;show (d++i)[h]? = some ys;rw [F1 (by omega)];exact j
def z1n (K:j0):Sp:=λ vs H Q _=>∃(cx:Addr) (h:Nat) (B:Hp) (st lf id lt ev:Addr) (bs es hls:List Addr) (M:CM) (d:Option Int) (rest:List (Option Int)),vs=[.ref cx,.int h]/\Cp K B H cx st lf id lt ev bs es hls M/\M.left[h]? = some (d :: rest)/\h < M.idle.length/\Same B H/\M.stock.length<=5/\M.letters.length<=10000/\M.events.length<=10000/\
 ∀es' hls' H',Same B H'->Cp K B H' cx st lf id lt ev bs es' hls' (M.start h d rest)->Q .non H'
theorem z3x (T:TX (kx w) mg) (c0:Fo P w mg base (CXE P w base) 1 276 y02 ["self","hand","deed","kept"] z19) (c8:Fo P w mg base CX0 3 335 y08 ["self","errand"] (z1i (kx w))):Fo P w mg base CX0 4 328 y05 ["self","hand"] (z1n (kx w)):=by
 refine (z1s w.params).ok sc_Copies_begin_deed (λ vs H Q E h=>?_) (λ c9 A d0 s H vs Q E hr h=>?_)
 ·obtain ⟨v,h,B,st,S,id,lt,g,bs,es,a8,M,d,rest,rfl,_⟩:=h;rfl
 ·obtain ⟨v,h,B,st,S,id,lt,g,bs,es,a8,M,d,rest,rfl,k,ho,hi,sB,n5,nl,nv,q⟩:=h;refine ⟨_,(z02 (ps_set (i:=2) sc_Copies_begin_deed.nd rfl (N1 rfl) (zfs (pe_ix ix_seq (pe_fld (pv 0) rfl) (pv 1) (λ _ _=>rfl)) (z01 pe_int pa_nil)))
   (z02 (ps_asg pe_bl (pg_sub (pe_fld (pv 0) rfl) (pv 1) z3w))
   (z02 (z0i (z0r (pe_fld (pv 0) rfl) (z01 (pe_op opAdd (pe_tup (z01 pe_str (z01 (pv 1) (z01 pe_str pa_nil)))) (pv 2)) pa_nil)))
   (z05 (z0i (z2v (pv 0) (z08 _) (z24 _) c8 (hr.mono (by decide)) (z2x _) .nil pass0 (z01 (z78 (z8b _) c0 (hr.mono (by decide)) rfl (T.of (zav _)) (z1g _) .nil passN (z01 (pv 1) (z01 (pv 2) (z01 pe_non pa_nil)))) pa_nil))))))),?_⟩
  obtain ⟨u,fs,n,i2,N,D,K,i6,L,G⟩:=k.ins;obtain ⟨b,ys,hb,O,ay,mb⟩:=k.own ho;obtain ⟨sv,lv,a,Z,a3,c,c2,c3,c4,C,U,Y⟩:=k.ct;cases ay with
  | cons a0 ar=>
  rename_i y zs;have b3:atI (bs.map V.ref) (h:Nat)=some (.ref b):=z09 (by rw [R0,hb];rfl);refine z0c ⟨_,rfl,v,_,u,fs,_,rfl,n,z08 _,z2a _,D,_,rfl,.inl ⟨S,_,_,.ref b,rfl,rfl,SqL.of (c.at (i:=1) rfl rfl),b3,.inl ⟨rfl,_,SqL.of O⟩,b,_,0,0,y,rfl,rfl,O,by decide,by decide,z7z (j:=0) (Nat.succ_pos _),rfl,?_⟩⟩;have m1:Imm H (upd H b (.lst zs)):=Imm.lst O;have J:=k.setW (own:=rest) (ys:=zs) hb λ W m=>z00 (λ _ _ z=>z.imm m) ar;have s1:Same B (upd H b (.lst zs)):=Same.keep sB (k.fr mb);refine g_name ?_;have a1:=a0.imm m1;show tSeq _ _ _ _ (upd H b (.lst zs));generalize upd H b (.lst zs)=H1 at m1 J s1 a1⊢;obtain ⟨u,fs,n,i2,N,D,K,i6,L,G⟩:=J.ins;obtain ⟨sv,lv,a,Z,a3,c,c2,c3,c4,C,U,Y⟩:=J.ct;have ei:H1 id=some (.lst (M.idle.map V.bl)):=c.at (i:=2) rfl rfl;refine ⟨_,rfl,v,_,u,fs,_,rfl,n,z08 _,z1k _,K,_,rfl,id,_,_,h,rfl,rfl,ei,z61 (by rw [G0];exact hi),?_⟩;have F:=J.setI (I':=M.idle.set h false) (iv:=(M.idle.map V.bl).set h (.bl false)) (by rw [S9]);have m2:Imm H1 (upd H1 id (.lst ((M.idle.map V.bl).set h (.bl false)))):=Imm.lst ei;have s2:Same B (upd H1 id (.lst ((M.idle.map V.bl).set h (.bl false)))):=Same.keep s1 (c.fr id (by simp));have a2:=a1.imm m2;generalize upd H1 id (.lst ((M.idle.map V.bl).set h (.bl false)))=H2 at F m2 s2 a2⊢;refine t_nx ?_;obtain ⟨u,fs,n,i2,N,D,K,i6,L,G⟩:=F.ins;obtain ⟨sv,lv,a,Z,a3,c,c2,c3,c4,C,U,Y⟩:=F.ct;have b4:a.length<=10000:=by rw [z04 C];exact nv
  have a4:H2 g=some (.lst a):=c.at (i:=4) rfl rfl;obtain ⟨p,rfl,ep⟩:=a2;refine ⟨_,rfl,v,_,u,fs,_,rfl,n,z08 _,z11 _,L,.inl ⟨rfl,a,SqL.of a4⟩,_,rfl,w_3,λ R b2=>?_⟩;have u1:=Same.upd (o:=.tup [.str "begin",.int h,.str "r"]) b2;refine ⟨_,rfl,.inr (.inr (.inr ⟨R,p,_,_,rfl,rfl,SqT.of z03,SqT.of (u1 _ _ ep),List.cons_ne_nil _ _,(show 3 + 2<=sizeLine by decide),(λ z=>nomatch z),λ _ f b7=>?_⟩))⟩;have l:=u1.trans (Same.upd (o:=.tup ([.str "begin",.int h,.str "r"]++[.str (vbD d),wvD d])) b7);have e2:upd (upd H2 R (.tup [.str "begin",.int h,.str "r"])) f (.tup ([.str "begin",.int h,.str "r"]++[.str (vbD d),wvD d])) f=some (.tup [.str "begin",.int h,.str "r",.str (vbD d),wvD d]):=z03;generalize upd (upd H2 R (.tup [.str "begin",.int h,.str "r"])) f (.tup ([.str "begin",.int h,.str "r"]++[.str (vbD d),wvD d]))=H3 at l e2⊢;have b8:=F.same l;refine ⟨g,a,_,rfl,rfl,l _ _ a4,W0 b4 (by decide),?_⟩;have m4:Imm H3 (upd H3 g (.lst (a++[.ref f]))):=Imm.lst (l _ _ a4);have I:=b8.setV (E':=M.events++[.beg h d]) (vv':=a++[.ref f]) λ W m=>z1j (z00 (λ _ _ z=>z.imm ((Imm.of l).trans m)) C) (x:=CEv.beg h d) ⟨f,rfl,m.t _ _ e2⟩;have X:Same B (upd H3 g (.lst (a++[.ref f]))):=Same.keep (s2.trans l) (c.fr g (by simp));have a7:=m4.t _ _ (l _ _ ep);generalize upd H3 g (.lst (a++[.ref f]))=H4 at m4 I X a7⊢;refine t_nx ?_;obtain ⟨u,fs,n,i2,N,D,K,i6,L,G⟩:=I.ins;obtain ⟨sv,lv,a,Z,a3,c,c2,c3,c4,C,U,Y⟩:=I.ct;refine ⟨_,rfl,v,u,fs,rfl,n,G _ (by decide +kernel),_,rfl,_,rfl,λ x a6 hx a9 ne=>?_⟩;refine ⟨x,a6,_,_,_,rfl,z03,λ a5 b9 H5 k5 b1 b6 e5 f1 f2 f3 f4=>⟨rfl,?_⟩⟩;have s5:Same H4 H5:=z5k hx a9 k5;have fh:H4 a5=none:=(z86 (z86 b1).2).2;have b0:=(I.same s5).make (er:=⟨h,d,none,[]⟩) (e:=x) (hl:=a5) ⟨a6,b9,_,.non,e5,f1,f2,⟨p,rfl,s5 _ _ a7⟩,f3,rfl,f4⟩ rfl b6 (c.not fh) (X.free fh);refine ⟨v,x,B,st,S,id,lt,g,bs,es++[x],a8++[a5],_,M.ers.length,rfl,b0,by rw [D1 (by rw [k.el.1];exact J0 _),k.el.1,L8];rfl,X.trans s5,n5,nl,λ W s' b5=>q _ _ W s' b5⟩
theorem zk2 {p:Nat->Bool} {n:Nat} {ys:List V} (h:All2 (λ (i:Nat) y=>y=V.int (i:Int)) ((V0 n).filter p) ys):ys=((V0 n).filter p).map λ i=>V.int ((i:Nat):Int):=z1l h
def z3d (K:j0):Sp:=λ vs H Q _=>∃(cx:Addr) (c:Int) (B:Hp) (st lf id lt ev:Addr) (bs es hls:List Addr) (M:CM) (n:Nat),vs=[.ref cx,.int c]/\Cp K B H cx st lf id lt ev bs es hls M/\WfM M n/\n<=1000/\Same B H/\
 ∀es' hls' H',Same B H'->Cp K B H' cx st lf id lt ev bs es' hls' (M.go c)->Q .non H'
theorem z6z (T:TX (kx w) mg) (c8:Fo P w mg base CX0 4 328 y05 ["self","hand"] (z1n (kx w))) (c10:Fo P w mg base CX0 6 342 y0b ["self","letter"] (z3a (kx w))):Fo P w mg base CX0 7 321 y0a ["self","choice"] (z3d (kx w)):=by
 refine (z43 w.params).ok sc_Copies_go_on (λ vs H Q E h=>?_) (λ d1 A d4 s H vs Q E hr h=>?_)
 ·obtain ⟨u,c,B,st,U,id,lt,Z,bs,es,a0,M,n,rfl,_⟩:=h;rfl
 ·obtain ⟨u,c,B,st,U,id,lt,Z,bs,es,a0,M,n,rfl,cp,D,n1,sB,q⟩:=h;refine ⟨_,(z02 (zdu (i:=2) sc_Copies_go_on.nd rfl (N1 rfl) (xs:=["hand","own"]) (g:=gTup (kx w) 2 (gCons (gName 0) (gCons (gName 1) gNil))) (fr:=[(0,"self")]) rfl (zjh rfl (T.no (zd3 _)) (z01 (pe_fld (pv 0) rfl) pa_nil)) (by intro p hp;obtain rfl:=List.mem_singleton.mp hp;first|exact ⟨rfl,.inl rfl⟩|exact ⟨rfl,.inr rfl⟩) (zjl (n:="self") (by decide +kernel) (λ _=>by first|exact .inl rfl|exact .inr rfl)) (by intro p hp;obtain rfl:=List.mem_singleton.mp hp;exact ⟨by decide +kernel,by first|exact .inl rfl|exact .inr rfl⟩) (by decide +kernel) rfl (by decide +kernel) (λ _ _ _ _ _=>(pg_tup rfl (z0u (pg_cn (N:=["hand","own","self"]) 0) (z0u (pg_cn (N:=["hand","own","self"]) 1) z74)))) (λ _ _ _ _ _=>(pf_one (PW.pt (pw_and (z0a op_gt (z06 (z27 (K:=KX w.params) rfl) rfl (T.no (n_len _)) C2 (z01 (pv 1) pa_nil)) pe_int (nomark _)) (z6k (pt_val (pe_ix (z73 (K:=KX w.params) rfl) (zkd (K:=KX w.params) rfl (pv 2) rfl) (pv 0) (λ _ _=>rfl)) (λ _=>rfl))))))) (λ _ _ _ _ _=>(pv 0)))
   (z02 (ps_set (i:=3) sc_Copies_go_on.nd rfl (N1 rfl) (z06 (z27 (K:=KX w.params) rfl) rfl (T.no (n_len _)) C2 (z01 (pe_fld (pv 0) rfl) pa_nil)))
   (z02 (ps_if (z0a opEq (pe_op opAdd (z06 (z27 (K:=KX w.params) rfl) rfl (T.no (n_len _)) C2 (z01 (pv 2) pa_nil)) (pv 3)) pe_int (nomark _))
   (z05 z7e)
   z0f)
   (z02 (ps_set (i:=4) sc_Copies_go_on.nd rfl (N1 rfl) (pe_op op_mod (pv 1) (pe_op opAdd (z06 (z27 (K:=KX w.params) rfl) rfl (T.no (n_len _)) C2 (z01 (pv 2) pa_nil)) (pe_op op_mul pe_int (pv 3)))))
   (z02 (ps_if (z0a op_lt (pv 4) (z06 (z27 (K:=KX w.params) rfl) rfl (T.no (n_len _)) C2 (z01 (pv 2) pa_nil)) (nomark _))
   (z02 (z0i (z2v (pv 0) (z08 _) (z3h _) c8 (hr.mono (by decide)) (z4b _) .nil pass0 (z01 (pe_ix ix_seq (pv 2) (pv 4) (λ _ _=>rfl)) pa_nil)))
   (z05 z7e))
   z0f)
   (z02 (ps_set (i:=5) sc_Copies_go_on.nd rfl (N1 rfl) (zfs (pe_fld (pv 0) rfl) (z01 (pe_op op_mod (pe_op op_sub (pv 4) (z06 (z27 (K:=KX w.params) rfl) rfl (T.no (n_len _)) C2 (z01 (pv 2) pa_nil))) (pv 3)) pa_nil)))
   (z05 (ps_if (z0a op_lt (pv 4) (pe_op opAdd (z06 (z27 (K:=KX w.params) rfl) rfl (T.no (n_len _)) C2 (z01 (pv 2) pa_nil)) (pv 3)) (nomark _))
   (z05 (z0i (z2v (pv 0) (z08 _) (z6t _) c10 (hr.mono (by decide)) (z8j _) .nil pass0 (z01 (pv 5) pa_nil))))
   z0f)))))))),?_⟩
  obtain ⟨Y,fs,I,i2,i3,i4,i5,i6,i7,i8⟩:=cp.ins;obtain ⟨sv,r,vv,d5,d6,c1,c2,c3,c4,c5,c6,c7⟩:=cp.ct;have lb:=cp.el.2.2;have l6:=D.l6;have il:=D.il;have ll:=z04 c4;have d2:=D.ln;have d3:=D.vn;have W:H lt=some (.lst r):=c1.at (i:=3) rfl rfl;have b9:H id=some (.lst (M.idle.map V.bl)):=c1.at (i:=2) rfl rfl;refine z0c ?_;refine zg6 (K:=KX w.params) (a:=U) (xs:=bs.map V.ref) (H1:=H) (λ i=>M.rdy i) (λ i y _=>y=V.int (i:Int)) (λ _ _ _ _ _ z=>z) (λ T h=>⟨_,rfl,u,_,Y,fs,_,rfl,I,z08 _,z2a _,i4,h⟩) (SqL.of (c1.at (i:=1) rfl rfl)) (by rw [G0];exact L0 (m:=6) (by omega) (by decide)) ?_ ?_
  ·intro i hi v G l hv KT KF k1 k2;obtain ⟨x,p,hx,rfl,ep⟩:=hv;have b6:i < M.left.length:=by rw [G0] at hi;omega
   have F:M.left[i]? = some M.left[i]:=v0 b6;generalize M.left[i]=own at F;obtain ⟨b,ys,hb,eb,ay,mb⟩:=cp.own F;rw [R0,hb] at hx;cases hx;have ly:=z04 ay;have a4:M.idle[i]? = some M.idle[i]:=v0 (by omega);generalize M.idle[i]=bi at a4;have er:M.rdy i=(!own.isEmpty && bi):=by unfold CM.rdy;rw [F,a4];rfl
   rw [er] at k1 k2;refine ⟨p,_,rfl,SqT.of ep,rfl,_,_,rfl,_,_,rfl,rfl,[some (.int (i:Int)),some (.ref b)],rfl,rfl,?_⟩;refine ⟨_,rfl,.inl ⟨b,ys,rfl,.inl (SqL.of (l _ _ eb)),_,_,rfl,rfl,_,rfl,?_⟩⟩;cases own with
   | nil=>refine iteN (λ e=>absurd (of_decide_eq_true e) (by rw [ly];decide)) ?_;exact iteN (by decide) (k2 rfl _ (Same.refl _))
   | cons o1 o2=>
    refine iteP (decide_eq_true (by rw [ly,X0];omega)) ?_;refine ⟨_,rfl,u,_,Y,fs,_,rfl,l _ _ I,z08 _,z1k _,i5,_,rfl,.inl ⟨id,_,_,.bl bi,rfl,rfl,SqL.of (l _ _ b9),z09 (by rw [R0,a4];rfl),_,rfl,?_⟩⟩;cases bi with
    | true=>exact iteP rfl ⟨_,rfl,k1 rfl _ _ (Same.refl _) rfl⟩
    | false=>exact iteN (by decide) (k2 rfl _ (Same.refl _))
  intro C H1 ys s1 b1 b2;rw [G0,lb] at b2;have ey:=zk2 b2;have ey:ys=M.ready.map λ i=>V.int ((i:Nat):Int):=ey;subst ey;have l:=s1.trans (Same.upd (o:=.lst (M.ready.map λ i=>V.int ((i:Nat):Int))) b1);have O:upd H1 C (.lst (M.ready.map λ i=>V.int ((i:Nat):Int))) C=some (.lst (M.ready.map λ i=>V.int ((i:Nat):Int))):=z03;generalize upd H1 C (.lst (M.ready.map λ i=>V.int ((i:Nat):Int)))=G at l O⊢;have a8:=cp.same l;have a7:=sB.trans l;have I:=l _ _ I;have W:=l _ _ W;refine g_name ?_;refine z0c ⟨_,rfl,u,_,Y,fs,_,rfl,I,z08 _,z0s _,i6,.inl ⟨lt,r,rfl,.inl (SqL.of W),g_name ?_⟩⟩;have X:(M.ready.map λ i=>V.int ((i:Nat):Int)).length=M.ready.length:=G0 _;have r6:M.ready.length<=6:=by have:=S6 M.rdy (V0 M.left.length);rw [W2] at this;exact L0 this l6
  refine sq_if ⟨_,rfl,.inl ⟨C,_,rfl,.inl (SqL.of O),_,rfl,.inl ⟨_,_,rfl,rfl,rfl,_,rfl,?_⟩⟩⟩;rw [X,ll];unfold CM.go at q;by_cases z0:M.ready.length + M.letters.length=0
  ·rw [if_pos z0] at q;exact iteP (decide_eq_true (by congr 1;omega)) (q es a0 G a7 a8)
  rw [if_neg z0] at q;refine iteN (λ e=>z0 (by have:=of_decide_eq_true e;injection this;omega)) (t_nx ?_);refine z0c ⟨_,rfl,_,rfl,.inl ⟨C,_,rfl,.inl (SqL.of O),_,rfl,_,_,rfl,rfl,.inl ⟨by decide,by decide⟩,.inl ⟨_,_,rfl,rfl,_,_,rfl,rfl,(by show (0:Int) < _;rw [X];omega),?_⟩⟩⟩;rw [X];have c0:=G5 c (show ((M.ready.length:Int) + 2 * (M.letters.length:Int))≠0 by omega);have c9:=R4 c (show 0 < ((M.ready.length:Int) + 2 * (M.letters.length:Int)) by omega);obtain ⟨f,a3⟩ :∃f:Nat,c % ((M.ready.length:Int) + 2 * (M.letters.length:Int))=(f:Int):=⟨_,(E7 c0).symm⟩
  rw [a3,R5] at q;rw [a3] at c9;show gName 4 (V.int (c % ((M.ready.length:Int) + 2 * (M.letters.length:Int)))) _ _ _;rw [a3];refine g_name ?_;refine sq_if ⟨_,rfl,_,rfl,.inl ⟨C,_,rfl,.inl (SqL.of O),_,_,rfl,rfl,_,rfl,?_⟩⟩;rw [X];dsimp only at q;by_cases lt1:f < M.ready.length
  ·rw [if_pos lt1] at q;refine iteP (decide_eq_true (by omega)) ?_;have b0:M.ready[f]? = some M.ready[f]:=v0 lt1;have a1:M.ready[f]∈M.ready:=E3 lt1;generalize M.ready[f]=h at b0 a1;rw [b0] at q;have a1:h∈(V0 M.left.length).filter M.rdy:=a1;obtain ⟨m1,m2⟩:=List.mem_filter.mp a1;have hl:h < M.left.length:=List.mem_range.mp m1;have F:M.left[h]? = some M.left[h]:=v0 hl;generalize M.left[h]=own at F;have q :∀J S j,Same B j->Cp (kx w) B j u st U id lt Z bs J S (match M.left[h]? with|some (d :: rest)=>M.start h d rest|_=>M)->Q .non j:=q;rw [F] at q;have m2:(!(M.left[h]?.getD []).isEmpty && M.idle[h]?.getD false)=true:=m2;rw [F] at m2;cases own with
   | nil=>cases m2
   | cons d rest=>
   refine ⟨_,rfl,u,Y,fs,rfl,I,i8 _ (by decide +kernel),_,rfl,_,rfl,.inl ⟨C,_,_,.int (h:Nat),rfl,rfl,SqL.of O,z09 (by rw [R0,b0];rfl),?_⟩⟩;exact ⟨u,h,B,st,U,id,lt,Z,bs,es,a0,M,d,rest,rfl,a8,F,by omega,a7,D.st.2,by omega,by omega,λ J S j s' a5=>q J S j s' a5⟩
  rw [if_neg lt1] at q;refine iteN (λ e=>lt1 (by have:=of_decide_eq_true e;omega)) (t_nx ?_);have b7:0 < M.letters.length:=by omega
  obtain ⟨k,hk⟩ :∃k:Nat,(f - M.ready.length) % M.letters.length=k/\k < M.letters.length:=⟨_,rfl,j1g _ b7⟩
  rw [hk.1] at q;have a6:((f:Int) - (M.ready.length:Int)) % (M.letters.length:Int)=(k:Int):=by rw [<-hk.1,show (f:Int) - (M.ready.length:Int)=((f - M.ready.length:Nat):Int) by omega];rfl
  have hL:M.letters[k]? = some M.letters[k]:=v0 hk.2;have mL:M.letters[k]∈M.letters:=E3 hk.2;generalize M.letters[k]=L at hL mL;rw [hL] at q;obtain ⟨v,hv,aL⟩:=z0q c4 hL;refine z0c ⟨_,rfl,u,_,Y,fs,_,rfl,I,z08 _,z0s _,i6,.inl ⟨rfl,r,SqL.of W⟩,_,rfl,_,rfl,.inl ⟨C,_,rfl,.inl (SqL.of O),_,_,rfl,rfl,_,rfl,_,_,rfl,rfl,(by show (0:Int) < (M.letters.length:Int);omega),?_⟩⟩;rw [X];refine ⟨lt,r,_,k,v,rfl,rfl,W,?_,?_,?_,hv,?_⟩
  ·rw [a6];omega
  ·rw [a6];omega
  ·rw [a6];exact z7z (by rw [ll];exact hk.2)
  have b8 :∀{α:Type} {R:α->V->Prop} {xs:List α} {zs:List V} (n:Nat),All2 R xs zs->All2 R (xs.eraseIdx n) (zs.eraseIdx n):=by
   intro α R xs zs n h;induction h generalizing n with
   | nil=>exact .nil
   | cons a t ih=>
    cases n with
    | zero=>exact t
    | succ n=>exact .cons a (ih n)
  have m3:Imm G (upd G lt (.lst (r.eraseIdx k))):=Imm.lst W;have a9:=a8.setL (Ls':=M.letters.eraseIdx k) (lv':=r.eraseIdx k) λ j m=>b8 k (z00 (λ _ _ z=>(z.imm (Imm.of l)).imm m) c4);have s3:Same B (upd G lt (.lst (r.eraseIdx k))):=Same.keep a7 (c1.fr lt (by simp));have b3:=(aL.imm (Imm.of l)).imm m3;have e3:upd G lt (.lst (r.eraseIdx k)) C=some (.lst (M.ready.map λ i=>V.int ((i:Nat):Int))):=by
   rw [upd_ne (λ z=>by have h0:=s1.free b1;have h1:=c1.at (i:=3) (m:=lt) (c:=r) rfl rfl;rw [z,h1] at h0;cases h0)];exact O
  refine g_name ?_;show tIfS _ _ _ _ _ (upd G lt (.lst (r.eraseIdx k)));generalize upd G lt (.lst (r.eraseIdx k))=H3 at m3 a9 s3 b3 e3⊢;refine z2e ⟨_,rfl,_,rfl,.inl ⟨C,_,rfl,.inl (SqL.of e3),_,rfl,.inl ⟨_,_,rfl,rfl,_,_,rfl,rfl,_,rfl,?_⟩⟩⟩;rw [X];have q :∀J S j,Same B j->Cp (kx w) B j u st U id lt Z bs J S (if f < M.ready.length + M.letters.length then CM.come { M with letters:=M.letters.eraseIdx k } L else { M with letters:=M.letters.eraseIdx k })->Q .non j:=q;by_cases lt2:f < M.ready.length + M.letters.length
  ·rw [if_pos lt2] at q;refine iteP (decide_eq_true (by omega)) ?_;obtain ⟨w1,w2⟩:=D.le L mL;have b4:M.ers[L.e]? = some M.ers[L.e]:=v0 w1;have a2:M.ers[L.e]∈M.ers:=E3 w1;generalize M.ers[L.e]=er at b4 a2;have b5:M.stock[L.num]? = some M.stock[L.num]:=v0 w2;have hn:=D.hn er a2;have d0:(M.letters.eraseIdx k).length<=10000:=L0 (o8 _ _) (by omega);refine ⟨_,rfl,u,Y,fs,rfl,m3.i _ _ _ _ I,i8 _ (by decide +kernel),_,rfl,?_⟩;exact ⟨u,v,B,st,U,id,lt,Z,bs,es,a0,_,L,er,_,rfl,a9,b3,b4,b5,D.eh er a2,s3,D.st.2,d0,(show M.events.length<=10000 by omega),by omega,λ J S j s' a5=>q J S j s' a5⟩
  ·rw [if_neg lt2] at q;exact iteN (λ e=>lt2 (by have:=of_decide_eq_true e;omega)) (q es a0 H3 s3 a9)
end
section
noncomputable def evO:CEv->Ev
 | .beg h d=>.beg (h:Nat) (.str "r") (.str (vbD d)) (wvD d)
 | .fin h a=>.fin (h:Nat) (avD a)
def okW (w:Int):Prop:=-1000000000<=w/\w<=1000000000
def okD (d:Option Int):Prop:=∀w,d=some w->okW w
noncomputable def okE (n:Nat):CEv->Prop
 | .beg h d=>h < n/\okD d
 | .fin h a=>h < n/\okD a
noncomputable def CM.maj (M:CM):Nat:=M.stock.length / 2 + 1
noncomputable def CM.opens (M:CM):List Int:=(M.events.map evO).foldl oStep []
def Lv (M:CM):Prop:=∀(e:Nat) er,M.ers[e]? = some er->er.heard.length < M.maj->M.idle[er.hand]? = some false/\∀(e':Nat) er',M.ers[e']? = some er'->er'.heard.length < M.maj->er'.hand=er.hand->e'=e
structure WfC (M:CM) (T n:Nat):Prop where
 m:WfM M n
 bl :∀own∈M.left,∀d∈own,okD d
 be :∀er∈M.ers,okD er.deed/\(∀k,er.kept=some k->okW k.2)/\∀x∈er.heard,okW x.2
 bs :∀x∈M.stock,okW x.2
 bL :∀L∈M.letters,∀x,L.held=some x->okW x.2
 bv :∀e∈M.events,okE M.left.length e
 lv:Lv M
 op :∀h:Nat,((h:Int)∈M.opens)↔M.idle[h]? = some false
 ew:EWf [] (M.events.map evO)
 tt:((M.events.map evO).filter isBeg).length + M.left.flatten.length=T
theorem WfM.le1 {M:CM} {n k:Nat} (h:WfM M n) (l:n<=k):WfM M k:=⟨h.il,h.st,h.le,h.eh,λ a b=>L0 (h.hn a b) l,L0 h.ln (by omega),L0 h.vn l,h.l6,h.lw⟩
theorem WfC.le1 {M:CM} {T n k:Nat} (h:WfC M T n) (l:n<=k):WfC M T k:=⟨h.m.le1 l,h.bl,h.be,h.bs,h.bL,h.bv,h.lv,h.op,h.ew,h.tt⟩
theorem zgh {l:List Hd} (h:l≠[]):maxHd l∈l:=by
 cases l with
 | nil=>exact absurd rfl h
 | cons x r=>
  show r.foldl (λ m y=>if gtN y m=true then y else m) x∈x :: r;clear h;induction r generalizing x with
  | nil=>exact .head _
  | cons y r ih=>
   rw [J4];by_cases z:gtN y x=true
   ·rw [if_pos z];exact .tail _ (ih y)
   ·rw [if_neg z];rcases List.mem_cons.mp (ih x) with e|e
    ·rw [e];exact .head _
    ·exact .tail _ (.tail _ e)
theorem z57 {α:Type} {l:List α} {k:Nat} {x:α} (h:x∈l.eraseIdx k):x∈l:=(List.eraseIdx_sublist l k).mem h
theorem WfC.erase {M:CM} {T n:Nat} (h:WfC M T n) (k:Nat):WfC { M with letters:=M.letters.eraseIdx k } T n:=
 ⟨⟨h.m.il,h.m.st,λ L a=>h.m.le L (z57 a),h.m.eh,h.m.hn,L0 (o8 _ _) h.m.ln,h.m.vn,h.m.l6,h.m.lw⟩,h.bl,h.be,h.bs,λ L a=>h.bL L (z57 a),h.bv,h.lv,h.op,h.ew,h.tt⟩
theorem WfC.comeTo {M:CM} {T n e k:Nat} {er:Er} {s:Hd} (h:WfC M T n) (he:M.ers[e]? = some er) (hs:M.stock[k]? = some s):WfC (M.comeTo e er k s) T (n + 1):=by
 have l:=A1 he;have c:okW (keepH er.kept s).2:=by
  unfold keepH;cases hk:er.kept with
  | none=>exact h.bs s (A1 hs)
  | some k=>
   dsimp only;split
   ·exact (h.be er l).2.1 k hk
   ·exact h.bs s (A1 hs)
 have g:k < M.stock.length:=(List.getElem?_eq_some_iff.mp hs).1;have m:=h.m;refine ⟨⟨m.il,?_,λ L a=>?_,m.eh,λ er he=>L0 (m.hn er he) (A3 n),?_,L0 m.vn (A3 n),m.l6,m.lw⟩,h.bl,h.be,λ x b=>?_,λ L a x b=>?_,h.bv,?_,h.op,h.ew,h.tt⟩
 ·show 0 < (M.stock.set k _).length/\(M.stock.set k _).length<=5;rw [U0];exact m.st
 ·show L.e < M.ers.length/\L.num < (M.stock.set k _).length;rw [U0];rcases List.mem_append.mp a with a|a
  ·exact m.le L a
  ·rw [List.mem_singleton.mp a];exact ⟨(List.getElem?_eq_some_iff.mp he).1,g⟩
 ·show (M.letters++[_]).length<=_;rw [I0,Q3];have:=m.ln;omega
 ·rcases a6 b with b|rfl
  ·exact h.bs x b
  ·exact c
 ·rcases List.mem_append.mp a with a|a
  ·exact h.bL L a x b
  ·rw [List.mem_singleton.mp a] at b;cases b;exact c
 ·have j:(M.comeTo e er k s).maj=M.maj:=by show (M.stock.set k _).length / 2 + 1=_;rw [U0];rfl
  intro o i f d;rw [j] at d⊢;exact h.lv o i f d
theorem z9w {M:CM} {e:CEv}:({ M with events:=M.events++[e] }:CM).opens=oStep M.opens (evO e):=by unfold CM.opens;dsimp only;rw [W1,E6];rfl
theorem zhq {M:CM} {T n e:Nat} (h:WfC M T n) (he:e < M.ers.length) (ln:M.letters.length + 5<=6 * n):WfC (M.send e) T n:=by
 have m:=h.m;have d:=m.st;refine ⟨⟨m.il,m.st,λ L a=>?_,m.eh,m.hn,?_,m.vn,m.l6,m.lw⟩,h.bl,h.be,h.bs,λ L a x c=>?_,h.bv,h.lv,h.op,h.ew,h.tt⟩
 ·rcases List.mem_append.mp a with a|a
  ·exact m.le L a
  ·obtain ⟨k,b,rfl⟩:=List.mem_map.mp a;exact ⟨he,List.mem_range.mp b⟩
 ·show (M.letters++(V0 M.stock.length).map _).length<=_;rw [I0,G0,W2];omega
 ·rcases List.mem_append.mp a with a|a
  ·exact h.bL L a x c
  ·obtain ⟨k,b,rfl⟩:=List.mem_map.mp a;cases c
theorem zi2 {M:CM} {T n:Nat} {er:Er} (h:WfC M T n) (hi:M.idle[er.hand]? = some false) (no :∀(e:Nat) er',M.ers[e]? = some er'->er'.heard.length < M.maj->er'.hand≠er.hand) (h0:er.heard=[]) (od:okD er.deed) (ok :∀k,er.kept=some k->okW k.2):WfC (M.make er) T n:=by
 have m:=h.m;refine ⟨⟨m.il,m.st,λ L w=>?_,λ e c=>?_,λ e c=>?_,m.ln,m.vn,m.l6,m.lw⟩,h.bl,λ e c=>?_,h.bs,h.bL,h.bv,?_,h.op,h.ew,h.tt⟩
 ·have:=m.le L w;refine ⟨?_,this.2⟩;show L.e < (M.ers++[er]).length;rw [I0];omega
 ·rcases List.mem_append.mp c with c|c
  ·exact m.eh e c
  ·rw [List.mem_singleton.mp c];exact (List.getElem?_eq_some_iff.mp hi).1
 ·rcases List.mem_append.mp c with c|c
  ·exact m.hn e c
  ·rw [List.mem_singleton.mp c,h0];exact A2 _
 ·rcases List.mem_append.mp c with c|c
  ·exact h.be e c
  ·rw [List.mem_singleton.mp c];exact ⟨od,ok,λ x s=>by rw [h0] at s;cases s⟩
 ·have l :∀(k:Nat) d,(M.ers++[er])[k]? = some d->(k < M.ers.length/\M.ers[k]? = some d)\/(k=M.ers.length/\d=er):=λ k d f=>by
   by_cases z:k < M.ers.length
   ·rw [F1 z] at f;exact .inl ⟨z,f⟩
   ·rw [D1 (by omega)] at f;have:=(List.getElem?_eq_some_iff.mp f).1;simp only [Q3] at this;have u:k - M.ers.length=0:=by omega
    rw [u] at f;cases f;exact .inr ⟨by omega,rfl⟩
  intro k d v t;rcases l k d v with ⟨z,r⟩|⟨z,rfl⟩
  ·obtain ⟨a,b⟩:=h.lv k d r t;refine ⟨a,λ i g q p j=>?_⟩;rcases l i g q with ⟨_,o⟩|⟨_,ee⟩
   ·exact b i g o p j
   ·exact absurd (by rw [<-j,ee]) (no k d r t)
  ·refine ⟨hi,λ i g q p j=>?_⟩;rcases l i g q with ⟨_,o⟩|⟨z',_⟩
   ·exact absurd j (no i g o p)
   ·omega
theorem zi1 {M:CM} {T n:Nat} {er:Er} {w:Int} (h:WfC M T n) (hi:M.idle[er.hand]? = some false) (no :∀(e:Nat) er',M.ers[e]? = some er'->er'.heard.length < M.maj->er'.hand≠er.hand) (ow:okW w):WfC (M.stop er w) T (n + 1):=by
 have m:=h.m;have i:er.hand < M.idle.length:=(List.getElem?_eq_some_iff.mp hi).1;have o:okD (ansC er.deed w):=by
  intro v f;unfold ansC at f;cases hd:er.deed with
  | none=>rw [hd] at f;cases f;exact ow
  | some d=>rw [hd] at f;cases f
 have p:(M.stop er w).opens=M.opens.filter λ k=>decide (k≠((er.hand:Nat):Int)):=z9w (M:={ M with idle:=M.idle.set er.hand true });refine ⟨⟨?_,m.st,m.le,λ e c=>?_,λ e c=>L0 (m.hn e c) (A3 n),L0 m.ln (by omega),?_,m.l6,m.lw⟩,h.bl,h.be,h.bs,h.bL,λ e c=>?_,?_,λ k=>?_,?_,?_⟩
 ·show (M.idle.set er.hand true).length=_;rw [U0];exact m.il
 ·show e.hand < (M.idle.set er.hand true).length;rw [U0];exact m.eh e c
 ·show (M.events++[_]).length<=_;rw [I0,Q3];have:=m.vn;omega
 ·rcases List.mem_append.mp c with c|c
  ·exact h.bv e c
  ·rw [List.mem_singleton.mp c];exact ⟨by show er.hand < M.left.length;rw [<-m.il];exact i,o⟩
 ·intro k g j l;obtain ⟨a,b⟩:=h.lv k g j l;refine ⟨?_,b⟩;show (M.idle.set er.hand true)[g.hand]? = some false;rw [Y1 (X1 (no k g j l))];exact a
 ·rw [p,List.mem_filter,h.op k];show _↔(M.idle.set er.hand true)[k]? = some false;by_cases z:k=er.hand
  ·subst z;rw [P0 i];constructor
   ·rintro ⟨_,z⟩;exact absurd rfl (of_decide_eq_true z)
   ·exact λ z=>by cases z
  ·rw [Y1 (X1 z)];exact ⟨λ a=>a.1,λ a=>⟨a,decide_eq_true (λ e=>z (by omega))⟩⟩
 ·show EWf [] ((M.events++[_]).map evO);rw [W1];exact h.ew.snoc ((h.op er.hand).mpr hi)
 ·show (((M.events++[_]).map evO).filter isBeg).length + _=T;rw [W1,J9];show ((((M.events.map evO).filter isBeg)++[])).length + _=T;rw [C3];exact h.tt
theorem zjz {M:CM} {T n e:Nat} {er:Er} {x:Hd} (h:WfC M T n) (he:M.ers[e]? = some er) (ox:okW x.2):WfC { M with ers:=M.ers.set e (er.hear x) } T (n + 1)/\(er.heard.length < M.maj->(er.hear x).heard.length=M.maj->M.idle[er.hand]? = some false/\∀(e':Nat) er',(M.ers.set e (er.hear x))[e']? = some er'->er'.heard.length < M.maj->er'.hand≠er.hand):=by
 have m:=h.m;have q:=A1 he;have u:e < M.ers.length:=(List.getElem?_eq_some_iff.mp he).1;have w:(er.hear x).heard.length=er.heard.length + 1:=by show (er.heard++[x]).length=_;rw [I0];rfl
 have r :∀(k:Nat) d,(M.ers.set e (er.hear x))[k]? = some d->∃g,M.ers[k]? = some g/\g.hand=d.hand/\g.heard.length<=d.heard.length/\(k≠e->g=d):=λ k d j=>by
  by_cases z:k=e
  ·subst z;rw [P0 u] at j;cases j;exact ⟨er,he,rfl,by omega,λ z=>absurd rfl z⟩
  ·rw [Y1 (X1 z)] at j;exact ⟨d,j,rfl,J0 _,λ _=>rfl⟩
 have s :∀d∈M.ers.set e (er.hear x),d∈M.ers\/d=er.hear x:=λ d f=>a6 f;refine ⟨⟨⟨m.il,m.st,λ L K=>?_,λ d f=>?_,λ d f=>?_,L0 m.ln (by omega),L0 m.vn (A3 n),m.l6,m.lw⟩,h.bl,λ d f=>?_,h.bs,h.bL,h.bv,λ k d f t=>?_,h.op,h.ew,h.tt⟩,λ H O=>?_⟩
 ·show L.e < (M.ers.set e _).length/\_;rw [U0];exact m.le L K
 ·rcases s d f with f|rfl
  ·exact m.eh d f
  ·exact m.eh er q
 ·rcases s d f with f|rfl
  ·exact L0 (m.hn d f) (A3 n)
  ·rw [w];have:=m.hn er q;omega
 ·rcases s d f with f|rfl
  ·exact h.be d f
  ·obtain ⟨a,b,c⟩:=h.be er q;refine ⟨a,b,λ y i=>?_⟩;rcases List.mem_append.mp i with i|i
   ·exact c y i
   ·rw [List.mem_singleton.mp i];exact ox
 ·obtain ⟨g,o,l,p,_⟩:=r k d f;obtain ⟨a,b⟩:=h.lv k g o (W0 p t);refine ⟨by rw [<-l];exact a,λ v e' G D E=>?_⟩;obtain ⟨J,B,C,A,_⟩:=r v e' G;exact b v J B (W0 A D) (by rw [C,E,l])
 ·obtain ⟨a,b⟩:=h.lv e er he H;refine ⟨a,λ k d f t F=>?_⟩;obtain ⟨g,o,l,p,N⟩:=r k d f;have I:=b k g o (W0 p t) (by rw [l,F]);subst I;rw [P0 u] at f;cases f;omega
theorem WfC.comeBack {M:CM} {T n e:Nat} {er:Er} {x:Hd} (h:WfC M T n) (he:M.ers[e]? = some er) (ox:okW x.2) (ln:M.letters.length + 1<=6 * n):WfC (M.comeBack e er x) T (n + 2):=by
 obtain ⟨a,o⟩:=zjz h he ox;have r:=A1 he;have t:(er.hear x).heard.length=er.heard.length + 1:=by show (er.heard++[x]).length=_;rw [I0];rfl
 obtain ⟨f,ok,i⟩:=h.be er r;unfold CM.comeBack;by_cases ne:(er.hear x).heard.length≠M.stock.length / 2 + 1
 ·rw [if_pos ne];exact a.le1 (A3 _)
 rw [if_neg ne];have s:(er.hear x).heard.length=M.maj:=Decidable.not_not.mp ne;obtain ⟨c,d⟩:=o (by omega) s;cases hk:er.kept with
 | some k=>exact zi1 (er:=er.hear x) a c d (ok k hk)
 | none=>
  have p:(er.hear x).heard≠[]:=by show er.heard++[x]≠[];simp
  have j:=zgh p;have g:okW (maxHd (er.hear x).heard).2:=by
   rcases List.mem_append.mp (show maxHd (er.hear x).heard∈er.heard++[x] from j) with z|z
   ·exact i _ z
   ·rw [List.mem_singleton.mp z];exact ox
  have more :∀b,okW b.2->WfC ((CM.make { M with ers:=M.ers.set e (er.hear x) } ⟨(er.hear x).hand,(er.hear x).deed,some b,[]⟩).send ({ M with ers:=M.ers.set e (er.hear x) }:CM).ers.length) T (n + 2):=λ b m=>by
   have l:=zi2 (er:=⟨(er.hear x).hand,(er.hear x).deed,some b,[]⟩) a c d rfl f λ k q=>by cases q;exact m
   refine zhq (l.le1 (A3 _)) ?_ ?_
   ·show _ < (_++[_]).length;rw [I0];exact G3 _
   ·show M.letters.length + 5<=_;omega
  unfold CM.ask;cases hd:(er.hear x).deed with
  | some w0=>dsimp only;rw [<-hd];exact more _ (f w0 hd)
  | none=>
   dsimp only;split
   ·rw [<-hd];exact more _ g
   ·exact zi1 (er:=er.hear x) a c d g
theorem zaq {pl:List (List (Option Int))} {h:Nat} {d:Option Int} {rest:List (Option Int)} (e:pl[h]? = some (d :: rest)):(pl.set h rest).flatten.length + 1=pl.flatten.length:=by obtain ⟨c,f⟩:=z5s (X:=rest) e;have b:=c.length_eq;have a:=f.length_eq;rw [I0] at b a;rw [X0] at a;omega
theorem WfC.start {M:CM} {T n h:Nat} {d:Option Int} {rest:List (Option Int)} (w:WfC M T n) (hl:M.left[h]? = some (d :: rest)) (hi:M.idle[h]? = some true):WfC (M.start h d rest) T (n + 1):=by
 have m:=w.m;have o:h < M.idle.length:=(List.getElem?_eq_some_iff.mp hi).1;have l:=A1 hl;have q :∀(e:Nat) er,M.ers[e]? = some er->er.heard.length < M.maj->er.hand≠h:=λ e er g i z=>by have:=(w.lv e er g i).1;rw [z,hi] at this;cases this
 have v:WfC { M with left:=M.left.set h rest,idle:=M.idle.set h false,events:=M.events++[.beg h d] } T (n + 1):=by
  have t:({ M with left:=M.left.set h rest,idle:=M.idle.set h false,events:=M.events++[.beg h d] }:CM).opens=M.opens++[((h:Nat):Int)]:=z9w (M:={ M with left:=M.left.set h rest,idle:=M.idle.set h false });refine ⟨⟨?_,m.st,m.le,λ e c=>?_,λ e c=>L0 (m.hn e c) (A3 n),L0 m.ln (by omega),?_,?_,λ own f=>?_⟩,λ own f p r=>?_,w.be,w.bs,w.bL,λ e c=>?_,λ k j g i=>?_,λ k=>?_,?_,?_⟩
  ·show (M.idle.set h false).length=(M.left.set h rest).length;rw [U0,U0];exact m.il
  ·show e.hand < (M.idle.set h false).length;rw [U0];exact m.eh e c
  ·show (M.events++[_]).length<=_;rw [I0,Q3];have:=m.vn;omega
  ·show (M.left.set h rest).length<=6;rw [U0];exact m.l6
  ·rcases a6 f with f|rfl
   ·exact m.lw own f
   ·have:=m.lw _ l;rw [X0] at this;omega
  ·rcases a6 f with f|rfl
   ·exact w.bl own f p r
   ·exact w.bl _ l p (.tail _ r)
  ·show okE (M.left.set h rest).length e;rw [U0];rcases List.mem_append.mp c with c|c
   ·exact w.bv e c
   ·rw [List.mem_singleton.mp c];exact ⟨by rw [<-m.il];exact o,w.bl _ l d (.head _)⟩
  ·obtain ⟨a,b⟩:=w.lv k j g i;refine ⟨?_,b⟩;show (M.idle.set h false)[j.hand]? = some false;rw [Y1 (X1 (q k j g i))];exact a
  ·rw [t,List.mem_append,w.op k,List.mem_singleton];show _↔(M.idle.set h false)[k]? = some false;by_cases z:k=h
   ·subst z;rw [P0 o];exact ⟨λ _=>rfl,λ _=>.inr rfl⟩
   ·rw [Y1 (X1 z)];exact ⟨λ a=>a.elim id λ e=>absurd (by omega) z,.inl⟩
  ·show EWf [] ((M.events++[_]).map evO);rw [W1];refine w.ew.snoc λ z=>?_;have:=(w.op h).mp z;rw [hi] at this;cases this
  ·show (((M.events++[_]).map evO).filter isBeg).length + (M.left.set h rest).flatten.length=T;rw [W1,J9,I0];have j:=zaq hl;have x:=w.tt;show ((M.events.map evO).filter isBeg).length + 1 + _=T;omega
 have s:=zi2 (er:=⟨h,d,none,[]⟩) v (show (M.idle.set h false)[h]? = some false from P0 o) (λ e er g i=>q e er g i) rfl (w.bl _ l d (.head _)) λ k u=>by cases u
 refine zhq s ?_ ?_
 ·show _ < (_++[_]).length;rw [I0];exact G3 _
 ·show M.letters.length + 5<=_;have:=m.ln;omega
theorem go_wf {M:CM} {T n:Nat} (w:WfC M T n) (c:Int):WfC (M.go c) T (n + 2):=by
 unfold CM.go;by_cases z0:M.ready.length + M.letters.length=0
 ·rw [if_pos z0];exact w.le1 (by omega)
 rw [if_neg z0];dsimp only;have D:=G5 c (show ((M.ready.length:Int) + 2 * (M.letters.length:Int))≠0 by omega);have E:=R4 c (show 0 < ((M.ready.length:Int) + 2 * (M.letters.length:Int)) by omega);have B:(c % ((M.ready.length:Int) + 2 * (M.letters.length:Int))).toNat < M.ready.length + 2 * M.letters.length:=by omega
 clear D E;generalize (c % ((M.ready.length:Int) + 2 * (M.letters.length:Int))).toNat=ch at B⊢;by_cases lt1:ch < M.ready.length
 ·rw [if_pos lt1];have r:M.ready[ch]? = some M.ready[ch]:=v0 lt1;have g:M.ready[ch]∈M.ready:=E3 lt1;generalize M.ready[ch]=h at r g;rw [r];show WfC (match M.left[h]? with|some (d :: rest)=>M.start h d rest|_=>M) T (n + 2);have g:h∈(V0 M.left.length).filter M.rdy:=g;obtain ⟨z,a⟩:=List.mem_filter.mp g;have t:h < M.left.length:=List.mem_range.mp z;have f:M.left[h]? = some M.left[h]:=v0 t;generalize M.left[h]=own at f;obtain ⟨y,q⟩ :∃b,M.idle[h]? = some b:=⟨_,v0 (by rw [w.m.il];exact t)⟩
  have a:(!(M.left[h]?.getD []).isEmpty && M.idle[h]?.getD false)=true:=a;rw [f,q] at a;rw [f];cases own with
  | nil=>cases a
  | cons d rest=>
   cases y with
   | true=>exact (w.start f q).le1 (A3 _)
   | false=>cases a
 rw [if_neg lt1];have C:0 < M.letters.length:=by omega
 generalize hk:(ch - M.ready.length) % M.letters.length=k;have o:k < M.letters.length:=by rw [<-hk];exact j1g _ C
 have u:M.letters[k]? = some M.letters[k]:=v0 o;have l:M.letters[k]∈M.letters:=E3 o;generalize M.letters[k]=L at u l;rw [u];dsimp only;split
 ·obtain ⟨A,v⟩:=w.m.le L l;have i:M.ers[L.e]? = some M.ers[L.e]:=v0 A;generalize M.ers[L.e]=er at i;have j:M.stock[L.num]? = some M.stock[L.num]:=v0 v;generalize M.stock[L.num]=s at j;have p:=w.erase k;have le1:(M.letters.eraseIdx k).length + 1=M.letters.length:=by rw [j45];rw [if_pos o];omega
  have F:=w.m.ln;unfold CM.come;show WfC (match M.ers[L.e]?,L.held,M.stock[L.num]? with
   | some er,some x,_=>CM.comeBack { M with letters:=M.letters.eraseIdx k } L.e er x
   | some er,none,some s=>CM.comeTo { M with letters:=M.letters.eraseIdx k } L.e er L.num s
   | _,_,_=>{ M with letters:=M.letters.eraseIdx k }) T (n + 2)
  rw [i,j];cases hh:L.held with
  | some x=>exact p.comeBack i (w.bL L l x hh) (by show (M.letters.eraseIdx k).length + 1<=_;omega)
  | none=>exact (p.comeTo i j).le1 (A3 _)
 ·exact (w.erase k).le1 (by omega)
noncomputable def CM.init (m:Nat) (bk:Bool) (pl:List (List (Option Int))):CM:=⟨N0 m ((0,-1),0),bk,pl,pl.map λ _=>true,[],[],[]⟩
theorem zbr {m:Nat} {bk:Bool} {pl:List (List (Option Int))} (g:PlG pl) (h0:0 < m) (h5:m<=5):WfC (CM.init m bk pl) pl.flatten.length 0:=by
 refine ⟨⟨G0 _,?_,(λ L c=>by cases c),(λ e a=>by cases a),(λ e a=>by cases a),A2 _,A2 _,g.n6,λ own b=>?_⟩,λ own b d j w k=>?_,(λ e a=>by cases a),λ x l=>?_,(λ L c=>by cases c),(λ e a=>by cases a),λ e n a=>?_,λ h=>?_,trivial,C5 _⟩
 ·show 0 < (N0 m _).length/\(N0 m _).length<=5;rw [Z1];exact ⟨h0,h5⟩
 ·have b:own∈pl:=b;obtain ⟨i,p,e⟩:=g6 b;have:=(z5s (X:=[]) (v0 p)).2.length_eq;rw [I0,e] at this;have:=g.f;omega
 ·subst k;exact g.bd w (List.mem_filterMap.mpr ⟨_,List.mem_flatten.mpr ⟨own,b,j⟩,rfl⟩)
 ·rw [(List.mem_replicate.mp l).2];exact ⟨by decide,by decide⟩
 ·have a:([]:List Er)[e]? = some n:=a;simp at a
 ·show _∈[]↔(pl.map λ _=>true)[h]? = some false;rw [R0];constructor
  ·intro z;cases z
  ·intro z;cases hp:pl[h]? with
   | none=>rw [hp] at z;cases z
   | some o=>rw [hp] at z;cases z
end
section
variable {P:Program} {w:Z0} {mg:Str->Option Value} {base:Heap}
theorem sq_FH {H:Hp}:SqT (kx w) H 262 [.ref 261,.int 0]:=
 .inr ⟨⟨(.type "tuple"),none,(.seq #[(.ref 261),(.int (0) 591)] 0),#[]⟩,#[(.ref 261),(.int (0) 591)],0,by kernel_rfl,rfl,rfl,w_2,.cons rfl (.cons ⟨_,rfl⟩ .nil)⟩
theorem sq_FH0 {H:Hp}:SqT (kx w) H 261 [.int 0,.int (-1)]:=
 .inr ⟨⟨(.type "tuple"),none,(.seq #[(.int (0) 588),(.int (-1) 590)] 0),#[]⟩,#[(.int (0) 588),(.int (-1) 590)],0,by kernel_rfl,rfl,rfl,w_2,.cons ⟨_,rfl⟩ (.cons ⟨_,rfl⟩ .nil)⟩
theorem zix {H:Hp}:HdAt (kx w) H ((0,-1),0) (.ref 262):=⟨_,_,rfl,sq_FH,sq_FH0⟩
theorem zj3 {α β:Type} {R:α->β->Prop} {x:α} {y:β} (n:Nat) (h:R x y):All2 R (N0 n x) (N0 n y):=by
 induction n with
 | zero=>exact .nil
 | succ n ih=>exact .cons h ih
theorem dd_v {H:Hp} {o:Option Int} {y:V} (h:HPd H (ddP o) y):DdV H o y:=by
 cases o with
 | none=>obtain ⟨p,k,rfl,e,d,j,rfl,g,a,b,rfl,c,f⟩:=h;cases (show d=.str "read" from g);cases (show a=.non from c);cases (show b=[] from f);exact ⟨p,rfl,e⟩
 | some i=>obtain ⟨p,k,rfl,e,d,j,rfl,g,a,b,rfl,c,f⟩:=h;cases (show d=.str "write" from g);cases (show a=.int i from c);cases (show b=[] from f);exact ⟨p,rfl,e⟩
def z21 (K:j0):Sp:=λ vs H Q _=>∃(x dx a:Addr) (m:Nat) (bk:Bool) (pl:List (List (Option Int))) (B:Hp),vs=[.ref x,.int m,.ref a,.bl bk]/\m<=5/\H x=some (.ins 373 dx [])/\HPd H (.list (rowsP pl)) (.ref a)/\pl.length<=6/\B x=none/\Same B H/\
 ∀st lf id lt ev bs H',Same B H'->Cp K B H' x st lf id lt ev bs [] [] (CM.init m bk pl)->Q .non H'
theorem zh4 (T:TX (kx w) mg):Fo P w mg base (CXE P w base) 2 316 y07 ["self","many","plan","back"] (z21 (kx w)):=by
 refine (z2h w.params).okE z4o (λ vs H Q E h=>?_) (λ h0 A h3 s H vs Q E hr h=>?_)
 ·obtain ⟨x,dx,a,m,bk,pl,B,rfl,_⟩:=h;rfl
 ·obtain ⟨x,dx,a,m,bk,pl,B,rfl,m5,Z,⟨a0,os,e0,ea,e6⟩,l6,g8,sB,q⟩:=h;cases e0;refine ⟨_,(z02 (ps_fld (pv 0) (pe_cg (xs:=["number"]) (g:=gName 0) (fr:=[]) (z1d rfl (T.no (z3c _)) (z01 (pv 1) pa_nil)) (λ _ _ _ _ _=>(pg_cn (N:=["number"]) 0)) (λ _ _ _ _ _=>pf_nil) (λ _ _ _ _ _=>(z1t (v:=.ref 262) rfl (T.of (zb8 _)) rfl))) rfl)
   (z02 (ps_fld (pv 0) (pv 3) rfl)
   (z02 (ps_fld (pv 0) (pe_cg (xs:=["own"]) (g:=gName 0) (fr:=[]) (z14 (pv 2)) (λ _ _ _ _ _=>(pg_cn (N:=["own"]) 0)) (λ _ _ _ _ _=>pf_nil) (λ _ _ _ _ _=>(z1u (z54 (K:=KX w.params) rfl) rfl (T.no (n_list _)) V8 (z01 (pv 0) pa_nil)))) rfl)
   (z02 (ps_fld (pv 0) (pe_cg (xs:=["own"]) (g:=gName 0) (fr:=[]) (z14 (pv 2)) (λ _ _ _ _ _=>(pg_cn (N:=["own"]) 0)) (λ _ _ _ _ _=>pf_nil) (λ _ _ _ _ _=>pe_bl)) rfl)
   (z02 (ps_fld (pv 0) (pe_lst pa_nil) rfl)
   (z05 (ps_fld (pv 0) (pe_lst pa_nil) rfl))))))),?_⟩
  have lo:os.length=pl.length:=by have:=e6.length;unfold rowsP at this;rw [G0] at this;exact this
  have d4:a≠x:=λ z=>by rw [z,Z] at ea;cases ea
  have back :∀{Ht:Hp} {l:Addr},Kept x H Ht->l≠x->Ht l=none->B l=none:=λ {Ht l} k nl U=>by
   cases z:B l with
   | none=>rfl
   | some o=>rw [k l o nl (sB _ _ z)] at U;cases U
  refine z39 ?_;refine ⟨_,rfl,_,rfl,by omega,by omega,?_⟩;rw [R5];refine ⟨λ i k d H'=>k=m - i/\i<=m/\H'=H/\d=N0 i (.ref 262),⟨m,rfl,A2 _,rfl,rfl⟩,?_⟩;rintro i k d H2 ⟨rfl,hi,rfl,rfl⟩;by_cases J:i < m
  ·refine .inr ⟨J,by rw [Z1];exact L0 (m:=5) (by omega) (by decide),λ v H3 y=>?_⟩;obtain ⟨rfl,rfl⟩:=y;refine ⟨[some (.int (0 + (i:Int)))],rfl,rfl,iteT ?_⟩;exact ⟨m - (i + 1),by omega,rfl,J,rfl,by rw [List.replicate_succ']⟩
  have ei:i=m:=by omega
  subst ei;refine .inl ⟨J0 _,by rw [Z1];exact L0 (m:=5) (by omega) (by decide),λ I a5=>?_⟩;have W:I≠x:=λ z=>by rw [z,Z] at a5;cases a5
  have g9:B I=none:=back Kept.refl W a5;have k1:Kept x H2 (upd H2 I (.lst (N0 i (.ref 262)))):=Kept.upd a5;have d9:=Same.upd (o:=.lst (N0 i (.ref 262))) a5 _ _ Z;have u:upd H2 I (.lst (N0 i (.ref 262))) I=some (.lst (N0 i (.ref 262))):=z03;generalize upd H2 I (.lst (N0 i (.ref 262)))=H3 at k1 d9 u⊢;refine z16 k1 d9 rfl (z08 _) (z0t _) (n:=0) (J0 _) (by decide) λ H4 k4 t4 g0 D=>?_;replace u:=t4 _ _ W u;refine z39 ⟨_,rfl,z16 k4 g0 rfl (z08 _) (z49 _) D (by decide) λ H5 S t5 c3 D=>?_⟩;replace u:=t5 _ _ W u;refine z39 ?_;have e7:=S _ _ d4 ea;have h4 :∀p o,p≠x->H2 p=some o->H5 p=some o:=λ p o n e=>S p o n e;have f4:HPds H5 (rowsP pl) os:=HPds.mono' (λ p xs e=>S _ _ (λ z=>by rw [z,Z] at e;cases e) e) (λ p xs e=>S _ _ (λ z=>by rw [z,Z] at e;cases e) e) (λ p e=>S _ _ (λ z=>by rw [z,Z] at e;cases e) e) _ _ e6;refine z75 (K:=KX w.params) (a:=a) (pl:=pl) (os:=os) (λ R h=>⟨_,rfl,h⟩) e7 f4 l6 λ lf bs H6 s6 b2 O=>?_;have b0:lf≠x:=λ z=>by rw [z,c3] at b2;cases b2
  have f8:B lf=none:=back S b0 b2;have a4 :∀b∈bs,b≠x:=λ b G z=>by have:=(O.fr b G).1;rw [z,c3] at this;cases this
  have f7 :∀b∈bs,B b=none:=λ b G=>back S (a4 b G) (O.fr b G).1;have f9:I≠lf:=λ z=>by rw [<-z,u] at b2;cases b2
  have f0 :∀b∈bs,I≠b:=λ b G z=>by have:=(O.fr b G).1;rw [<-z,u] at this;cases this
  replace u:=s6 _ _ u;have k6:=S.trans s6.kept;have c7:=s6 _ _ c3;refine z16 k6 c7 rfl (z08 _) (z2a _) D (by decide) λ L k8 t8 c5 D=>?_;replace u:=t8 _ _ W u;have c4:=t8 _ _ b0 O.l;have c8 :∀(j:Nat) (own:List (Option Int)) (b:Addr),pl[j]? = some own->bs[j]? = some b->∃d,L b=some (.lst d)/\All2 (DdV L) own d:=λ j own b e1 e2=>by obtain ⟨d,X,h2⟩:=O.ow j own b e1 e2;refine ⟨d,t8 _ _ (a4 b (A1 e2)) X,z00 (λ _ _ z=>dd_v (dd_tk (λ p xs e=>t8 _ _ (λ z=>by rw [z,c7] at e;cases e) e) z)) h2⟩
  have e4:=O.ln;have g7:=O.nd;have g4:=λ b G=>(O.fr b G).2;refine z39 ?_;have f2:=k8 _ _ d4 ea;refine z2b (K:=KX w.params) (a:=a) (xs:=os) (H1:=L) (λ _=>true) (λ _ y _=>y=.bl true) (λ _ _ _ _ _ z=>z) (λ R h=>⟨_,rfl,h⟩) (SqL.of f2) (L0 (m:=6) (by omega) (by decide)) ?_ ?_
  ·intro i hi v H9 s9 hv KT KF X h2;refine ⟨[some v],rfl,rfl,iteT ?_⟩;exact X rfl _ _ (Same.refl _) rfl
  intro id H9 zs s9 a2 c9;rw [List.filter_eq_self.mpr (λ _ _=>rfl),lo] at c9;have ez:zs=(pl.map λ _=>true).map V.bl:=by
   have e1:=z1l (f:=λ _=>V.bl true) c9;rw [e1];apply List.ext_getElem?;intro j;rw [R0,R0,R0];by_cases z:j < pl.length
   ·rw [List.getElem?_range z,v0 z];rfl
   ·rw [j3f (by rw [W2];omega),j3f (by omega)];rfl
  subst ez;have b3:id≠x:=λ z=>by rw [z,s9 _ _ c5] at a2;cases a2
  have f6:B id=none:=back (k8.trans s9.kept) b3 a2;have c0 :∀{l:Addr} {o:HO},L l=some o->id≠l:=λ {l o} e z=>by rw [z,s9 _ _ e] at a2;cases a2
  have b5:=s9.trans (Same.upd (o:=.lst ((pl.map λ _=>true).map V.bl)) a2);have a3:upd H9 id (.lst ((pl.map λ _=>true).map V.bl)) id=some (.lst ((pl.map λ _=>true).map V.bl)):=z03;generalize upd H9 id (.lst ((pl.map λ _=>true).map V.bl))=H10 at b5 a3⊢;refine z16 (k8.trans b5.kept) (b5 _ _ c5) rfl (z08 _) (z1k _) D (by decide) λ a6 e5 d8 d1 D=>?_;have a9 :∀{l:Addr} {o:HO},l≠x->L l=some o->a6 l=some o:=λ n e=>d8 _ _ n (b5 _ _ e);replace a3:=d8 _ _ b3 a3;refine z39 ⟨w_0,λ lt J=>?_⟩;have c1:lt≠x:=λ z=>by rw [z,d1] at J;cases J
  have f1:B lt=none:=back e5 c1 J;have b6:=Same.upd (o:=.lst []) J;have a8:upd a6 lt (.lst []) lt=some (.lst []):=z03;have b7 :∀{l:Addr} {o:HO},a6 l=some o->lt≠l:=λ {l o} e z=>by rw [z,e] at J;cases J
  generalize upd a6 lt (.lst [])=H12 at b6 a8⊢;refine z16 (e5.trans b6.kept) (b6 _ _ d1) rfl (z08 _) (z0s _) D (by decide) λ b1 d2 d3 d6 D=>?_;replace a8:=d3 _ _ c1 a8;refine zfg ⟨w_0,λ F a1=>?_⟩;have d7:F≠x:=λ z=>by rw [z,d6] at a1;cases a1
  have f3:B F=none:=back d2 d7 a1;have b4:=Same.upd (o:=.lst []) a1;have e3:upd b1 F (.lst []) F=some (.lst []):=z03;have a7 :∀{l:Addr} {o:HO},b1 l=some o->F≠l:=λ {l o} e z=>by rw [z,e] at a1;cases a1
  generalize upd b1 F (.lst [])=H14 at b4 e3⊢;refine z16 (d2.trans b4.kept) (b4 _ _ d6) rfl (z08 _) (z11 _) D (by decide) λ M e8 d5 e9 D=>?_;have Y :∀{l:Addr} {o:HO},l≠x->a6 l=some o->b1 l=some o:=λ n e=>d3 _ _ n (b6 _ _ e);have c2 :∀{l:Addr} {o:HO},l≠x->b1 l=some o->M l=some o:=λ n e=>d5 _ _ n (b4 _ _ e);have b9 :∀{l:Addr} {o:HO},l≠x->L l=some o->M l=some o:=λ n e=>c2 n (Y n (a9 n e));refine q I lf id lt F bs M (λ p o e=>e8 p o (λ z=>by rw [z,g8] at e;cases e) (sB _ _ e)) ⟨⟨dx,_,e9,?_,?_,?_,?_,?_,?_,λ m t=>?_⟩,?_,(λ k r e=>by have e:([]:List Er)[k]? = some r:=e;simp at e),⟨rfl,rfl,e4⟩⟩
  ·exact lk_n (lk_n (lk_n (lk_n (lk_n lk_eq))))
  ·exact lk_n (lk_n (lk_n (lk_n lk_eq)))
  ·exact lk_n (lk_n (lk_n lk_eq))
  ·exact lk_n (lk_n lk_eq)
  ·exact lk_n lk_eq
  ·exact lk_eq
  ·unfold fldC at t;simp only [D3,K0,or_false,not_or] at t;exact (lk_ne t.2.2.2.2.2).trans ((lk_ne t.2.2.2.2.1).trans ((lk_ne t.2.2.2.1).trans ((lk_ne t.2.2.1).trans ((lk_ne t.2.1).trans ((lk_ne t.1).trans rfl)))))
  ·have g5 :∃C:List (List V),C.length=bs.length/\All2 (λ b d=>M b=some (.lst d)) bs C/\All2 (λ own d=>All2 (DdV M) own d) pl C:=by
    have f5 :∀(pl:List (List (Option Int))) (bs:List Addr),bs.length=pl.length->(∀b∈bs,b≠x)->(∀(j:Nat) (own:List (Option Int)) (b:Addr),pl[j]? = some own->bs[j]? = some b->∃d,L b=some (.lst d)/\All2 (DdV L) own d)->∃C:List (List V),C.length=bs.length/\All2 (λ b d=>M b=some (.lst d)) bs C/\All2 (λ own d=>All2 (DdV M) own d) pl C:=by
     intro pl;induction pl with
     | nil=>intro bs U _ _;rw [List.length_eq_zero_iff.mp U];exact ⟨[],rfl,.nil,.nil⟩
     | cons p pl ih=>
      intro bs U nb ho;cases bs with
      | nil=>cases U
      | cons b bs=>obtain ⟨d,X,h2⟩:=ho 0 p b rfl rfl;obtain ⟨C,g1,g2,g3⟩:=ih bs (by simpa using U) (λ c hc=>nb c (.tail _ hc)) λ j own c e1 e2=>ho (j + 1) own c (by simpa using e1) (by simpa using e2);exact ⟨d :: C,by rw [X0,X0,g1],.cons (b9 (nb b (.head _)) X) g2,.cons (z00 (λ _ _ z=>z.elim λ q z=>⟨q,z.1,b9 (λ e=>by rw [e,c5] at z;cases z.2) z.2⟩) h2) g3⟩
    exact f5 pl bs e4 a4 c8
   obtain ⟨C,g1,g2,g3⟩:=g5;refine ⟨N0 i (.ref 262),[],[],C,[],⟨?_,?_,?_⟩,g1,?_,.nil,.nil,g3,.nil⟩
   ·rw [C3,C3];exact .cons (b9 W u) (.cons (b9 b0 c4) (.cons (c2 b3 (Y b3 a3)) (.cons (c2 c1 a8) (.cons (d5 _ _ d7 e3) g2))))
   ·rw [C3];have b8 :∀b∈bs,∃o,L b=some o:=λ b G=>by obtain ⟨j,hj,e⟩:=g6 G;obtain ⟨d,X,_⟩:=c8 j _ b (v0 (show j < pl.length by omega)) (by rw [v0 hj,e]);exact ⟨_,X⟩
    have c6:=a9 W u;have d0:=a9 b0 c4;simp only [D5,D3,not_or];refine ⟨⟨f9,X1 (c0 u),X1 (b7 c6),X1 (a7 (Y W c6)),λ z=>f0 I z rfl⟩,⟨X1 (c0 c4),X1 (b7 d0),X1 (a7 (Y b0 d0)),λ z=>g4 lf z rfl⟩,⟨X1 (b7 a3),X1 (a7 (Y b3 a3)),λ z=>?_⟩,⟨X1 (a7 a8),λ z=>?_⟩,λ z=>?_,g7⟩
    ·obtain ⟨o,e⟩:=b8 id z;exact c0 e rfl
    ·obtain ⟨o,e⟩:=b8 lt z;exact b7 (a9 (a4 lt z) e) rfl
    ·obtain ⟨o,e⟩:=b8 F z;exact a7 (Y (a4 F z) (a9 (a4 F z) e)) rfl
   ·intro m t;rw [C3] at t;simp only [D3] at t;rcases t with rfl|rfl|rfl|rfl|rfl|t
    ·exact g9
    ·exact f8
    ·exact f6
    ·exact f1
    ·exact f3
    ·exact f7 m t
   ·show All2 (HdAt (kx w) M) (N0 i ((0,-1),0)) (N0 i (.ref 262));exact zj3 i zix
noncomputable def wP:Option Int->PyData
 | none=>.none
 | some i=>.int i
noncomputable def aP:Option Int->PyData
 | none=>.str "ok"
 | some i=>.int i
noncomputable def evP:CEv->PyData
 | .beg h d=>.tuple [.str "begin",.int (h:Nat),.str "r",.str (vbD d),wP d]
 | .fin h a=>.tuple [.str "end",.int (h:Nat),aP a]
noncomputable def taleP (es:List CEv):PyData:=.tuple [.tuple [.tuple [.str "r",.str "register"]],.tuple (es.map evP)]
theorem ev_hpd {H:Hp} {e:CEv} {y:V} (h:EvV H e y):HPd H (evP e) y:=by
 cases e with
 | beg k d=>obtain ⟨p,rfl,b⟩:=h;refine ⟨p,_,rfl,b,_,_,rfl,rfl,_,_,rfl,rfl,_,_,rfl,rfl,_,_,rfl,rfl,_,_,rfl,?_,rfl⟩;cases d<;>rfl
 | fin k a=>obtain ⟨p,rfl,b⟩:=h;refine ⟨p,_,rfl,b,_,_,rfl,rfl,_,_,rfl,rfl,_,_,rfl,?_,rfl⟩;cases a<;>rfl
theorem name_r:NameOk "r":=⟨by decide +kernel,by decide +kernel,by decide +kernel⟩
theorem zf9 {i g:Int} (h0:-g<=i) (h1:i<=g):z0j (.int i) g=true:=by unfold z0j;dsimp only;rw [decide_eq_true h0,decide_eq_true h1];rfl
theorem ev_t {H:Hp} {n:Nat} {e:CEv} {y:V} (h:EvV H e y) (ok:okE n e) (n6:n<=6):EvT H [("r","register")] (evO e) y:=by
 cases e with
 | beg k d=>
  obtain ⟨p,rfl,c⟩:=h;obtain ⟨f,b⟩:=ok;refine ⟨p,"r","register",vbD d,rfl,c,by omega,by omega,rfl,rfl,.head _,name_r,?_⟩;cases d with
  | none=>exact .none (show formOf "register" "read" = 0 by decide +kernel)
  | some w=>exact .one (show formOf "register" "write" = 1 by decide +kernel) (zf9 (b w rfl).1 (b w rfl).2)
 | fin k a=>
  obtain ⟨p,rfl,c⟩:=h;obtain ⟨f,b⟩:=ok;refine ⟨p,rfl,c,by omega,by omega,?_⟩;cases a with
  | none=>exact .inl rfl
  | some w=>have:=b w rfl;exact .inr (.inr ⟨w,rfl,zf9 (by have:=this.1;omega) (by have:=this.2;omega)⟩)
theorem zcc {T:Nat} :∀(cs:List Int) {M:CM} {n:Nat},WfC M T n->WfC (cs.foldl CM.go M) T (n + 2 * cs.length)
 | [],M,n,h=>h
 | c :: cs,M,n,h=>by have:=zcc cs (go_wf h c);rw [J4,X0];exact this.le1 (by omega)
def z52 (K:j0):Sp:=λ vs H Q _=>∃(m:Nat) (a c:Addr) (bk:Bool) (cs:List Int) (pl:List (List (Option Int))),vs=[.int m,.ref a,.ref c,.bl bk]/\(m=3\/m=5)/\HPd H (.list (rowsP pl)) (.ref a)/\PlG pl/\H c=some (.lst (cs.map V.int))/\cs.length<=450/\
 ∀t H',Same H H'->HPd H' (taleP (cs.foldl CM.go (CM.init m bk pl)).events) t->Q t H'
theorem z9c (T:TX (kx w) mg) (c0:CaE P w mg base "check_plan" ["many","plan"] 7 (z5f (kx w))) (c8:Fo P w mg base (CXE P w base) 2 316 y07 ["self","many","plan","back"] (z21 (kx w))) (c9:Fo P w mg base CX0 7 321 y0a ["self","choice"] (z3d (kx w))) (c10:Ca P w mg base "make_tale" ["things","events"] 7 (z6n (kx w))):Fo P w mg base (CXE P w base) 9 389 y0v ["many","plan","choices","back"] (z52 (kx w)):=by
 refine (z3n w.params).okE sc_run_copies (λ C H Q E h=>?_) (λ b8 A b9 s H C Q E O h=>?_)
 ·obtain ⟨m,a,c,bk,l,p,rfl,_⟩:=h;rfl
 ·obtain ⟨m,a,c,bk,l,p,rfl,d2,hp,g,ec,lc,q⟩:=h;refine ⟨_,(z02 (z0i (zk9 passE c0 (O.mono (by decide)) rfl (z01 (pv 0) (z01 (pv 1) pa_nil))))
   (z02 (ps_set (i:=4) sc_run_copies.nd rfl (N1 rfl) (z78 (zgy _) c8 (O.mono (by decide)) rfl (T.of (zir _)) (z5h _) .nil passN (z01 (pv 0) (z01 (pv 1) (z01 (pv 3) pa_nil)))))
   (z02 (PS.nox (ps_for Y2 rfl (z14 (pv 2)) (z0m (i:=5) sc_run_copies.nd rfl (N1 rfl))
   (z05 (z0i (z2v (pv 4) (z08 _) (z71 _) c9 (O.mono (by decide)) (z7k _) .nil pass0 (z01 (pv 5) pa_nil))))))
   (z05 (ps_ret (pe_cal c10 (O.mono (by decide)) rfl (z01 (pe_lst (z01 (pe_tup (z01 pe_str (z01 pe_str pa_nil))) pa_nil)) (z01 (pe_fld (pv 4) rfl) pa_nil)))))))),?_⟩
  refine ⟨_,rfl,_,rfl,m,.ref a,rowsP p,rfl,hp,zjr g,λ u J _ _=>?_,λ L s' z=>absurd (z (by omega)) (by rw [zg0 g];decide)⟩;have b0:=hp.same J;refine t_nx (z0c ?_);refine ⟨_,rfl,_,rfl,_,rfl,λ b v a2 a7 ne=>?_⟩;have X:Same u (upd (upd u v (.own b)) b (.ins 373 v [])):=(Same.upd a7).trans (Same.upd (by rw [upd_ne (X1 ne)];exact a2));have e2:upd (upd u v (.own b)) b (.ins 373 v []) b=some (.ins 373 v []):=z03;generalize upd (upd u v (.own b)) b (.ins 373 v [])=H2 at X e2⊢;refine ⟨b,v,a,m,bk,p,u,rfl,by omega,e2,b0.same X,g.n6,a2,X,λ st lf id lt I bs H3 s3 b5=>⟨rfl,?_⟩⟩;refine g_name ?_;have a3:WfC (CM.init m bk p) p.flatten.length 0:=zbr g (by omega) (by omega);refine ⟨_,rfl,c,rfl,⟨_,SqL.of (s3 _ _ (J _ _ ec))⟩,?_⟩;refine z4y (K:=KX w.params) (a:=c) (xs:=l.map V.int) (λ i σ L=>Same u L/\∃n hls x5,Cp (kx w) u L b st lf id lt I bs n hls ((l.take i).foldl CM.go (CM.init m bk p))/\σ=[some (.int m),some (.ref a),some (.ref c),some (.bl bk),some (.ref b),x5]) ⟨s3,[],[],_,b5,rfl⟩ (λ _ σ L _ h=>SqL.of (h.1 _ _ (J _ _ ec))) ?_ ?_
  ·rintro i y σ D F ⟨s4,n,hls,x5,cp4,rfl⟩;rw [R0] at F;cases hc:l[i]? with
   | none=>rw [hc] at F;cases F
   | some k=>
   rw [hc] at F;cases F;have hi:i < l.length:=(List.getElem?_eq_some_iff.mp hc).1;have d:=zcc (l.take i) a3;rw [U6,Nat.min_eq_left (by omega),C5] at d;refine g_name ?_;obtain ⟨R,U,Y,i2,Z,i4,i5,i6,i7,i8⟩:=cp4.ins;refine ⟨_,rfl,b,R,U,rfl,Y,i8 _ (by decide +kernel),_,rfl,?_⟩;refine ⟨b,k,u,st,lf,id,lt,I,bs,n,hls,_,2 * i,rfl,cp4,d.m,by omega,s4,λ a6 b3 x s5 a8=>⟨s5,a6,b3,_,?_,rfl⟩⟩;have ek:(l.take (i + 1)).foldl CM.go (CM.init m bk p)=((l.take i).foldl CM.go (CM.init m bk p)).go k:=by rw [List.take_succ,hc,E6];rfl
   rw [ek];exact a8
  rintro σ D ⟨s4,n,hls,x5,cp4,rfl⟩;rw [D6 (by rw [G0];exact J0 _)] at cp4;have d:=zcc l a3;rw [C5] at d;obtain ⟨R,U,Y,i2,Z,i4,i5,i6,i7,i8⟩:=cp4.ins;obtain ⟨sv,lv,N,d0,d1,c1,c2,c3,c4,c5,c6,c7⟩:=cp4.ct;have b7:D I=some (.lst N):=c1.at (i:=4) rfl rfl;generalize (l.foldl CM.go (CM.init m bk p))=M at cp4 d c1 c3 c4 c5 c6 c7 Z q;refine t_nx (sq_ret ?_);refine ⟨w_2,λ j b1=>⟨w_1,λ G b6=>?_⟩⟩;have t1:=Same.upd (o:=.tup [.str "r",.str "register"]) b1;have t2:=Same.upd (o:=.lst [.ref j]) b6;have W:=t2 _ _ (z03 (H:=D) (a:=j) (o:=.tup [.str "r",.str "register"]));have a0:upd (upd D j (.tup [.str "r",.str "register"])) G (.lst [.ref j]) G=some (.lst [.ref j]):=z03;have B:=t1.trans t2;generalize upd (upd D j (.tup [.str "r",.str "register"])) G (.lst [.ref j])=x at W a0 B⊢;refine ⟨_,rfl,b,_,R,U,_,rfl,B _ _ Y,z08 _,z11 _,i7,?_⟩;have l6:=d.m.l6;have vn:=d.m.vn;have a4:All2 (EvV x) M.events N:=z00 (λ _ _ z=>z.imm (Imm.of B)) c5;have a5:All2 (EvT x [("r","register")]) (M.events.map evO) N:=by
   have b2 :∀{n:List CEv} {C:List V},All2 (EvV x) n C->(∀e∈n,okE M.left.length e)->All2 (EvT x [("r","register")]) (n.map evO) C:=by
    intro n C h;induction h with
    | nil=>exact λ _=>.nil
    | cons a r ih=>exact λ ok=>.cons (ev_t a (ok _ (.head _)) l6) (ih λ e he=>ok e (.tail _ he))
   exact b2 a4 d.bv
  have gf:=g.f;have tt:=d.tt;refine ⟨G,I,[.ref j],[("r","register")],N,_,rfl,a0,.cons ⟨j,rfl,W⟩ .nil,(show (1:Nat)<=6 by decide),List.nodup_cons.mpr ⟨K0,.nil⟩,λ t ht=>by rw [List.mem_singleton.mp ht];exact ⟨name_r,by decide +kernel⟩,B _ _ b7,a5,by rw [G0];omega,by omega,d.ew,λ pp t c' e' H6 S et b4 a9 pe _=>?_⟩;have e1:pp=[0]:=List.perm_singleton.mp pe;subst e1;refine q _ H6 ((J.trans s4).trans (B.trans S)) ⟨t,_,rfl,et,_,_,rfl,⟨c',_,rfl,b4,_,_,rfl,⟨j,_,rfl,S _ _ W,_,_,rfl,rfl,_,_,rfl,rfl,rfl⟩,rfl⟩,_,_,rfl,⟨e',_,rfl,a9,?_⟩,rfl⟩;exact z8i (z00 (λ _ _ z=>ev_hpd (z.imm (Imm.of S))) a4)
end
section
structure LL where
 copy:Nat
 hand:Nat
 turn:Nat
 to:Bool
 x:Option Hd
structure LD where
 d:Option Int
 round:Nat
 keeps:Bool
 heard:List Hd
 ans:Option Int
structure LM where
 held:List Hd
 under:List LL
 nxt:List Nat
 opn:List (Option LD)
 rounds:Nat
 events:List CEv
noncomputable def LM.init (m:Nat) (pl:List (List (Option Int))):LM:=⟨N0 m ((0,-1),0),[],pl.map λ _=>0,pl.map λ _=>none,0,[]⟩
noncomputable def LM.sent (N:LM) (h:Nat) (D:LD) (x:Option Hd):LM:={ N with rounds:=N.rounds + 1,opn:=N.opn.set h (some { D with round:=N.rounds + 1,keeps:=x.isSome,heard:=[] }),under:=N.under++(V0 N.held.length).map λ c=>⟨c,h,N.rounds + 1,true,x⟩ }
noncomputable def LM.ended (N:LM) (h:Nat) (a:Option Int):LM:={ N with opn:=N.opn.set h none,events:=N.events++[.fin h a] }
noncomputable def LM.goneOn (N:LM) (bk:Bool) (h:Nat) (D:LD):LM:=
 if D.keeps=true then N.ended h D.ans else match D.d with
  | some w=>N.sent h { D with ans:=none } (some (((maxHd D.heard).1.1 + 1,(h:Int)),w))
  | none=>if bk=true then N.sent h { D with ans:=some (maxHd D.heard).2 } (some (maxHd D.heard)) else N.ended h (some (maxHd D.heard).2)
noncomputable def LD.hear (D:LD) (x:Hd):LD:={ D with heard:=D.heard++[x] }
noncomputable def LM.hear (N:LM) (bk:Bool) (L:LL) (D:LD) (x:Hd):LM:=
 if D.round=L.turn then (if N.held.length < 2 * (D.hear x).heard.length then LM.goneOn { N with opn:=N.opn.set L.hand (some (D.hear x)) } bk L.hand (D.hear x) else { N with opn:=N.opn.set L.hand (some (D.hear x)) }) else N
noncomputable def LM.come (N:LM) (bk:Bool) (L:LL):LM:=
 if L.to=true then (match N.held[L.copy]? with
  | some s=>{ N with held:=N.held.set L.copy (keepH L.x s),under:=N.under++[⟨L.copy,L.hand,L.turn,false,some (keepH L.x s)⟩] }
  | none=>N)
 else (match N.opn[L.hand]?,L.x with
  | some (some D),some x=>N.hear bk L D x
  | _,_=>N)
noncomputable def LM.fre (N:LM) (pl:List (List (Option Int))) (h:Nat):Bool:=(N.opn[h]?.getD none).isNone && decide (N.nxt[h]?.getD 0 < (pl[h]?.getD []).length)
noncomputable def LM.free (N:LM) (pl:List (List (Option Int))):List Nat:=(V0 pl.length).filter (N.fre pl)
noncomputable def LM.begin (N:LM) (h:Nat) (d:Option Int):LM:=LM.sent { N with nxt:=N.nxt.set h (N.nxt[h]?.getD 0 + 1),opn:=N.opn.set h (some ⟨d,0,false,[],none⟩),events:=N.events++[.beg h d] } h ⟨d,0,false,[],none⟩ none
noncomputable def LM.moved (N:LM) (pl:List (List (Option Int))) (bk:Bool) (n:Nat):LM:=
 if n < (N.free pl).length then (match (pl[(N.free pl)[n]?.getD 0]?.getD [])[N.nxt[(N.free pl)[n]?.getD 0]?.getD 0]? with
  | some d=>N.begin ((N.free pl)[n]?.getD 0) d
  | none=>N)
 else (match N.under[(n - (N.free pl).length) % N.under.length]? with
  | some L=>if n < (N.free pl).length + N.under.length then LM.come { N with under:=N.under.eraseIdx ((n - (N.free pl).length) % N.under.length) } bk L else { N with under:=N.under.eraseIdx ((n - (N.free pl).length) % N.under.length) }
  | none=>N)
noncomputable def LM.go (N:LM) (pl:List (List (Option Int))) (bk:Bool) (c:Int):LM:=
 if (N.free pl).length + N.under.length=0 then N else N.moved pl bk (c % (((N.free pl).length:Int) + 2 * (N.under.length:Int))).toNat
def LLm (ers:List Er) (L:Lt) (l:LL):Prop:=∃er,ers[L.e]? = some er/\l.copy=L.num/\l.turn=L.e + 1/\l.hand=er.hand/\l.to=L.held.isNone/\l.x=(match L.held with|none=>er.kept|some x=>some x)
structure Sm (pl:List (List (Option Int))) (M:CM) (N:LM):Prop where
 st:N.held=M.stock
 ev:N.events=M.events
 nl:N.nxt.length=pl.length
 ol:N.opn.length=pl.length
 ll:M.left.length=pl.length
 il:M.idle.length=pl.length
 lf :∀h,h < pl.length->M.left[h]? = some ((pl[h]?.getD []).drop (N.nxt[h]?.getD 0))
 id :∀h,h < pl.length->M.idle[h]? = some (N.opn[h]?.getD none).isNone
 rd:N.rounds=M.ers.length
 un:All2 (LLm M.ers) M.letters N.under
 cu :∀h D,N.opn[h]? = some (some D)->∃e er,D.round=e + 1/\M.ers[e]? = some er/\er.hand=h/\er.deed=D.d/\er.kept.isSome=D.keeps/\er.heard=D.heard/\2 * D.heard.length<=M.stock.length/\∀k,er.kept=some k->D.ans=ansC er.deed k.2
 pa :∀e er,M.ers[e]? = some er->er.hand < pl.length/\((∃D,N.opn[er.hand]? = some (some D)/\D.round=e + 1)\/M.stock.length < 2 * er.heard.length)
 odd:M.stock.length % 2=1
 inb :∀L∈M.letters,L.num < M.stock.length
theorem LLm.set {ers:List Er} {L:Lt} {l:LL} {e:Nat} {er:Er} {x:Hd} (he:ers[e]? = some er) (h:LLm ers L l):LLm (ers.set e (er.hear x)) L l:=by
 obtain ⟨r,a,b⟩:=h;by_cases z:L.e=e
 ·rw [z,he] at a;cases a;exact ⟨er.hear x,by rw [z,P0 (List.getElem?_eq_some_iff.mp he).1],b⟩
 ·exact ⟨r,by rw [Y1 (X1 z)];exact a,b⟩
theorem LLm.more {ers:List Er} {L:Lt} {l:LL} (r:Er) (h:LLm ers L l):LLm (ers++[r]) L l:=by obtain ⟨b,a,c⟩:=h;exact ⟨b,by rw [F1 (List.getElem?_eq_some_iff.mp a).1];exact a,c⟩
theorem Sm.free {pl:List (List (Option Int))} {M:CM} {N:LM} (s:Sm pl M N):N.free pl=M.ready:=by
 unfold LM.free CM.ready;rw [s.ll];refine List.filter_congr λ h a=>?_;have a:=List.mem_range.mp a;unfold LM.fre CM.rdy;rw [s.lf h a,s.id h a];show _=(!((pl[h]?.getD []).drop (N.nxt[h]?.getD 0)).isEmpty && (N.opn[h]?.getD none).isNone);rw [Bool.and_comm];congr 1;rw [Bool.eq_iff_iff,decide_eq_true_iff,Bool.not_eq_true',List.isEmpty_eq_false_iff_exists_mem];constructor
 ·intro z;refine ⟨((pl[h]?.getD [])[N.nxt[h]?.getD 0]),?_⟩;rw [List.mem_drop_iff_getElem];exact ⟨0,by omega,by simp⟩
 ·rintro ⟨x,hx⟩;have:=j2j hx;rw [j07] at this;omega
theorem z3u {α β:Type} {R:α->β->Prop} {xs xs':List α} {ys ys':List β} (h:All2 R xs ys) (h':All2 R xs' ys'):All2 R (xs++xs') (ys++ys'):=by
 induction h with
 | nil=>exact h'
 | cons a r ih=>exact .cons a ih
def Cur (M:CM) (h:Nat) (D:LD):Prop:=∃e er,D.round=e + 1/\M.ers[e]? = some er/\er.hand=h/\er.deed=D.d/\er.kept.isSome=D.keeps/\er.heard=D.heard/\2 * D.heard.length<=M.stock.length/\∀k,er.kept=some k->D.ans=ansC er.deed k.2
structure Pr (pl:List (List (Option Int))) (M:CM) (N:LM) (h:Nat):Prop where
 st:N.held=M.stock
 ev:N.events=M.events
 nl:N.nxt.length=pl.length
 ol:N.opn.length=pl.length
 ll:M.left.length=pl.length
 il:M.idle.length=pl.length
 lf :∀h,h < pl.length->M.left[h]? = some ((pl[h]?.getD []).drop (N.nxt[h]?.getD 0))
 id :∀k,k < pl.length->k≠h->M.idle[k]? = some (N.opn[k]?.getD none).isNone
 hh:h < pl.length
 rd:N.rounds=M.ers.length
 un:All2 (LLm M.ers) M.letters N.under
 cu :∀k D,k≠h->N.opn[k]? = some (some D)->Cur M k D
 pa :∀e er,M.ers[e]? = some er->er.hand < pl.length/\((er.hand≠h/\∃D,N.opn[er.hand]? = some (some D)/\D.round=e + 1)\/M.stock.length < 2 * er.heard.length)
 odd:M.stock.length % 2=1
 inb :∀L∈M.letters,L.num < M.stock.length
theorem z0p {α:Type} {l:List α} {h k:Nat} {x:α} (hh:h < l.length):(l.set h x)[k]? = if k=h then some x else l[k]?:=by
 by_cases z:k=h
 ·rw [if_pos z,z,P0 hh]
 ·rw [if_neg z,Y1 (X1 z)]
theorem Pr.sent {pl:List (List (Option Int))} {M:CM} {N:LM} {h:Nat} {D:LD} {x:Option Hd} (s:Pr pl M N h) (ih:M.idle[h]? = some false) (ea :∀k,x=some k->D.ans=ansC D.d k.2):Sm pl ((M.make ⟨h,D.d,x,[]⟩).send M.ers.length) (N.sent h D x):=by
 have g:h < N.opn.length:=by rw [s.ol];exact s.hh
 refine ⟨s.st,s.ev,s.nl,by show (N.opn.set h _).length=_;rw [U0];exact s.ol,s.ll,s.il,s.lf,λ k l=>?_,by show N.rounds + 1=(M.ers++[_]).length;rw [I0,s.rd];rfl,?_,λ k i b=>?_,λ e f a=>?_,s.odd,λ L j=>?_⟩
 ·show M.idle[k]? = some ((N.opn.set h _)[k]?.getD none).isNone;rw [z0p g];by_cases z:k=h
  ·rw [if_pos z,z,ih];rfl
  ·rw [if_neg z];exact s.id k l z
 ·show All2 (LLm (M.ers++[_])) (M.letters++(V0 M.stock.length).map λ k=>⟨M.ers.length,k,none⟩) (N.under++(V0 N.held.length).map λ c=>⟨c,h,N.rounds + 1,true,x⟩);refine z3u (z00 (λ _ _ z=>z.more _) s.un) ?_;rw [s.st,s.rd];generalize V0 M.stock.length=r;induction r with
  | nil=>exact .nil
  | cons k r ih=>exact .cons ⟨⟨h,D.d,x,[]⟩,by simp,rfl,rfl,rfl,rfl,rfl⟩ ih
 ·have b:(N.opn.set h _)[k]? = some (some i):=b;rw [z0p g] at b;by_cases z:k=h
  ·rw [if_pos z] at b;cases b;exact ⟨M.ers.length,⟨h,D.d,x,[]⟩,by rw [s.rd],by show (M.ers++[_])[_]? = _;simp,z.symm,rfl,rfl,rfl,A2 _,ea⟩
  ·rw [if_neg z] at b;obtain ⟨e,f,p,o,u⟩:=s.cu k i z b;exact ⟨e,f,p,by show (M.ers++[_])[_]? = _;rw [F1 (List.getElem?_eq_some_iff.mp o).1];exact o,u⟩
 ·have a:(M.ers++[_])[e]? = some f:=a;rcases Nat.lt_or_ge e M.ers.length with z|z
  ·rw [F1 z] at a;obtain ⟨t,v⟩:=s.pa e f a;refine ⟨t,v.imp (λ ⟨n,i,q1,q2⟩=>⟨i,?_,q2⟩) λ q=>q⟩;show (N.opn.set h _)[f.hand]? = _;rw [z0p g,if_neg n];exact q1
  ·have m:e=M.ers.length:=by have:=(List.getElem?_eq_some_iff.mp a).1;rw [I0] at this;simp only [X0,X3] at this;omega
   rw [m,D1 (J0 _),L8] at a;cases a;refine ⟨s.hh,.inl ⟨_,by show (N.opn.set h _)[h]? = _;rw [z0p g,if_pos rfl],?_⟩⟩;show N.rounds + 1=e + 1;rw [s.rd,m]
 ·have j:L∈M.letters++(V0 M.stock.length).map λ k=>⟨M.ers.length,k,none⟩:=j;rcases List.mem_append.mp j with z|z
  ·exact s.inb L z
  ·obtain ⟨k,l,rfl⟩:=List.mem_map.mp z;exact List.mem_range.mp l
theorem Pr.ended {pl:List (List (Option Int))} {M:CM} {N:LM} {h:Nat} {a:Option Int} (s:Pr pl M N h):Sm pl { M with idle:=M.idle.set h true,events:=M.events++[.fin h a] } (N.ended h a):=by
 have d:h < N.opn.length:=by rw [s.ol];exact s.hh
 have l:h < M.idle.length:=by rw [s.il];exact s.hh
 refine ⟨s.st,by show N.events++_=M.events++_;rw [s.ev],s.nl,by show (N.opn.set h _).length=_;rw [U0];exact s.ol,s.ll,by show (M.idle.set h _).length=_;rw [U0];exact s.il,s.lf,λ k j=>?_,s.rd,s.un,λ k c b=>?_,λ e f g=>?_,s.odd,s.inb⟩
 ·show (M.idle.set h _)[k]? = some ((N.opn.set h _)[k]?.getD none).isNone;rw [z0p d,z0p l];by_cases z:k=h
  ·rw [if_pos z,if_pos z];rfl
  ·rw [if_neg z,if_neg z];exact s.id k j z
 ·have b:(N.opn.set h _)[k]? = some (some c):=b;rw [z0p d] at b;by_cases z:k=h
  ·rw [if_pos z] at b;cases b
  ·rw [if_neg z] at b;exact s.cu k c z b
 ·obtain ⟨i,m⟩:=s.pa e f g;refine ⟨i,m.imp (λ ⟨n,c,q1,q2⟩=>⟨c,?_,q2⟩) λ q=>q⟩;show (N.opn.set h _)[f.hand]? = _;rw [z0p d,if_neg n];exact q1
theorem Sm.begin {pl:List (List (Option Int))} {M:CM} {N:LM} {h:Nat} {d:Option Int} {rest:List (Option Int)} (s:Sm pl M N) (hh:h < pl.length) (ho:N.opn[h]? = some none) (hl:M.left[h]? = some (d :: rest)):Sm pl (M.start h d rest) (N.begin h d):=by
 have f:h < N.opn.length:=by rw [s.ol];exact hh
 have i:h < N.nxt.length:=by rw [s.nl];exact hh
 have g:h < M.idle.length:=by rw [s.il];exact hh
 have l:h < M.left.length:=by rw [s.ll];exact hh
 refine Pr.sent (M:={ M with left:=M.left.set h rest,idle:=M.idle.set h false,events:=M.events++[.beg h d] }) (D:=⟨d,0,false,[],none⟩) ⟨s.st,by show N.events++_=M.events++_;rw [s.ev],by show (N.nxt.set h _).length=_;rw [U0];exact s.nl,by show (N.opn.set h _).length=_;rw [U0];exact s.ol,by show (M.left.set h _).length=_;rw [U0];exact s.ll,by show (M.idle.set h _).length=_;rw [U0];exact s.il,λ k b=>?_,λ k b n=>?_,hh,s.rd,s.un,λ k D n a=>?_,λ e c j=>?_,s.odd,s.inb⟩ (P0 g) λ k e=>by cases e
 ·show (M.left.set h _)[k]? = some ((pl[k]?.getD []).drop ((N.nxt.set h _)[k]?.getD 0));rw [z0p l,z0p i];by_cases z:k=h
  ·rw [if_pos z,if_pos z];have:=s.lf h hh;rw [hl] at this;rw [z];show some rest=some ((pl[h]?.getD []).drop (N.nxt[h]?.getD 0 + 1));rw [<-List.drop_drop,<-O2 this];rfl
  ·rw [if_neg z,if_neg z];exact s.lf k b
 ·show (M.idle.set h _)[k]? = some ((N.opn.set h _)[k]?.getD none).isNone;rw [z0p f,z0p g,if_neg n,if_neg n];exact s.id k b
 ·have a:(N.opn.set h _)[k]? = some (some D):=a;rw [z0p f,if_neg n] at a;exact s.cu k D a
 ·obtain ⟨m,o⟩:=s.pa e c j;refine ⟨m,o.imp (λ ⟨D',q1,q2⟩=>?_) λ q=>q⟩;have n:c.hand≠h:=λ z=>by rw [z,ho] at q1;cases q1
  exact ⟨n,D',by show (N.opn.set h _)[c.hand]? = _;rw [z0p f,if_neg n];exact q1,q2⟩
theorem zf2 {N:LM} {bk:Bool} {h:Nat} {D:LD} (e:D.keeps=true):N.goneOn bk h D=N.ended h D.ans:=if_pos e
theorem zfp {N:LM} {bk:Bool} {h:Nat} {D:LD} {w:Int} (e:D.keeps=false) (ed:D.d=some w):N.goneOn bk h D=N.sent h { D with ans:=none } (some (((maxHd D.heard).1.1 + 1,(h:Int)),w)):=by unfold LM.goneOn;rw [if_neg (by rw [e];decide),ed]
theorem za6 {N:LM} {bk:Bool} {h:Nat} {D:LD} (e:D.keeps=false) (ed:D.d=none):N.goneOn bk h D=if bk=true then N.sent h { D with ans:=some (maxHd D.heard).2 } (some (maxHd D.heard)) else N.ended h (some (maxHd D.heard).2):=by unfold LM.goneOn;rw [if_neg (by rw [e];decide),ed]
theorem ask_w {M:CM} {er:Er} {w:Int} (e:er.deed=some w):M.ask er=(M.make ⟨er.hand,some w,some (((maxHd er.heard).1.1 + 1,er.hand),w),[]⟩).send M.ers.length:=by unfold CM.ask;rw [e]
theorem ask_r {M:CM} {er:Er} (e:er.deed=none):M.ask er=if M.back=true then (M.make ⟨er.hand,none,some (maxHd er.heard),[]⟩).send M.ers.length else { M with idle:=M.idle.set er.hand true,events:=M.events++[.fin er.hand (some (maxHd er.heard).2)] }:=by unfold CM.ask CM.stop;rw [e];rfl
theorem Sm.hear {pl:List (List (Option Int))} {M:CM} {N:LM} {L:Lt} {l:LL} {er:Er} {x:Hd} (s:Sm pl M N) (he:M.ers[L.e]? = some er) (lt:l.turn=L.e + 1) (lh:l.hand=er.hand):Sm pl (M.comeBack L.e er x) (match N.opn[l.hand]?,some x with
  | some (some D),some x=>N.hear M.back l D x
  | _,_=>N):=by
 obtain ⟨u,V⟩:=s.pa _ _ he;have m:er.hand < N.opn.length:=by rw [s.ol];exact u
 have j:L.e < M.ers.length:=(List.getElem?_eq_some_iff.mp he).1;have Z:=s.odd;rw [lh];by_cases cur :∃D,N.opn[er.hand]? = some (some D)/\D.round=L.e + 1
 ·obtain ⟨D,t,F⟩:=cur;rw [t];obtain ⟨e,b,c1,P,Y,C,E,H,X,Q⟩:=s.cu _ _ t;obtain rfl:e=L.e:=by omega
  rw [he] at P;cases P;show Sm pl (M.comeBack L.e er x) (N.hear M.back l D x);have T:N.hear M.back l D x=_:=if_pos (show D.round=l.turn by rw [F,lt]);rw [T];unfold CM.comeBack;have w:(er.hear x).heard.length=D.heard.length + 1:=by show (er.heard++[x]).length=_;rw [I0,H];rfl
  have I:(D.hear x).heard.length=D.heard.length + 1:=I0;have S:(M.ers.set L.e (er.hear x))[L.e]? = some (er.hear x):=P0 j;by_cases big:M.stock.length < 2 * (D.heard.length + 1)
  ·rw [if_neg (by rw [w];omega),lh,if_pos (by rw [s.st,I];exact big)];have B:Pr pl { M with ers:=M.ers.set L.e (er.hear x) } { N with opn:=N.opn.set er.hand (some (D.hear x)) } er.hand:=by
    refine ⟨s.st,s.ev,s.nl,by show (N.opn.set _ _).length=_;rw [U0];exact s.ol,s.ll,s.il,s.lf,λ k A n=>?_,u,by show N.rounds=(M.ers.set _ _).length;rw [U0];exact s.rd,z00 (λ _ _ z=>z.set he) s.un,λ k g n c=>?_,λ e b a=>?_,s.odd,s.inb⟩
    ·show M.idle[k]? = some ((N.opn.set _ _)[k]?.getD none).isNone;rw [z0p m,if_neg n];exact s.id k A
    ·have c:(N.opn.set _ _)[k]? = some (some g):=c;rw [z0p m,if_neg n] at c;obtain ⟨e,b,r,f,i,v⟩:=s.cu _ _ c;refine ⟨e,b,r,?_,i,v⟩;show (M.ers.set _ _)[e]? = _;rw [z0p j,if_neg (λ z=>by rw [z,he] at f;cases f;exact n i.symm)];exact f
    ·have a:(M.ers.set _ _)[e]? = some b:=a;rw [z0p j] at a;by_cases z:e=L.e
     ·rw [if_pos z] at a;cases a;exact ⟨u,.inr (by rw [w];exact big)⟩
     ·rw [if_neg z] at a;obtain ⟨G,J⟩:=s.pa e b a;refine ⟨G,J.imp (λ ⟨g,r1,r2⟩=>?_) λ q=>q⟩;have n:b.hand≠er.hand:=λ y=>by rw [y,t] at r1;cases r1;omega
      exact ⟨n,g,by show (N.opn.set _ _)[b.hand]? = _;rw [z0p m,if_neg n];exact r1,r2⟩
   have R:M.idle[er.hand]? = some false:=by rw [s.id _ u,t];rfl
   cases ek:er.kept with
   | some k=>rw [zf2 (D:=D.hear x) (show D.keeps=true by rw [<-E,ek];rfl),show (D.hear x).ans=ansC er.deed k.2 from Q k ek];exact B.ended
   | none=>
    have O:(D.hear x).keeps=false:=by show D.keeps=false;rw [<-E,ek];rfl
    show Sm pl (CM.ask { M with ers:=M.ers.set L.e (er.hear x) } (er.hear x)) _;have K:(D.hear x).heard=(er.hear x).heard:=by show D.heard++[x]=er.heard++[x];rw [H]
    cases ed:er.deed with
    | some w0=>
     have p:(D.hear x).d=some w0:=by rw [<-ed];exact C.symm
     rw [zfp O p,K,ask_w (show (er.hear x).deed=some w0 from ed),<-p];exact B.sent (D:={ D.hear x with ans:=none }) R λ k e=>by rw [p];rfl
    | none=>
     have p:(D.hear x).d=none:=by rw [<-ed];exact C.symm
     rw [za6 O p,K,ask_r (show (er.hear x).deed=none from ed)];by_cases hb:M.back=true
     ·rw [if_pos hb,if_pos hb];have:=B.sent (D:={ D.hear x with ans:=some (maxHd (er.hear x).heard).2 }) (x:=some (maxHd (er.hear x).heard)) R λ k e=>by cases e;rw [p];rfl
      rw [p] at this;exact this
     ·rw [if_neg hb,if_neg hb];exact B.ended
  ·rw [if_pos (by rw [w];omega),lh,if_neg (by rw [s.st,I];exact big)];refine ⟨s.st,s.ev,s.nl,by show (N.opn.set _ _).length=_;rw [U0];exact s.ol,s.ll,s.il,s.lf,λ k A=>?_,by show N.rounds=(M.ers.set _ _).length;rw [U0];exact s.rd,z00 (λ _ _ z=>z.set he) s.un,λ k g c=>?_,λ e b a=>?_,s.odd,s.inb⟩
   ·show M.idle[k]? = some ((N.opn.set _ _)[k]?.getD none).isNone;rw [z0p m];by_cases z:k=er.hand
    ·rw [if_pos z,s.id k A,z,t];rfl
    ·rw [if_neg z];exact s.id k A
   ·have c:(N.opn.set _ _)[k]? = some (some g):=c;rw [z0p m] at c;by_cases z:k=er.hand
    ·rw [if_pos z] at c;cases c;exact ⟨L.e,er.hear x,F,S,z.symm,C,E,by show er.heard++[x]=D.heard++[x];rw [H],by rw [I];show 2 * (D.heard.length + 1)<=M.stock.length;omega,Q⟩
    ·rw [if_neg z] at c;obtain ⟨e,b,r,f,i,v⟩:=s.cu _ _ c;refine ⟨e,b,r,?_,i,v⟩;show (M.ers.set _ _)[e]? = _;rw [z0p j,if_neg (λ y=>by rw [y,he] at f;cases f;exact z i.symm)];exact f
   ·have a:(M.ers.set _ _)[e]? = some b:=a;rw [z0p j] at a;by_cases z:e=L.e
    ·rw [if_pos z] at a;cases a;exact ⟨u,.inl ⟨D.hear x,by show (N.opn.set _ _)[er.hand]? = _;rw [z0p m,if_pos rfl],by rw [z];exact F⟩⟩
    ·rw [if_neg z] at a;obtain ⟨G,J⟩:=s.pa e b a;refine ⟨G,J.imp (λ ⟨g,r1,r2⟩=>?_) λ q=>q⟩;have n:b.hand≠er.hand:=λ y=>by rw [y,t] at r1;cases r1;omega
     exact ⟨g,by show (N.opn.set _ _)[b.hand]? = _;rw [z0p m,if_neg n];exact r1,r2⟩
 ·have a0:M.stock.length < 2 * er.heard.length:=V.resolve_left cur;have U:M.comeBack L.e er x={ M with ers:=M.ers.set L.e (er.hear x) }:=by unfold CM.comeBack;have w:(er.hear x).heard.length=er.heard.length + 1:=I0;rw [if_pos (by rw [w];omega)]
  have W:(match N.opn[er.hand]?,some x with
    | some (some D),some x=>N.hear M.back l D x
    | _,_=>N)=N:=by
   cases h:N.opn[er.hand]? with
   | none=>rfl
   | some o=>
    cases o with
    | none=>rfl
    | some D=>show N.hear M.back l D x=N;unfold LM.hear;rw [if_neg (λ z=>cur ⟨D,h,by rw [z,lt]⟩)]
  rw [U,W];refine ⟨s.st,s.ev,s.nl,s.ol,s.ll,s.il,s.lf,s.id,by show N.rounds=(M.ers.set _ _).length;rw [U0];exact s.rd,z00 (λ _ _ z=>z.set he) s.un,λ k g c=>?_,λ e b a=>?_,s.odd,s.inb⟩
  ·obtain ⟨e,b,r,f,i,v⟩:=s.cu _ _ c;refine ⟨e,b,r,?_,i,v⟩;show (M.ers.set _ _)[e]? = _;rw [z0p j,if_neg (λ y=>by rw [y,he] at f;cases f;exact cur ⟨g,by rw [i];exact c,by rw [r,y]⟩)];exact f
  ·have a:(M.ers.set _ _)[e]? = some b:=a;rw [z0p j] at a;by_cases z:e=L.e
   ·rw [if_pos z] at a;cases a;exact ⟨u,.inr (by show M.stock.length < 2 * (er.heard++[x]).length;rw [I0];omega)⟩
   ·rw [if_neg z] at a;exact s.pa e b a
theorem Sm.comeTo {pl:List (List (Option Int))} {M:CM} {N:LM} {L:Lt} {l:LL} {er:Er} {x:Hd} (s:Sm pl M N) (he:M.ers[L.e]? = some er) (lc:l.copy=L.num) (lt:l.turn=L.e + 1) (lh:l.hand=er.hand) (lx:l.x=er.kept) (hn:L.num < M.stock.length):Sm pl (M.comeTo L.e er L.num x) { N with held:=N.held.set l.copy (keepH l.x x),under:=N.under++[⟨l.copy,l.hand,l.turn,false,some (keepH l.x x)⟩] }:=by
 rw [lc,lx];have a:(M.stock.set L.num (keepH er.kept x)).length=M.stock.length:=U0;refine ⟨by show N.held.set _ _=M.stock.set _ _;rw [s.st],s.ev,s.nl,s.ol,s.ll,s.il,s.lf,s.id,s.rd,z3u s.un (.cons ⟨er,he,rfl,lt,lh,rfl,rfl⟩ .nil),λ h D n=>?_,λ e b i=>?_,by show (M.stock.set _ _).length % 2=1;rw [a];exact s.odd,λ c j=>?_⟩
 ·obtain ⟨e,b,p,g,d,o,f,m,q,k⟩:=s.cu h D n;exact ⟨e,b,p,g,d,o,f,m,by show _<=(M.stock.set _ _).length;rw [a];exact q,k⟩
 ·show _/\(_\/(M.stock.set _ _).length < _);rw [a];exact s.pa e b i
 ·show c.num < (M.stock.set _ _).length;rw [a];rcases List.mem_append.mp j with z|z
  ·exact s.inb c z
  ·rw [List.mem_singleton.mp z];exact hn
theorem Sm.come {pl:List (List (Option Int))} {M:CM} {N:LM} {L:Lt} {l:LL} (s:Sm pl M N) (h:LLm M.ers L l) (hn:L.num < M.stock.length):Sm pl (M.come L) (N.come M.back l):=by
 obtain ⟨i,c,b,f,d,g,a⟩:=h;have e:M.stock[L.num]? = some M.stock[L.num]:=v0 hn;unfold CM.come LM.come;rw [c,e,g];cases hL:L.held with
 | none=>rw [hL] at a;rw [if_pos (show (none:Option Hd).isNone=true from rfl),s.st,b,e];have:=s.comeTo (x:=M.stock[L.num]) c b f d a hn;rw [s.st,b] at this;exact this
 | some x=>rw [hL] at a;rw [if_neg (show ¬ (some x).isNone=true by simp),a];exact s.hear c f d
theorem z5p {α β:Type} {R:α->β->Prop} :∀{xs:List α} {ys:List β} (i:Nat),All2 R xs ys->All2 R (xs.eraseIdx i) (ys.eraseIdx i)
 | _,_,_,.nil=>.nil
 | _,_,0,.cons _ r=>r
 | _,_,i + 1,.cons a r=>.cons a (z5p i r)
theorem Sm.pop {pl:List (List (Option Int))} {M:CM} {N:LM} (s:Sm pl M N) (i:Nat):Sm pl { M with letters:=M.letters.eraseIdx i } { N with under:=N.under.eraseIdx i }:=
 ⟨s.st,s.ev,s.nl,s.ol,s.ll,s.il,s.lf,s.id,s.rd,z5p i s.un,s.cu,s.pa,s.odd,λ L a=>s.inb L (List.mem_of_mem_eraseIdx a)⟩
theorem Sm.go {pl:List (List (Option Int))} {M:CM} {N:LM} (s:Sm pl M N) (c:Int):Sm pl (M.go c) (N.go pl M.back c):=by
 have r:N.under.length=M.letters.length:=z04 s.un;unfold CM.go LM.go LM.moved;rw [s.free,r];by_cases z:M.ready.length + M.letters.length=0
 ·rw [if_pos z,if_pos z];exact s
 rw [if_neg z,if_neg z];dsimp only;generalize (c % ((M.ready.length:Int) + 2 * (M.letters.length:Int))).toNat=n;by_cases hn:n < M.ready.length
 ·rw [if_pos hn,if_pos hn];have m:M.ready[n]? = some M.ready[n]:=v0 hn;rw [m];have j:M.ready[n]∈M.ready:=E3 hn;generalize M.ready[n]=h at j m;unfold CM.ready at j;obtain ⟨t,b⟩:=List.mem_filter.mp j;have a:h < pl.length:=by have:=List.mem_range.mp t;rw [s.ll] at this;exact this
  have b:(!(M.left[h]?.getD []).isEmpty && M.idle[h]?.getD false)=true:=b;rw [s.lf h a,s.id h a,P4] at b;have u:N.opn[h]? = some none:=by
   have k:(N.opn[h]?.getD none).isNone=true:=b.2;have g:h < N.opn.length:=by rw [s.ol];exact a
   rw [v0 g] at k⊢;cases e:N.opn[h] with
   | none=>rfl
   | some D=>rw [e] at k;cases k
  show Sm pl (match M.left[h]? with|some (d :: rest)=>M.start h d rest|_=>M) (match (pl[h]?.getD [])[N.nxt[h]?.getD 0]? with|some d=>N.begin h d|none=>N);have f:=s.lf h a;cases e:(pl[h]?.getD []).drop (N.nxt[h]?.getD 0) with
  | nil=>have o:(!((pl[h]?.getD []).drop (N.nxt[h]?.getD 0)).isEmpty)=true:=b.1;rw [e] at o;cases o
  | cons d rest=>
   rw [e] at f;have q:(pl[h]?.getD [])[N.nxt[h]?.getD 0]? = some d:=by have:=congrArg (·[0]?) e;simp only [List.getElem?_drop,Nat.add_zero,E4] at this;exact this
   rw [f,q];exact s.begin a u f
 ·rw [if_neg hn,if_neg hn];generalize hi:(n - M.ready.length) % M.letters.length=i;cases hL:M.letters[i]? with
  | none=>
   have:N.under[i]? = none:=by rw [List.getElem?_eq_none_iff] at hL⊢;omega
   rw [this];exact s
  | some L=>
   obtain ⟨l,g,p⟩:=z0q s.un hL;rw [g];dsimp only;by_cases hb:n < M.ready.length + M.letters.length
   ·rw [if_pos hb,if_pos hb];exact (s.pop i).come p (s.inb L (A1 hL))
   ·rw [if_neg hb,if_neg hb];exact s.pop i
theorem zib {M:CM} {er:Er}:(M.ask er).back=M.back:=by
 unfold CM.ask;split
 ·rfl
 ·split<;>rfl
theorem go_back {M:CM} {c:Int}:(M.go c).back=M.back:=by
 have a :∀{M:CM} {L:Lt},(M.come L).back=M.back:=λ {M L}=>by
  unfold CM.come;split
  ·unfold CM.comeBack;split
   ·rfl
   ·split
    ·rfl
    ·exact zib
  ·rfl
  ·rfl
 unfold CM.go;split
 ·rfl
 ·dsimp only;split
  ·split<;>rfl
  ·split
   ·split
    ·exact a
    ·rfl
   ·rfl
theorem Sm.init {pl:List (List (Option Int))} {m:Nat} {bk:Bool} (hm:m % 2=1):Sm pl (CM.init m bk pl) (LM.init m pl):=by
 have c :∀{α:Type} (x:α) (h:Nat),h < pl.length->(pl.map λ _=>x)[h]? = some x:=λ x h a=>by rw [R0,v0 a];rfl
 refine ⟨rfl,rfl,G0 ..,G0 ..,rfl,G0 ..,λ h a=>?_,λ h a=>?_,rfl,.nil,λ h D b=>?_,λ e g d=>?_,by show (N0 m _).length % 2=1;rw [Z1];exact hm,λ L f=>absurd f K0⟩
 ·show pl[h]? = some ((pl[h]?.getD []).drop ((pl.map λ _=>0)[h]?.getD 0));rw [c 0 h a,v0 a];rfl
 ·show (pl.map λ _=>true)[h]? = some ((pl.map λ _=>(none:Option LD))[h]?.getD none).isNone;rw [c true h a,c none h a];rfl
 ·have b:(pl.map λ _=>(none:Option LD))[h]? = some (some D):=b;rw [R0] at b;obtain ⟨_,_,e⟩:=Option.map_eq_some_iff.mp b;cases e
 ·cases d
theorem z7y {pl:List (List (Option Int))} {m:Nat} {bk:Bool} (hm:m % 2=1) :∀cs:List Int,Sm pl (cs.foldl CM.go (CM.init m bk pl)) (cs.foldl (λ N c=>N.go pl bk c) (LM.init m pl)):=by
 have a :∀(cs:List Int) (M:CM) (N:LM),M.back=bk->Sm pl M N->Sm pl (cs.foldl CM.go M) (cs.foldl (λ N c=>N.go pl bk c) N):=λ cs=>by
  induction cs with
  | nil=>exact λ _ _ _ s=>s
  | cons c cs ih=>exact λ M N e s=>ih _ _ (go_back.trans e) (by have:=s.go c;rw [e] at this;exact this)
 exact λ cs=>a cs _ _ rfl (Sm.init hm)
end
section
variable {P:Program} {w:Z0} {mg:Str->Option Value} {base:Heap}
structure Ms (B H:Hp) (xs:List (Addr×HO)):Prop where
 c :∀p∈xs,H p.1=some p.2
 nd:(xs.map (·.1)).Nodup
 fr :∀p∈xs,B p.1=none
theorem Ms.same {B H H':Hp} {xs:List (Addr×HO)} (h:Ms B H xs) (s:Same H H'):Ms B H' xs:=⟨λ p a=>s _ _ (h.c p a),h.nd,h.fr⟩
theorem Ms.set {B H:Hp} {a b:List (Addr×HO)} {p:Addr} {o o':HO} (h:Ms B H (a++(p,o) :: b)):Ms B (upd H p o') (a++(p,o') :: b):=by
 have d:=h.nd;rw [W1,U1] at d;obtain ⟨k,i,j⟩:=List.nodup_append.mp d;have i:=List.nodup_cons.mp i;refine ⟨λ q g=>?_,by rw [W1,U1];exact d,λ q g=>?_⟩
 ·rcases List.mem_append.mp g with z|z
  ·rw [upd_ne (λ e=>j q.1 (z7 z) p R1 e)];exact h.c q (List.mem_append.mpr (.inl z))
  ·rcases List.mem_cons.mp z with z|z
   ·rw [z];exact z03
   ·rw [upd_ne (λ e=>i.1 (by rw [<-e];exact z7 (f:=(·.1)) z))];exact h.c q (List.mem_append.mpr (.inr (O1 _ z)))
 ·rcases List.mem_append.mp g with z|z
  ·exact h.fr q (List.mem_append.mpr (.inl z))
  ·rcases List.mem_cons.mp z with z|z
   ·rw [z];exact h.fr (p,o) (List.mem_append.mpr (.inr R1))
   ·exact h.fr q (List.mem_append.mpr (.inr (O1 _ z)))
theorem Ms.at {B H:Hp} {a b:List (Addr×HO)} {p:Addr} {o:HO} (h:Ms B H (a++(p,o) :: b)):H p=some o:=h.c (p,o) (List.mem_append.mpr (.inr R1))
theorem Ms.frA {B H:Hp} {a b:List (Addr×HO)} {p:Addr} {o:HO} (h:Ms B H (a++(p,o) :: b)):B p=none:=h.fr (p,o) (List.mem_append.mpr (.inr R1))
theorem Ms.perm {B H:Hp} {xs ys:List (Addr×HO)} (h:Ms B H xs) (p:xs.Perm ys):Ms B H ys:=⟨λ q a=>h.c q (p.mem_iff.mpr a),(p.map _).nodup_iff.mp h.nd,λ q a=>h.fr q (p.mem_iff.mpr a)⟩
theorem Ms.sub {B H:Hp} {xs ys:List (Addr×HO)} (h:Ms B H xs) (p:ys.Sublist xs):Ms B H ys:=⟨λ q a=>h.c q (p.subset a),h.nd.sublist (p.map _),λ q a=>h.fr q (p.subset a)⟩
theorem Ms.new {B H:Hp} {xs:List (Addr×HO)} {p:Addr} {o:HO} (h:Ms B H xs) (s:Same B H) (hp:H p=none):Ms B (upd H p o) ((p,o) :: xs):=by
 have b:=h.same (Same.upd (o:=o) hp);refine ⟨λ q a=>?_,List.nodup_cons.mpr ⟨λ z=>?_,h.nd⟩,λ q a=>?_⟩
 ·rcases List.mem_cons.mp a with z|z
  ·rw [z];exact z03
  ·exact b.c q z
 ·obtain ⟨q,a,e⟩:=List.mem_map.mp z;have:=h.c q a;rw [e,hp] at this;cases this
 ·rcases List.mem_cons.mp a with z|z
  ·rw [z];exact s.free hp
  ·exact h.fr q z
theorem Imm.dk {H:Hp} {l:Addr} {o:HO} {xs:List (Key×V)} (e:H l=some (.dK xs)):Imm H (upd H l o):=
 ⟨λ p a q=>by rw [upd_ne (λ z=>by rw [z,e] at q;cases q)];exact q,λ p C b fs q=>by rw [upd_ne (λ z=>by rw [z,e] at q;cases q)];exact q,λ p o u q=>by rw [upd_ne (λ z=>by rw [z,e] at q;cases q)];exact q⟩
theorem nd_sub {α:Type} :∀(ds l:List α),ds.Nodup->(∀d∈ds,d∈l)->ds.length<=l.length
 | [],_,_,_=>A2 _
 | d :: ds,l,a,h=>by
  classical
  have c:=h d R1;have a:=List.nodup_cons.mp a;have:=nd_sub ds (l.erase d) a.2 λ x b=>(j44 (λ e:x=d=>a.1 (by rw [<-e];exact b))).mpr (h x (O1 _ b));rw [List.length_erase_of_mem c] at this;have:=j2j c;rw [X0];omega
def KS (ns:List Key) (kvs:List (Key×V)):Prop:=(kvs.map (·.1)).Nodup/\∀k∈kvs.map (·.1),k∈ns
theorem KS.len {ns:List Key} {kvs:List (Key×V)} (h:KS ns kvs):kvs.length<=ns.length:=by
 have:=nd_sub _ _ h.1 h.2
 rwa [G0] at this
theorem KS.nil {ns:List Key}:KS ns []:=⟨.nil,λ k h=>absurd h K0⟩
theorem KS.put {ns:List Key} {kvs:List (Key×V)} {k:Key} {v:V} (h:KS ns kvs) (hk:k∈ns):KS ns (putK kvs k v):=by
 unfold putK;split
 ·have e:(kvs.map λ f=>if f.1=k then (f.1,v) else f).map (·.1)=kvs.map (·.1):=by rw [B5];refine List.map_congr_left λ x _=>?_;show (if x.1=k then (x.1,v) else x).1=x.1;split<;>rfl
  unfold KS;rw [e];exact h
 ·rename_i z;unfold KS;rw [W1];refine ⟨List.nodup_append.mpr ⟨h.1,by simp,λ a d b c e=>?_⟩,λ x g=>?_⟩
  ·have c:b=k:=List.mem_singleton.mp c;rw [e,c] at d;rw [<-zd0] at d;exact z ((z5u _ _).trans d)
  ·rcases List.mem_append.mp g with y|y
   ·exact h.2 x y
   ·rw [List.mem_singleton.mp y];exact hk
noncomputable def kS:List Key:=[.inr "held",.inr "under",.inr "next",.inr "events",.inr "open",.inr "rounds"]
noncomputable def kD:List Key:=[.inr "verb",.inr "worth",.inr "round",.inr "keeps",.inr "heard",.inr "answer"]
noncomputable def stV (K:j0) (H:Hp):Option Hd->V->V->Prop
 | none,a,b=>a=.non/\b=.non
 | some x,a,b=>∃q,a=.ref q/\SqT K H q [.int x.1.1,.int x.1.2]/\b=.int x.2
theorem stV.imm {K:j0} {H H':Hp} {x:Option Hd} {a b:V} (m:Imm H H') (h:stV K H x a b):stV K H' x a b:=by
 cases x with
 | none=>exact h
 | some x=>exact h.elim λ q z=>⟨q,z.1,m.seqT z.2.1,z.2.2⟩
noncomputable def sideS (b:Bool):Str:=if b=true then "to" else "from"
def LLAt (K:j0) (H:Hp) (l:LL) (y:V):Prop:=∃p a b,y=.ref p/\H p=some (.tup [.int l.copy,.int l.hand,.int l.turn,.str (sideS l.to),a,b])/\stV K H l.x a b
theorem LLAt.imm {K:j0} {H H':Hp} {l:LL} {y:V} (m:Imm H H') (h:LLAt K H l y):LLAt K H' l y:=by obtain ⟨p,a,b,c,e,d⟩:=h;exact ⟨p,a,b,c,m.t _ _ e,d.imm m⟩
structure OE where
 d:Addr
 kvs:List (Key×V)
 l:Option (Addr×List V)
noncomputable def entO:Option OE->List (Addr×HO)
 | none=>[]
 | some x=>(x.d,.dK x.kvs) :: (match x.l with|none=>[]|some y=>[(y.1,.lst y.2)])
noncomputable def oeV:Option OE->V
 | none=>.non
 | some x=>.ref x.d
def OeAt (K:j0) (H:Hp) (D:LD) (y:OE):Prop:=KS kD y.kvs/\valV y.kvs (.inr "verb")=some (.str (vbD D.d))/\valV y.kvs (.inr "worth")=some (wvD D.d)/\(D.keeps=true->valV y.kvs (.inr "answer")=some (avD D.ans))/\
 (D.round≠0->valV y.kvs (.inr "round")=some (.int D.round)/\valV y.kvs (.inr "keeps")=some (.bl D.keeps)/\∃l hs,y.l=some (l,hs)/\valV y.kvs (.inr "heard")=some (.ref l)/\All2 (HdAt K H) D.heard hs)
noncomputable def OeO (K:j0) (H:Hp):Option LD->Option OE->Prop
 | none,none=>True
 | some D,some y=>OeAt K H D y
 | _,_=>False
theorem OeO.imm {K:j0} {H H':Hp} {D:Option LD} {y:Option OE} (m:Imm H H') (h:OeO K H D y):OeO K H' D y:=by
 cases D with
 | none=>cases y with|none=>trivial|some y=>exact h
 | some D=>
  cases y with
  | none=>exact h
  | some y=>obtain ⟨d,a,n,e,f⟩:=h;refine ⟨d,a,n,e,λ z=>?_⟩;obtain ⟨g,i,l,k,b,j,c⟩:=f z;exact ⟨g,i,l,k,b,j,z00 (λ _ _ z=>z.imm m) c⟩
structure La where
 st:Addr
 hd:Addr
 un:Addr
 nx:Addr
 ev:Addr
 op:Addr
structure StO (A:La) (r:Nat) (kvs:List (Key×V)):Prop where
 ks:KS kS kvs
 hd:valV kvs (.inr "held")=some (.ref A.hd)
 un:valV kvs (.inr "under")=some (.ref A.un)
 nx:valV kvs (.inr "next")=some (.ref A.nx)
 ev:valV kvs (.inr "events")=some (.ref A.ev)
 op:valV kvs (.inr "open")=some (.ref A.op)
 rd:valV kvs (.inr "rounds")=some (.int r)
noncomputable def baseO (A:La) (kvs:List (Key×V)) (hv uv nv vv ov:List V):List (Addr×HO):=[(A.st,.dK kvs),(A.hd,.lst hv),(A.un,.lst uv),(A.nx,.lst nv),(A.ev,.lst vv),(A.op,.lst ov)]
noncomputable def natV (ns:List Nat):List V:=ns.map λ (n:Nat)=>V.int (n:Int)
structure Lw (K:j0) (B H:Hp) (A:La) (es:List (Option OE)) (N:LM):Prop where
 ct :∃kvs hv uv vv,StO A N.rounds kvs/\Ms B H (baseO A kvs hv uv (natV N.nxt) vv (es.map oeV)++es.flatMap entO)/\All2 (HdAt K H) N.held hv/\All2 (LLAt K H) N.under uv/\All2 (EvV H) N.events vv
 oe:All2 (OeO K H) N.opn es
theorem Lw.same {K:j0} {B H H':Hp} {A:La} {es:List (Option OE)} {N:LM} (h:Lw K B H A es N) (s:Same H H'):Lw K B H' A es N:=by obtain ⟨c,j,a,d,g,i,b,e,f⟩:=h.ct;have m:=Imm.of s;exact ⟨⟨c,j,a,d,g,i.same s,z00 (λ _ _ z=>z.imm m) b,z00 (λ _ _ z=>z.imm m) e,z00 (λ _ _ z=>z.imm m) f⟩,z00 (λ _ _ z=>OeO.imm m z) h.oe⟩
def PlR (H:Hp) (a:Addr) (pl:List (List (Option Int))):Prop:=∃os,H a=some (.lst os)/\All2 (λ own y=>∃b ys,y=.ref b/\H b=some (.lst ys)/\All2 (DdV H) own ys) pl os
theorem PlR.same {H H':Hp} {a:Addr} {pl:List (List (Option Int))} (s:Same H H') (h:PlR H a pl):PlR H' a pl:=by obtain ⟨e,c,d⟩:=h;exact ⟨e,s _ _ c,z00 (λ _ _ ⟨b,ys,e1,e2,e3⟩=>⟨b,ys,e1,s _ _ e2,z00 (λ _ _ z=>z.imm (Imm.of s)) e3⟩) d⟩
theorem plR_of {H:Hp} {a:Addr} {pl:List (List (Option Int))} (h:HPd H (.list (rowsP pl)) (.ref a)):PlR H a pl:=by
 obtain ⟨n,g,e,i,r⟩:=h;cases e;refine ⟨g,i,?_⟩;clear i;induction pl generalizing g with
 | nil=>have r:g=[]:=r;rw [r];exact .nil
 | cons own pl ih=>
  obtain ⟨x,m,rfl,⟨b,f,rfl,j,c⟩,r⟩:=r;refine .cons ⟨b,f,rfl,j,?_⟩ (ih m r);clear j ih r;induction own generalizing f with
  | nil=>have c:f=[]:=c;rw [c];exact .nil
  | cons d own ih=>obtain ⟨x,l,rfl,k,r⟩:=c;exact .cons (dd_v k) (ih l r)
theorem t_and {t u:TT} {σ:L2.St} {H:Hp} {Q:Bool->Hp->Prop} (h:t σ H λ c H1=>if c=true then u σ H1 Q else Q false H1):tAnd t u σ H Q:=h
theorem pairsC {v:V} {tv:TE} {r:List (TE×TE)} {σ:L2.St} {H:Hp} {Q:List (V×V)->Hp->Prop} (h:tv σ H λ y H2=>tPairs r σ H2 λ ps H3=>Q ((v,y) :: ps) H3):tPairs ((tC v,tv) :: r) σ H Q:=h
theorem z53 {td ty tv:TE} {rest:TS} {D:Ends} {σ:L2.St} {H:Hp} (h:tv σ H λ v H1=>td σ H1 λ x H2=>ty σ H2 λ y H3=>∃a H4,x=.ref a/\DPut H3 a y v H4/\rest D σ H4):tSeq (sDPut td ty tv) rest D σ H:=h
theorem vp_eq {kvs:List (Key×V)} {k:Key} {y:V}:valV (putK kvs k y) k=some y:=by rw [zad,if_pos rfl]
theorem vp_ne {kvs:List (Key×V)} {j k:Key} {y:V} (h:j≠k):valV (putK kvs k y) j=valV kvs j:=by rw [zad,if_neg h]
theorem z94 {α:Type} {n:Nat} {ys:List V} {v:V} {l:List α} (h:All2 (λ (_:Nat) y=>y=v) ((V0 n).filter λ _=>true) ys) (e:l.length=n):ys=l.map λ _=>v:=by have a:=z04 h;rw [List.filter_eq_self.mpr (λ _ _=>rfl),W2] at a;refine V6 (by rw [G0,a,e]) λ i b c=>?_;rw [List.getElem_map];obtain ⟨_,_,z⟩:=z0n h (v0 b);exact z
theorem zj6 {α:Type} (l:List α):(l.map λ _=>(none:Option OE)).flatMap entO=[]:=by
 induction l with
 | nil=>rfl
 | cons x l ih=>exact ih
theorem zko {α:Type} {K:j0} {H:Hp} (l:List α):All2 (OeO K H) (l.map λ _=>none) (l.map λ _=>none):=by
 induction l with
 | nil=>exact .nil
 | cons x l ih=>exact .cons trivial ih
def z32 (K:j0):Sp:=λ vs H Q _=>∃(m:Nat) (a:Addr) (os:List V) (pl:List (List (Option Int))),vs=[.int m,.ref a]/\m<=5/\H a=some (.lst os)/\os.length=pl.length/\pl.length<=6/\∀A H',Same H H'->Lw K H H' A (pl.map λ _=>none) (LM.init m pl)->Q (.ref A.st) H'
theorem z8p (T:TX (kx w) mg):Fo P w mg base CX0 1 425 y0x ["many","plan"] (z32 (kx w)):=by
 refine (z3l w.params).ok sc__law_begun (λ vs H Q E h=>?_) (λ b6 A b7 s H vs Q E hr h=>?_)
 ·obtain ⟨m,a,os,u,rfl,_⟩:=h;rfl
 ·obtain ⟨m,a,os,u,rfl,m5,ea,lo,l6,q⟩:=h;refine ⟨_,(z02 (ps_set (i:=2) sc__law_begun.nd rfl (N1 rfl) (zi8 (z4q pe_str (pe_cg (xs:=["copy"]) (g:=gName 0) (fr:=[]) (z1d rfl (T.no (z3c _)) (z01 (pv 0) pa_nil)) (λ _ _ _ _ _=>(pg_cn (N:=["copy"]) 0)) (λ _ _ _ _ _=>pf_nil) (λ _ _ _ _ _=>(pe_tup (z01 (pe_tup (z01 pe_int (z01 (pe_un un_neg pe_int) pa_nil))) (z01 pe_int pa_nil))))) (z4q pe_str (pe_lst pa_nil) (z4q pe_str (pe_cg (xs:=["row"]) (g:=gName 0) (fr:=[]) (z14 (pv 1)) (λ _ _ _ _ _=>(pg_cn (N:=["row"]) 0)) (λ _ _ _ _ _=>pf_nil) (λ _ _ _ _ _=>pe_int)) (z4q pe_str (pe_lst pa_nil) zhu)))) rfl rfl (by simp) (by decide)))
   (z02 (z42 (hu_of hr) (pv 2) pe_str (pe_cg (xs:=["row"]) (g:=gName 0) (fr:=[]) (z14 (pv 1)) (λ _ _ _ _ _=>(pg_cn (N:=["row"]) 0)) (λ _ _ _ _ _=>pf_nil) (λ _ _ _ _ _=>pe_non)) rfl)
   (z02 (z42 (hu_of hr) (pv 2) pe_str pe_int rfl)
   (z05 (ps_ret (pv 2)))))),?_⟩
  refine z0c ?_;intro p G;have M0:Ms H H []:=⟨λ _ h=>absurd h K0,.nil,λ _ h=>absurd h K0⟩
  have M1:=M0.new (o:=.dK []) (Same.refl _) G;have s1:=Same.upd (o:=.dK []) G;generalize upd H p (.dK [])=H1 at M1 s1⊢;refine pairsC ?_;refine z9o (S:=Same) (n:=m) (λ _=>true) (λ _ y H'=>HdAt (kx w) H' ((0,-1),0) y) (Same.refl _) (λ _ _ _ a b=>a.trans b) (λ _ _=>Same.refl _) (λ _ _ _ _ s z=>z.imm (Imm.of s)) (λ R h=>⟨_,rfl,h⟩) (L0 (m:=5) m5 (by decide)) (λ k hk H7 s7 KT KF t C=>?_) λ e H2 B s2 a1 D=>?_
  ·refine ⟨[some (.int (k:Nat))],rfl,rfl,iteT ?_⟩;refine ⟨1,rfl,w_2,λ p1 b1=>⟨w_2,λ p2 b4=>?_⟩⟩;have t1:=Same.upd (o:=.tup [.int 0,.int (-1)]) b1;have t2:=Same.upd (o:=.tup [.ref p1,.int 0]) b4;exact t rfl _ _ (t1.trans t2) ⟨p2,p1,rfl,SqT.of z03,SqT.of (t2 _ _ z03)⟩
  rw [List.filter_eq_self.mpr (λ _ _=>rfl)] at D;have M2:=(M1.same s2).new (o:=.lst B) (s1.trans s2) a1;have Z:=(s1.trans s2).trans (Same.upd (o:=.lst B) a1);have D:=z00 (λ _ _ z=>HdAt.imm (Imm.of (Same.upd (o:=.lst B) a1)) z) D;generalize upd H2 e (.lst B)=H3 at M2 Z D⊢;refine pairsC ⟨w_0,λ r a7=>?_⟩;have M4:=M2.new (o:=.lst []) Z a7;have Y:=Same.upd (o:=.lst []) a7;generalize upd H3 r (.lst [])=H4 at M4 Y⊢;have s4:=Z.trans Y;refine pairsC ?_;refine z2b (K:=KX w.params) (a:=a) (xs:=os) (H1:=H4) (λ _=>true) (λ _ y _=>y=.int 0) (λ _ _ _ _ _ z=>z) (λ R h=>⟨_,rfl,h⟩) (SqL.of (s4 _ _ ea)) (L0 (m:=6) (by omega) (by decide)) (λ i hi v H9 F B KT KF t C=>⟨[some v],rfl,rfl,iteT (t rfl _ _ (Same.refl _) rfl)⟩) λ f H5 I s5 a4 fn=>?_;have M6:=(M4.same s5).new (o:=.lst I) (s4.trans s5) a4;have W:=s5.trans (Same.upd (o:=.lst I) a4);generalize upd H5 f (.lst I)=H6 at M6 W⊢;have s6:=s4.trans W;refine pairsC ⟨w_0,λ le a2=>?_⟩;have J:=M6.new (o:=.lst []) s6 a2;have t7:=Same.upd (o:=.lst []) a2;generalize upd H6 le (.lst [])=H7 at J t7⊢;have s7:=s6.trans t7;refine ⟨J.c (p,.dK []) (by simp),[(.inr "held",.ref e),(.inr "under",.ref r),(.inr "next",.ref f),(.inr "events",.ref le)],rfl,(show (4:Nat)<=15 by decide),?_⟩;have M8:=Ms.set (a:=[_,_,_,_]) (o':=.dK (mergeK [] [(.inr "held",.ref e),(.inr "under",.ref r),(.inr "next",.ref f),(.inr "events",.ref le)])) J;have U:=Same.keep (o:=.dK (mergeK [] [(.inr "held",.ref e),(.inr "under",.ref r),(.inr "next",.ref f),(.inr "events",.ref le)])) s7 G;have m8:=Imm.dk (o:=.dK (mergeK [] [(.inr "held",.ref e),(.inr "under",.ref r),(.inr "next",.ref f),(.inr "events",.ref le)])) (J.c (p,.dK []) (by simp));have a3:=(Imm.of ((Y.trans W).trans t7)).trans m8;generalize upd H7 p (.dK (mergeK [] [(.inr "held",.ref e),(.inr "under",.ref r),(.inr "next",.ref f),(.inr "events",.ref le)]))=H8 at M8 U a3⊢;refine g_name ?_;refine z53 ?_;refine z2b (K:=KX w.params) (a:=a) (xs:=os) (H1:=H8) (λ _=>true) (λ _ y _=>y=.non) (λ _ _ _ _ _ z=>z) (λ R h=>⟨_,rfl,h⟩) (SqL.of (U _ _ ea)) (L0 (m:=6) (by omega) (by decide)) (λ i hi v H9 F B KT KF t C=>⟨[some v],rfl,rfl,iteT (t rfl _ _ (Same.refl _) rfl)⟩) λ d H9 L F a5 fo=>?_;have O:=(M8.same F).new (o:=.lst L) (U.trans F) a5;have t9:=F.trans (Same.upd (o:=.lst L) a5);generalize upd H9 d (.lst L)=H10 at O t9⊢;have b2:=U.trans t9;have a0:=O.c (p,.dK (mergeK [] [(.inr "held",.ref e),(.inr "under",.ref r),(.inr "next",.ref f),(.inr "events",.ref le)])) (by simp);refine ⟨_,rfl,p,_,rfl,DPut.k (k:=.inr "open") a0 (W0 (z45 [] _) (show (4:Nat) < sizeLine by decide)),?_⟩;generalize hk0:mergeK [] [(.inr "held",.ref e),(.inr "under",.ref r),(.inr "next",.ref f),(.inr "events",.ref le)]=k0 at O a0⊢;have l0:k0.length<=4:=by rw [<-hk0];exact z45 [] _
  have X:=Ms.set (a:=[_,_,_,_,_]) (o':=.dK (putK k0 (.inr "open") (.ref d))) O;have a8:=Same.keep (o:=.dK (putK k0 (.inr "open") (.ref d))) b2 G;have b0:=Imm.dk (o:=.dK (putK k0 (.inr "open") (.ref d))) a0;generalize upd H10 p (.dK (putK k0 (.inr "open") (.ref d)))=H11 at X a8 b0⊢;have a9:=X.c (p,.dK (putK k0 (.inr "open") (.ref d))) (by simp);have l1:(putK k0 (.inr "open") (.ref d)).length<=5:=L0 (z23 _ _ _) (by omega);refine z53 ⟨_,rfl,p,_,rfl,DPut.k (k:=.inr "rounds") a9 (W0 l1 (by decide)),?_⟩;have a6:=Ms.set (a:=[_,_,_,_,_]) (o':=.dK (putK (putK k0 (.inr "open") (.ref d)) (.inr "rounds") (.int 0))) X;have b3:=Same.keep (o:=.dK (putK (putK k0 (.inr "open") (.ref d)) (.inr "rounds") (.int 0))) a8 G;have b5:=Imm.dk (o:=.dK (putK (putK k0 (.inr "open") (.ref d)) (.inr "rounds") (.int 0))) a9;have mm:=((a3.trans (Imm.of t9)).trans b0).trans b5;refine sq_ret ⟨_,rfl,q ⟨p,e,r,f,le,d⟩ _ b3 ⟨⟨putK (putK k0 (.inr "open") (.ref d)) (.inr "rounds") (.int 0),B,[],[],?_,?_,?_,.nil,.nil⟩,?_⟩⟩
  ·have M :∀{j:Key} {v:V},j≠.inr "open"->j≠.inr "rounds"->valV k0 j=some v->valV (putK (putK k0 (.inr "open") (.ref d)) (.inr "rounds") (.int 0)) j=some v:=λ t C h3=>(vp_ne C).trans ((vp_ne t).trans h3);obtain rfl:k0=putK (putK (putK (putK [] (.inr "held") (.ref e)) (.inr "under") (.ref r)) (.inr "next") (.ref f)) (.inr "events") (.ref le):=hk0.symm;exact ⟨(((((KS.nil.put (by simp [kS])).put (by simp [kS])).put (by simp [kS])).put (by simp [kS])).put (by simp [kS])).put (by simp [kS]),M (by decide +kernel) (by decide +kernel) ((vp_ne (by decide +kernel)).trans ((vp_ne (by decide +kernel)).trans ((vp_ne (by decide +kernel)).trans vp_eq))),M (by decide +kernel) (by decide +kernel) ((vp_ne (by decide +kernel)).trans ((vp_ne (by decide +kernel)).trans vp_eq)),M (by decide +kernel) (by decide +kernel) ((vp_ne (by decide +kernel)).trans vp_eq),M (by decide +kernel) (by decide +kernel) vp_eq,(vp_ne (by decide +kernel)).trans vp_eq,vp_eq⟩
  ·have e1:I=natV (u.map λ _=>0):=by rw [z94 (l:=u) fn lo.symm];unfold natV;rw [B5];rfl
   have e2:L=(u.map λ _=>none).map oeV:=by rw [z94 (l:=u) fo lo.symm,B5];rfl
   rw [zj6,C3];rw [e1,e2] at a6;exact a6.perm (List.reverse_perm _).symm
  ·refine z20 (by rw [z04 D,W2];exact List.length_replicate.symm) λ i x y t C=>?_;obtain ⟨_,_,z⟩:=z0n D C;have hx:=A1 t;rw [(List.mem_replicate.mp hx).2];exact z.imm mm
  ·show All2 _ (u.map λ _=>none) (u.map λ _=>none);exact zko u
def z1p (K:j0):Sp:=λ vs H Q _=>∃(A:La) (a:Addr) (B:Hp) (es:List (Option OE)) (N:LM) (pl:List (List (Option Int))),vs=[.ref A.st,.ref a]/\Lw K B H A es N/\PlR H a pl/\pl.length<=6/\N.opn.length=pl.length/\N.nxt.length=pl.length/\∀l H',Same H H'->H l=none->H' l=some (.lst (natV (N.free pl)))->Q (.ref l) H'
theorem zba (T:TX (kx w) mg):Fo P w mg base CX0 1 430 y15 ["state","plan"] (z1p (kx w)):=by
 refine (z4p w.params).ok zb0 (λ vs H Q E h=>?_) (λ a2 A a3 s H vs Q E O h=>?_)
 ·obtain ⟨m,a,B,t,N,c,rfl,_⟩:=h;rfl
 ·obtain ⟨d,a,B,t,N,c,rfl,r,⟨v,F,I⟩,l6,ol,nl,q⟩:=h;refine ⟨_,(z05 (ps_ret (zf6 (xs:=["hand"]) (g:=gName 0) (fr:=[(0,"state"),(1,"plan")]) rfl (z1d rfl (T.no (z3c _)) (z01 (z06 (z27 (K:=KX w.params) rfl) rfl (T.no (n_len _)) C2 (z01 (pv 1) pa_nil)) pa_nil)) (by intro p i;simp only [D3,K0,or_false] at i;rcases i with rfl|rfl<;>first|exact ⟨rfl,.inl rfl⟩|exact ⟨rfl,.inr rfl⟩) (zk5 (ns:=["state","plan"]) (by decide +kernel) (by intro n C k;simp only [D3,K0,or_false] at C;rcases C with rfl|rfl<;>first|exact .inl rfl|exact .inr rfl)) (by intro p i;simp only [D3,K0,or_false] at i;rcases i with rfl|rfl<;>exact ⟨by decide +kernel,by first|exact .inl rfl|exact .inr rfl⟩) (by decide +kernel) rfl (by decide +kernel) (λ _ _ _ _ _=>(pg_cn (N:=["hand","state","plan"]) 0)) (λ _ _ _ _ _=>(pf_one (PW.pt (pw_and (z0a op_isN (pe_ix (z73 (K:=KX w.params) rfl) (z0d (hu_of O) (pv 1) pe_str (λ _ _=>rfl)) (pv 0) (λ _ _=>rfl)) pe_non (nomark _)) (z6k (z0a op_lt (pe_ix (z73 (K:=KX w.params) rfl) (z0d (hu_of O) (pv 1) pe_str (λ _ _=>rfl)) (pv 0) (λ _ _=>rfl)) (z06 (z27 (K:=KX w.params) rfl) rfl (T.no (n_len _)) C2 (z01 (pe_ix (z73 (K:=KX w.params) rfl) (pv 2) (pv 0) (λ _ _=>rfl)) pa_nil)) (nomark _))))))) (λ _ _ _ _ _=>(pv 0))))),?_⟩;obtain ⟨X,hv,uv,vv,W,x,c2,c3,c4⟩:=r.ct;have M:H d.st=some (.dK X):=x.at (a:=[]);have Z:H d.nx=some (.lst (natV N.nxt)):=x.at (a:=[_,_,_]);have a1:H d.op=some (.lst (t.map oeV)):=x.at (a:=[_,_,_,_,_]);have Y:v.length=c.length:=z04 I;have le:t.length=N.opn.length:=z04 r.oe;refine sq_ret ?_;refine z9o (S:=Same) (n:=v.length) (N.fre c) (λ k y _=>y=.int (k:Nat)) (Same.refl _) (λ _ _ _ a b=>a.trans b) (λ _ _=>Same.refl _) (λ _ _ _ _ _ z=>z) (λ R h=>⟨_,rfl,.inl ⟨a,v,rfl,.inl (SqL.of F),h⟩⟩) (L0 (m:=6) (by omega) (by decide)) (λ k hk H7 e KT KF u l=>?_) λ l7 H7 us e G fa=>?_
  ·have ko:k < N.opn.length:=by omega
   have kn:k < N.nxt.length:=by omega
   have L:N.opn[k]? = some N.opn[k]:=v0 ko;have J:N.nxt[k]? = some N.nxt[k]:=v0 kn;obtain ⟨j,a0,o⟩:=z0q r.oe L;obtain ⟨y,hy,b,U,rfl,eb,ad⟩:=z0q I (v0 (show k < c.length by omega));have hP:c[k]? = some c[k]:=v0 (show k < c.length by omega);have fre:N.fre c k=((N.opn[k]).isNone && decide (N.nxt[k] < (c[k]).length)):=by unfold LM.fre;rw [L,J,hP];rfl
   rw [fre] at u l;refine ⟨[some (.int (k:Nat))],rfl,rfl,t_and ?_⟩;refine ⟨_,rfl,d.st,.ref d.op,rfl,(by rw [<-W.op];exact DGet.k (k:=.inr "open") (e _ _ M)),?_⟩;refine ⟨_,rfl,.inl ⟨d.op,_,k,oeV j,rfl,rfl,SqL.of (e _ _ a1),z09 (by rw [R0,a0];rfl),rfl,_,rfl,?_⟩⟩;cases hoo:N.opn[k] with
   | some D=>
    rw [hoo] at o l;cases j with
    | none=>exact o.elim
    | some j=>exact iteN (by simp [oeV]) (iteF (l rfl _ (Same.refl _)))
   | none=>
    rw [hoo] at o u l;cases j with
    | some j=>exact o.elim
    | none=>
    refine iteP (decide_eq_true rfl) ?_;refine ⟨_,rfl,d.st,.ref d.nx,rfl,(by rw [<-W.nx];exact DGet.k (k:=.inr "next") (e _ _ M)),?_⟩;refine ⟨_,rfl,.inl ⟨d.nx,_,k,.int (N.nxt[k]:Nat),rfl,rfl,SqL.of (e _ _ Z),z09 (by unfold natV;rw [R0,J];rfl),?_⟩⟩;refine ⟨_,rfl,_,rfl,.inl ⟨a,_,k,.ref b,rfl,rfl,SqL.of (e _ _ F),z09 hy,.inl ⟨b,U,rfl,.inl (SqL.of (e _ _ eb)),_,_,rfl,rfl,_,rfl,?_⟩⟩⟩;have ly:U.length=(c[k]).length:=z04 ad;by_cases z:N.nxt[k] < (c[k]).length
    ·exact iteP (decide_eq_true (by omega)) ⟨_,rfl,u (by rw [decide_eq_true z];rfl) _ _ (Same.refl _) rfl⟩
    ·exact iteN (λ y=>z (by have:=of_decide_eq_true y;omega)) (l (by rw [decide_eq_false z];rfl) _ (Same.refl _))
  ·have e1:us=natV (N.free c):=by unfold LM.free natV;rw [<-Y];exact z1l (f:=λ (k:Nat)=>V.int (k:Nat)) fa
   rw [e1];exact q l7 _ (e.trans (Same.upd G)) (e.free G) z03
theorem StO.ghd {H:Hp} {A:La} {r:Nat} {kvs:List (Key×V)} (c:StO A r kvs) (e:H A.st=some (.dK kvs)):DGet H A.st (.str "held") (some (.ref A.hd)):=c.hd ▸ DGet.k (k:=.inr "held") e
theorem StO.gun {H:Hp} {A:La} {r:Nat} {kvs:List (Key×V)} (c:StO A r kvs) (e:H A.st=some (.dK kvs)):DGet H A.st (.str "under") (some (.ref A.un)):=c.un ▸ DGet.k (k:=.inr "under") e
theorem StO.gnx {H:Hp} {A:La} {r:Nat} {kvs:List (Key×V)} (c:StO A r kvs) (e:H A.st=some (.dK kvs)):DGet H A.st (.str "next") (some (.ref A.nx)):=c.nx ▸ DGet.k (k:=.inr "next") e
theorem StO.gev {H:Hp} {A:La} {r:Nat} {kvs:List (Key×V)} (c:StO A r kvs) (e:H A.st=some (.dK kvs)):DGet H A.st (.str "events") (some (.ref A.ev)):=c.ev ▸ DGet.k (k:=.inr "events") e
theorem StO.gop {H:Hp} {A:La} {r:Nat} {kvs:List (Key×V)} (c:StO A r kvs) (e:H A.st=some (.dK kvs)):DGet H A.st (.str "open") (some (.ref A.op)):=c.op ▸ DGet.k (k:=.inr "open") e
theorem StO.grd {H:Hp} {A:La} {r:Nat} {kvs:List (Key×V)} (c:StO A r kvs) (e:H A.st=some (.dK kvs)):DGet H A.st (.str "rounds") (some (.int r)):=c.rd ▸ DGet.k (k:=.inr "rounds") e
theorem StO.put {A:La} {r r':Nat} {kvs:List (Key×V)} (c:StO A r kvs):StO A r' (putK kvs (.inr "rounds") (.int r')):=⟨c.ks.put (by simp [kS]),(vp_ne (by decide +kernel)).trans c.hd,(vp_ne (by decide +kernel)).trans c.un,(vp_ne (by decide +kernel)).trans c.nx,(vp_ne (by decide +kernel)).trans c.ev,(vp_ne (by decide +kernel)).trans c.op,vp_eq⟩
theorem z28 :∀{es:List (Option OE)} {j:Nat} {x:Option OE} (x':Option OE),es[j]? = some x->(es.set j x').flatMap entO=(es.take j).flatMap entO++(entO x'++(es.drop (j + 1)).flatMap entO)
 | [],_,_,_,h=>by cases h
 | e :: es,0,x,x',_=>by simp
 | e :: es,j + 1,x,x',h=>by have:=z28 (es:=es) (j:=j) x' h;rw [List.set_cons_succ,List.flatMap_cons,this,List.take_succ_cons,List.flatMap_cons,List.drop_succ_cons,D2]
theorem z68 {α:Type} {l:List α} {i:Nat} {x:α} (h:l[i]? = some x):l.set i x=l:=by obtain ⟨a,rfl⟩:=List.getElem?_eq_some_iff.mp h;exact List.set_getElem_self a
theorem z65 {es:List (Option OE)} {j:Nat} {x:Option OE} (h:es[j]? = some x):es.flatMap entO=(es.take j).flatMap entO++(entO x++(es.drop (j + 1)).flatMap entO):=by
 have:=z28 x h
 rwa [z68 h] at this
theorem map_set {es:List (Option OE)} {j:Nat} {x:Option OE}:(es.set j x).map oeV=(es.map oeV).set j (oeV x):=S9
theorem Lw.setU {K:j0} {B H:Hp} {A:La} {es:List (Option OE)} {N:LM} {us:List LL} {uv':List V} (h:Lw K B H A es N) (a :∀H',Imm H H'->All2 (LLAt K H') us uv'):Lw K B (upd H A.un (.lst uv')) A es { N with under:=us }:=by obtain ⟨d,i,j,e,g,b,c,k,f⟩:=h.ct;have m:Imm H (upd H A.un (.lst uv')):=Imm.lst (b.at (a:=[_,_]));exact ⟨⟨d,i,uv',e,g,b.set (a:=[_,_]),z00 (λ _ _ z=>z.imm m) c,a _ m,z00 (λ _ _ z=>z.imm m) f⟩,z00 (λ _ _ z=>OeO.imm m z) h.oe⟩
theorem Lw.setV {K:j0} {B H:Hp} {A:La} {es:List (Option OE)} {N:LM} {us:List CEv} {uv':List V} (h:Lw K B H A es N) (a :∀H',Imm H H'->All2 (EvV H') us uv'):Lw K B (upd H A.ev (.lst uv')) A es { N with events:=us }:=by obtain ⟨e,i,c,j,g,b,d,f,k⟩:=h.ct;have m:Imm H (upd H A.ev (.lst uv')):=Imm.lst (b.at (a:=[_,_,_,_]));exact ⟨⟨e,i,c,uv',g,b.set (a:=[_,_,_,_]),z00 (λ _ _ z=>z.imm m) d,z00 (λ _ _ z=>z.imm m) f,a _ m⟩,z00 (λ _ _ z=>OeO.imm m z) h.oe⟩
theorem Lw.setS {K:j0} {B H:Hp} {A:La} {es:List (Option OE)} {N:LM} {us:List Hd} {uv':List V} (h:Lw K B H A es N) (a :∀H',Imm H H'->All2 (HdAt K H') us uv'):Lw K B (upd H A.hd (.lst uv')) A es { N with held:=us }:=by obtain ⟨d,k,c,e,i,b,j,f,g⟩:=h.ct;have m:Imm H (upd H A.hd (.lst uv')):=Imm.lst (b.at (a:=[_]));exact ⟨⟨d,uv',c,e,i,b.set (a:=[_]),a _ m,z00 (λ _ _ z=>z.imm m) f,z00 (λ _ _ z=>z.imm m) g⟩,z00 (λ _ _ z=>OeO.imm m z) h.oe⟩
theorem Lw.setN {K:j0} {B H:Hp} {A:La} {es:List (Option OE)} {N:LM} {us:List Nat} {uv':List V} (h:Lw K B H A es N) (a:uv'=natV us):Lw K B (upd H A.nx (.lst uv')) A es { N with nxt:=us }:=by subst a;obtain ⟨e,k,c,f,j,b,d,g,i⟩:=h.ct;have m:Imm H (upd H A.nx (.lst (natV us))):=Imm.lst (b.at (a:=[_,_,_]));exact ⟨⟨e,k,c,f,j,b.set (a:=[_,_,_]),z00 (λ _ _ z=>z.imm m) d,z00 (λ _ _ z=>z.imm m) g,z00 (λ _ _ z=>z.imm m) i⟩,z00 (λ _ _ z=>OeO.imm m z) h.oe⟩
theorem Lw.setR {K:j0} {B H:Hp} {A:La} {es:List (Option OE)} {N:LM} {r:Nat} {kvs:List (Key×V)} (h:Lw K B H A es N) (e:H A.st=some (.dK kvs)):Lw K B (upd H A.st (.dK (putK kvs (.inr "rounds") (.int r)))) A es { N with rounds:=r }:=by obtain ⟨i,n,d,g,l,c,f,j,k⟩:=h.ct;have b:H A.st=some (.dK i):=c.at (a:=[]);rw [e] at b;cases b;have m:Imm H (upd H A.st (.dK (putK kvs (.inr "rounds") (.int r)))):=Imm.dk e;exact ⟨⟨_,n,d,g,l.put,c.set (a:=[]),z00 (λ _ _ z=>z.imm m) f,z00 (λ _ _ z=>z.imm m) j,z00 (λ _ _ z=>z.imm m) k⟩,z00 (λ _ _ z=>OeO.imm m z) h.oe⟩
theorem z3r {α β:Type} {R:α->β->Prop} :∀{xs:List α} {ys:List β} (i:Nat) {x:α} {y:β},All2 R xs ys->R x y->All2 R (xs.set i x) (ys.set i y)
 | _,_,_,_,_,.nil,_=>.nil
 | _,_,0,_,_,.cons _ r,h=>.cons h r
 | _,_,i + 1,_,_,.cons a r,h=>.cons a (z3r i r h)
theorem Lw.setD {K:j0} {B H:Hp} {A:La} {es:List (Option OE)} {N:LM} {h:Nat} {y:OE} {D':LD} {kvs':List (Key×V)} (lw:Lw K B H A es N) (hy:es[h]? = some (some y)) (a :∀H',Imm H H'->OeAt K H' D' { y with kvs:=kvs' }):Lw K B (upd H y.d (.dK kvs')) A (es.set h (some { y with kvs:=kvs' })) { N with opn:=N.opn.set h (some D') }/\H y.d=some (.dK y.kvs)/\B y.d=none:=by
 obtain ⟨kvs,i,c,f,o,g,j,k,n⟩:=lw.ct;rw [z65 hy] at g;have b:Ms B H ((baseO A kvs i c (natV N.nxt) f (es.map oeV)++(es.take h).flatMap entO)++(y.d,.dK y.kvs) :: ((match y.l with|none=>[]|some y=>[(y.1,HO.lst y.2)])++(es.drop (h + 1)).flatMap entO)):=by rw [D2];exact g
 have m:Imm H (upd H y.d (.dK kvs')):=Imm.dk b.at;refine ⟨⟨⟨kvs,i,c,f,o,?_,z00 (λ _ _ z=>z.imm m) j,z00 (λ _ _ z=>z.imm m) k,z00 (λ _ _ z=>z.imm m) n⟩,z3r h (z00 (λ _ _ z=>OeO.imm m z) lw.oe) (show OeO K _ (some D') (some _) from a _ m)⟩,b.at,b.frA⟩;have:=b.set (o':=.dK kvs');rw [z28 _ hy,map_set];rw [D2] at this;have e:(es.map oeV).set h (oeV (some { y with kvs:=kvs' }))=es.map oeV:=by refine z68 ?_;rw [R0,hy];rfl
 rw [e];exact this
theorem Lw.setL {K:j0} {B H:Hp} {A:La} {es:List (Option OE)} {N:LM} {h:Nat} {y:OE} {D':LD} {kvs':List (Key×V)} {l:Addr} (lw:Lw K B H A es N) (hy:es[h]? = some (some y)) (hl:H l=none) (s:Same B H) (a :∀H',OeAt K H' D' ⟨y.d,kvs',some (l,[])⟩):Lw K B (upd (upd H l (.lst [])) y.d (.dK kvs')) A (es.set h (some ⟨y.d,kvs',some (l,[])⟩)) { N with opn:=N.opn.set h (some D') }:=by
 obtain ⟨c,g,b,f,u,i,k,q,r⟩:=lw.ct;rw [z65 hy] at i;have t:=Same.upd (o:=.lst []) hl;have p:=i.new (o:=.lst []) s hl;have j:Ms B (upd H l (.lst [])) (((l,.lst []) :: (baseO A c g b (natV N.nxt) f (es.map oeV)++(es.take h).flatMap entO))++(y.d,.dK y.kvs) :: ((match y.l with|none=>[]|some y=>[(y.1,HO.lst y.2)])++(es.drop (h + 1)).flatMap entO)):=by rw [List.cons_append,D2];exact p
 have m:Imm H (upd (upd H l (.lst [])) y.d (.dK kvs')):=(Imm.of t).trans (Imm.dk j.at);refine ⟨⟨c,g,b,f,u,?_,z00 (λ _ _ z=>z.imm m) k,z00 (λ _ _ z=>z.imm m) q,z00 (λ _ _ z=>z.imm m) r⟩,z3r h (z00 (λ _ _ z=>OeO.imm m z) lw.oe) (show OeO K _ (some D') (some _) from a _)⟩;have:=j.set (o':=.dK kvs');rw [z28 _ hy,map_set];have e:(es.map oeV).set h (oeV (some ⟨y.d,kvs',some (l,[])⟩))=es.map oeV:=by refine z68 ?_;rw [R0,hy];rfl
 rw [e];generalize baseO A c g b (natV N.nxt) f (es.map oeV)=b0 at this⊢;generalize (es.take h).flatMap entO=e1 at this⊢;generalize (es.drop (h + 1)).flatMap entO=e2 at this⊢;refine (this.sub (ys:=((l,.lst []) :: (b0++e1))++(y.d,.dK kvs') :: e2) ?_).perm ?_
 ·exact p8 (R8 _) (List.Sublist.cons₂ _ (j1h _ _))
 ·show List.Perm ((l,HO.lst []) :: ((b0++e1)++(y.d,HO.dK kvs') :: e2)) (b0++(e1++(y.d,HO.dK kvs') :: (l,HO.lst []) :: e2));have n:b0++(e1++(y.d,HO.dK kvs') :: (l,HO.lst []) :: e2)=((b0++e1)++[(y.d,HO.dK kvs')])++(l,HO.lst []) :: e2:=by simp
  have v:(b0++e1)++(y.d,HO.dK kvs') :: e2=((b0++e1)++[(y.d,HO.dK kvs')])++e2:=by simp
  rw [n,v];exact List.perm_middle.symm
theorem Lw.setO {K:j0} {B H:Hp} {A:La} {es:List (Option OE)} {N:LM} {h:Nat} {y:Option OE} (lw:Lw K B H A es N) (hy:es[h]? = some y):Lw K B (upd H A.op (.lst ((es.map oeV).set h .non))) A (es.set h none) { N with opn:=N.opn.set h none }:=by obtain ⟨c,f,b,d,k,e,g,i,j⟩:=lw.ct;have m:Imm H (upd H A.op (.lst ((es.map oeV).set h .non))):=Imm.lst (e.at (a:=[_,_,_,_,_]));refine ⟨⟨c,f,b,d,k,?_,z00 (λ _ _ z=>z.imm m) g,z00 (λ _ _ z=>z.imm m) i,z00 (λ _ _ z=>z.imm m) j⟩,z3r h (z00 (λ _ _ z=>OeO.imm m z) lw.oe) trivial⟩;have:Ms B _ (baseO A c f b (natV N.nxt) d ((es.map oeV).set h .non)++es.flatMap entO):=e.set (a:=[_,_,_,_,_]) (o':=.lst ((es.map oeV).set h .non));rw [z28 _ hy,map_set];rw [z65 hy] at this;refine Ms.sub this ?_;refine p8 (R8 _) ?_;exact p8 (R8 _) (j1h _ _)
theorem upd4 {H:Hp} {a l:Addr} {o1 o2 o3 o4:HO}:upd (upd (upd (upd H a o1) a o2) l o3) a o4=upd (upd H l o3) a o4:=by
 funext p;by_cases z:p=a
 ·rw [z,z03,z03]
 ·rw [upd_ne z,upd_ne z];by_cases y:p=l
  ·rw [y,z03,z03]
  ·rw [upd_ne y,upd_ne y,upd_ne z,upd_ne z]
theorem Lw.nest {K:j0} {B H:Hp} {A:La} {es:List (Option OE)} {N:LM} {h:Nat} {y:OE} (lw:Lw K B H A es N) (hy:es[h]? = some (some y)):A.st≠y.d/\H y.d=some (.dK y.kvs)/\B y.d=none:=by obtain ⟨kvs,j,g,i,n,a,k,l,m⟩:=lw.ct;have f:(y.d,HO.dK y.kvs)∈es.flatMap entO:=List.mem_flatMap.mpr ⟨some y,A1 hy,R1⟩;have e:(y.d,HO.dK y.kvs)∈baseO A kvs j g (natV N.nxt) i (es.map oeV)++es.flatMap entO:=List.mem_append.mpr (.inr f);refine ⟨λ z=>?_,a.c _ e,a.fr _ e⟩;have b:=a.nd;rw [W1] at b;exact (List.nodup_append.mp b).2.2 A.st (by simp [baseO]) y.d (List.mem_map.mpr ⟨_,f,rfl⟩) z
theorem up1 {H:Hp} {a p:Addr} {o q:HO} (n:p≠a) (e:H p=some q):upd H a o p=some q:=(upd_ne n).trans e
theorem zio {K:j0} {H:Hp} {x:Option Hd} {a b:V} (h:stV K H x a b):(!decide (a=V.non))=x.isSome:=by
 cases x with
 | none=>rw [h.1];rfl
 | some x=>obtain ⟨q,rfl,_⟩:=h;rfl
def z3j (K:j0):Sp:=λ vs H Q _=>∃(A:La) (h:Nat) (sv wv:V) (B:Hp) (es:List (Option OE)) (N:LM) (D:LD) (y:OE) (x:Option Hd),vs=[.ref A.st,.int h,sv,wv]/\Lw K B H A es N/\N.opn[h]? = some (some D)/\es[h]? = some (some y)/\stV K H x sv wv/\(x.isSome=true->valV y.kvs (.inr "answer")=some (avD D.ans))/\N.under.length<=10000/\N.held.length<=5/\Same B H/\
 ∀es' H',Same B H'->Lw K B H' A es' (N.sent h D x)->Q .non H'
theorem za7 (T:TX (kx w) mg):Fo P w mg base CX0 1 437 y16 ["state","hand","stamp","worth"] (z3j (kx w)):=by
 refine (z4m w.params).ok sc__law_sent (λ vs H Q E h=>?_) (λ b9 A c6 s H vs Q E f h=>?_)
 ·obtain ⟨A,h,K,I,B,W,N,D,y,x,rfl,_⟩:=h;rfl
 ·obtain ⟨b,h,K,I,B,W,N,D,y,x,rfl,lw,hD,hy,sx,ha,ul,c5,sB,q⟩:=h;refine ⟨_,(z02 (z42 (hu_of f) (pv 0) pe_str (pe_op opAdd (z0d (hu_of f) (pv 0) pe_str (λ _ _=>rfl)) pe_int) rfl)
   (z02 (z42 (hu_of f) (pe_ix ix_seq (z0d (hu_of f) (pv 0) pe_str (λ _ _=>rfl)) (pv 1) (λ _ _=>rfl)) pe_str (z0d (hu_of f) (pv 0) pe_str (λ _ _=>rfl)) rfl)
   (z02 (z42 (hu_of f) (pe_ix ix_seq (z0d (hu_of f) (pv 0) pe_str (λ _ _=>rfl)) (pv 1) (λ _ _=>rfl)) pe_str (z47 z8s (pv 2) pe_non (nomark _)) rfl)
   (z02 (z42 (hu_of f) (pe_ix ix_seq (z0d (hu_of f) (pv 0) pe_str (λ _ _=>rfl)) (pv 1) (λ _ _=>rfl)) pe_str (pe_lst pa_nil) rfl)
   (z05 (ps_for Y2 rfl (z1d rfl (T.no (z3c _)) (z01 (z06 z0l rfl (T.no (n_len _)) C2 (z01 (z0d (hu_of f) (pv 0) pe_str (λ _ _=>rfl)) pa_nil)) pa_nil)) (z0m (i:=4) sc__law_sent.nd rfl (N1 rfl))
   (z05 (z0i (z0r (z0d (hu_of f) (pv 0) pe_str (λ _ _=>rfl)) (z01 (pe_tup (z01 (pv 4) (z01 (pv 1) (z01 (z0d (hu_of f) (pv 0) pe_str (λ _ _=>rfl)) (z01 pe_str (z01 (pv 2) (z01 (pv 3) pa_nil))))))) pa_nil)))))))))),?_⟩
  obtain ⟨F,G,uv,vv,g,C,S,c3,Y⟩:=id lw.ct;have e:H b.st=some (.dK F):=C.at (a:=[]);have l6:=g.ks.len;refine z53 ⟨_,rfl,b.st,_,rfl,g.grd e,?_⟩;refine .inl ⟨_,1,rfl,rfl,?_⟩;rw [show ((N.rounds:Int) + 1)=((N.rounds + 1:Nat):Int) by omega];refine ⟨_,rfl,b.st,_,rfl,DPut.k (k:=.inr "rounds") e (W0 l6 (by decide)),?_⟩;have R:=lw.setR (r:=N.rounds + 1) e;have a1:=Same.keep (o:=.dK (putK F (.inr "rounds") (.int ((N.rounds + 1:Nat):Int)))) sB (C.frA (a:=[]));have m1:Imm H (upd H b.st (.dK (putK F (.inr "rounds") (.int ((N.rounds + 1:Nat):Int))))):=Imm.dk e;generalize upd H b.st (.dK (putK F (.inr "rounds") (.int ((N.rounds + 1:Nat):Int))))=H1 at R a1 m1⊢;clear g C S c3 Y e l6;obtain ⟨F,G,uv,vv,g,C,S,c3,Y⟩:=id R.ct;obtain ⟨a3,ed,b4⟩:=R.nest hy;have e:H1 b.st=some (.dK F):=C.at (a:=[]);have L:H1 b.op=some (.lst (W.map oeV)):=C.at (a:=[_,_,_,_,_]);have a2:b.op≠y.d:=λ z=>by rw [z,ed] at L;cases L
  have a5:(W.map oeV)[h]? = some (.ref y.d):=by rw [R0,hy];rfl
  obtain ⟨D0,X,oa⟩:=z0n R.oe hy;have X:N.opn[h]? = some D0:=X;rw [hD] at X;cases X;obtain ⟨ks,v1,v2,v3,v4⟩:=(show OeAt (kx w) H1 D y from oa)
  refine z53 ⟨_,rfl,b.st,_,rfl,g.grd e,?_⟩;refine ⟨_,rfl,b.st,_,rfl,g.gop e,_,rfl,.inl ⟨b.op,_,h,.ref y.d,rfl,rfl,SqL.of L,z09 a5,y.d,_,rfl,DPut.k (k:=.inr "round") ed (W0 ks.len (by decide)),?_⟩⟩;have a8:=ks.put (k:=.inr "round") (v:=.int ((N.rounds + 1:Nat):Int)) (by simp [kD]);refine z53 ⟨_,rfl,rfl,?_⟩;refine ⟨_,rfl,b.st,_,rfl,g.gop (up1 a3 e),_,rfl,.inl ⟨b.op,_,h,.ref y.d,rfl,rfl,SqL.of (up1 a2 L),z09 a5,y.d,_,rfl,DPut.k (k:=.inr "keeps") z03 (W0 a8.len (by decide)),?_⟩⟩;rw [zio sx];have a6:=a8.put (k:=.inr "keeps") (v:=.bl x.isSome) (by simp [kD]);refine z53 ⟨w_0,λ l u=>?_⟩;have Z:l≠y.d:=λ z=>by rw [z,z03] at u;cases u
  rw [upd_ne Z,upd_ne Z] at u;refine ⟨_,rfl,b.st,_,rfl,g.gop (up1 (λ z=>by rw [<-z,e] at u;cases u) (up1 a3 (up1 a3 e))),_,rfl,.inl ⟨b.op,_,h,.ref y.d,rfl,rfl,SqL.of (up1 (λ z=>by rw [<-z,L] at u;cases u) (up1 a2 (up1 a2 L))),z09 a5,y.d,_,rfl,DPut.k (k:=.inr "heard") (up1 Z.symm z03) (W0 a6.len (by decide)),?_⟩⟩;rw [upd4];generalize hk3:putK (putK (putK y.kvs (.inr "round") (.int ((N.rounds + 1:Nat):Int))) (.inr "keeps") (.bl x.isSome)) (.inr "heard") (.ref l)=k3;have b5:KS kD k3:=hk3 ▸ a6.put (k:=.inr "heard") (by simp [kD]);have p3 :∀{j:Key} {v:V},j≠.inr "round"->j≠.inr "keeps"->j≠.inr "heard"->valV y.kvs j=some v->valV k3 j=some v:=λ h1 h2 h3 h=>hk3 ▸ (vp_ne h3).trans ((vp_ne h2).trans ((vp_ne h1).trans h));have p4:valV k3 (.inr "round")=some (.int ((N.rounds + 1:Nat):Int)):=hk3 ▸ (vp_ne (by decide +kernel)).trans ((vp_ne (by decide +kernel)).trans vp_eq);have p5:valV k3 (.inr "keeps")=some (.bl x.isSome):=hk3 ▸ (vp_ne (by decide +kernel)).trans vp_eq;have p6:valV k3 (.inr "heard")=some (.ref l):=hk3 ▸ vp_eq;have a4:=R.setL (D':={ D with round:=N.rounds + 1,keeps:=x.isSome,heard:=[] }) hy u a1 λ O=>⟨b5,p3 (by decide +kernel) (by decide +kernel) (by decide +kernel) v1,p3 (by decide +kernel) (by decide +kernel) (by decide +kernel) v2,λ z=>p3 (by decide +kernel) (by decide +kernel) (by decide +kernel) (ha z),λ _=>⟨p4,p5,l,[],rfl,p6,.nil⟩⟩
  have b0:Same B (upd (upd H1 l (.lst [])) y.d (.dK k3)):=Same.keep (a1.trans (Same.upd u)) b4;have m2:Imm H1 (upd (upd H1 l (.lst [])) y.d (.dK k3)):=(Imm.of (Same.upd u)).trans (Imm.dk (up1 Z.symm ed));generalize upd (upd H1 l (.lst [])) y.d (.dK k3)=H5 at a4 b0 m2⊢;have b6:=sx.imm (m1.trans m2);clear g C S c3 Y e;obtain ⟨F,G,uv,vv,g,C,S,c3,Y⟩:=id a4.ct;have e:H5 b.st=some (.dK F):=C.at (a:=[]);have b8:H5 b.hd=some (.lst G):=C.at (a:=[_]);have lh:G.length=N.held.length:=z04 S;refine ⟨_,rfl,b.st,_,rfl,g.ghd e,.inl ⟨b.hd,G,rfl,.inl (SqL.of b8),G.length,rfl,by omega,by omega,?_⟩⟩;refine z33 (lo:=0) (n:=G.length) (λ i σ O=>Same B O/\Imm H5 O/\Lw (kx w) B O b (W.set h (some ⟨y.d,k3,some (l,[])⟩)) { N with rounds:=N.rounds + 1,opn:=N.opn.set h (some { D with round:=N.rounds + 1,keeps:=x.isSome,heard:=[] }),under:=N.under++(V0 i).map λ c=>⟨c,h,N.rounds + 1,true,x⟩ }/\∃x4,σ=[some (.ref b.st),some (.int (h:Nat)),some K,some I,x4])
   ⟨b0,Imm.of (Same.refl _),by rw [show (V0 0).map (λ c=>(⟨c,h,N.rounds + 1,true,x⟩:LL))=[] from rfl,C3];exact a4,_,rfl⟩ ?_ ?_
  ·rintro i σ M hi ⟨s6,m6,lw6,x4,rfl⟩;obtain ⟨b7,c8,U,c7,d0,d1,d2,d3,d4⟩:=id lw6.ct;have b2:M b.st=some (.dK b7):=d1.at (a:=[]);have a0:M b.un=some (.lst U):=d1.at (a:=[_,_]);refine g_name ?_;refine ⟨_,rfl,b.st,_,rfl,d0.gun b2,.inl ⟨rfl,_,SqL.of a0⟩,?_⟩;refine ⟨_,rfl,_,rfl,_,rfl,b.st,_,rfl,d0.grd b2,_,rfl,_,rfl,w_6,λ p hp=>?_⟩;rw [N8];have J:=Same.upd (o:=.tup [.int (i:Nat),.int (h:Nat),.int ((N.rounds + 1:Nat):Int),.str "to",K,I]) hp;have e7:upd M p (.tup [.int (i:Nat),.int (h:Nat),.int ((N.rounds + 1:Nat):Int),.str "to",K,I]) p=some (.tup [.int (i:Nat),.int (h:Nat),.int ((N.rounds + 1:Nat):Int),.str "to",K,I]):=z03;have lu:U.length<=10005:=by rw [z04 d3,I0,G0,W2];omega
   refine ⟨b.un,U,_,rfl,rfl,J _ _ a0,W0 lu (by decide),?_⟩;have b3:B b.un=none:=d1.frA (a:=[_,_]);have a9:=lw6.same J;have s7:=s6.trans J;have d7:=z00 (λ _ _ z=>LLAt.imm (Imm.of J) z) d3;have b1:=b6.imm (m6.trans (Imm.of J));have m7:=m6.trans (Imm.of J);have a7:=J _ _ a0;generalize upd M p (.tup [.int (i:Nat),.int (h:Nat),.int ((N.rounds + 1:Nat):Int),.str "to",K,I])=H7 at e7 a9 s7 d7 b1 m7 a7⊢;refine ⟨Same.keep s7 b3,m7.trans (Imm.lst a7),?_,_,rfl⟩;have:=a9.setU (us:=N.under++(V0 (i + 1)).map λ c=>⟨c,h,N.rounds + 1,true,x⟩) (uv':=U++[.ref p]) λ O m=>by rw [j0d,W1,<-D2];exact z3u (z00 (λ _ _ z=>LLAt.imm m z) d7) (.cons ⟨p,K,I,rfl,m.t _ _ e7,b1.imm m⟩ .nil)
   exact this
  ·rintro σ M ⟨s6,m6,lw6,x4,rfl⟩;rw [lh] at lw6;exact q _ _ s6 lw6
def z58 (K:j0):Sp:=λ vs H Q _=>∃(A:La) (h:Nat) (a:Option Int) (B:Hp) (es:List (Option OE)) (N:LM) (y:OE),vs=[.ref A.st,.int h,avD a]/\Lw K B H A es N/\es[h]? = some (some y)/\N.events.length<=10000/\Same B H/\∀es' H',Same B H'->Lw K B H' A es' (N.ended h a)->Q .non H'
theorem z9j (T:TX (kx w) mg):Fo P w mg base CX0 1 444 y0y ["state","hand","answer"] (z58 (kx w)):=by
 refine (z3e w.params).ok z9l (λ R H Q E h=>?_) (λ X A Y s H R Q E G h=>?_)
 ·obtain ⟨A,h,a,B,d,N,y,rfl,_⟩:=h;rfl
 ·obtain ⟨b,h,a,B,d,N,y,rfl,r,v,K,J,q⟩:=h;refine ⟨_,(z02 (ps_asg pe_non (pg_sub (z0d (hu_of G) (pv 0) pe_str (λ _ _=>rfl)) (pv 1) z3w))
   (z05 (z0i (z0r (z0d (hu_of G) (pv 0) pe_str (λ _ _=>rfl)) (z01 (pe_tup (z01 pe_str (z01 (pv 1) (z01 (pv 2) pa_nil)))) pa_nil))))),?_⟩
  obtain ⟨l,S,W,f,j,c,F,u,g⟩:=id r.ct;have i:H b.st=some (.dK l):=c.at (a:=[]);have V:H b.op=some (.lst (d.map oeV)):=c.at (a:=[_,_,_,_,_]);have U:h < (d.map oeV).length:=by rw [G0];exact (List.getElem?_eq_some_iff.mp v).1
  refine ⟨_,rfl,b.st,_,rfl,j.gop i,_,rfl,b.op,_,h,h,rfl,rfl,V,z61 U,?_⟩;have k:=r.setO v;have n:=Same.keep (o:=.lst ((d.map oeV).set h .non)) J (c.frA (a:=[_,_,_,_,_]));generalize upd H b.op (.lst ((d.map oeV).set h .non))=H1 at k n⊢;clear j c F u g i;obtain ⟨l,S,W,f,j,c,F,u,g⟩:=id k.ct;have i:H1 b.st=some (.dK l):=c.at (a:=[]);have C:H1 b.ev=some (.lst f):=c.at (a:=[_,_,_,_]);refine ⟨_,rfl,b.st,_,rfl,j.gev i,.inl ⟨rfl,_,SqL.of C⟩,?_⟩;refine ⟨_,rfl,_,rfl,w_3,λ p L=>?_⟩;have e:=Same.upd (o:=.tup [.str "end",.int (h:Nat),avD a]) L;have I:upd H1 p (.tup [.str "end",.int (h:Nat),avD a]) p=some (.tup [.str "end",.int (h:Nat),avD a]):=z03;have M:f.length<=10000:=by rw [z04 g];exact K
  refine ⟨b.ev,f,_,rfl,rfl,e _ _ C,W0 M (by decide),?_⟩;have x:=z00 (λ _ _ z=>EvV.imm (Imm.of e) z) g;have D:=k.same e;generalize upd H1 p (.tup [.str "end",.int (h:Nat),avD a])=H2 at e I x D⊢;exact q _ _ (Same.keep (n.trans e) (c.frA (a:=[_,_,_,_]))) <| D.setV (us:=N.events++[.fin h a]) (uv':=f++[.ref p]) λ O m=>z3u (z00 (λ _ _ z=>EvV.imm m z) x) (.cons (show EvV O (.fin h a) (.ref p) from ⟨p,rfl,m.t _ _ I⟩) .nil)
theorem Lw.open_ {K:j0} {B H:Hp} {A:La} {es:List (Option OE)} {N:LM} {h:Nat} {D:LD} (lw:Lw K B H A es N) (hD:N.opn[h]? = some (some D)) :∃y,es[h]? = some (some y)/\OeAt K H D y:=by
 obtain ⟨b,c,a⟩:=z0q lw.oe hD;cases b with
 | none=>exact a.elim
 | some y=>exact ⟨y,c,a⟩
theorem Lw.hear_ {K:j0} {B H:Hp} {A:La} {es:List (Option OE)} {N:LM} {h:Nat} {y:OE} {l:Addr} {hs:List V} (lw:Lw K B H A es N) (hy:es[h]? = some (some y)) (hl:y.l=some (l,hs)):H l=some (.lst hs)/\B l=none:=by obtain ⟨g,k,f,i,p,e,m,n,o⟩:=lw.ct;have j:(l,HO.lst hs)∈es.flatMap entO:=List.mem_flatMap.mpr ⟨some y,A1 hy,by show _∈(y.d,HO.dK y.kvs) :: (match y.l with|none=>[]|some y=>[(y.1,HO.lst y.2)]);rw [hl];simp⟩;have b:=List.mem_append.mpr (K1 (a:=(l,HO.lst hs)∈baseO A g k f (natV N.nxt) i (es.map oeV)) j);exact ⟨e.c _ b,e.fr _ b⟩
theorem dg {H:Hp} {a:Addr} {kvs:List (Key×V)} {k:Str} {v:V} (e:H a=some (.dK kvs)) (h:valV kvs (.inr k)=some v):DGet H a (.str k) (some v):=h ▸ DGet.k (k:=.inr k) e
theorem ze4 {N:LM} {h:Nat} {D:LD} {x:Option Hd} {o:Option LD}:LM.sent { N with opn:=N.opn.set h o } h D x=N.sent h D x:=by unfold LM.sent;rw [List.set_set]
def z3b (K:j0):Sp:=λ vs H Q _=>∃(A:La) (h:Nat) (bk:Bool) (B:Hp) (es:List (Option OE)) (N:LM) (D:LD),vs=[.ref A.st,.int h,.bl bk]/\Lw K B H A es N/\N.opn[h]? = some (some D)/\D.round≠0/\D.heard≠[]/\D.heard.length<=100/\N.under.length<=10000/\N.held.length<=5/\N.events.length<=10000/\Same B H/\
 ∀es' H',Same B H'->Lw K B H' A es' (N.goneOn bk h D)->Q .non H'
theorem z6r (T:TX (kx w) mg) (c5:Ca P w mg base "_law_sent" ["state","hand","stamp","worth"] 1 (z3j (kx w))) (c6:Ca P w mg base "_law_ended" ["state","hand","answer"] 1 (z58 (kx w))):Fo P w mg base CX0 2 451 y0e ["state","hand","back"] (z3b (kx w)):=by
 refine (z29 w.params).ok sc__law_gone_on (λ vs H Q E h=>?_) (λ a9 A b1 s H vs Q E c h=>?_)
 ·obtain ⟨A,h,bk,B,C,N,D,rfl,_⟩:=h;rfl
 ·obtain ⟨e,h,bk,B,C,N,D,rfl,F,hD,nr,nh,hl,ul,a1,vl,K,q⟩:=h;refine ⟨_,(z02 (ps_set (i:=3) sc__law_gone_on.nd rfl (N1 rfl) (pe_ix ix_seq (z0d (hu_of c) (pv 0) pe_str (λ _ _=>rfl)) (pv 1) (λ _ _=>rfl)))
   (z02 (ps_if (pt_val (z0d (hu_of c) (pv 3) pe_str (λ _ _=>rfl)) (λ _=>rfl))
   (z02 (z0i (pe_cal c6 (c.mono (by decide)) rfl (z01 (pv 0) (z01 (pv 1) (z01 (z0d (hu_of c) (pv 3) pe_str (λ _ _=>rfl)) pa_nil)))))
   (z05 z7e))
   z0f)
   (z02 (ps_asg (z06 (zbv rfl c) rfl (T.no (n_max _)) boot_max (z01 (z0d (hu_of c) (pv 3) pe_str (λ _ _=>rfl)) pa_nil)) (pg_tup rfl (z0u (z0m (i:=4) sc__law_gone_on.nd rfl (N1 rfl)) (z0u (z0m (i:=5) sc__law_gone_on.nd rfl (N1 rfl)) z74))))
   (z05 (ps_if (z0a opEq (z0d (hu_of c) (pv 3) pe_str (λ _ _=>rfl)) pe_str (nomark _))
   (z02 (z42 (hu_of c) (pv 3) pe_str pe_str rfl)
   (z05 (z0i (pe_cal c5 (c.mono (by decide)) rfl (z01 (pv 0) (z01 (pv 1) (z01 (pe_tup (z01 (pe_op opAdd (pe_ix ix_seq (pv 4) pe_int (λ _ _=>rfl)) pe_int) (z01 (pv 1) pa_nil))) (z01 (z0d (hu_of c) (pv 3) pe_str (λ _ _=>rfl)) pa_nil))))))))
   (z05 (ps_if (pt_val (pv 2) (λ _=>rfl))
   (z02 (z42 (hu_of c) (pv 3) pe_str (pv 5) rfl)
   (z05 (z0i (pe_cal c5 (c.mono (by decide)) rfl (z01 (pv 0) (z01 (pv 1) (z01 (pv 4) (z01 (pv 5) pa_nil))))))))
   (z05 (z0i (pe_cal c6 (c.mono (by decide)) rfl (z01 (pv 0) (z01 (pv 1) (z01 (pv 5) pa_nil))))))))))))),?_⟩
  obtain ⟨kvs,hv,uv,vv,c0,c1,c2,c3,c4⟩:=id F.ct;have a8:H e.st=some (.dK kvs):=c1.at (a:=[]);have L:H e.op=some (.lst (C.map oeV)):=c1.at (a:=[_,_,_,_,_]);obtain ⟨y,n,oa⟩:=F.open_ hD;obtain ⟨b2,t,a0⟩:=F.nest n;have a7:(C.map oeV)[h]? = some (.ref y.d):=by rw [R0,n];rfl
  obtain ⟨ks,W,R,v3,v4⟩:=id oa;obtain ⟨g1,g2,l,hs,g3,g4,V⟩:=v4 nr;refine z0c ⟨_,rfl,e.st,_,rfl,c0.gop a8,_,rfl,.inl ⟨e.op,_,h,.ref y.d,rfl,rfl,SqL.of L,z09 a7,?_⟩⟩;refine g_name ?_;obtain ⟨a6,_⟩:=F.hear_ n g3;obtain ⟨ps,rfl,a3,a4⟩:=z51 V;refine sq_if ⟨_,rfl,y.d,_,rfl,dg t g2,_,rfl,?_⟩;cases hk:D.keeps with
  | true=>refine iteT ?_;refine ⟨_,rfl,_,rfl,_,rfl,y.d,_,rfl,dg t (v3 hk),e,h,D.ans,B,C,N,y,rfl,F,n,vl,K,λ v u G f=>?_⟩;exact q v u G (by rw [zf2 hk];exact f)
  | false=>
   refine iteF (t_nx ?_);cases ps with
   | nil=>exact absurd a3.symm nh
   | cons m r=>
   refine z0c ⟨_,rfl,y.d,_,rfl,dg t g4,l,m,r,rfl,SqL.of a6,a4,λ b hb hg=>?_⟩;have S:maxHd D.heard=b.2:=by rw [<-a3];refine zfi (z7 hb) λ x hx=>?_;obtain ⟨y,n,rfl⟩:=List.mem_map.mp hx;exact hg y n
   obtain ⟨O,a5,Z⟩:=a4 b hb;refine ⟨b.1,_,rfl,a5,rfl,_,_,rfl,_,_,rfl,rfl,?_⟩;refine ⟨_,rfl,y.d,_,rfl,dg t W,rfl,_,rfl,?_⟩;have U :∀(a:Option Int),Lw (kx w) B (upd H y.d (.dK (putK y.kvs (.inr "answer") (avD a)))) e (C.set h (some { y with kvs:=putK y.kvs (.inr "answer") (avD a) })) { N with opn:=N.opn.set h (some { D with ans:=a }) }:=λ a=>(F.setD (D':={ D with ans:=a }) n λ u m=>⟨ks.put (by simp [kD]),(vp_ne (by decide +kernel)).trans W,(vp_ne (by decide +kernel)).trans R,λ _=>vp_eq,λ _=>⟨(vp_ne (by decide +kernel)).trans g1,(vp_ne (by decide +kernel)).trans g2,l,_,g3,(vp_ne (by decide +kernel)).trans g4,z00 (λ _ _ z=>z.imm m) V⟩⟩).1;have Y:h < C.length:=(List.getElem?_eq_some_iff.mp n).1;have a2:h < N.opn.length:=(List.getElem?_eq_some_iff.mp hD).1;have b0:e.op≠y.d:=λ z=>by rw [z,t] at L;cases L
   have k6:=W0 ks.len (show kD.length < sizeLine by decide);cases hd:D.d with
   | some w0=>rw [hd] at R;refine iteP rfl ?_;refine z53 ⟨_,rfl,y.d,_,rfl,DPut.k (k:=.inr "answer") t k6,?_⟩;have g:=U none;have I:=Same.keep (o:=.dK (putK y.kvs (.inr "answer") (.str "ok"))) K a0;have X:upd H y.d (.dK (putK y.kvs (.inr "answer") (.str "ok"))) y.d=some (.dK (putK y.kvs (.inr "answer") (.str "ok"))):=z03;have J:Imm H (upd H y.d (.dK (putK y.kvs (.inr "answer") (.str "ok")))):=Imm.dk t;have g:Lw (kx w) B (upd H y.d (.dK (putK y.kvs (.inr "answer") (.str "ok")))) e _ _:=g;generalize upd H y.d (.dK (putK y.kvs (.inr "answer") (.str "ok")))=H1 at g I X J⊢;refine ⟨_,rfl,_,rfl,_,rfl,.inr (.inl ⟨O,_,0,.int b.2.1.1,rfl,rfl,J.seqT Z,z09 (j:=0) rfl,.inl ⟨_,1,rfl,rfl,?_⟩⟩)⟩;refine ⟨_,rfl,w_2,λ p hp=>?_⟩;have M:=Same.upd (o:=.tup [.int (b.2.1.1 + 1),.int (h:Nat)]) hp;have e2:upd H1 p (.tup [.int (b.2.1.1 + 1),.int (h:Nat)]) p=some (.tup [.int (b.2.1.1 + 1),.int (h:Nat)]):=z03;refine ⟨_,rfl,y.d,_,rfl,dg (M _ _ X) ((vp_ne (by decide +kernel)).trans R),?_⟩;refine ⟨e,h,.ref p,.int w0,B,_,_,_,_,some ((b.2.1.1 + 1,(h:Int)),w0),rfl,g.same M,P0 a2,P0 Y,⟨p,rfl,SqT.of e2,rfl⟩,λ _=>vp_eq,ul,a1,I.trans M,λ v u G f=>q v u G ?_⟩;rw [ze4] at f;rw [zfp hk hd,S];exact f
   | none=>
    refine iteN (by simp [vbD];decide +kernel) ?_;refine ⟨_,rfl,_,rfl,?_⟩;cases hb':bk with
    | true=>refine iteT ?_;refine z53 ⟨_,rfl,_,rfl,y.d,_,rfl,DPut.k (k:=.inr "answer") t k6,?_⟩;have g:=U (some b.2.2);have I:=Same.keep (o:=.dK (putK y.kvs (.inr "answer") (.int b.2.2))) K a0;have J:Imm H (upd H y.d (.dK (putK y.kvs (.inr "answer") (.int b.2.2)))):=Imm.dk t;have g:Lw (kx w) B (upd H y.d (.dK (putK y.kvs (.inr "answer") (.int b.2.2)))) e _ _:=g;generalize upd H y.d (.dK (putK y.kvs (.inr "answer") (.int b.2.2)))=H1 at g I J⊢;refine ⟨_,rfl,_,rfl,_,rfl,_,rfl,e,h,.ref O,.int b.2.2,B,_,_,_,_,some b.2,rfl,g,P0 a2,P0 Y,⟨O,rfl,J.seqT Z,rfl⟩,λ _=>vp_eq,ul,a1,I,λ v u G f=>q v u G ?_⟩;rw [ze4] at f;rw [za6 hk hd,hb',if_pos rfl,S];exact f
    | false=>refine iteF ?_;refine ⟨_,rfl,_,rfl,_,rfl,e,h,some b.2.2,B,C,N,y,rfl,F,n,vl,K,λ v u G f=>q v u G ?_⟩;rw [za6 hk hd,hb',if_neg (by decide),S];exact f
theorem Lw.setH {K:j0} {B H:Hp} {A:La} {es:List (Option OE)} {N:LM} {h:Nat} {y:OE} {D':LD} {l:Addr} {hs hs':List V} (lw:Lw K B H A es N) (hy:es[h]? = some (some y)) (hl:y.l=some (l,hs)) (a :∀H',Imm H H'->OeAt K H' D' { y with l:=some (l,hs') }):Lw K B (upd H l (.lst hs')) A (es.set h (some { y with l:=some (l,hs') })) { N with opn:=N.opn.set h (some D') }:=by
 obtain ⟨f,i,c,g,q,b,n,o,p⟩:=lw.ct;rw [z65 hy] at b;have j:Ms B H ((baseO A f i c (natV N.nxt) g (es.map oeV)++(es.take h).flatMap entO++[(y.d,.dK y.kvs)])++(l,.lst hs) :: (es.drop (h + 1)).flatMap entO):=by
  have e:entO (some y)=[(y.d,.dK y.kvs),(l,.lst hs)]:=by show (y.d,HO.dK y.kvs) :: (match y.l with|none=>[]|some y=>[(y.1,HO.lst y.2)])=_;rw [hl]
  rw [e] at b;simpa using b
 have m:Imm H (upd H l (.lst hs')):=Imm.lst j.at;refine ⟨⟨f,i,c,g,q,?_,z00 (λ _ _ z=>z.imm m) n,z00 (λ _ _ z=>z.imm m) o,z00 (λ _ _ z=>z.imm m) p⟩,z3r h (z00 (λ _ _ z=>OeO.imm m z) lw.oe) (show OeO K _ (some D') (some _) from a _ m)⟩;have:=j.set (o':=.lst hs');rw [z28 _ hy,map_set];have e:(es.map oeV).set h (oeV (some { y with l:=some (l,hs') }))=es.map oeV:=by refine z68 ?_;rw [R0,hy];rfl
 rw [e];have k:entO (some { y with l:=some (l,hs') })=[(y.d,.dK y.kvs),(l,.lst hs')]:=rfl;rw [k];simpa using this
def z6c (K:j0):Sp:=λ vs H Q _=>∃(A:La) (y:V) (bk:Bool) (B:Hp) (es:List (Option OE)) (N:LM) (L:LL),vs=[.ref A.st,y,.bl bk]/\Lw K B H A es N/\LLAt K H L y/\L.copy < N.held.length/\L.hand < N.opn.length/\(L.to=false->∃x,L.x=some x)/\(∀D,N.opn[L.hand]? = some (some D)->D.round≠0/\D.heard.length<=50)/\N.under.length<=9000/\N.held.length<=5/\N.events.length<=9000/\Same B H/\
 ∀es' H',Same B H'->Lw K B H' A es' (N.come bk L)->Q .non H'
theorem za9 (T:TX (kx w) mg) (c5:Ca P w mg base "_law_gone_on" ["state","hand","back"] 2 (z3b (kx w))):Fo P w mg base CX0 3 458 y17 ["state","letter","back"] (z6c (kx w)):=by
 refine (z4s w.params).ok sc__law_come (λ vs H Q E h=>?_) (λ e4 A e5 s H vs Q E n h=>?_)
 ·obtain ⟨A,y,bk,B,r,N,L,rfl,_⟩:=h;rfl
 ·obtain ⟨b,y,bk,B,r,N,L,rfl,v,⟨pl,sv,wv,rfl,ep,M⟩,hc,hh,hx,d6,ul,b6,vl,S,q⟩:=h;refine ⟨_,(z02 (ps_asg (pv 1) (pg_tup rfl (z0u (z0m (i:=3) sc__law_come.nd rfl (N1 rfl)) (z0u (z0m (i:=4) sc__law_come.nd rfl (N1 rfl)) (z0u (z0m (i:=5) sc__law_come.nd rfl (N1 rfl)) (z0u (z0m (i:=6) sc__law_come.nd rfl (N1 rfl)) (z0u (z0m (i:=7) sc__law_come.nd rfl (N1 rfl)) (z0u (z0m (i:=8) sc__law_come.nd rfl (N1 rfl)) z74))))))))
   (z02 (ps_if (z0a opEq (pv 6) pe_str (nomark _))
   (z02 (ps_if (PW.pt (pw_and (z0a z8s (pv 7) pe_non (nomark _)) (z6k (z0a (op_gtT n) (pv 7) (pe_ix ix_seq (pe_ix ix_seq (z0d (hu_of n) (pv 0) pe_str (λ _ _=>rfl)) (pv 3) (λ _ _=>rfl)) pe_int (λ _ _=>rfl)) (nomark _)))))
   (z05 (ps_asg (pe_tup (z01 (pv 7) (z01 (pv 8) pa_nil))) (pg_sub (z0d (hu_of n) (pv 0) pe_str (λ _ _=>rfl)) (pv 3) z3w)))
   z0f)
   (z02 (z0i (z0r (z0d (hu_of n) (pv 0) pe_str (λ _ _=>rfl)) (z01 (pe_op opAdd (pe_tup (z01 (pv 3) (z01 (pv 4) (z01 (pv 5) (z01 pe_str pa_nil))))) (pe_ix ix_seq (z0d (hu_of n) (pv 0) pe_str (λ _ _=>rfl)) (pv 3) (λ _ _=>rfl))) pa_nil)))
   (z05 z7e)))
   z0f)
   (z02 (ps_set (i:=9) sc__law_come.nd rfl (N1 rfl) (pe_ix ix_seq (z0d (hu_of n) (pv 0) pe_str (λ _ _=>rfl)) (pv 4) (λ _ _=>rfl)))
   (z05 (ps_if (PW.pt (pw_and (z0a z8s (pv 9) pe_non (nomark _)) (z6k (z0a opEq (z0d (hu_of n) (pv 9) pe_str (λ _ _=>rfl)) (pv 5) (nomark _)))))
   (z02 (z0i (z0r (z0d (hu_of n) (pv 9) pe_str (λ _ _=>rfl)) (z01 (pe_tup (z01 (pv 7) (z01 (pv 8) pa_nil))) pa_nil)))
   (z05 (ps_if (z0a op_gt (pe_op op_mul pe_int (z06 z0l rfl (T.no (n_len _)) C2 (z01 (z0d (hu_of n) (pv 9) pe_str (λ _ _=>rfl)) pa_nil))) (z06 z0l rfl (T.no (n_len _)) C2 (z01 (z0d (hu_of n) (pv 0) pe_str (λ _ _=>rfl)) pa_nil)) (nomark _))
   (z05 (z0i (pe_cal c5 (n.mono (by decide)) rfl (z01 (pv 0) (z01 (pv 4) (z01 (pv 2) pa_nil))))))
   z0f)))
   z0f))))),?_⟩
  obtain ⟨a4,hv,Y,vv,G,u,c2,c3,c4⟩:=id v.ct;have I:H b.st=some (.dK a4):=u.at (a:=[]);have W:H b.hd=some (.lst hv):=u.at (a:=[_]);have b3:H b.op=some (.lst (r.map oeV)):=u.at (a:=[_,_,_,_,_]);have le:r.length=N.opn.length:=z04 v.oe;refine z0c ⟨_,rfl,pl,_,rfl,SqT.of ep,rfl,_,_,rfl,_,_,rfl,_,_,rfl,_,_,rfl,_,_,rfl,_,_,rfl,rfl,?_⟩;cases hto:L.to with
  | true=>
   refine sq_if ⟨_,rfl,rfl,_,rfl,iteP (decide_eq_true rfl) ?_⟩;obtain ⟨xv,Z,xp,xq,rfl,x1,x2⟩:=z0q c2 (v0 hc);have f:N.held[L.copy]? = some N.held[L.copy]:=v0 hc;generalize N.held[L.copy]=s0 at f x1 x2;have b1:L.copy < hv.length:=(List.getElem?_eq_some_iff.mp Z).1;refine za4 (λ σ' C=>Same B C/\Imm H C/\Lw (kx w) B C b r { N with held:=N.held.set L.copy (keepH L.x s0) }/\σ'=[some (.ref b.st),some (.ref pl),some (.bl bk),some (.int L.copy),some (.int L.hand),some (.int L.turn),some (.str (sideS true)),some sv,some wv,none]) ?_ λ go=>?_;rotate_left
   ·have same:keepH L.x s0=s0->Lw (kx w) B H b r { N with held:=N.held.set L.copy (keepH L.x s0) }:=λ e=>by rw [e,z68 f];exact v
    refine t_and ⟨_,rfl,rfl,_,rfl,?_⟩;cases hX:L.x with
    | none=>rw [hX] at M same go;obtain ⟨rfl,rfl⟩:=M;exact iteN (by decide) (iteF (t_nx (go _ _ ⟨S,Imm.of (Same.refl _),same rfl,rfl⟩)))
    | some k=>
     rw [hX] at M same go;obtain ⟨F,rfl,k2,rfl⟩:=M;refine iteP (by simp) ?_;refine ⟨_,rfl,_,rfl,b.st,_,rfl,G.ghd I,_,rfl,.inl ⟨b.hd,hv,L.copy,.ref xp,rfl,rfl,SqL.of W,z09 Z,.inr (.inl ⟨xp,_,0,.ref xq,rfl,rfl,x1,z09 (j:=0) rfl,?_⟩)⟩⟩;refine ⟨F,xq,k.1,s0.1,rfl,rfl,k2,x2,_,rfl,?_⟩;by_cases gt:gtI k.1 s0.1=true
     ·refine iteP gt ?_;refine ⟨_,rfl,_,rfl,w_2,λ p hp=>?_⟩;have g:=Same.upd (o:=.tup [.ref F,.int k.2]) hp;have J:upd H p (.tup [.ref F,.int k.2]) p=some (.tup [.ref F,.int k.2]):=z03;refine ⟨_,rfl,b.st,_,rfl,G.ghd (g _ _ I),_,rfl,b.hd,_,L.copy,L.copy,rfl,rfl,g _ _ W,z61 b1,t_nx (go _ _ ⟨Same.keep (S.trans g) (u.frA (a:=[_])),(Imm.of g).trans (Imm.lst (g _ _ W)),?_,rfl⟩)⟩;have ek:keepH (some k) s0=k:=if_pos gt;rw [ek];exact (v.same g).setS λ C m=>z3r _ (z00 (λ _ _ z=>HdAt.imm ((Imm.of g).trans m) z) c2) ⟨p,F,rfl,SqT.of (m.t _ _ J),((Imm.of g).trans m).seqT k2⟩
     ·exact iteN gt (t_nx (go _ _ ⟨S,Imm.of (Same.refl _),same (if_neg gt),rfl⟩))
   rintro σ R ⟨s1,m1,a1,rfl⟩;clear G u c2 c3 c4 I W x1 x2 Z;obtain ⟨a4,a9,Y,vv,G,u,c2,c3,c4⟩:=id a1.ct;have I:R b.st=some (.dK a4):=u.at (a:=[]);have W:R b.hd=some (.lst a9):=u.at (a:=[_]);have a6:R b.un=some (.lst Y):=u.at (a:=[_,_]);have hk:(N.held.set L.copy (keepH L.x s0))[L.copy]? = some (keepH L.x s0):=P0 hc;obtain ⟨xv,Z,a5,O,rfl,x1,x2⟩:=z0q c2 hk;refine ⟨_,rfl,b.st,_,rfl,G.gun I,.inl ⟨rfl,_,SqL.of a6⟩,?_⟩;refine ⟨_,rfl,_,rfl,_,rfl,w_4,λ p hp=>?_⟩;obtain ⟨H2,v_,g,J⟩:=newA (.tup [.int L.copy,.int L.hand,.int L.turn,.str "from"]) hp;rw [<-v_];refine ⟨_,rfl,b.st,_,rfl,G.ghd (g _ _ I),_,rfl,.inl ⟨b.hd,a9,L.copy,.ref a5,rfl,rfl,SqL.of (g _ _ W),z09 Z,?_⟩⟩;refine .inr (.inr (.inr ⟨p,a5,_,_,rfl,rfl,SqT.of J,g.seqT x1,by simp,w_6,(λ z=>by cases z),λ _ K d8=>?_⟩));have t3:=Same.upd (o:=.tup ([.int L.copy,.int L.hand,.int L.turn,.str "from"]++[.ref O,.int (keepH L.x s0).2])) d8;have e3:upd H2 K (.tup ([.int L.copy,.int L.hand,.int L.turn,.str "from"]++[.ref O,.int (keepH L.x s0).2])) K=some (.tup [.int L.copy,.int L.hand,.int L.turn,.str "from",.ref O,.int (keepH L.x s0).2]):=z03;have U:=g.trans t3;generalize upd H2 K (.tup ([.int L.copy,.int L.hand,.int L.turn,.str "from"]++[.ref O,.int (keepH L.x s0).2]))=H3 at U e3⊢;have lu:Y.length<=9000:=by rw [z04 c3];exact ul
   refine ⟨b.un,Y,_,rfl,rfl,U _ _ a6,W0 lu (by decide),?_⟩;have b9:=(a1.same U).setU (us:=N.under++[⟨L.copy,L.hand,L.turn,false,some (keepH L.x s0)⟩]) (uv':=Y++[.ref K]) λ C m=>z3u (z00 (λ _ _ z=>LLAt.imm ((Imm.of U).trans m) z) c3) (.cons (show LLAt (kx w) C ⟨L.copy,L.hand,L.turn,false,some (keepH L.x s0)⟩ (.ref K) from ⟨K,.ref O,_,rfl,m.t _ _ e3,O,rfl,((Imm.of U).trans m).seqT x2,rfl⟩) .nil);refine q _ _ (Same.keep (s1.trans U) (u.frA (a:=[_,_]))) (?_:Lw (kx w) B _ b r _);have c:N.come bk L={ N with held:=N.held.set L.copy (keepH L.x s0),under:=N.under++[⟨L.copy,L.hand,L.turn,false,some (keepH L.x s0)⟩] }:=by unfold LM.come;rw [if_pos hto,f]
   rw [c];exact b9
  | false=>
   refine sq_if ⟨_,rfl,rfl,_,rfl,iteN (show ¬ decide (V.str (sideS false)=V.str "to")=true by decide +kernel) (t_nx ?_)⟩;obtain ⟨x,hX⟩:=hx hto;rw [hX] at M;obtain ⟨F,rfl,k2,rfl⟩:=M;have ho:N.opn[L.hand]? = some N.opn[L.hand]:=v0 hh;obtain ⟨oe,a2,X⟩:=z0q v.oe ho;have d7:(r.map oeV)[L.hand]? = some (oeV oe):=by rw [R0,a2];rfl
   refine z0c ⟨_,rfl,b.st,_,rfl,G.gop I,_,rfl,.inl ⟨b.op,_,L.hand,oeV oe,rfl,rfl,SqL.of b3,z09 d7,?_⟩⟩;refine g_name ?_;have c:N.come bk L=match N.opn[L.hand]?,L.x with|some (some D),some x=>N.hear bk L D x|_,_=>N:=by unfold LM.come;exact if_neg (by rw [hto];decide)
   rw [hX,ho] at c;cases hD:N.opn[L.hand] with
   | none=>
    rw [hD] at X c;cases oe with
    | some y=>exact X.elim
    | none=>exact ⟨_,rfl,rfl,_,rfl,iteN (by decide) (iteF (q r _ S (by rw [c];exact v)))⟩
   | some D=>
    rw [hD] at X c ho;cases oe with
    | none=>exact X.elim
    | some y=>
    obtain ⟨nr,c7⟩:=d6 D ho;obtain ⟨e7,ed,e0⟩:=v.nest a2;obtain ⟨ks,v1,v2,v3,v4⟩:=(show OeAt (kx w) H D y from X)
    obtain ⟨g1,g2,l,f,g3,g4,g5⟩:=v4 nr;obtain ⟨b0,c6⟩:=v.hear_ a2 g3;have c:N.come bk L=N.hear bk L D x:=c;unfold LM.hear at c;refine t_and ⟨_,rfl,rfl,_,rfl,iteP (by simp [oeV]) ?_⟩;refine ⟨_,rfl,y.d,_,rfl,dg ed g1,_,rfl,rfl,_,rfl,?_⟩;by_cases hrt:D.round=L.turn;rotate_left
    ·rw [if_neg hrt] at c;exact iteN (λ z=>hrt (by have:=of_decide_eq_true z;injection this with this;omega)) (q r _ S (by rw [c];exact v))
    rw [if_pos hrt] at c;refine iteP (decide_eq_true (by rw [hrt])) ?_;refine ⟨_,rfl,y.d,_,rfl,dg ed g4,.inl ⟨rfl,_,SqL.of b0⟩,?_⟩;refine ⟨_,rfl,_,rfl,w_2,λ p hp=>?_⟩;obtain ⟨R,v_,t1,e1⟩:=newA (.tup [.ref F,.int x.2]) hp;rw [<-v_];have c8:f.length<=50:=by rw [z04 g5];exact c7
    refine ⟨l,f,_,rfl,rfl,t1 _ _ b0,W0 c8 (by decide),t_nx ?_⟩;have a1:=v.same t1;have i1:=Imm.of t1;have a0:=a1.setH (D':=D.hear x) (hs':=f++[.ref p]) a2 g3 λ C m=>⟨ks,v1,v2,v3,λ _=>⟨g1,g2,l,_,rfl,g4,z3u (z00 (λ _ _ z=>HdAt.imm (i1.trans m) z) g5) (.cons ⟨p,F,rfl,SqT.of (m.t _ _ e1),(i1.trans m).seqT k2⟩ .nil)⟩⟩
    have s2:=Same.keep (o:=.lst (f++[.ref p])) (S.trans t1) c6;have J:upd R l (.lst (f++[.ref p])) l=some (.lst (f++[.ref p])):=z03;generalize upd R l (.lst (f++[.ref p]))=H2 at a0 s2 J⊢;obtain ⟨b4,a8,e6,d9,d0,d1,d2,d3,d4⟩:=id a0.ct;have d5:H2 b.st=some (.dK b4):=d1.at (a:=[]);have b8:H2 b.hd=some (.lst a8):=d1.at (a:=[_]);have c9:(r.set L.hand (some { y with l:=some (l,f++[.ref p]) }))[L.hand]? = some (some { y with l:=some (l,f++[.ref p]) }):=P0 (by omega);obtain ⟨_,b7,_⟩:=a0.nest c9;have a3:(f++[V.ref p]).length=(D.hear x).heard.length:=by rw [I0,z04 g5];show _=(D.heard++[x]).length;rw [I0];rfl
    have a7:a8.length=N.held.length:=z04 d2;refine ⟨_,rfl,y.d,_,rfl,dg b7 g4,.inl ⟨l,_,rfl,.inl (SqL.of J),2,_,rfl,rfl,.inl ⟨by decide,by decide⟩,?_⟩⟩;refine ⟨_,rfl,b.st,_,rfl,d0.ghd d5,.inl ⟨b.hd,_,rfl,.inl (SqL.of b8),_,_,rfl,rfl,_,rfl,?_⟩⟩;by_cases big:N.held.length < 2 * (D.hear x).heard.length
    ·rw [if_pos big] at c;refine iteP (decide_eq_true (by rw [a3,a7];omega)) ?_;refine ⟨_,rfl,_,rfl,_,rfl,b,L.hand,bk,B,_,_,D.hear x,rfl,a0,P0 hh,nr,by show D.heard++[x]≠[];simp,by rw [<-a3,I0];show f.length + 1<=100;omega,by show N.under.length<=_;omega,b6,by show N.events.length<=_;omega,s2,λ b2 C s' b5=>q b2 C s' (by rw [c];exact b5)⟩
    ·rw [if_neg big] at c;exact iteN (λ z=>big (by have:=of_decide_eq_true z;rw [a3,a7] at this;omega)) (q _ _ s2 (by rw [c];exact a0))
structure LOk (pl:List (List (Option Int))) (N:LM) (n:Nat):Prop where
 ol:N.opn.length=pl.length
 nl:N.nxt.length=pl.length
 h5:N.held.length<=5
 un :∀L∈N.under,L.copy < N.held.length/\L.hand < pl.length/\(L.to=false->∃x,L.x=some x)
 op :∀(h:Nat) (D:LD),N.opn[h]? = some (some D)->D.round≠0/\D.heard.length<=50
 ul:N.under.length<=6 * n
 vl:N.events.length<=n
theorem lok_of {pl:List (List (Option Int))} {M:CM} {N:LM} {n:Nat} (s:Sm pl M N) (wf:WfM M n):LOk pl N n:=by
 have p:N.under.length=M.letters.length:=z04 s.un;refine ⟨s.ol,s.nl,by rw [s.st];exact wf.st.2,λ L o=>?_,λ h D l=>?_,by rw [p];exact wf.ln,by rw [s.ev];exact wf.vn⟩
 ·obtain ⟨i,m⟩:=List.mem_iff_getElem?.mp o;obtain ⟨b,d,q,j,f,k,c,g,a⟩:=z0n s.un m;refine ⟨by rw [s.st,f];exact s.inb b (A1 d),by rw [c];exact (s.pa _ _ j).1,λ z=>?_⟩;rw [g] at z;cases hh:b.held with
  | none=>rw [hh] at z;cases z
  | some x=>rw [hh] at a;exact ⟨x,a⟩
 ·obtain ⟨e,q,d,j,f,k,c,g,a,r⟩:=s.cu h D l;have:=wf.st.2;exact ⟨by omega,by omega⟩
theorem Lw.newO {K:j0} {B H:Hp} {A:La} {es:List (Option OE)} {N:LM} {h:Nat} {d:Addr} {kv:List (Key×V)} {D:LD} (lw:Lw K B H A es N) (hy:es[h]? = some none) (hd:H d=none) (sB:Same B H) (a :∀H',OeAt K H' D ⟨d,kv,none⟩):Lw K B (upd (upd (upd H d (.dK [])) d (.dK kv)) A.op (.lst ((es.map oeV).set h (.ref d)))) A (es.set h (some ⟨d,kv,none⟩)) { N with opn:=N.opn.set h (some D) }:=by obtain ⟨e,g,b,f,p,q,k,l,n⟩:=lw.ct;have j:Ms B (upd (upd H d (.dK [])) d (.dK kv)) ([]++(d,.dK kv) :: (baseO A e g b (natV N.nxt) f (es.map oeV)++es.flatMap entO)):=Ms.set (a:=[]) (q.new (o:=.dK []) sB hd);have i:Ms B (upd (upd (upd H d (.dK [])) d (.dK kv)) A.op (.lst ((es.map oeV).set h (.ref d)))) ((d,.dK kv) :: (baseO A e g b (natV N.nxt) f ((es.map oeV).set h (.ref d))++es.flatMap entO)):=Ms.set (a:=[_,_,_,_,_,_]) j;have m:Imm H (upd (upd (upd H d (.dK [])) d (.dK kv)) A.op (.lst ((es.map oeV).set h (.ref d)))):=((Imm.of (Same.upd hd)).trans (Imm.dk z03)).trans (Imm.lst (j.c (A.op,.lst (es.map oeV)) (by simp [baseO])));refine ⟨⟨e,g,b,f,p,?_,z00 (λ _ _ z=>z.imm m) k,z00 (λ _ _ z=>z.imm m) l,z00 (λ _ _ z=>z.imm m) n⟩,z3r h (z00 (λ _ _ z=>OeO.imm m z) lw.oe) (show OeO K _ (some D) (some _) from a _)⟩;rw [z28 _ hy,map_set];rw [z65 hy] at i;refine i.perm ?_;show List.Perm ((d,HO.dK kv) :: (baseO A e g b (natV N.nxt) f ((es.map oeV).set h (.ref d))++((es.take h).flatMap entO++(es.drop (h + 1)).flatMap entO))) (baseO A e g b (natV N.nxt) f ((es.map oeV).set h (.ref d))++((es.take h).flatMap entO++(d,HO.dK kv) :: (es.drop (h + 1)).flatMap entO));rw [<-D2,<-D2];exact List.perm_middle.symm
def z30 (K:j0):Sp:=λ vs H Q _=>∃(A:La) (a:Addr) (n:Nat) (bk:Bool) (B:Hp) (es:List (Option OE)) (N:LM) (pl:List (List (Option Int))) (t:Nat),vs=[.ref A.st,.ref a,.int n,.bl bk]/\Lw K B H A es N/\PlR B a pl/\pl.length<=6/\(∀own∈pl,own.length<=24)/\LOk pl N t/\t<=1000/\n < (N.free pl).length + 2 * N.under.length/\Same B H/\
 ∀es' H',Same B H'->Lw K B H' A es' (N.moved pl bk n)->Q .non H'
theorem z8q (T:TX (kx w) mg) (c5:Ca P w mg base "_law_free" ["state","plan"] 1 (z1p (kx w))) (c6:Ca P w mg base "_law_sent" ["state","hand","stamp","worth"] 1 (z3j (kx w))) (c7:Ca P w mg base "_law_come" ["state","letter","back"] 3 (z6c (kx w))):Fo P w mg base CX0 4 465 y0z ["state","plan","number","back"] (z30 (kx w)):=by
 refine (z3g w.params).ok sc__law_moved (λ vs H Q E h=>?_) (λ e3 A e5 s H vs Q E C h=>?_)
 ·obtain ⟨A,a,n,bk,B,I,N,f,t,rfl,_⟩:=h;rfl
 ·obtain ⟨g,a,n,bk,B,I,N,f,t,rfl,lw,pr,l6,e6,ok,e7,hn,sB,q⟩:=h;refine ⟨_,(z02 (ps_set (i:=4) sc__law_moved.nd rfl (N1 rfl) (pe_cal c5 (C.mono (by decide)) rfl (z01 (pv 0) (z01 (pv 1) pa_nil))))
   (z02 (ps_if (z0a op_lt (pv 2) (z06 z0l rfl (T.no (n_len _)) C2 (z01 (pv 4) pa_nil)) (nomark _))
   (z02 (ps_set (i:=5) sc__law_moved.nd rfl (N1 rfl) (pe_ix ix_seq (pv 4) (pv 2) (λ _ _=>rfl)))
   (z02 (ps_asg (pe_ix ix_seq (pe_ix ix_seq (pv 1) (pv 5) (λ _ _=>rfl)) (pe_ix ix_seq (z0d (hu_of C) (pv 0) pe_str (λ _ _=>rfl)) (pv 5) (λ _ _=>rfl)) (λ _ _=>rfl)) (pg_tup rfl (z0u (z0m (i:=6) sc__law_moved.nd rfl (N1 rfl)) (z0u (z0m (i:=7) sc__law_moved.nd rfl (N1 rfl)) z74))))
   (z02 (ps_asg (pe_op opAdd (pe_ix ix_seq (z0d (hu_of C) (pv 0) pe_str (λ _ _=>rfl)) (pv 5) (λ _ _=>rfl)) pe_int) (pg_sub (z0d (hu_of C) (pv 0) pe_str (λ _ _=>rfl)) (pv 5) z3w))
   (z02 (ps_asg (zi8 (z4q pe_str (pv 6) (z4q pe_str (pv 7) zhu)) rfl rfl (by simp) (by decide)) (pg_sub (z0d (hu_of C) (pv 0) pe_str (λ _ _=>rfl)) (pv 5) z3w))
   (z02 (z0i (z0r (z0d (hu_of C) (pv 0) pe_str (λ _ _=>rfl)) (z01 (pe_tup (z01 pe_str (z01 (pv 5) (z01 pe_str (z01 (pv 6) (z01 (pv 7) pa_nil)))))) pa_nil)))
   (z02 (z0i (pe_cal c6 (C.mono (by decide)) rfl (z01 (pv 0) (z01 (pv 5) (z01 pe_non (z01 pe_non pa_nil))))))
   (z05 z7e)))))))
   z0f)
   (z02 (ps_set (i:=8) sc__law_moved.nd rfl (N1 rfl) (pe_op op_mod (pe_op op_sub (pv 2) (z06 z0l rfl (T.no (n_len _)) C2 (z01 (pv 4) pa_nil))) (z06 z0l rfl (T.no (n_len _)) C2 (z01 (z0d (hu_of C) (pv 0) pe_str (λ _ _=>rfl)) pa_nil))))
   (z02 (ps_set (i:=9) sc__law_moved.nd rfl (N1 rfl) (zfs (z0d (hu_of C) (pv 0) pe_str (λ _ _=>rfl)) (z01 (pv 8) pa_nil)))
   (z05 (ps_if (z0a op_le (pe_op op_sub (pv 2) (z06 z0l rfl (T.no (n_len _)) C2 (z01 (pv 4) pa_nil))) (z06 z0l rfl (T.no (n_len _)) C2 (z01 (z0d (hu_of C) (pv 0) pe_str (λ _ _=>rfl)) pa_nil)) (nomark _))
   (z05 (z0i (pe_cal c7 (C.mono (by decide)) rfl (z01 (pv 0) (z01 (pv 9) (z01 (pv 3) pa_nil))))))
   z0f)))))),?_⟩
  have ol:=ok.ol;have nl:=ok.nl;have ul:=ok.ul;have vl:=ok.vl;refine z0c ⟨_,rfl,_,rfl,g,a,B,I,N,f,rfl,lw,pr.same sB,l6,ol,nl,λ Y M s1 d7 a6=>?_⟩;refine g_name ?_;have a5:=lw.same s1;have a9:=sB.trans s1;have a0:(natV (N.free f)).length=(N.free f).length:=G0 ..;obtain ⟨W,hv,l,J,x,j,Z,X,O⟩:=id a5.ct;have u:M g.st=some (.dK W):=j.at (a:=[]);have K:M g.un=some (.lst l):=j.at (a:=[_,_]);have b1:l.length=N.under.length:=z04 X;refine sq_if ⟨_,rfl,_,rfl,.inl ⟨Y,_,rfl,.inl (SqL.of a6),_,_,rfl,rfl,_,rfl,?_⟩⟩;by_cases hlt:n < (N.free f).length
  ·refine iteP (decide_eq_true (by rw [a0];omega)) ?_;have hf:(N.free f)[n]? = some (N.free f)[n]:=v0 hlt;have hm:(N.free f)[n]∈N.free f:=E3 hlt;generalize (N.free f)[n]=h at hf hm;obtain ⟨m1,F⟩:=List.mem_filter.mp (show h∈(V0 f.length).filter (N.fre f) from hm);have hh:h < f.length:=List.mem_range.mp m1;have F:((N.opn[h]?.getD none).isNone && decide (N.nxt[h]?.getD 0 < (f[h]?.getD []).length))=true:=F;have a7:h < N.opn.length:=by omega
   have b7:h < N.nxt.length:=by omega
   have hN:N.nxt[h]? = some N.nxt[h]:=v0 b7;have hP:f[h]? = some f[h]:=v0 hh;have ho:N.opn[h]? = some none:=by
    have hO:N.opn[h]? = some N.opn[h]:=v0 a7;rw [hO] at F⊢;cases e:N.opn[h] with
    | none=>rfl
    | some D=>rw [e] at F;cases F
   rw [P4,decide_eq_true_iff,hN,hP] at F;have hx:N.nxt[h] < (f[h]).length:=F.2;obtain ⟨os,d6,d8⟩:=pr.same a9;obtain ⟨yv,d5,b,ys,rfl,eb,ad⟩:=z0q d8 hP;have d1:(f[h])[N.nxt[h]]? = some (f[h])[N.nxt[h]]:=v0 hx;obtain ⟨dv,e1,dp,rfl,d2⟩:=z0q ad d1;have a3:N.moved f bk n=N.begin h ((f[h])[N.nxt[h]]):=by unfold LM.moved;rw [if_pos hlt,hf];show (match (f[h]?.getD [])[N.nxt[h]?.getD 0]? with|some d=>N.begin h d|none=>N)=_;rw [hN,hP];show (match (f[h])[N.nxt[h]]? with|some d=>N.begin h d|none=>N)=_;rw [d1]
   generalize (f[h])[N.nxt[h]]=d at d2 a3;rw [a3] at q;have e0:N.nxt[h]?.getD 0=N.nxt[h]:=by rw [hN];rfl
   obtain ⟨oe,d9,oo⟩:=z0q a5.oe ho;cases oe with
   | some y=>exact oo.elim
   | none=>
   have a4:M g.nx=some (.lst (natV N.nxt)):=j.at (a:=[_,_,_]);have b6:(natV N.nxt)[h]? = some (.int (N.nxt[h]:Nat)):=by unfold natV;rw [R0,hN];rfl
   refine z0c ⟨_,rfl,_,rfl,.inl ⟨Y,_,n,.int (h:Nat),rfl,rfl,SqL.of a6,z09 (by unfold natV;rw [R0,hf];rfl),g_name ?_⟩⟩;refine z0c ⟨_,rfl,_,rfl,.inl ⟨a,os,h,.ref b,rfl,rfl,SqL.of d6,z09 d5,_,rfl,g.st,_,rfl,x.gnx u,_,rfl,.inl ⟨g.nx,_,h,_,rfl,rfl,SqL.of a4,z09 b6,.inl ⟨b,ys,N.nxt[h],.ref dp,rfl,rfl,SqL.of eb,z09 e1,dp,_,rfl,SqT.of d2,rfl,_,_,rfl,_,_,rfl,rfl,?_⟩⟩⟩⟩;refine z0c ⟨_,rfl,g.st,_,rfl,x.gnx u,_,rfl,.inl ⟨g.nx,_,h,_,rfl,rfl,SqL.of a4,z09 b6,.inl ⟨_,1,rfl,rfl,_,rfl,g.st,_,rfl,x.gnx u,_,rfl,g.nx,_,h,h,rfl,rfl,a4,z61 (by rw [show (natV N.nxt).length=N.nxt.length from G0 ..];exact b7),?_⟩⟩⟩;rw [show ((N.nxt[h]:Int) + 1)=((N.nxt[h] + 1:Nat):Int) by omega];have G:=a5.setN (us:=N.nxt.set h (N.nxt[h] + 1)) (uv':=(natV N.nxt).set h (.int ((N.nxt[h] + 1:Nat):Int))) (by unfold natV;rw [S9]);have R:=Same.keep (o:=.lst ((natV N.nxt).set h (.int ((N.nxt[h] + 1:Nat):Int)))) a9 (j.frA (a:=[_,_,_]));generalize upd M g.nx (.lst ((natV N.nxt).set h (.int ((N.nxt[h] + 1:Nat):Int))))=H2 at G R⊢;clear x j Z X O u a4 K b1 l;obtain ⟨W,hv,l,J,x,j,Z,X,O⟩:=id G.ct;have u:H2 g.st=some (.dK W):=j.at (a:=[]);have a2:H2 g.op=some (.lst (I.map oeV)):=j.at (a:=[_,_,_,_,_]);refine z0c ?_;intro S a1;refine pairsC ⟨_,rfl,pairsC ⟨_,rfl,z03,[(.inr "verb",.str (vbD d)),(.inr "worth",wvD d)],rfl,(show (2:Nat)<=15 by decide),?_⟩⟩;rw [show mergeK ([]:List (Key×V)) [(.inr "verb",.str (vbD d)),(.inr "worth",wvD d)]=putK (putK [] (.inr "verb") (.str (vbD d))) (.inr "worth") (wvD d) from rfl];have n1:g.st≠S:=λ z=>by rw [z,a1] at u;cases u
   have n2:g.op≠S:=λ z=>by rw [z,a1] at a2;cases a2
   refine ⟨_,rfl,g.st,_,rfl,x.gop (up1 n1 (up1 n1 u)),_,rfl,g.op,_,h,h,rfl,rfl,up1 n2 (up1 n2 a2),z61 (by rw [G0,show I.length=N.opn.length from z04 G.oe];exact a7),?_⟩;have k0:KS kD (putK (putK [] (.inr "verb") (.str (vbD d))) (.inr "worth") (wvD d)):=(KS.nil.put (by simp [kD])).put (by simp [kD]);have k1:valV (κ:=Key) (putK (putK [] (.inr "verb") (.str (vbD d))) (.inr "worth") (wvD d)) (.inr "verb")=some (.str (vbD d)):=(vp_ne (by decide +kernel)).trans vp_eq;have k2:valV (κ:=Key) (putK (putK [] (.inr "verb") (.str (vbD d))) (.inr "worth") (wvD d)) (.inr "worth")=some (wvD d):=vp_eq;have b2:=G.newO (D:=⟨d,0,false,[],none⟩) (kv:=putK (putK [] (.inr "verb") (.str (vbD d))) (.inr "worth") (wvD d)) d9 a1 R λ U=>⟨k0,k1,k2,(λ z=>by cases z),λ z=>absurd rfl z⟩
   have b9:Same B (upd (upd (upd H2 S (.dK [])) S (.dK (putK (putK [] (.inr "verb") (.str (vbD d))) (.inr "worth") (wvD d)))) g.op (.lst ((I.map oeV).set h (.ref S)))):=Same.keep (Same.keep (R.trans (Same.upd a1)) (R.free a1)) (j.frA (a:=[_,_,_,_,_]));generalize upd (upd (upd H2 S (.dK [])) S (.dK (putK (putK [] (.inr "verb") (.str (vbD d))) (.inr "worth") (wvD d)))) g.op (.lst ((I.map oeV).set h (.ref S)))=H3 at b2 b9⊢;clear x j Z X O u a2;obtain ⟨W,hv,l,J,x,j,Z,X,O⟩:=id b2.ct;have u:H3 g.st=some (.dK W):=j.at (a:=[]);have d0:H3 g.ev=some (.lst J):=j.at (a:=[_,_,_,_]);refine ⟨_,rfl,g.st,_,rfl,x.gev u,.inl ⟨rfl,_,SqL.of d0⟩,?_⟩;refine ⟨_,rfl,_,rfl,_,rfl,w_5,λ p hp=>?_⟩;obtain ⟨H4,v_,t4,e4⟩:=newA (.tup [.str "begin",.int (h:Nat),.str "r",.str (vbD d),wvD d]) hp;rw [<-v_];have lv:J.length<=1000:=by rw [z04 O];show N.events.length<=_;omega
   refine ⟨g.ev,J,_,rfl,rfl,t4 _ _ d0,W0 lv (by decide),t_nx ?_⟩;have b8:=(b2.same t4).setV (us:=N.events++[.beg h d]) (uv':=J++[.ref p]) λ U m=>z3u (z00 (λ _ _ z=>EvV.imm ((Imm.of t4).trans m) z) O) (.cons (show EvV U (.beg h d) (.ref p) from ⟨p,rfl,m.t _ _ e4⟩) .nil);have c8:=Same.keep (o:=.lst (J++[.ref p])) (b9.trans t4) (j.frA (a:=[_,_,_,_]));generalize upd H4 g.ev (.lst (J++[.ref p]))=H5 at b8 c8⊢;refine ⟨_,rfl,_,rfl,g,h,.non,.non,B,_,_,_,_,none,rfl,b8,P0 a7,P0 (by rw [show I.length=N.opn.length from z04 G.oe];exact a7),⟨rfl,rfl⟩,(λ z=>by cases z),by show N.under.length<=_;omega,ok.h5,c8,λ a8 U s' b0=>q a8 U s' ?_⟩;unfold LM.begin;rw [e0];exact b0
  ·refine iteN (λ z=>hlt (by have:=of_decide_eq_true z;rw [a0] at this;omega)) (t_nx ?_);have u0:0 < N.under.length:=by omega
   have ek:((n:Int) - ((natV (N.free f)).length:Nat)) % ((l.length:Nat):Int)=(((n - (N.free f).length) % N.under.length:Nat):Int):=by rw [a0,b1,show (n:Int) - ((N.free f).length:Nat)=((n - (N.free f).length:Nat):Int) by omega];exact (Int.natCast_emod _ _).symm
   have kl:(n - (N.free f).length) % N.under.length < N.under.length:=j1g _ u0;have hL:N.under[(n - (N.free f).length) % N.under.length]? = some N.under[(n - (N.free f).length) % N.under.length]:=v0 kl;have a3:N.moved f bk n=if n < (N.free f).length + N.under.length then LM.come { N with under:=N.under.eraseIdx ((n - (N.free f).length) % N.under.length) } bk N.under[(n - (N.free f).length) % N.under.length] else { N with under:=N.under.eraseIdx ((n - (N.free f).length) % N.under.length) }:=by unfold LM.moved;rw [if_neg hlt,hL]
   rw [a3] at q;refine z0c ⟨_,rfl,_,rfl,.inl ⟨Y,_,rfl,.inl (SqL.of a6),_,_,rfl,rfl,_,rfl,g.st,_,rfl,x.gun u,.inl ⟨g.un,l,rfl,.inl (SqL.of K),_,_,rfl,rfl,(by show (0:Int) < (l.length:Int);omega),?_⟩⟩⟩;show gName 8 (V.int (((n:Int) - ((natV (N.free f)).length:Nat)) % ((l.length:Nat):Int))) _ _ _;rw [ek];generalize hkk:(n - (N.free f).length) % N.under.length=k at kl hL q⊢;generalize N.under[k]=L at hL q;have b4:=ok.un L (A1 hL);refine g_name ?_;obtain ⟨v,e2,aL⟩:=z0q X hL;refine z0c ⟨_,rfl,g.st,_,rfl,x.gun u,.inl ⟨rfl,l,SqL.of K⟩,_,rfl,g.un,l,_,k,v,rfl,rfl,K,by omega,by omega,z7z (by rw [b1];exact kl),e2,?_⟩;have F:Imm M (upd M g.un (.lst (l.eraseIdx k))):=Imm.lst K;have G:=a5.setU (us:=N.under.eraseIdx k) (uv':=l.eraseIdx k) λ U m=>z5p k (z00 (λ _ _ z=>LLAt.imm m z) X);have R:=Same.keep (o:=.lst (l.eraseIdx k)) a9 (j.frA (a:=[_,_]));have d4:Y≠g.un:=λ z=>by obtain ⟨_,_,_,_,_,c,_⟩:=lw.ct;have:=c.at (a:=[_,_]);rw [<-z,d7] at this;cases this
   have c9:upd M g.un (.lst (l.eraseIdx k)) Y=some (.lst (natV (N.free f))):=up1 d4 a6;generalize upd M g.un (.lst (l.eraseIdx k))=H2 at G R c9 F⊢;refine g_name ?_;clear x j Z O u K;obtain ⟨W,hv,b3,J,x,j,Z,d3,O⟩:=id G.ct;have u:H2 g.st=some (.dK W):=j.at (a:=[]);have K:H2 g.un=some (.lst b3):=j.at (a:=[_,_]);have b5:b3.length=N.under.length - 1:=by rw [z04 d3];show (N.under.eraseIdx k).length=_;rw [j45,if_pos kl]
   refine ⟨_,rfl,_,rfl,.inl ⟨Y,_,rfl,.inl (SqL.of c9),_,_,rfl,rfl,_,rfl,g.st,_,rfl,x.gun u,.inl ⟨g.un,b3,rfl,.inl (SqL.of K),_,_,rfl,rfl,_,rfl,?_⟩⟩⟩;by_cases hb:n < (N.free f).length + N.under.length
   ·rw [if_pos hb] at q;refine iteP (decide_eq_true (by rw [a0,b5];omega)) ?_;refine ⟨_,rfl,_,rfl,_,rfl,g,v,bk,B,I,_,L,rfl,G,aL.imm F,b4.1,by show L.hand < N.opn.length;rw [ol];exact b4.2.1,b4.2.2,λ D hD=>ok.op _ D hD,by show (N.under.eraseIdx k).length<=9000;have:=o8 N.under k;omega,ok.h5,by show N.events.length<=_;omega,R,λ a8 U s' b0=>q a8 U s' b0⟩
   ·rw [if_neg hb] at q;exact iteN (λ z=>hb (by have:=of_decide_eq_true z;rw [a0,b5] at this;omega)) (q I _ R G)
def z44 (K:j0):Sp:=λ vs H Q _=>∃(A:La) (a:Addr) (x:Int) (su:Int) (B:Hp) (es:List (Option OE)) (N:LM) (pl:List (List (Option Int))) (t:Nat),vs=[.ref A.st,.ref a,.int x,.int su]/\Lw K B H A es N/\PlR B a pl/\pl.length<=6/\LOk pl N t/\t<=1000/\Same B H/\
 (∀H',Same H H'->(N.free pl).length + N.under.length=0->Q .non H')/\∀c H',Same H H'->(N.free pl).length + N.under.length≠0->Q (.int c) H'
theorem z8e (T:TX (kx w) mg) (c5:Ca P w mg base "_law_free" ["state","plan"] 1 (z1p (kx w))):Fo P w mg base CX0 2 472 y0m ["state","plan","x","sure"] (z44 (kx w)):=by
 refine (z2u w.params).ok sc__law_choice (λ S H Q E h=>?_) (λ a3 A a5 s H S Q E f h=>?_)
 ·obtain ⟨A,a,x,o,B,v,N,d,t,rfl,_⟩:=h;rfl
 ·obtain ⟨b,a,x,o,B,v,N,d,t,rfl,r,Z,p,ok,a1,F,qn,q⟩:=h;refine ⟨_,(z02 (ps_set (i:=4) sc__law_choice.nd rfl (N1 rfl) (pe_op opAdd (z06 z0l rfl (T.no (n_len _)) C2 (z01 (pe_cal c5 (f.mono (by decide)) rfl (z01 (pv 0) (z01 (pv 1) pa_nil))) pa_nil)) (z06 z0l rfl (T.no (n_len _)) C2 (z01 (z0d (hu_of f) (pv 0) pe_str (λ _ _=>rfl)) pa_nil))))
   (z02 (ps_set (i:=5) sc__law_choice.nd rfl (N1 rfl) (pe_op opAdd (pv 4) (z06 z0l rfl (T.no (n_len _)) C2 (z01 (z0d (hu_of f) (pv 0) pe_str (λ _ _=>rfl)) pa_nil))))
   (z02 (ps_if (z0a opEq (pv 5) pe_int (nomark _))
   (z05 (ps_ret pe_non))
   z0f)
   (z02 (ps_set (i:=6) sc__law_choice.nd rfl (N1 rfl) (pe_op op_mod (pe_op z1f (pv 2) pe_int) (pv 4)))
   (z02 (ps_if (PW.pt (pw_and (z0a op_lt (pe_op op_mod (pv 2) pe_int) (pv 3) (nomark _)) (z6k (z0a (zhw f) (z0d (hu_of f) (pv 0) pe_str (λ _ _=>rfl)) (pe_lst pa_nil) (nomark _)))))
   (z05 (ps_set (i:=6) sc__law_choice.nd rfl (N1 rfl) (pe_op opAdd (pv 4) (pe_op op_mod (pe_op z1f (pv 2) pe_int) (z06 z0l rfl (T.no (n_len _)) C2 (z01 (z0d (hu_of f) (pv 0) pe_str (λ _ _=>rfl)) pa_nil))))))
   z0f)
   (z05 (ps_ret (pe_op opAdd (pv 6) (pe_op op_mul (pv 5) (pe_op op_sub (pe_op op_mod (pe_op z1f (pv 2) pe_int) pe_int) pe_int)))))))))),?_⟩
  have ul:=ok.ul;refine z0c ⟨_,rfl,_,rfl,b,a,B,v,N,d,rfl,r,Z.same F,p,ok.ol,ok.nl,λ lf g n a4 V=>?_⟩;have D:=r.same n;have I:(natV (N.free d)).length=(N.free d).length:=G0 ..;obtain ⟨G,hv,c,vv,m,C,c2,L,c4⟩:=id D.ct;have l:g b.st=some (.dK G):=C.at (a:=[]);have j:g b.un=some (.lst c):=C.at (a:=[_,_]);have O:c.length=N.under.length:=z04 L;have a2:(N.free d).length<=6:=L0 (S6 _ _) (by rw [W2];exact p);refine .inl ⟨lf,_,rfl,.inl (SqL.of V),_,rfl,b.st,_,rfl,m.gun l,.inl ⟨b.un,c,rfl,.inl (SqL.of j),.inl ⟨_,_,rfl,rfl,g_name ?_⟩⟩⟩;refine z0c ⟨_,rfl,_,rfl,b.st,_,rfl,m.gun l,.inl ⟨b.un,c,rfl,.inl (SqL.of j),.inl ⟨_,_,rfl,rfl,g_name ?_⟩⟩⟩;rw [I,O];refine sq_if ⟨_,rfl,rfl,_,rfl,?_⟩;refine ite2 (λ z=>?_) λ z=>t_nx ?_
  ·have z:=of_decide_eq_true z;injection z with z;exact qn g n (by omega)
  have W:(N.free d).length + N.under.length≠0:=λ y=>z (decide_eq_true (by congr 1;omega));have u:CDivB x 64:=⟨by decide,by decide⟩
  refine z0c ⟨_,rfl,_,_,rfl,rfl,u,_,rfl,_,_,rfl,rfl,(by omega),g_name ?_⟩;refine za4 (λ X K=>Same g K/\∃k:Int,X=[some (.ref b.st),some (.ref a),some (.int x),some (.int o),some (.int (((N.free d).length:Nat) + (N.under.length:Nat))),some (.int (((N.free d).length:Nat) + (N.under.length:Nat) + (N.under.length:Nat))),some (.int k)]) ?_ λ go=>?_;rotate_left
  ·refine t_and ⟨_,rfl,_,_,rfl,rfl,(show (0:Int) < 64 by decide),_,rfl,_,_,rfl,rfl,_,rfl,?_⟩;refine ite2 (λ _=>?_) λ _=>iteF (t_nx (go _ _ ⟨Same.refl _,_,rfl⟩));refine ⟨_,rfl,b.st,_,rfl,m.gun l,w_0,λ M a0=>?_⟩;obtain ⟨Y,R,e,J⟩:=newA (.lst []) a0;rw [<-R];refine ⟨b.un,M,c,rfl,rfl,SqL.of (e _ _ j),SqL.of J,_,rfl,?_⟩;refine ite2 (λ z=>?_) λ _=>t_nx (go _ _ ⟨e,_,rfl⟩);have U:c≠[]:=of_decide_eq_true z;have up:0 < c.length:=List.length_pos_iff.mpr U;refine ⟨_,rfl,_,rfl,_,_,rfl,rfl,u,_,rfl,b.st,_,rfl,m.gun (e _ _ l),.inl ⟨b.un,c,rfl,.inl (SqL.of (e _ _ j)),_,_,rfl,rfl,(by show (0:Int) < (c.length:Nat);omega),.inl ⟨_,_,rfl,rfl,g_name (t_nx (go _ _ ⟨e,_,rfl⟩))⟩⟩⟩
  rintro σ Y ⟨e,k,rfl⟩;refine sq_ret ⟨_,rfl,_,rfl,_,rfl,_,_,rfl,rfl,(show CDivB x 65536 from ⟨by decide,by decide⟩),_,_,rfl,rfl,(show (0:Int) < 7 by decide),_,_,rfl,rfl,_,_,rfl,rfl,.inl ⟨by omega,by omega⟩,.inl ⟨_,_,rfl,rfl,q _ _ (n.trans e) W⟩⟩
theorem cut3 (ns:List Int) :∃ms:List Int,cutV (ns.map V.int) (some 3) (some 63)=ms.map V.int/\ms.length<=60:=by
 refine ⟨(ns.drop (HT.sIx (ns.map V.int).length 0 (some 3))).take (HT.sIx (ns.map V.int).length (ns.map V.int).length (some 63) - HT.sIx (ns.map V.int).length 0 (some 3)),?_,?_⟩
 ·unfold cutV;rw [List.map_take,List.map_drop]
 ·refine L0 (List.length_take_le _ _) ?_;have a:HT.sIx (ns.map V.int).length (ns.map V.int).length (some 63)=min 63 (ns.map V.int).length:=HT.sIx_nat _ _ 63;have b:HT.sIx (ns.map V.int).length 0 (some 3)=min 3 (ns.map V.int).length:=HT.sIx_nat _ _ 3;rw [a,b];omega
def z77 (K:j0):Sp:=λ vs H Q _=>∃(sc:Addr) (ns:List Int),vs=[.ref sc]/\SqL K H sc (ns.map V.int)/\ns.length<=63/\∀(l:Addr) (cs:List Int) (H':Hp),Same H H'->H l=none->H' l=some (.lst (cs.map V.int))->cs.length<=360->Q (.ref l) H'
theorem zcy (T:TX (kx w) mg):Fo P w mg base CX0 1 486 y1i ["script"] (z77 (kx w)):=by
 refine (z6f w.params).ok sc__law_raw (λ B H Q E h=>?_) (λ M A W s H B Q E R h=>?_)
 ·obtain ⟨sc,r,rfl,_⟩:=h;rfl
 ·obtain ⟨sc,r,rfl,D,L,q⟩:=h;refine ⟨_,(z02 (ps_set (i:=1) sc__law_raw.nd rfl (N1 rfl) (pe_lst pa_nil))
   (z02 (ps_for Y2 rfl (z14 (zab slSeq (pv 0) (z9e pe_int) (z9e pe_int))) (z0m (i:=2) sc__law_raw.nd rfl (N1 rfl))
   (z05 (ps_for Y2 rfl (z1d rfl (T.no (z3c _)) (z01 pe_int pa_nil)) (z0m (i:=3) sc__law_raw.nd rfl (N1 rfl))
   (z02 (z0i (z0r (pv 1) (z01 (pe_op op_mul (pe_op op_mod (pv 2) pe_int) (pe_op op_sub pe_int (pe_op op_mul pe_int (pe_op z1f (pe_op op_mod (pe_op z1f (pv 2) pe_int) pe_int) pe_int)))) pa_nil)))
   (z05 (ps_set (i:=2) sc__law_raw.nd rfl (N1 rfl) (pe_op z1f (pv 2) pe_int)))))))
   (z05 (ps_ret (pv 1))))),?_⟩
  obtain ⟨f,I,O⟩:=cut3 r;refine z0c ⟨w_0,λ d l=>g_name ?_⟩;obtain ⟨J,g,o,u⟩:=newA (.lst []) l;rw [<-g];refine ⟨_,rfl,3,rfl,63,rfl,.inl ⟨sc,_,rfl,o.seq D,λ e k=>?_⟩⟩;rw [I];obtain ⟨S,g,v,x⟩:=newA (.lst (f.map V.int)) k;rw [<-g];have C:e≠d:=λ z=>by rw [z,u] at k;cases k
  refine ⟨e,rfl,⟨_,SqL.of x⟩,?_⟩;refine z4y (K:=KX w.params) (a:=e) (xs:=f.map V.int) (λ i σ b=>∃(cs:List Int) (x2 x3:Option V),Same H b/\b e=some (.lst (f.map V.int))/\b d=some (.lst (cs.map V.int))/\cs.length<=6 * i/\σ=[some (.ref sc),some (.ref d),x2,x3]) ⟨[],_,_,o.trans v,x,v _ _ u,A2 _,rfl⟩ (λ _ σ b _ h=>by obtain ⟨_,_,_,_,h,_⟩:=h;exact SqL.of h) ?_ ?_
  ·rintro i y σ t p ⟨cs,x2,x3,s3,q3,e3,l3,rfl⟩;rw [R0] at p;obtain ⟨c,F,rfl⟩:=Option.map_eq_some_iff.mp p;have U:i < f.length:=(List.getElem?_eq_some_iff.mp F).1;refine g_name ?_;refine ⟨6,rfl,by decide,by decide,?_⟩;refine z33 (lo:=0) (n:=6) (λ j σ b=>∃(cs:List Int) (c:Int) (x3:Option V),Same H b/\b e=some (.lst (f.map V.int))/\b d=some (.lst (cs.map V.int))/\cs.length<=6 * i + j/\σ=[some (.ref sc),some (.ref d),some (.int c),x3]) ⟨cs,c,_,s3,q3,e3,l3,rfl⟩ ?_ ?_
   ·rintro j σ G N ⟨cs,c,x3,s4,q4,e4,l4,rfl⟩;refine g_name ?_;refine ⟨_,rfl,.inl ⟨rfl,_,SqL.of e4⟩,_,rfl,_,_,rfl,rfl,(show (0:Int) < 1000 by decide),_,rfl,_,_,rfl,rfl,(show CDivB c 1000 from ⟨by decide,by decide⟩),_,_,rfl,rfl,(show (0:Int) < 5 by decide),_,_,rfl,rfl,(show CDivB (c / 1000 % 5) 4 from ⟨by decide,by decide⟩),_,_,rfl,rfl,.inl ⟨by decide,by decide⟩,_,_,rfl,rfl,_,_,rfl,rfl,.inl ⟨by omega,by omega⟩,?_⟩;refine ⟨d,_,_,rfl,rfl,e4,W0 (m:=400) (by rw [G0];omega) (by decide),t_nx ?_⟩;refine ⟨_,rfl,_,_,rfl,rfl,(show CDivB c 5000 from ⟨by decide,by decide⟩),g_name ?_⟩;exact ⟨cs++[_],_,_,Same.keep s4 l,up1 C q4,by rw [z03,W1];rfl,by rw [I0];show cs.length + 1<=_;omega,rfl⟩
   ·rintro σ G ⟨cs,c,x3,s4,q4,e4,l4,rfl⟩;exact ⟨cs,_,_,s4,q4,e4,by omega,rfl⟩
  ·rintro σ t ⟨cs,x2,x3,s3,q3,e3,l3,rfl⟩;rw [G0] at l3;exact ⟨_,rfl,q d cs t s3 l e3 (by omega)⟩
theorem go_end {pl:List (List (Option Int))} {bk:Bool} {N:LM} (h:(N.free pl).length + N.under.length=0) :∀cs:List Int,cs.foldl (λ N c=>N.go pl bk c) N=N
 | []=>rfl
 | c :: cs=>by have e:N.go pl bk c=N:=if_pos h;rw [J4,e];exact go_end h cs
theorem go_on {pl:List (List (Option Int))} {bk:Bool} {N:LM} {c:Int} (h:(N.free pl).length + N.under.length≠0):N.go pl bk c=N.moved pl bk (c % (((N.free pl).length:Int) + 2 * (N.under.length:Int))).toNat:=if_neg h
theorem zej {pl:List (List (Option Int))} {m:Nat} {bk:Bool} (g:PlG pl) (m35:m=3\/m=5) (cs:List Int) (hl:cs.length<=450):LOk pl (cs.foldl (λ N c=>N.go pl bk c) (LM.init m pl)) 900:=by have s:=z7y (pl:=pl) (bk:=bk) (m:=m) (by omega) cs;have a:=zcc cs (zbr (bk:=bk) g (by omega) (by omega:m<=5));rw [C5] at a;exact lok_of s (a.m.le1 (by omega))
def z4e (K:j0):Sp:=λ vs H Q _=>∃(m:Nat) (a c:Addr) (bk:Bool) (cs:List Int) (pl:List (List (Option Int))),vs=[.int m,.ref a,.ref c,.bl bk]/\(m=3\/m=5)/\PlR H a pl/\PlG pl/\H c=some (.lst (cs.map V.int))/\cs.length<=450/\
 ∀l vv H',Same H H'->H l=none->H' l=some (.lst vv)->All2 (EvV H') (cs.foldl CM.go (CM.init m bk pl)).events vv->Q (.ref l) H'
theorem z83 (T:TX (kx w) mg) (c5:Ca P w mg base "_law_begun" ["many","plan"] 1 (z32 (kx w))) (c6:Ca P w mg base "_law_free" ["state","plan"] 1 (z1p (kx w))) (c7:Ca P w mg base "_law_moved" ["state","plan","number","back"] 4 (z30 (kx w))):Fo P w mg base CX0 5 493 y0o ["many","plan","choices","back"] (z4e (kx w)):=by
 refine (z31 w.params).ok sc__law_events (λ vs H Q E h=>?_) (λ b4 A b5 s H vs Q E p h=>?_)
 ·obtain ⟨m,a,c,bk,d,b,rfl,_⟩:=h;rfl
 ·obtain ⟨m,a,c,bk,d,b,rfl,b2,F,g,r,hl,q⟩:=h;refine ⟨_,(z02 (ps_set (i:=4) sc__law_events.nd rfl (N1 rfl) (pe_cal c5 (p.mono (by decide)) rfl (z01 (pv 0) (z01 (pv 1) pa_nil))))
   (z02 (ps_for Y2 rfl (z14 (pv 2)) (z0m (i:=5) sc__law_events.nd rfl (N1 rfl))
   (z02 (ps_set (i:=6) sc__law_events.nd rfl (N1 rfl) (pe_op opAdd (z06 z0l rfl (T.no (n_len _)) C2 (z01 (pe_cal c6 (p.mono (by decide)) rfl (z01 (pv 4) (z01 (pv 1) pa_nil))) pa_nil)) (pe_op op_mul pe_int (z06 z0l rfl (T.no (n_len _)) C2 (z01 (z0d (hu_of p) (pv 4) pe_str (λ _ _=>rfl)) pa_nil)))))
   (z02 (ps_if (z0a opEq (pv 6) pe_int (nomark _))
   (z05 (ps_ret (z0d (hu_of p) (pv 4) pe_str (λ _ _=>rfl))))
   z0f)
   (z05 (z0i (pe_cal c7 (p.mono (by decide)) rfl (z01 (pv 4) (z01 (pv 1) (z01 (pe_op op_mod (pv 5) (pv 6)) (z01 (pv 3) pa_nil))))))))))
   (z05 (ps_ret (z0d (hu_of p) (pv 4) pe_str (λ _ _=>rfl)))))),?_⟩
  have J:=g.n6;have a8 :∀own∈b,own.length<=24:=(zbr (bk:=bk) g (by omega:0 < m) (by omega)).m.lw;obtain ⟨os,a6,b0⟩:=id F;refine z0c ⟨_,rfl,_,rfl,m,a,os,b,rfl,by omega,a6,z04 b0,J,λ e H1 W a5=>?_⟩;refine g_name ?_;refine ⟨_,rfl,c,rfl,⟨_,SqL.of (W _ _ r)⟩,?_⟩;have a0 :∀{f:Hp} {es:List (Option OE)},Same H f->Lw (kx w) H f e es (d.foldl (λ N c=>N.go b bk c) (LM.init m b))->∃n,H e.ev=none/\f e.ev=some (.lst n)/\All2 (EvV f) (d.foldl CM.go (CM.init m bk b)).events n/\∃l,StO e (d.foldl (λ N c=>N.go b bk c) (LM.init m b)).rounds l/\f e.st=some (.dK l):=λ {f es} Z I=>by obtain ⟨l,hv,u,n,L,o,c2,c3,O⟩:=I.ct;rw [(z7y (by omega) d).ev] at O;exact ⟨n,o.frA (a:=[_,_,_,_]),o.at (a:=[_,_,_,_]),O,l,L,o.at (a:=[])⟩
  refine z4y (K:=KX w.params) (a:=c) (xs:=d.map V.int) (λ i σ f=>Same H f/\∃es x5 x6,Lw (kx w) H f e es ((d.take i).foldl (λ N c=>N.go b bk c) (LM.init m b))/\σ=[some (.int m),some (.ref a),some (.ref c),some (.bl bk),some (.ref e.st),x5,x6]) ⟨W,_,_,_,a5,rfl⟩ (λ _ σ f _ h=>SqL.of (h.1 _ _ r)) ?_ ?_
  ·rintro i y σ H4 t ⟨s4,es,x5,x6,j,rfl⟩;rw [R0] at t;cases hc:d[i]? with
   | none=>rw [hc] at t;cases t
   | some k=>
   rw [hc] at t;cases t;have hi:i < d.length:=(List.getElem?_eq_some_iff.mp hc).1;have ok:=zej (bk:=bk) g b2 (d.take i) (by rw [U6];omega);have v:(d.take (i + 1)).foldl (λ N c=>N.go b bk c) (LM.init m b)=((d.take i).foldl (λ N c=>N.go b bk c) (LM.init m b)).go b bk k:=by rw [List.take_succ,hc,E6];rfl
   have S:d.foldl (λ N c=>N.go b bk c) (LM.init m b)=(d.drop i).foldl (λ N c=>N.go b bk c) ((d.take i).foldl (λ N c=>N.go b bk c) (LM.init m b)):=by rw [<-E6,j3e]
   generalize (d.take i).foldl (λ N c=>N.go b bk c) (LM.init m b)=N at j ok v S;refine g_name ?_;have j:=j;refine z0c ⟨_,rfl,_,rfl,e,a,H,es,N,b,rfl,j,F.same s4,J,ok.ol,ok.nl,λ lf x Y b7 a9=>?_⟩;have M:=j.same Y;have C:=s4.trans Y;have a7:(natV (N.free b)).length=(N.free b).length:=G0 ..;obtain ⟨l,hv,u,n,L,o,c2,c3,O⟩:=id M.ct;have b1:x e.st=some (.dK l):=o.at (a:=[]);have a1:x e.un=some (.lst u):=o.at (a:=[_,_]);have a4:u.length=N.under.length:=z04 c3;have ul:=ok.ul;refine .inl ⟨lf,_,rfl,.inl (SqL.of a9),_,rfl,e.st,_,rfl,L.gun b1,.inl ⟨e.un,u,rfl,.inl (SqL.of a1),2,_,rfl,rfl,.inl ⟨by decide,by decide⟩,.inl ⟨_,_,rfl,rfl,g_name ?_⟩⟩⟩;rw [a7,a4];refine sq_if ⟨_,rfl,rfl,_,rfl,?_⟩;refine ite2 (λ z=>?_) λ z=>t_nx ?_
   ·have z:=of_decide_eq_true z;injection z with z;have z0:(N.free b).length + N.under.length=0:=by omega
    rw [go_end z0] at S;have a2:Lw (kx w) H x e es (d.foldl (λ N c=>N.go b bk c) (LM.init m b)):=by rw [S];exact M
    obtain ⟨b6,U,B,D,b3,R,G⟩:=a0 C a2;exact ⟨_,rfl,e.st,_,rfl,R.gev G,q _ _ _ C U B D⟩
   have nz:(N.free b).length + N.under.length≠0:=λ y=>z (decide_eq_true (by congr 1;omega));rw [go_on nz] at v;have X:(0:Int) < ((N.free b).length:Nat) + 2 * (N.under.length:Nat):=by omega
   have h0:=G5 k (by omega:(((N.free b).length:Nat) + 2 * (N.under.length:Nat):Int)≠0);have h1:=R4 k X;have r:k % (((N.free b).length:Nat) + 2 * (N.under.length:Nat):Int)=(((k % (((N.free b).length:Int) + 2 * (N.under.length:Int))).toNat:Nat):Int):=(E7 h0).symm;refine ⟨_,rfl,_,rfl,_,rfl,_,rfl,_,_,rfl,rfl,X,?_⟩;generalize hkk:(k % (((N.free b).length:Int) + 2 * (N.under.length:Int))).toNat=kk at v r;refine ⟨_,rfl,e,a,kk,bk,H,es,N,b,900,?_,M,F,J,a8,ok,by decide,by omega,C,λ a3 f Z I=>⟨Z,a3,_,_,by rw [v];exact I,rfl⟩⟩;rw [<-r];rfl
  ·rintro σ H4 ⟨s4,es,x5,x6,j,rfl⟩;rw [G0,List.take_length] at j;obtain ⟨n,U,B,D,l,R,G⟩:=a0 s4 j;exact ⟨_,rfl,e.st,_,rfl,R.gev G,q _ _ _ s4 U B D⟩
theorem Lw.rb {K:j0} {B H:Hp} {A:La} {es:List (Option OE)} {N:LM} {l:Addr} {o:HO} (h:Lw K B H A es N) (m:Imm H (upd H l o)) (n :∀p x,B p=none->H p=some x->p≠l):Lw K (upd B l o) (upd H l o) A es N:=by obtain ⟨f,i,d,g,r,b,j,k,q⟩:=h.ct;have e :∀p∈baseO A f i d (natV N.nxt) g (es.map oeV)++es.flatMap entO,p.1≠l:=λ p a=>n _ _ (b.fr p a) (b.c p a);exact ⟨⟨f,i,d,g,r,⟨λ p a=>by rw [upd_ne (e p a)];exact b.c p a,b.nd,λ p a=>by rw [upd_ne (e p a)];exact b.fr p a⟩,z00 (λ _ _ z=>z.imm m) j,z00 (λ _ _ z=>z.imm m) k,z00 (λ _ _ z=>z.imm m) q⟩,z00 (λ _ _ z=>OeO.imm m z) h.oe⟩
theorem Same.upd2 {B H:Hp} {l:Addr} {o:HO} (s:Same B H):Same (upd B l o) (upd H l o):=λ p x e=>by
 by_cases z:p=l
 ·subst z;rw [z03] at e⊢;exact e
 ·rw [upd_ne z] at e⊢;exact s _ _ e
def z41 (K:j0):Sp:=λ vs H Q _=>∃(sc:Addr) (ns:List Int) (m:Nat) (a:Addr) (bk:Bool) (su:Int) (pl:List (List (Option Int))),vs=[.ref sc,.int m,.ref a,.bl bk,.int su]/\SqL K H sc (ns.map V.int)/\(m=3\/m=5)/\PlR H a pl/\PlG pl/\
 ∀t lc x (cs:List Int) H',Same H H'->H' t=some (.tup [.ref lc,x])->H lc=none->H' lc=some (.lst (cs.map V.int))->cs.length<=360->Q (.ref t) H'
theorem z7o (T:TX (kx w) mg) (c5:Ca P w mg base "_law_begun" ["many","plan"] 1 (z32 (kx w))) (c6:Ca P w mg base "_law_mix" ["cell","k"] 1 z34) (c7:Ca P w mg base "_law_choice" ["state","plan","x","sure"] 2 (z44 (kx w))) (c8:Ca P w mg base "_law_free" ["state","plan"] 1 (z1p (kx w))) (c9:Ca P w mg base "_law_moved" ["state","plan","number","back"] 4 (z30 (kx w))):Fo P w mg base CX0 5 479 y0n ["script","many","plan","back","sure"] (z41 (kx w)):=by
 refine (z2t w.params).ok sc__law_guided (λ vs H Q E h=>?_) (λ d9 A e0 s H vs Q E D h=>?_)
 ·obtain ⟨sc,ns,m,a,bk,L,b,rfl,_⟩:=h;rfl
 ·obtain ⟨sc,ns,m,a,bk,L,b,rfl,sq,d8,M,g,q⟩:=h;refine ⟨_,(z02 (ps_set (i:=5) sc__law_guided.nd rfl (N1 rfl) (pe_cal c5 (D.mono (by decide)) rfl (z01 (pv 1) (z01 (pv 2) pa_nil))))
   (z02 (ps_set (i:=6) sc__law_guided.nd rfl (N1 rfl) (pe_lst pa_nil))
   (z02 (ps_for Y2 rfl (z14 (zab slSeq (pv 0) (z9e pe_int) (z9e pe_int))) (z0m (i:=7) sc__law_guided.nd rfl (N1 rfl))
   (z05 (ps_for Y2 rfl (z1d rfl (T.no (z3c _)) (z01 pe_int pa_nil)) (z0m (i:=8) sc__law_guided.nd rfl (N1 rfl))
   (z02 (ps_set (i:=9) sc__law_guided.nd rfl (N1 rfl) (pe_cal c7 (D.mono (by decide)) rfl (z01 (pv 5) (z01 (pv 2) (z01 (pe_cal c6 (D.mono (by decide)) rfl (z01 (pv 7) (z01 (pe_op opAdd pe_int (pv 8)) pa_nil))) (z01 (pv 4) pa_nil))))))
   (z02 (ps_if (z0a op_isN (pv 9) pe_non (nomark _))
   (z05 (ps_ret (pe_tup (z01 (pv 6) (z01 (z0d (hu_of D) (pv 5) pe_str (λ _ _=>rfl)) pa_nil)))))
   z0f)
   (z02 (z0i (z0r (pv 6) (z01 (pv 9) pa_nil)))
   (z02 (ps_set (i:=10) sc__law_guided.nd rfl (N1 rfl) (pe_op opAdd (z06 z0l rfl (T.no (n_len _)) C2 (z01 (pe_cal c8 (D.mono (by decide)) rfl (z01 (pv 5) (z01 (pv 2) pa_nil))) pa_nil)) (pe_op op_mul pe_int (z06 z0l rfl (T.no (n_len _)) C2 (z01 (z0d (hu_of D) (pv 5) pe_str (λ _ _=>rfl)) pa_nil)))))
   (z05 (z0i (pe_cal c9 (D.mono (by decide)) rfl (z01 (pv 5) (z01 (pv 2) (z01 (pe_op op_mod (pv 9) (pv 10)) (z01 (pv 3) pa_nil))))))))))))))
   (z05 (ps_ret (pe_tup (z01 (pv 6) (z01 (z0d (hu_of D) (pv 5) pe_str (λ _ _=>rfl)) pa_nil)))))))),?_⟩
  obtain ⟨C,d0,ml⟩:=cut3 ns;have R:=g.n6;have d4 :∀own∈b,own.length<=24:=(zbr (bk:=bk) g (by omega:0 < m) (by omega)).m.lw;obtain ⟨os,d2,d6⟩:=id M;refine z0c ⟨_,rfl,_,rfl,m,a,os,b,rfl,by omega,d2,z04 d6,R,λ f H1 s1 d1=>?_⟩;refine g_name ?_;refine z0c ⟨w_0,λ d a3=>g_name ?_⟩;have fl:=s1.free a3;have a5:=d1.rb (Imm.of (Same.upd (o:=.lst []) a3)) (λ p x _ e z=>by rw [z,a3] at e;cases e);have Z:Same H (upd H d (.lst [])):=Same.upd fl;have J:=Same.upd2 (l:=d) (o:=.lst []) s1;have a1:upd H d (.lst []) d=some (.lst []):=z03;generalize upd H1 d (.lst [])=H2 at a5 J⊢;generalize upd H d (.lst [])=B2 at a5 Z J a1⊢;refine ⟨_,rfl,3,rfl,63,rfl,.inl ⟨sc,_,rfl,(Z.trans J).seq sq,λ v a6=>?_⟩⟩;rw [d0];have fq:=J.free a6;have a4:=a5.rb (Imm.of (Same.upd (o:=.lst (C.map V.int)) a6)) (λ p x _ e z=>by rw [z,a6] at e;cases e);have b3:Same B2 (upd B2 v (.lst (C.map V.int))):=Same.upd fq;have Y:=Same.upd2 (l:=v) (o:=.lst (C.map V.int)) J;have a0:upd B2 v (.lst (C.map V.int)) v=some (.lst (C.map V.int)):=z03;generalize upd H2 v (.lst (C.map V.int))=H3 at a4 Y⊢;generalize upd B2 v (.lst (C.map V.int))=B3 at a4 b3 Y a0⊢;have nq:v≠d:=λ z=>by rw [z,a1] at fq;cases fq
  refine ⟨v,rfl,⟨_,SqL.of (Y _ _ a0)⟩,?_⟩;have b4 :∀{B r:Hp} {es:List (Option OE)} {cs:List Int} {N:LM} {σ:List (Option V)},Same H B->B d=some (.lst (cs.map V.int))->Same B r->Lw (kx w) B r f es N->cs.length<=360->DGet r f.st (.str "events") (some (.ref f.ev))/\∀t,r t=none->Q (.ref t) (upd r t (.tup [.ref d,.ref f.ev])):=λ {B r es cs N σ} hB el F a2 hc=>by obtain ⟨a9,hv,O,vv,c0,W,c2,c3,c4⟩:=a2.ct;refine ⟨c0.gev (W.at (a:=[])),λ t ht=>?_⟩;have u:=Same.upd (o:=.tup [.ref d,.ref f.ev]) ht;exact q t d _ cs _ ((hB.trans F).trans u) z03 fl (u _ _ (F _ _ el)) hc
  refine z4y (K:=KX w.params) (a:=v) (xs:=C.map V.int) (λ i σ r=>∃(B:Hp) (cs:List Int) (es:List (Option OE)) (x7 x8 x9 x10:Option V),Same H B/\B v=some (.lst (C.map V.int))/\B d=some (.lst (cs.map V.int))/\Same B r/\Lw (kx w) B r f es (cs.foldl (λ N c=>N.go b bk c) (LM.init m b))/\cs.length<=6 * i/\σ=[some (.ref sc),some (.int m),some (.ref a),some (.bl bk),some (.int L),some (.ref f.st),some (.ref d),x7,x8,x9,x10]) ⟨B3,[],_,_,_,_,_,Z.trans b3,a0,b3 _ _ a1,Y,a4,A2 _,rfl⟩ (λ _ σ r _ h=>by obtain ⟨B,_,_,_,_,_,_,_,h,_,F,_⟩:=h;exact SqL.of (F _ _ h)) ?_ ?_
  ·rintro i y σ H4 hy ⟨B,cs,es,x7,x8,x9,x10,hB,e1,e2,s4,lw4,l4,rfl⟩;rw [R0] at hy;obtain ⟨c,hc,rfl⟩:=Option.map_eq_some_iff.mp hy;have hi:i < C.length:=(List.getElem?_eq_some_iff.mp hc).1;refine g_name ?_;refine ⟨6,rfl,by decide,by decide,?_⟩;refine z33 (lo:=0) (n:=6) (λ j σ r=>∃(B:Hp) (cs:List Int) (es:List (Option OE)) (x8 x9 x10:Option V),Same H B/\B v=some (.lst (C.map V.int))/\B d=some (.lst (cs.map V.int))/\Same B r/\Lw (kx w) B r f es (cs.foldl (λ N c=>N.go b bk c) (LM.init m b))/\cs.length<=6 * i + j/\σ=[some (.ref sc),some (.int m),some (.ref a),some (.bl bk),some (.int L),some (.ref f.st),some (.ref d),some (.int c),x8,x9,x10]) ⟨B,cs,es,_,_,_,hB,e1,e2,s4,lw4,l4,rfl⟩ ?_ ?_
   ·rintro j σ H5 hj ⟨B,cs,es,x8,x9,x10,hB,e1,e2,s5,lw5,l5,rfl⟩;have ok:=zej (bk:=bk) g d8 cs (by omega);have G :∀k,(cs++[k]).foldl (λ N c=>N.go b bk c) (LM.init m b)=(cs.foldl (λ N c=>N.go b bk c) (LM.init m b)).go b bk k:=λ k=>by rw [E6];rfl
    generalize cs.foldl (λ N c=>N.go b bk c) (LM.init m b)=N at lw5 ok G;refine g_name ?_;have pB:=M.same hB;have j6:j < 6:=hj;refine z0c ⟨_,rfl,_,rfl,_,rfl,_,rfl,.inl ⟨_,_,rfl,rfl,c,_,rfl,by omega,by omega,_,rfl,f,a,_,L,B,es,N,b,900,rfl,lw5,pB,R,ok,by decide,s5,λ H6 I z0=>g_name ?_,λ k H6 I nz=>g_name ?_⟩⟩
    ·obtain ⟨f1,f2⟩:=b4 (σ:=[]) hB e2 (s5.trans I) (lw5.same I) (by omega);exact sq_if ⟨_,rfl,rfl,_,rfl,iteP rfl ⟨_,rfl,_,rfl,f.st,_,rfl,f1,w_2,f2⟩⟩
    refine sq_if ⟨_,rfl,rfl,_,rfl,iteN (λ z=>by cases of_decide_eq_true z) (t_nx ?_)⟩;have b1:=s5.trans I;have e6:=b1 _ _ e2;have U:=(lw5.same I).rb (l:=d) (o:=.lst (cs.map V.int++[.int k])) (Imm.lst e6) (λ p x eb _ z=>by rw [z,e2] at eb;cases eb);refine ⟨_,rfl,.inl ⟨rfl,_,SqL.of e6⟩,_,rfl,?_⟩;refine ⟨d,_,_,rfl,rfl,e6,W0 (m:=400) (by rw [G0];omega) (by decide),t_nx ?_⟩;have S:Same H (upd B d (.lst (cs.map V.int++[.int k]))):=Same.keep hB fl;have b5:upd B d (.lst (cs.map V.int++[.int k])) v=some (.lst (C.map V.int)):=up1 nq e1;have b0:upd B d (.lst (cs.map V.int++[.int k])) d=some (.lst ((cs++[k]).map V.int)):=by rw [z03,W1];rfl
    have X:=Same.upd2 (l:=d) (o:=.lst (cs.map V.int++[.int k])) b1;generalize upd H6 d (.lst (cs.map V.int++[.int k]))=H7 at U X⊢;generalize upd B d (.lst (cs.map V.int++[.int k]))=B7 at U S b5 b0 X;refine z0c ⟨_,rfl,_,rfl,f,a,B7,es,N,b,rfl,U,M.same (S.trans X),R,ok.ol,ok.nl,λ lf H8 s8 e3 d5=>?_⟩;have a7:=U.same s8;have b9:=X.trans s8;have d3:(natV (N.free b)).length=(N.free b).length:=G0 ..;obtain ⟨a9,hv,O,vv,c0,W,c2,c3,c4⟩:=id a7.ct;have d7:H8 f.st=some (.dK a9):=W.at (a:=[]);have b6:H8 f.un=some (.lst O):=W.at (a:=[_,_]);have b8:O.length=N.under.length:=z04 c3;have ul:=ok.ul;refine .inl ⟨lf,_,rfl,.inl (SqL.of d5),_,rfl,f.st,_,rfl,c0.gun d7,.inl ⟨f.un,O,rfl,.inl (SqL.of b6),2,_,rfl,rfl,.inl ⟨by decide,by decide⟩,.inl ⟨_,_,rfl,rfl,g_name ?_⟩⟩⟩;rw [d3,b8];have a8:(0:Int) < ((N.free b).length:Nat) + 2 * (N.under.length:Nat):=by omega
    have h0:=G5 k (by omega:(((N.free b).length:Nat) + 2 * (N.under.length:Nat):Int)≠0);have h1:=R4 k a8;have ec:k % (((N.free b).length:Nat) + 2 * (N.under.length:Nat):Int)=(((k % (((N.free b).length:Int) + 2 * (N.under.length:Int))).toNat:Nat):Int):=(E7 h0).symm;have G:=G k;rw [go_on nz] at G;refine ⟨_,rfl,_,rfl,_,rfl,_,rfl,_,_,rfl,rfl,a8,?_⟩;generalize hkk:(k % (((N.free b).length:Int) + 2 * (N.under.length:Int))).toNat=kk at G ec;refine ⟨_,rfl,f,a,kk,bk,B7,es,N,b,900,?_,a7,M.same S,R,d4,ok,by decide,by omega,b9,λ b7 r F a2=>⟨B7,cs++[k],b7,_,_,_,S,b5,b0,F,by rw [G];exact a2,by rw [I0];show cs.length + 1<=_;omega,rfl⟩⟩;rw [<-ec];rfl
   ·rintro σ H5 ⟨B,cs,es,x8,x9,x10,hB,e1,e2,s5,lw5,l5,rfl⟩;exact ⟨B,cs,es,_,_,_,_,hB,e1,e2,s5,lw5,by omega,rfl⟩
  ·rintro σ H4 ⟨B,cs,es,x7,x8,x9,x10,hB,e1,e2,s4,lw4,l4,rfl⟩;rw [G0] at l4;obtain ⟨f1,f2⟩:=b4 (σ:=[]) hB e2 s4 lw4 (by omega);exact ⟨_,rfl,_,rfl,f.st,_,rfl,f1,w_2,f2⟩
mutual
noncomputable def noL:PyData->Bool
 | .list _=>false
 | .dict _=>false
 | .tuple ds=>noLs ds
 | _=>true
noncomputable def noLs:List PyData->Bool
 | []=>true
 | d :: ds=>noL d && noLs ds
end
theorem zjm (e:CEv):(evP e).depth<=3:=by
 cases e with
 | beg h d=>cases d<;>simp [evP,wP,j27,E2]
 | fin h a=>cases a<;>simp [evP,aP,j27,E2]
theorem z93 (es:List CEv):E2 [.tuple [.tuple [.str "r",.str "register"]],.tuple (es.map evP)]<=49:=by
 have h:=z4w (n:=3) (ds:=es.map evP) λ d a=>by obtain ⟨e,_,rfl⟩:=List.mem_map.mp a;exact zjm e
 refine z4w λ d a=>?_;rcases List.mem_cons.mp a with rfl|a
 ·decide
 ·rw [List.mem_singleton.mp a];show E2 (es.map evP) + 1<=49;omega
noncomputable def noB:PyData->Bool
 | .bool _=>false
 | _=>true
theorem zkc {H:Hp} {d:PyData} {v:V} (h:HPd H d v) (n:noB d=true) :∃T,TagOf H v T/\T≠"bool":=by
 cases d with
 | none=>cases (show v=.non from h);exact ⟨_,rfl,by decide⟩
 | bool b=>cases n
 | int i=>cases (show v=.int i from h);exact ⟨_,rfl,by decide⟩
 | str z=>cases (show v=.str z from h);exact ⟨_,rfl,by decide⟩
 | list ds=>obtain ⟨a,c,rfl,e,_⟩:=h;exact ⟨_,.inl ⟨⟨_,e⟩,rfl⟩,by decide⟩
 | tuple ds=>obtain ⟨a,c,rfl,e,_⟩:=h;exact ⟨_,.inr (.inl ⟨⟨_,e⟩,rfl⟩),by decide⟩
 | dict ds=>obtain ⟨_,a,rfl,e⟩:=h;exact ⟨_,.inr (.inr ⟨⟨_,e⟩,rfl⟩),by decide⟩
theorem zjb {H:Hp} {e:CEv} {y:V} (h:HPd H (evP e) y) :∃p xs,y=.ref p/\H p=some (.tup xs)/\xs.length<=5/\∀x∈xs,∃T,TagOf H x T/\T≠"bool":=by
 have f :∀c:List PyData,c.length<=5->(∀d∈c,noB d=true)->HPd H (.tuple c) y->∃p xs,y=.ref p/\H p=some (.tup xs)/\xs.length<=5/\∀x∈xs,∃T,TagOf H x T/\T≠"bool":=λ c l n h=>by obtain ⟨p,xs,m,i,g⟩:=h;refine ⟨p,xs,m,i,by rw [g.length];exact l,λ x b=>?_⟩;obtain ⟨d,j,b⟩:=zbl g.all b;exact zkc b (n d j)
 cases e with
 | beg k d=>exact f [.str "begin",.int (k:Nat),.str "r",.str (vbD d),wP d] (J0 5) (λ x b=>by simp only [D3,K0,or_false] at b;rcases b with rfl|rfl|rfl|rfl|rfl<;>first|rfl|(cases d<;>rfl)) h
 | fin k a=>exact f [.str "end",.int (k:Nat),aP a] (show 3<=5 by decide) (λ x b=>by simp only [D3,K0,or_false] at b;rcases b with rfl|rfl|rfl<;>first|rfl|(cases a<;>rfl)) h
def z5e (K:j0):Sp:=λ vs H Q _=>∃(t:V) (es:List CEv),vs=[t]/\HPd H (taleP es) t/\es.length<=1000/\∀H',Same H H'->Q (.bl true) H'
theorem z8z (T:TX (kx w) mg):Fo P w mg base CX0 1 498 y10 ["tale"] (z5e (kx w)):=by
 refine (z3y w.params).ok sc__law_kinds (λ L H Q E h=>?_) (λ a2 A a4 s H L Q E Z h=>?_)
 ·obtain ⟨t,O,rfl,_⟩:=h;rfl
 ·obtain ⟨t,O,rfl,⟨tp,xs,rfl,c,x1,r1,rfl,X,x2,F,rfl,k,h3⟩,a3,q⟩:=h;cases (show F=[] from h3);obtain ⟨b,ys,rfl,f,a1⟩:=k;have C:=z82 a1;have ly:=z04 C;refine ⟨_,(z02 (ps_if (PW.pt (pw_or (pt_not (pt_val (z06 z0g rfl (T.no (z0e _)) U2 (z01 (pv 0) (z01 (z1h (v:=.ty "tuple") rfl (T.no (z5d _)) v7 rfl) pa_nil))) (λ _=>rfl))) (pw_or (z0a opNe (z06 z0l rfl (T.no (n_len _)) C2 (z01 (pv 0) pa_nil)) pe_int (nomark _)) (pw_or1 (pt_not (pt_val (z06 z0g rfl (T.no (z0e _)) U2 (z01 (pe_ix ix_seq (pv 0) pe_int (λ _ _=>rfl)) (z01 (z1h (v:=.ty "tuple") rfl (T.no (z5d _)) v7 rfl) pa_nil))) (λ _=>rfl)))))))
   (z05 (ps_ret pe_bl))
   z0f)
   (z02 (ps_for Y2 rfl (pi_tup (pe_ix ix_seq (pv 0) pe_int (λ _ _=>rfl))) (z0m (i:=1) sc__law_kinds.nd rfl (N1 rfl))
   (z05 (ps_if (PW.pt (pw_or (pt_not (pt_val (z06 z0g rfl (T.no (z0e _)) U2 (z01 (pv 1) (z01 (z1h (v:=.ty "tuple") rfl (T.no (z5d _)) v7 rfl) pa_nil))) (λ _=>rfl))) (pw_or1 (z0a (zhw Z) (pe_cg (xs:=["piece"]) (g:=gName 0) (fr:=[]) (pi_tup (pv 1)) (λ _ _ _ _ _=>(pg_cn (N:=["piece"]) 0)) (λ _ _ _ _ _=>(pf_one (pt_val (z06 z0g rfl (T.no (z0e _)) U2 (z01 (pv 0) (z01 (z1h (v:=.ty "bool") rfl (T.no (n_bool _)) boot_bool rfl) pa_nil))) (λ _=>rfl)))) (λ _ _ _ _ _=>(pv 0))) (pe_lst pa_nil) (nomark _)))))
   (z05 (ps_ret pe_bl))
   z0f)))
   (z05 (ps_ret pe_bl)))),?_⟩
  refine sq_if (t_or ?_);refine ⟨_,rfl,_,_,"tuple",rfl,.inr (.inl ⟨⟨_,c⟩,rfl⟩),by decide,_,rfl,iteN (by decide) ?_⟩;refine t_or ⟨_,rfl,.inl ⟨tp,_,rfl,.inr (SqT.of c),rfl,_,rfl,iteN B1 ?_⟩⟩;refine ⟨_,rfl,.inr (.inl ⟨tp,_,1,.ref b,rfl,rfl,SqT.of c,z09 (j:=1) rfl,_,_,"tuple",rfl,.inr (.inl ⟨⟨_,f⟩,rfl⟩),by decide,_,rfl,iteN (by decide) (t_nx ?_)⟩)⟩;refine ⟨_,rfl,.inr (.inl ⟨tp,_,1,.ref b,rfl,rfl,SqT.of c,z09 (j:=1) rfl,b,rfl,⟨_,SqT.of f⟩,?_⟩)⟩;refine zhp (K:=KX w.params) (a:=b) (xs:=ys) (λ i σ l=>Same H l/\∃x,σ=[some (.ref tp),x]) ⟨Same.refl _,_,rfl⟩ (λ _ σ l _ h=>SqT.of (h.1 _ _ f)) ?_ ?_
  ·rintro i y σ B M ⟨s2,x,rfl⟩;obtain ⟨e,he,G⟩:=z0n C M;obtain ⟨p,V,rfl,u,lz,Y⟩:=zjb (G.same s2);refine g_name ?_;refine z2e (t_or ?_);refine ⟨_,rfl,_,_,"tuple",rfl,.inr (.inl ⟨⟨_,u⟩,rfl⟩),by decide,_,rfl,iteN (by decide) ?_⟩;refine t_test ?_;refine zci (K:=KX w.params) (a:=p) (xs:=V) (H1:=B) (λ _=>false) (λ _ _ _=>True) (λ _ _ _ _ _ z=>z) (λ R h=>⟨_,rfl,h⟩) (SqT.of u) (L0 (m:=5) lz (by decide)) ?_ ?_
   ·intro j hj v U d W KT KF X k;obtain ⟨Tv,n,nb⟩:=Y v (A1 W);refine ⟨[some v],rfl,rfl,?_⟩;refine ⟨_,rfl,_,_,Tv,rfl,n.same d,by decide,_,rfl,?_⟩;rw [z4x n (by decide),decide_eq_false nb];exact iteN (by decide) (k rfl _ (Same.refl _))
   intro l3 U ws d J D;rw [List.filter_eq_nil_iff.mpr (λ _ _=>B1)] at D;cases D;refine ⟨w_0,λ I a0=>?_⟩;have S:=Same.upd (o:=.lst []) J;have r:=Same.upd (o:=.lst []) a0;refine ⟨l3,I,[],rfl,rfl,SqL.of (r _ _ z03),SqL.of z03,_,rfl,iteN (by decide) ?_⟩;exact ⟨s2.trans (d.trans (S.trans r)),_,rfl⟩
  ·rintro σ B ⟨s2,x,rfl⟩;exact q _ s2
theorem zhn {H:Hp} {es:List CEv} {vv:List V} {p1 p2 p3 p4:Addr} (e1:H p1=some (.tup [.str "r",.str "register"])) (e2:H p2=some (.tup [.ref p1])) (e3:H p3=some (.tup vv)) (e4:H p4=some (.tup [.ref p2,.ref p3])) (av:All2 (EvV H) es vv):HPd H (taleP es) (.ref p4):=
 ⟨p4,_,rfl,e4,_,_,rfl,⟨p2,_,rfl,e2,_,_,rfl,⟨p1,_,rfl,e1,_,_,rfl,rfl,_,_,rfl,rfl,rfl⟩,rfl⟩,_,_,rfl,⟨p3,_,rfl,e3,z8i (z00 (λ _ _ z=>ev_hpd z) av)⟩,rfl⟩
theorem z7j {H:Hp} :∀cs:List Int,HPds H (cs.map j41) (cs.map V.int)
 | []=>(rfl:([]:List V)=[])
 | c :: cs=>⟨_,_,rfl,(rfl:V.int c=.int c),z7j cs⟩
theorem zjo (cs:List Int):E2 (cs.map j41)<=49:=z4w λ d a=>by obtain ⟨c,_,rfl⟩:=List.mem_map.mp a;exact A2 _
def sp_law (K:j0):Sp:=λ vs H Q _=>∃(sc:Addr) (ns:List Int),vs=[.ref sc]/\SqL K H sc (ns.map V.int)/\ns.length<=63/\∀H',Q (.bl true) H'
theorem ok_law (T:TX (kx w) mg) (c0:Ca P w mg base "_law_cell_at" ["script","k"] 1 (z1y (kx w))) (c1:Ca P w mg base "_law_mix" ["cell","k"] 1 z34) (c2:Ca P w mg base "_law_plan" ["script","hands","most","writers"] 3 (z5o (kx w))) (c3:Ca P w mg base "_law_raw" ["script"] 1 (z77 (kx w))) (c4:Ca P w mg base "_law_guided" ["script","many","plan","back","sure"] 5 (z41 (kx w))) (c5:Ca P w mg base "_law_events" ["many","plan","choices","back"] 5 (z4e (kx w))) (c6:Ca P w mg base "_law_copied" ["plan"] 1 (z4a (kx w))) (c7:CaE P w mg base "run_copies" ["many","plan","choices","back"] 9 (z52 (kx w))) (c8:Ca P w mg base "_law_kinds" ["tale"] 1 (z5e (kx w))):Fo P w mg base CX0 10 505 fd_law ["script"] (sp_law (kx w)):=by
 refine (F_law w.params).ok sc_law (λ vs H Q E h=>?_) (λ g8 A h1 s H vs Q E c h=>?_)
 ·obtain ⟨sc,p,rfl,_⟩:=h;rfl
 ·obtain ⟨sc,p,rfl,X,hn,q⟩:=h;refine ⟨_,(z02 (ps_set (i:=1) sc_law.nd rfl (N1 rfl) (pe_op op_mod (pe_cal c0 (c.mono (by decide)) rfl (z01 (pv 0) (z01 pe_int pa_nil))) pe_int))
   (z02 (ps_set (i:=2) sc_law.nd rfl (N1 rfl) (pe_op opAdd pe_int (pe_op op_mod (pe_op z1f (pe_cal c0 (c.mono (by decide)) rfl (z01 (pv 0) (z01 pe_int pa_nil))) pe_int) pe_int)))
   (z02 (ps_set (i:=3) sc_law.nd rfl (N1 rfl) (pe_cal c2 (c.mono (by decide)) rfl (z01 (pv 0) (z01 (pv 2) (z01 pe_int (z01 (pv 2) pa_nil))))))
   (z02 (ps_set (i:=4) sc_law.nd rfl (N1 rfl) (pe_op opAdd pe_int (pe_op op_mul pe_int (pe_op op_mod (pe_op z1f (pe_cal c0 (c.mono (by decide)) rfl (z01 (pv 0) (z01 pe_int pa_nil))) pe_int) pe_int))))
   (z02 (ps_for Y2 rfl (pi_tup (pe_tup (z01 pe_bl (z01 pe_bl pa_nil)))) (z0m (i:=5) sc_law.nd rfl (N1 rfl))
   (z02 (ps_set (i:=6) sc_law.nd rfl (N1 rfl) (pe_cal c3 (c.mono (by decide)) rfl (z01 (pv 0) pa_nil)))
   (z02 (ps_if (z0a opEq (pv 1) pe_int (nomark _))
   (z05 (ps_set (i:=6) sc_law.nd rfl (N1 rfl) (pe_ix ix_seq (pe_cal c4 (c.mono (by decide)) rfl (z01 (pv 0) (z01 (pv 4) (z01 (pv 3) (z01 (pv 5) (z01 pe_int pa_nil)))))) pe_int (λ _ _=>rfl))))
   z0f)
   (z02 (ps_set (i:=7) sc_law.nd rfl (N1 rfl) (pe_tup (z01 (pe_tup (z01 (pe_tup (z01 pe_str (z01 pe_str pa_nil))) pa_nil)) (z01 (z1u z1x rfl (T.no (z5d _)) v7 (z01 (pe_cal c5 (c.mono (by decide)) rfl (z01 (pv 4) (z01 (pv 3) (z01 (pv 6) (z01 (pv 5) pa_nil))))) pa_nil)) pa_nil))))
   (z02 (ps_set (i:=8) sc_law.nd rfl (N1 rfl) (pe_cal c6 (c.mono (by decide)) rfl (z01 (pv 3) pa_nil)))
   (z02 (ps_set (i:=9) sc_law.nd rfl (N1 rfl) (z1u z6e rfl (T.no (n_list _)) V8 (z01 (pv 6) pa_nil)))
   (z02 (ps_set (i:=10) sc_law.nd rfl (N1 rfl) (zi9 c7 (c.mono (by decide)) rfl (z01 (pv 4) (z01 (pv 8) (z01 (pv 6) (z01 (pv 5) pa_nil))))))
   (z02 (ps_if (PW.pt (pw_or (pt_not (pt_val (pe_cal c8 (c.mono (by decide)) rfl (z01 (pv 10) pa_nil)) (λ _=>rfl))) (pw_or (z0a (op_neS c) (pv 10) (pv 7) (nomark _)) (pw_or (z0a (op_neS c) (pv 8) (pv 3) (nomark _)) (pw_or1 (z0a (op_neS c) (pv 6) (pv 9) (nomark _)))))))
   (z05 (ps_ret pe_bl))
   z0f)
   (z02 (ps_set (i:=11) sc_law.nd rfl (N1 rfl) (zab slSeq (pv 6) zki (z9e (pe_op op_mod (pe_cal c1 (c.mono (by decide)) rfl (z01 (pe_cal c0 (c.mono (by decide)) rfl (z01 (pv 0) (z01 pe_int pa_nil))) (z01 pe_int pa_nil))) (pe_op opAdd (z06 z0l rfl (T.no (n_len _)) C2 (z01 (pv 6) pa_nil)) pe_int)))))
   (z02 (ps_set (i:=7) sc_law.nd rfl (N1 rfl) (pe_tup (z01 (pe_tup (z01 (pe_tup (z01 pe_str (z01 pe_str pa_nil))) pa_nil)) (z01 (z1u z1x rfl (T.no (z5d _)) v7 (z01 (pe_cal c5 (c.mono (by decide)) rfl (z01 (pv 4) (z01 (pv 3) (z01 (pv 11) (z01 (pv 5) pa_nil))))) pa_nil)) pa_nil))))
   (z05 (ps_if (z0a (op_neS c) (zi9 c7 (c.mono (by decide)) rfl (z01 (pv 4) (z01 (pv 8) (z01 (pv 11) (z01 (pv 5) pa_nil))))) (pv 7) (nomark _))
   (z05 (ps_ret pe_bl))
   z0f))))))))))))
   (z05 (ps_ret pe_bl))))))),?_⟩
  refine z0c ⟨_,rfl,sc,p,0,rfl,X,λ z0=>⟨_,_,rfl,rfl,(show (0:Int) < 2 by decide),g_name ?_⟩⟩;refine z0c ⟨_,rfl,sc,p,0,rfl,X,λ z1=>⟨_,_,rfl,rfl,(show CDivB z1 2 from ⟨by decide,by decide⟩),_,_,rfl,rfl,(show (0:Int) < 6 by decide),.inl ⟨_,_,rfl,rfl,g_name ?_⟩⟩⟩;obtain ⟨k,hk,k0,k6⟩ :∃k:Nat,1 + z1 / 2 % 6=(k:Int)/\0 < k/\k<=6:=⟨(1 + z1 / 2 % 6).toNat,by omega,by omega,by omega⟩
  rw [hk];refine z0c ⟨_,rfl,_,rfl,_,rfl,sc,p,k,24,k,rfl,X,k0,k6,by decide,by decide,λ B n H1 s1 g lp _ hp=>g_name ?_⟩;have b6:=s1.seq X;refine z0c ⟨_,rfl,sc,p,0,rfl,b6,λ z2=>⟨_,_,rfl,rfl,(show CDivB z2 12 from ⟨by decide,by decide⟩),_,_,rfl,rfl,(show (0:Int) < 2 by decide),2,_,rfl,rfl,.inl ⟨by decide,by decide⟩,.inl ⟨_,_,rfl,rfl,g_name ?_⟩⟩⟩;obtain ⟨m,U,C⟩ :∃m:Nat,3 + 2 * (z2 / 12 % 2)=(m:Int)/\(m=3\/m=5):=⟨(3 + 2 * (z2 / 12 % 2)).toNat,by omega,by omega⟩
  rw [U];have l6:n.length<=6:=by omega
  have dr:E2 (rowsP n)<=49:=z4w λ d M=>L0 (zef n d M) (by decide);have f9 :∀{b:List Int} (bk:Bool),b.length<=360->(b.foldl CM.go (CM.init m bk n)).events.length<=1000:=λ {b} bk hc=>by have:=(zej (bk:=bk) g C b (by omega)).vl;rw [(z7y (by omega) b).ev] at this;omega
  refine ⟨w_2,λ tq g0=>?_⟩;obtain ⟨H2,L,s2,e2⟩:=newA (.tup [.bl true,.bl false]) g0;rw [<-L];have d4:=hp.same s2;have f6:=s2.seq b6;refine ⟨tq,rfl,⟨_,SqT.of e2⟩,?_⟩;refine zhp (K:=KX w.params) (a:=tq) (xs:=[.bl true,.bl false]) (λ _ σ G=>Same H2 G/\∃x5 x6 x7 x8 x9 x10 x11,σ=[some (.ref sc),some (.int (z0 % 2)),some (.int k),some (.ref B),some (.int m),x5,x6,x7,x8,x9,x10,x11]) ⟨Same.refl _,_,_,_,_,_,_,_,rfl⟩ (λ _ σ G _ h=>SqT.of (h.1 _ _ e2)) ?_ ?_;rotate_left
  ·rintro σ H4 ⟨s4,x5,x6,x7,x8,x9,x10,x11,rfl⟩;exact q _
  rintro j y σ H4 hy ⟨s4,x5,x6,x7,x8,x9,x10,x11,rfl⟩;obtain ⟨bk,rfl⟩ :∃bk:Bool,y=.bl bk:=by have U:=A1 hy;simp only [D3,K0,or_false] at U;rcases U with rfl|rfl<;>exact ⟨_,rfl⟩
  refine g_name ?_;have a6:=d4.same s4;have a1:=s4.seq f6;refine z0c ⟨_,rfl,sc,p,rfl,a1,hn,λ lr rs H5 Y _ er e6=>g_name ?_⟩;refine za4 (λ σ' G=>∃(f:Addr) (b:List Int),Same H4 G/\G f=some (.lst (b.map V.int))/\b.length<=360/\σ'=[some (.ref sc),some (.int (z0 % 2)),some (.int k),some (.ref B),some (.int m),some (.bl bk),some (.ref f),x7,x8,x9,x10,x11]) ?_ λ go=>?_;rotate_left
  ·refine z2e ⟨_,rfl,rfl,_,rfl,?_⟩;refine ite2 (λ _=>?_) λ _=>go _ _ ⟨lr,rs,Y,er,e6,rfl⟩;refine ⟨_,rfl,_,rfl,_,rfl,_,rfl,sc,p,m,B,bk,4,n,rfl,Y.seq a1,C,plR_of (a6.same Y),g,λ t f x b S R et _ ec a9=>?_⟩;exact .inr (.inl ⟨t,_,0,.ref f,rfl,rfl,SqT.of et,z09 (j:=0) rfl,g_name (go _ _ ⟨f,b,Y.trans R,ec,a9,rfl⟩)⟩)
  rintro σ S ⟨f,b,R,ec,a9,rfl⟩;have b7:=s4.trans R;have c9:=d4.same b7;refine z0c ⟨w_2,λ u f1=>⟨w_1,λ D f2=>?_⟩⟩;have u1:=Same.upd (o:=.tup [.str "r",.str "register"]) f1;have u2:=Same.upd (o:=.tup [.ref u]) f2;have W:=u1.trans u2;have d1:=u2 _ _ (z03 (H:=S) (a:=u) (o:=.tup [.str "r",.str "register"]));have d2:upd (upd S u (.tup [.str "r",.str "register"])) D (.tup [.ref u]) D=some (.tup [.ref u]):=z03;generalize upd (upd S u (.tup [.str "r",.str "register"])) D (.tup [.ref u])=H7 at W d1 d2⊢;have g3:=c9.same W;refine ⟨_,rfl,_,rfl,_,rfl,_,rfl,m,B,f,bk,b,n,rfl,C,plR_of g3,g,W _ _ ec,by omega,λ l vv H8 s8 _ el av=>?_⟩;refine ⟨l,vv,rfl,.inl ⟨SqL.of el,λ p3 g5=>⟨w_2,λ p4 a6=>g_name ?_⟩⟩⟩;have u3:=Same.upd (o:=.tup vv) g5;have u4:=Same.upd (o:=.tup [.ref D,.ref p3]) a6;have I:=u3.trans u4;have M:=zhn (I _ _ (s8 _ _ d1)) (I _ _ (s8 _ _ d2)) (u4 _ _ z03) z03 (z00 (λ _ _ z=>z.imm (Imm.of I)) av);generalize upd (upd H8 p3 (.tup vv)) p4 (.tup [.ref D,.ref p3])=H10 at I M⊢;have a8:=W.trans (s8.trans I);have d0:=c9.same a8;refine z0c ⟨_,rfl,B,n,rfl,d0,l6,λ ha bs g6 d5 g9 PJ=>g_name ?_⟩;have b0:=d5 _ _ (a8 _ _ ec);refine z0c ⟨_,rfl,f,_,rfl,.inl (SqL.of b0),λ kl f0=>g_name ?_⟩;obtain ⟨g7,L,a7,g4⟩:=newA (.lst (b.map V.int)) f0;rw [<-L];have b2:=PJ.same a7;refine z0c ⟨_,rfl,_,rfl,_,rfl,_,rfl,m,ha,f,bk,b,n,rfl,C,b2.hpd,g,a7 _ _ b0,by omega,λ t h2 a2 ht=>g_name ?_⟩;refine sq_if (t_or (tB_not ?_));refine ⟨_,rfl,t,_,rfl,ht,f9 bk a9,λ h3 N=>⟨_,rfl,iteN (by decide) ?_⟩⟩;have e0:=a7.trans (a2.trans N);have a5:=d5.trans e0;have b3:=b2.same (a2.trans N);have d9:=d0.same a5;have b1:=e0 _ _ b0;refine t_or ⟨_,rfl,_,rfl,_,.inr ⟨ht.same N,M.same a5⟩,z93 _,_,rfl,iteN (by decide) ?_⟩;refine t_or ⟨_,rfl,_,rfl,_,.inl ⟨b3.hpd,d9⟩,dr,_,rfl,iteN (by decide) ?_⟩;refine ⟨_,rfl,_,rfl,b.map j41,.inl ⟨⟨f,_,rfl,b1,z7j b⟩,⟨kl,_,rfl,(a2.trans N) _ _ g4,z7j b⟩⟩,zjo b,_,rfl,iteN (by decide) (t_nx ?_)⟩;have b5:=a8.trans a5;have f5:=(R.trans b5).seq a1;have e1:=b7.trans b5;refine z0c ⟨_,rfl,_,rfl,sc,p,1,rfl,f5,λ z3=>⟨z3,80,rfl,by decide,by decide,_,rfl,.inl ⟨f,_,rfl,.inl (SqL.of b1),.inl ⟨_,_,rfl,rfl,_,_,rfl,rfl,(by omega),_,rfl,.inl ⟨f,_,rfl,SqL.of b1,λ la e8=>g_name ?_⟩⟩⟩⟩⟩;generalize mixZ z3 80 % (((b.map V.int).length:Nat) + 1:Int)=z4 at *;obtain ⟨O,b4⟩:=zht (ys:=cutV (b.map V.int) none (some z4)) λ y hy=>by obtain ⟨j,_,e⟩:=List.mem_map.mp (zid hy);exact ⟨j,e.symm⟩
  have h0:O.length<=360:=by have:=z4j (b.map V.int) none (some z4);rw [b4,G0,G0] at this;omega
  rw [b4];obtain ⟨a3,L,b8,d8⟩:=newA (.lst (O.map V.int)) e8;rw [<-L];refine z0c ⟨w_2,λ v e9=>⟨w_1,λ F e4=>?_⟩⟩;have v1:=Same.upd (o:=.tup [.str "r",.str "register"]) e9;have v2:=Same.upd (o:=.tup [.ref v]) e4;have Z:=v1.trans v2;have g1:=v2 _ _ (z03 (H:=a3) (a:=v) (o:=.tup [.str "r",.str "register"]));have g2:upd (upd a3 v (.tup [.str "r",.str "register"])) F (.tup [.ref v]) F=some (.tup [.ref v]):=z03;generalize upd (upd a3 v (.tup [.str "r",.str "register"])) F (.tup [.ref v])=H16 at Z g1 g2⊢;have e3:=b8.trans Z;refine ⟨_,rfl,_,rfl,_,rfl,_,rfl,m,B,la,bk,O,n,rfl,C,plR_of (d9.same e3),g,Z _ _ d8,by omega,λ l2 a0 e7 a4 _ f8 f4=>?_⟩;refine ⟨l2,a0,rfl,.inl ⟨SqL.of f8,λ q3 f3=>⟨w_2,λ q4 f7=>g_name ?_⟩⟩⟩;have v3:=Same.upd (o:=.tup a0) f3;have v4:=Same.upd (o:=.tup [.ref F,.ref q3]) f7;have J:=v3.trans v4;have b9:=zhn (J _ _ (a4 _ _ g1)) (J _ _ (a4 _ _ g2)) (v4 _ _ z03) z03 (z00 (λ _ _ z=>z.imm (Imm.of J)) f4);generalize upd (upd e7 q3 (.tup a0)) q4 (.tup [.ref F,.ref q3])=H18 at J b9⊢;have d6:=Z.trans (a4.trans J);have d3:=b8.trans d6;refine z2e ⟨_,rfl,_,rfl,_,rfl,_,rfl,m,ha,la,bk,O,n,rfl,C,(b3.same d3).hpd,g,d6 _ _ d8,by omega,λ t2 h4 d7 e5=>⟨_,rfl,_,.inr ⟨e5,b9.same d7⟩,z93 _,_,rfl,iteN (by decide) ?_⟩⟩;exact ⟨e1.trans (d3.trans d7),_,_,_,_,_,_,_,rfl⟩
end
theorem all_law {P:Program} {w:Z0} {mg:Str->Option Value} {base:Heap} (T:TX (kx w) mg):Fo P w mg base CX0 10 505 fd_law ["script"] (sp_law (kx w)):=by have m:=@cal_mk P w (kx w) mg base;have e:=@zjx P w (kx w) mg base;have d:=m T (z6i _) (zdv _) (zf5 _) (zcv T );have o:=m T (z50 _) (zdg _) (zd4 _) (zbe T d);have F:=m T (z6g _) (zfn _) (zek _) (zco T o);have b:=m T (z2o _) (z99 _) (za5 _) (z7w T );have f:=m T (z7x _) (zhb _) (zgf _) (zdt T );have r:=m T (z8k _) (zhh _) (zh6 _) (zev T f F b);have k:=m T (z7q _) (zh0 _) (zhd _) (zer T );have L:=m T (z6m _) (zeb _) (ze5 _) (zd5 T b k f);have I:=m T (z2s _) (z9t _) (z8v _) (z88 T L);have B:=m T (z7m _) (zgi _) (zgb _) (ze2 T d);have j:=m T (z64 _) (zfa _) (zed _) (zd1 T b B);have a1:=m T (z4h _) (zd2 _) (zcx _) (zbg T o);have S:=m T (z67 _) (ze8 _) (zdw _) (zd8 T j k r);have M:=m T (zas _) (zic _) (ziy _) (zgs T j a1);have G:=m T (z2q _) (za0 _) (z9m _) (z7s T );have X:=m T (z2w _) (z9z _) (z9v _) (z7g T S M G);have z:=m T (z4u _) (zck _) (zd7 _) (zae T I X);have n:=m T (z7v _) (zhi _) (zh7 _) (ze1 T );have D:=m T (z3p _) (zam _) (zb1 _) (z9n T b r);have Y:=m T (z8d _) (zgc _) (zhf _) (zfq T n D);have v:=e T (z3v _) (zbc _) (zax _) (z8t T d Y n);have g:=m T (z26 _) (z8a _) (z7l _) (z6q T );have c:=m T (z6a _) (zex _) (zfw _) (zcj T );have H:=m T (z3i _) (zaj _) (zbi _) (z9s T c);have N:=m T (z4z _) (zcn _) (zcm _) (zap T g H);have Z:=m T (z2z _) (z8o _) (z9g _) (z7u T );have q:=zg3 (P:=P) (w:=w) (base:=base) T;have p:=zhc (P:=P) (w:=w) (base:=base) T;have s:=z7r (P:=P) (w:=w) (base:=base) T p;have t:=z4g (P:=P) (w:=w) (base:=base) T;have x:=z1r (P:=P) (w:=w) (base:=base) T q s t;have A:=z3o (P:=P) (w:=w) (base:=base) T t x;have C:=z2m (P:=P) (w:=w) (base:=base) T p;have K:=z6v (P:=P) (w:=w) (base:=base) T C A;have a0:=z3x (P:=P) (w:=w) (base:=base) T q s;have U:=z6z (P:=P) (w:=w) (base:=base) T a0 K;have J:=zh4 (P:=P) (w:=w) (base:=base) T;have Q:=e T (z3n _) (zac _) (zb6 _) (z9c T v J U z);have i:=m T (z3l _) (zan _) (zaw _) (z8p T );have a:=m T (z4p _) (zdd _) (zd9 _) (zba T );have h:=m T (z4m _) (zcl _) (zda _) (za7 T );have y:=m T (z3e _) (zb7 _) (zbb _) (z9j T );have R:=m T (z29 _) (z84 _) (z85 _) (z6r T h y);have a2:=m T (z4s _) (zcu _) (zcs _) (za9 T R);have l:=m T (z3g _) (zar _) (zb2 _) (z8q T a h a2);have O:=m T (z2u _) (za2 _) (z9f _) (z8e T a);have E:=m T (z6f _) (zfm _) (zdl _) (zcy T );have W:=m T (z31 _) (z98 _) (z9y _) (z83 T i a l);have u:=m T (z2t _) (z9q _) (z96 _) (z7o T i c O a l);have V:=m T (z3y _) (zaf _) (zak _) (z8z T );exact ok_law T g c N E u W Z Q V
end K28
open PySem PySem.W PyProof.Rows
set_option maxRecDepth 100000 in
set_option maxHeartbeats 0 in
theorem PySem.Challenge.cw_talejudge_k28_as_letters_go_holds : PySem.Challenge.rw_talejudge_k28_as_letters_go.Holds := by
 w_on;o_law
 refine holds_open (q:=K28.viewX) (loose:=K28.looseX) (Xt:=K28.XtX) (XP:=XL K28.viewX []) (Yf:=Hook.obs K28.HX) (Ya:=Hook.val K28.HX) (YP:=Hook.says K28.HX) (N:=200000) K28.leftX (Hook.of K28.HX) (Hook.keeps K28.HX) (λ s e=>xl_of s (Bool.and_eq_true_iff.mp e).1) XL.keeps (by rfl) (by rfl) (by rfl) (λ s e=>recFacts_of (Bool.and_eq_true_iff.mp e).2) (by rfl) (by assumption) (by decide +kernel) ⟨rfl,rfl,rfl,rfl,rfl,by decide +kernel⟩ ?hw ?hc
 case hw=>w_witness2
 case hc=>
  refine L2.walk_of (l:=PySem.Challenge.rw_talejudge_k28_as_letters_go) (n:=63) (k:=10) (x:="script") (K:=K28.KX) (CX:=λ _=>L2.CX0) (sp:=λ w=>K28.sp_law (K28.KX w.params)) rfl (by decide) rfl ⟨rfl,by decide,by decide,rfl⟩ (λ w h Y=>PySem.W.kIn_of Y) ?F ?S ?C
  case F=>intro w j i h KX G g;have T:=L2.TX.mk' KX G;have b:=g.symm.trans (T.of (K28.g_law _));cases b;exact ⟨K28.fd_law,λ s u=>.of_eq rfl,λ r o p=>K28.all_law T⟩
  case S=>exact λ w H a c f m d=>⟨a,c,rfl,d,f,λ _=>rfl⟩
  case C=>exact λ _ _ _ _ _ z=>z
