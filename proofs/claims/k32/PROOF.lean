import PyProof.Rows.All
import Wide.All
import OpenK.AllK
import Wide.FinOn
import Lean
import PyProof.EqAt
import PyProof.EqKinds
import PyProof.TupleCall
import Open.Tops
import KE.KIntText
import PyProof.ZipIter
import PyProof.ReprRoads
import PyProof.Draws
import KE.KDictSum
import KE.KSortedM
import OpenK.KRaise
import OpenK.KOwn
import PyProof.ExcBaseAll.ValueError
import KE.KTryMore
import PyProof.NsDelKeeps
import KE.KDictOf
import KE.KEqDict
import PyProof.DictWalks
import PyProof.TupleKey
import PyProof.MinMaxWalk
import KE.KSortTup
import PyProof.StrWalks
import KE.KRevIter
import KE.KListMore
import PyProof.StrLawsTight
import PyProof.StrLawsChain
import PySem.Challenge.RW_talejudge_k32_whole_regular_without_back
open PySem.PyData renaming keyHash->g0,depthAll->S4
open PySem.W renaming Frag->j0,nsIn->M3,kia_one->Q3,findIn->U3,instObj->R4,keepIn->Y4,kas_sort->U5,fnOf->E6,hideAll_get->p7,plainGet->a8,lookIn->R8,codeIn->S8,plainGet_of->d9,excIn->n9,callWith_K->A9,methodObj->K9,hasDictIn->L9,takerIn->j08,hideAll->j09,isFn->j21,cellsFrom_some->j22,KasT->j23,of_hideAll->j41,specialIn->j47,plainOver->j48,kitx_list->j49,kitx_dict->j4a
open PySem renaming wpAny_bind->o0,Shared->B0,wpAny_pure->G0,Params->R0,wpAny->W0,World->C1,starEach->L1,model->N1,reduceHash->U1,wpAny_holding->Z1,boot_len->G2,Around->O2,mainGlobals->Q2,compareOp->X2,codeAny_builtin->F3,OsState->G3,wpAny_truthy_bool->J3,eval->R3,treeTable->S3,wpAny_pyNext_list_item->u4,wpAny_mono->w4,wpAny_Call_Name_kw->C4,backTo->N4,wpAny_pyNext_list_end->V4,strKind->X4,wpAny_pyIter_list->Z4,intKind->a5,bootBuiltins->b5,sysModules->w5,attributeBase->z5,codeAny->B5,wpAny_newObj_type->Y5,foldedSetIterable->Z5,mem_of_lookup->a6,binaryOp->v6,NameKind->w6,wpAny_isInstance->z6,codeAny_mono->A6,Keyword->K6,intKind_is->Q6,tupleKind->S6,keywordEach->T6,eqIsQuiet->U6,wpAny_tryCatch->a7,placesWithHash->b7,wpAny_rule->C7,pyNext->D7,assignEach->E7,plainId_quiet->J7,sliceBounds->N7,callSpecialIfBoundUnlessNone?->O7,SetTable->P7,wpAny_passesOwn->V7,importedModules->W7,wpAny_typeOf->Y7,wpAny_tupleItemsOf->p8,tupleKind_room_in1->v8,getattributeRaised->y8,call_meets->z8,richCompare->G8,relabel->J8,behindInMarks->Q8,wpAny_call_entry->Z8,swapsWith->a9,backToKw->b9,strKind_is->w9,holding->z9,Paired->B9,Builtin->D9,letOwnedTupleGo->E9,getAttrByItsOwn->F9,wpAny_seqItems->W9,codeAny_call_builtin->X9,boundAndCalled->Y9,getItem->j00,Fin->j0a,wpAny_standAt->j0d,wpAny_attempt->j0e,atKey->j0f,IsPart->j12,valueAt->j15,getAttr?->j16,callerA->j17,Result->j20,wpAny_of_eq->j2a,wpAny_letGo->j2b,subscripted->j2c,wpAny_updateSeq->j2j,wpAny_execs_nil->j30,Within->j33,wpAny_richCompare_same_room->j36,standAt->j37,spliced->j38,dictSet->j39,wpAny_call->j3c,typeLookup->j3d,relayAll->j3e,isInstance->j3f,hookBehind->j3g,Thread->j40
open List renaming getElem?_eq_getElem->v0,length_map->C0,length_append->F0,getElem?_set_self->K0,not_mem_nil->L0,getElem?_map->N0,replicate->P0,length_set->Q0,mem_of_getElem?->T0,range->U0,size_toArray->X0,getElem?_set_ne->Y0,getElem?_append_right->Z0,length_cons->A1,getElem?_append_left->F1,getD_eq_getElem?_getD->O1,map_append->P1,mem_cons_of_mem->Q1,mem_append_right->R1,mem_cons_self->V1,map_cons->W1,append_assoc->A2,length_replicate->C2,append_nil->F2,forall_mem_cons->P2,length_range->T2,getElem_mem->Z2,getElem?_cons_succ->u3,filter_cons_of_pos->A3,length_singleton->E3,foldl_cons->N3,filter_cons_of_neg->T3,mem_cons->V3,take_of_length_le->W3,length_nil->Z3,getElem?_cons_zero->D4,map_map->K4,mem_or_eq_of_mem_set->T4,find?_cons->U4,lookup_cons->o5,getElem?_replicate->v5,nodup_cons->D5,countP_eq_length_filter->E5,all_cons->G5,length_filter_le->L5,replicate_succ->b6,getElem_of_mem->o6,filter_append->C6,nodup_append->F6,foldl_append->G6,drop_zero->J6,eraseIdx_sublist->W6,length_take->Y6,ext_getElem->Z6,mem_append_left->v7,lookup->y7,forIn_cons->A7,mem_map_of_mem->F7,filterMap_cons->G7,map_nil->K7,forIn_nil->T7,flatten_cons->j8,ext_getElem?->n8,any_cons->o8,length_eraseIdx_le->A8,pairwise_lt_range->K8,map_set->L8,length_pos_of_mem->N8,all_map->O8,take_succ->p9,mem_erase_of_ne->q9,zip_cons_cons->U9,pairwise_map->j01,getElem?_inj->j02,filter_congr->j03,tail->j0g,length_drop->j0h,range_succ->j13,of_mem_zip->j14,sublist_append_right->j27,drop_eq_getElem_cons->j28,length_filterMap_le->j2h,length_erase_of_mem->j2i,getElem?_eq_none->j45,range'->j4b,length_eraseIdx->j4c,length->j4d
open PySem.Builtin.Tuple renaming tupleHashOf->A0,tupleExact->N5
open PySem.Heap renaming get?_push_of_some->I0,lt_size->S0,get?_push_size->D1,DictOf->b4,get?_update_other->L4,size_push->L6,SameBut->N6,get?_update_self->X6,SetOf->U7
open Nat renaming le_refl->J0,le_trans->O0,lt_of_le_of_lt->V0,ne_of_lt->B1,lt_of_lt_of_le->Y1,zero_le->J2,lt_succ_of_lt->K2,le_succ->W2,lt_succ_self->C3,ne_of_gt->Y3,lt_irrefl->z4,add_sub_cancel_left->F4,zero_add->O4,sub_self->R6,lt_trans->Q7,le_of_lt->T8,mul_le_mul_right->C9,mul_le_mul_left->O9,add_comm->j0b,le_of_not_lt->j10,le_add_right->j11,not_lt_zero->j1c,mod_lt->j26,lt_or_ge->j43,lt_of_succ_lt_succ->j44
open Bool renaming false_ne_true->E1,false_eq_true->U2,and_eq_true_iff->L3,and_eq_true->P4,not_true->J5,true_and->y6,false_and->P6,not_false->u9,and_false->v9,or_false->S9,not_eq_true->j0j
open PySem.Value renaming ref->G1,type->D3,none->K3,isStrOf->Z7,str->k9,int->m9,bool->J9,isInt->j3i,float->j3j
open Or renaming inr->J1,inl->K1
open Option.some renaming inj->X1
open Ne renaming symm->D2
open PySem.NameKind renaming free->E2
open Array renaming length_toList->N2,getElem?_eq_none->J4,getElem?_eq_getElem->j1i,mem_of_getElem?->j3b
open PySem.SetTable renaming below->V2,grown->K5,insertAt->G9,advance->j46
open PySem.PassesOwn renaming never->Y2
open PySem.Str renaming ofString->O3
open PyProof.Rows renaming boot_isinstance->P3,callWith_type1->B4,envOfC->G4,IntsAre->W4,callWith_builtin1->B6,AllBare->P8,slot_tuple_getitem->f9,seqObj->y9,boot_all->j18,boot_list->j1j,boot_str->j3h
open Pure renaming pure->X3,pure->j34
open PySem.Obj renaming mapSeq->y4,mapDictKeys->W8,putSet->Z9
open ForInStep renaming yield->A4
open False renaming elim->E4
open PySem.Calls renaming spliced_cons->Q4,spliced_nil->M5,evalArgs_plain->i9,Name_function_global->j1e,callWith_builtin->j35
open PySem.F renaming plain_max_loop->A5,plainAttrs_list->f8,slot_dict_get->E8,slot_tuple_gt->r9,excBase_ValueError->Q9,args_tuple_add_2->j1b,entry_max_loop->j1d,entry_tuple_add->j1f,args_dict_get_3->j1g,slot_tuple_add->j24,entry_dict_get->j25
open Int renaming emod_lt_of_pos->C5,toNat_natCast->S5,emod_nonneg->D6,zero_add->R7,toNat_of_nonneg->P9
open PySem.Builtin.Slice renaming slicePlaces->F5,sliceAdjust->o7,sliceApplied->R9
open PySem.W.Fast renaming tw16697807410369149715->O5,tw13926502685295537346->P5,tw13383273872528276517->Q5,te14364793385576792824->R5,tw4214721358667687652->V5,tw14364793385576792824->D8
open PySem.Builtin.List renaming listTooLong->T5
open PySem.SeqAt.EqAt renaming same->W5,of_refs->V8,str_str->j2d,str_int->j2e,int_str->j2f,int_int->j2g
open PySem.Builtin.Dict renaming updateFrom->X5,selfAndRest->j05,addKeywords->j06,pairItems->j0i
open PyProof.Rows.F renaming entry_set_update_loop->O6
open PySem.Shared renaming TypeIs->V6
open PySem.SetTable.below renaming go->f7
open List.Pairwise renaming nil->z7
open PySem.Code renaming builtin->L7,isFrame->j04,frames->j4e
open PySem.Builtin.Str renaming occurrences->S7
open PySem.Paired renaming length->X7
open List.Sublist renaming append->B8,refl->X8
open PySem.Heap.SameBut renaming update->C8,refl->j29
open Option renaming map_some->F8,isSome_map->T9,some_ne_none->j42
open PySem.Builtin.Frozenset renaming updateFrom->U8
open PySem.Around renaming under_plainId->Y8,under->V9,under_plain->j4f
open PySem.Builtin.Builtins renaming bindParams->j9
open Prod.mk renaming injEq->o9
open PUnit renaming unit->N9
open Sum renaming inl->j07
open List.Perm renaming refl->j0c
open PySem.SetTable.probe renaming go->j19
open PySem.SeqAt renaming EqAt->j1a
open Prod renaming ext->j1h
open Sum.inr renaming inj->j31
open PySem.SeqAt.RcAt renaming tuples->j32
open PySem.Heap.DictOf renaming new->j3a
set_option maxRecDepth 100000
set_option maxHeartbeats 0
namespace PySem.W.Fast
def tw8303112432272143522:=0
def tw1684081215055784603:=0
def tw17366063066260634206:=0
def tw3411521920223356513:=0
def tw9469765048819942902:=0
def tw2727177103473279033:=0
def tw15712818375948260636:=0
def tw1917226234156517970:=0
def tw12104235012974583812:=0
def tw17130344360688648563:=0
def tw3433874582024455953:=0
def tw1570631748862096698:=0
def tw14432921285785717049:=0
def tw15929002659464390420:=0
def tw8823094941431522421:=0
end PySem.W.Fast
namespace K32
open_shared pre for PySem.Challenge.pw_talejudge_k32_whole_regular_without_back leaving 51
end K32
set_option maxHeartbeats 200000
-- CHANGE: your row's module here,as the last of these rows
set_option Elab.async false
set_option linter.all false
namespace L2
open PySem PySem.Spec PyProof.Rows
abbrev Key:=Sum Int Str
def keyIs:Key->Value->Bool
 | .inl k,v=>j3i k v
 | .inr x,v=>Z7 x v
def keyH (w:C1):Key->Int
 | .inl k=>hashInt k
 | .inr x=>hashStr w x
theorem z0v :∀{k:Key} {v:Value},keyIs k v=true->(∃i t,k=j07 i/\v=m9 i t)\/(∃x t,k=Sum.inr x/\v=k9 x t)
 | .inl i,v,h=>by obtain ⟨t,e⟩:=Value.isInt_shape (k:=i) (v:=v) h;exact .inl ⟨i,t,rfl,e⟩
 | .inr x,v,h=>by obtain ⟨t,e⟩:=Value.isStrOf_shape (x:=x) (v:=v) h;exact .inr ⟨x,t,rfl,e⟩
theorem zg9 (i:Int) (t:Tok):keyIs (.inl i) (.int i t)=true:=by simp [keyIs,j3i]
theorem zgv (x:Str) (t:Tok):keyIs (.inr x) (.str x t)=true:=by simp [keyIs,Z7]
theorem key_ll (a b:Int):decide ((j07 a:Key)=j07 b)=(a == b):=by
 by_cases e:a=b
 ·subst e;simp
 ·have h:¬ (j07 a:Key)=j07 b:=λ q=>e (Sum.inl.inj q);rw [decide_eq_false h];exact (beq_eq_false_iff_ne.mpr e).symm
theorem key_rr (a b:Str):decide ((Sum.inr a:Key)=Sum.inr b)=decide (a=b):=by
 by_cases e:a=b
 ·subst e;simp
 ·have h:¬ (Sum.inr a:Key)=Sum.inr b:=λ q=>e (j31 q);rw [decide_eq_false h,decide_eq_false e]
theorem key_lr (a:Int) (b:Str):decide ((j07 a:Key)=Sum.inr b)=false:=decide_eq_false (λ q=>nomatch q)
theorem key_rl (a:Str) (b:Int):decide ((Sum.inr a:Key)=j07 b)=false:=decide_eq_false (λ q=>nomatch q)
def z0k (prog:Program) (w:C1):PySem.KeyKind prog w Key where
 is:=keyIs
 hash:=keyH w
 inj:=λ v a b ha hb=>by
  rcases z0v ha with ⟨i,t,rfl,rfl⟩|⟨x,t,rfl,rfl⟩
  ·rcases z0v hb with ⟨j,u,rfl,e⟩|⟨y,u,rfl,e⟩
   ·injection e with e1 _;rw [e1]
   ·exact nomatch e
  ·rcases z0v hb with ⟨j,u,rfl,e⟩|⟨y,u,rfl,e⟩
   ·exact nomatch e
   ·injection e with e1 _;rw [e1]
 byValue:=λ k v h=>by rcases z0v h with ⟨i,t,rfl,rfl⟩|⟨x,t,rfl,rfl⟩<;>rfl
 pyHash:=λ hv h=>by
  rcases z0v hv with ⟨i,t,rfl,rfl⟩|⟨x,t,rfl,rfl⟩
  ·exact wpAny_pyHash_int h
  ·exact wpAny_pyHash_str h
 eqBool:=λ hu hv h=>by
  rcases z0v hu with ⟨i,t,rfl,rfl⟩|⟨x,t,rfl,rfl⟩
  ·rcases z0v hv with ⟨j,u,rfl,rfl⟩|⟨y,u,rfl,rfl⟩
   ·rw [key_ll] at h;exact wpAny_eqBool_int h
   ·rw [key_lr] at h;exact j2f i t y u _ _ _ _ h
  ·rcases z0v hv with ⟨j,u,rfl,rfl⟩|⟨y,u,rfl,rfl⟩
   ·rw [key_rl] at h;exact j2e x t j u _ _ _ _ h
   ·rw [key_rr] at h;exact wpAny_eqBool_str h
 «strs»:=λ k x t v h=>by
  rcases z0v h with ⟨i,u,rfl,e⟩|⟨y,u,rfl,e⟩
  ·exact nomatch e
  ·injection e with e1 _;subst e1;cases v<;>rfl
theorem zd9 (prog:Program) (w:C1) (i:Int) (t:Tok):(z0k prog w).is (.inl i) (.int i t)=true:=zg9 i t
theorem zd6 (prog:Program) (w:C1) (x:Str) (t:Tok):(z0k prog w).is (.inr x) (.str x t)=true:=zgv x t
inductive V where
 | non|bl (b:Bool)|int (i:Int)|str (x:Str)|byt (b:Array UInt8)|flt (b:UInt64)|ref (a:Addr)|ty (n:String)
 deriving DecidableEq
def RelV:V->Value->Prop
 | .non,u=>u=K3
 | .bl b,u=>u=J9 b
 | .int i,u=>∃t,u=m9 i t
 | .str x,u=>∃t,u=k9 x t
 | .byt b,u=>∃t,u=Value.bytes b t
 | .flt b,u=>∃t,u=j3j b t
 | .ref a,u=>u=G1 a
 | .ty n,u=>u=D3 n
abbrev Vals:List V->List Value->Prop:=B9 RelV
theorem Vals.length {xs:List V} {us:List Value} (r:Vals xs us):xs.length=us.length:=X7 r
theorem Vals.get :∀{xs:List V} {us:List Value} {i:Nat} {x:V},Vals xs us->xs[i]? = some x->∃u,us[i]? = some u/\RelV x u
 | _,_,_,_,.nil,e=>by simp at e
 | _,_,0,_,.cons r _,e=>by simp at e;subst e;exact ⟨_,rfl,r⟩
 | _,_,i + 1,x,.cons _ t,e=>by obtain ⟨u,b,a⟩:=Vals.get (i:=i) (x:=x) t (by simpa using e);exact ⟨u,by simpa using b,a⟩
theorem Vals.set {x:V} {u:Value} (r:RelV x u) :∀{xs:List V} {us:List Value} (i:Nat),Vals xs us->Vals (xs.set i x) (us.set i u)
 | _,_,_,.nil=>.nil
 | _,_,0,.cons _ t=>.cons r t
 | _,_,i + 1,.cons q t=>.cons q (Vals.set r i t)
theorem Vals.append :∀{xs ys:List V} {us ws:List Value},Vals xs us->Vals ys ws->Vals (xs++ys) (us++ws)
 | _,_,_,_,.nil,s=>s
 | _,_,_,_,.cons r t,s=>.cons r (Vals.append t s)
theorem Vals.take :∀{xs:List V} {us:List Value} (n:Nat),Vals xs us->Vals (xs.take n) (us.take n)
 | _,_,0,_=>.nil
 | _,_,_ + 1,.nil=>.nil
 | _,_,n + 1,.cons r t=>.cons r (Vals.take n t)
theorem Vals.drop :∀{xs:List V} {us:List Value} (n:Nat),Vals xs us->Vals (xs.drop n) (us.drop n)
 | _,_,0,r=>r
 | _,_,_ + 1,.nil=>.nil
 | _,_,n + 1,.cons _ t=>Vals.drop n t
def RelO:Option V->Option Value->Prop
 | some v,some u=>RelV v u
 | none,none=>True
 | _,_=>False
def KV {κ:Type}:List (κ×V)->List (κ×Value)->Prop:=B9 λ (p:κ×V) (q:κ×Value)=>p.1=q.1/\RelV p.2 q.2
def kV:Key->V
 | .inl i=>.int i
 | .inr x=>.str x
inductive HO where
 | lst (xs:List V)
 | tup (xs:List V)
 | dK (kvs:List (Key×V))|dT (kvs:List (List Key×V))
 | set (S:Int->Bool) (n:Nat)
 | ins (C dx:Addr) (fs:List (Str×V))
 | own (x:Addr)
 | xd (fs:List (Str×V))
 | met (f x:Addr)
 | rng (lo hi:Int)
 | frz (o:Obj) (u:HO)
 | tbl (ps:Array Value)
 | ext (φ:Heap->Prop)
abbrev Hp:=Addr->Option HO
def upd (H:Hp) (a:Addr) (o:HO):Hp:=λ b=>if b=a then some o else H b
theorem z03 {H:Hp} {a:Addr} {o:HO}:upd H a o a=some o:=by unfold upd;rw [if_pos rfl]
theorem upd_ne {H:Hp} {a b:Addr} {o:HO} (h:b≠a):upd H a o b=H b:=by unfold upd;rw [if_neg h]
theorem ne_of {H:Hp} {a b:Addr} {o u:HO} (h:H a=some o) (h':H b=some u) (d:o≠u):a≠b:=by intro e;subst e;rw [h] at h';exact d (X1 h')
theorem z0q {H:Hp} {a b:Addr} {o:HO} (h:H a=some o) (h':H b=none):a≠b:=by intro e;subst e;rw [h] at h';cases h'
section
variable (P:Program) (w:C1)
def IsTupN (h:Heap) (a:Addr) (items:Array Value):Prop:=IsTup h a items/\∃o,h.get? a=some o/\o.dict=none
theorem IsTupN.new (h:Heap) (items:Array Value):IsTupN (h.push { cls:=.type "tuple",data:=.seq items }) h.objs.size items:=⟨IsTup.new _ _,_,D1 _ rfl,rfl⟩
def ObjOk (H:Hp) (h:Heap) (a:Addr):HO->Prop
 | .lst xs=>xs.length<=sizeLine/\∃(its:List Value) (n:Nat),Vals xs its/\h.get? a=some { cls:=.type "list",data:=.seq its.toArray n }
 | .tup xs=>xs.length<=sizeLine/\∃its:List Value,Vals xs its/\IsTupN h a its.toArray
 | .dK kvs=>kvs.length<=sizeLine/\(a == w5)=false/\∃vs,KV kvs vs/\h.DictOf (z0k P w) a vs
 | .dT kvs=>kvs.length<=sizeLine/\(a == w5)=false/\∃xs:List (List Key×Addr×Value),
   B9 (λ (p:List Key×V) (q:List Key×Addr×Value)=>p.1=q.1/\H q.2.1=some (.tup (p.1.map kV))/\RelV p.2 q.2.2) kvs xs/\
   ∃o es ep,h.get? a=some o/\o.ExactDict/\o.data=.dict es ep/\es.toList=xs.map (entryOfKey (S6 (z0k P w)))/\(xs.map (·.1)).Nodup
 | .set S n=>h.SetOf (a5 P w) a S n
 | .ins C dx fs=>H dx=some (.own a)/\fs.length<=1000/\dx≠a/\h.get? a=some (R4 C dx)/\
   ∃mA,h.Ns1 dx mA/\(∀f,RelO (fs.lookup f) (mA f))/\j33 mA (fs.map (·.1))
 | .own _=>∃o,h.get? a=some o
 | .xd fs=>∃mA,h.Ns1 a mA/\∀f,RelO (fs.lookup f) (mA f)
 | .rng lo hi=>∃t u v,h.get? a=some { cls:=.type "range",data:=.fields #[.int lo t,.int hi u,.int 1 v] }
 | .frz o u=>h.get? a=some o/\ObjOk H h a u
 | .tbl ps=>h.get? a=some { cls:=.none,data:=.fields ps }
 | .met f x=>h.get? a=some (K9 (.ref f) (.ref x))
 | .ext φ=>φ h/\(∃o,h.get? a=some o)/\∀h1 h2:Heap,φ h1->(∀o,h1.get? a=some o->h2.get? a=some o)->φ h2
def HOk (H:Hp) (h:Heap):Prop:=∀a o,H a=some o->ObjOk P w H h a o
end
section
variable {P:Program} {w:C1} {H H':Hp} {h h':Heap} {a:Addr} {o:HO}
theorem ObjOk.lt (x:ObjOk P w H h a o):a < h.objs.size:=by
 cases o with
 | lst xs=>obtain ⟨_,_,_,_,e⟩:=x;exact S0 e
 | tup xs=>obtain ⟨_,_,_,p⟩:=x;exact p.1.lt
 | dK kvs=>obtain ⟨_,_,_,_,o,_,_,e,_⟩:=x;exact S0 e
 | dT kvs=>obtain ⟨_,_,_,_,o,_,_,e,_⟩:=x;exact S0 e
 | set S n=>obtain ⟨o,_,_,_,e,_⟩:=x;exact S0 e
 | ins C dx fs=>obtain ⟨_,_,_,e,_⟩:=x;exact S0 e
 | own y=>obtain ⟨_,e⟩:=x;exact S0 e
 | xd fs=>obtain ⟨_,⟨_,_,_,e,_⟩,_⟩:=x;exact S0 e
 | rng lo hi=>obtain ⟨_,_,_,e⟩:=x;exact S0 e
 | frz ob u=>obtain ⟨e,_⟩:=x;exact S0 e
 | tbl ps=>exact S0 (show h.get? a=some _ from x)
 | met f y=>exact S0 (show h.get? a=some _ from x)
 | ext φ=>obtain ⟨_,⟨_,e⟩,_⟩:=x;exact S0 e
theorem Paired.mapP {α β:Type} {F G:α->β->Prop} :∀{l₁:List α} {l₂:List β},B9 F l₁ l₂->(∀a b,F a b->G a b)->B9 G l₁ l₂
 | _,_,.nil,_=>.nil
 | _,_,.cons r t,f=>.cons (f _ _ r) (Paired.mapP t f)
theorem ObjOk.stay (x:ObjOk P w H h a o) (k :∀b u,(b=a\/H b=some (.own a))->h.get? b=some u->h'.get? b=some u)
  (ho :∀b,H b=some (.own a)->H' b=some (.own a)) (ht :∀b xs,H b=some (.tup xs)->H' b=some (.tup xs)):ObjOk P w H' h' a o:=by
 induction o with
 | lst xs=>obtain ⟨z,l,n,r,e⟩:=x;exact ⟨z,l,n,r,k _ _ (.inl rfl) e⟩
 | tup xs=>obtain ⟨z,l,r,⟨g,e,c⟩,E,m,D⟩:=x;exact ⟨z,l,r,⟨g,k _ _ (.inl rfl) e,c⟩,E,k _ _ (.inl rfl) m,D⟩
 | dK kvs=>obtain ⟨z,y,F,r,g,j,i,e,c⟩:=x;exact ⟨z,y,F,r,g,j,i,k _ _ (.inl rfl) e,c⟩
 | dT kvs=>obtain ⟨z,y,xs,r,g,j,i,e,c⟩:=x;exact ⟨z,y,xs,Paired.mapP r λ p q z=>⟨z.1,ht _ _ z.2.1,z.2.2⟩,g,j,i,k _ _ (.inl rfl) e,c⟩
 | set S n=>obtain ⟨g,j,i,t,e,c⟩:=x;exact ⟨g,j,i,t,k _ _ (.inl rfl) e,c⟩
 | ins C dx fs=>obtain ⟨d,z,G,e,A,⟨s,j,i,m,c⟩,r⟩:=x;exact ⟨ho _ d,z,G,k _ _ (.inl rfl) e,A,⟨s,j,i,k _ _ (.inr d) m,c⟩,r⟩
 | own y=>obtain ⟨g,e⟩:=x;exact ⟨g,k _ _ (.inl rfl) e⟩
 | xd fs=>obtain ⟨A,⟨s,j,i,e,c⟩,r⟩:=x;exact ⟨A,⟨s,j,i,k _ _ (.inl rfl) e,c⟩,r⟩
 | rng lo hi=>obtain ⟨t,u,v,e⟩:=x;exact ⟨t,u,v,k _ _ (.inl rfl) e⟩
 | frz g u ih=>obtain ⟨e,q⟩:=x;exact ⟨k _ _ (.inl rfl) e,ih q⟩
 | tbl ps=>have e:h.get? a=some { cls:=.none,data:=.fields ps }:=x;show h'.get? a=some { cls:=.none,data:=.fields ps };exact k a _ (.inl rfl) e
 | met f y=>have e:h.get? a=some (K9 (.ref f) (.ref y)):=x;show h'.get? a=some (K9 (.ref f) (.ref y));exact k a _ (.inl rfl) e
 | ext φ=>obtain ⟨p,⟨o,e⟩,B⟩:=x;exact ⟨B _ _ p λ o q=>k _ _ (.inl rfl) q,⟨o,k _ _ (.inl rfl) e⟩,B⟩
theorem HOk.lt (x:HOk P w H h) (e:H a=some o):a < h.objs.size:=(x a o e).lt
theorem HOk.fresh (x:HOk P w H h) (e:h.objs.size<=a):H a=none:=by
 cases q:H a with
 | none=>rfl
 | some u=>exact absurd (Y1 (x.lt q) e) (z4 _)
theorem HOk.kept (x:HOk P w H h) (k :∀b u,h.get? b=some u->h'.get? b=some u):HOk P w H h':=λ a o e=>(x a o e).stay (λ b u _ q=>k b u q) (λ _ q=>q) λ _ _ q=>q
theorem HOk.laid (x:HOk P w H h) (k :∀b u,h.get? b=some u->h'.get? b=some u) (hp:h.objs.size<=a) (new:ObjOk P w (upd H a o) h' a o):HOk P w (upd H a o) h':=λ b u e=>by
 have d:=x.fresh hp;by_cases hb:b=a
 ·subst hb;rw [z03] at e;cases e;exact new
 ·rw [upd_ne hb] at e;exact (x b u e).stay (λ c v _ q=>k c v q) (λ c q=>by rw [upd_ne (z0q q d)];exact q) λ c f q=>by rw [upd_ne (z0q q d)];exact q
end
def Rd (H:Hp) (a:Addr) (u:HO):Prop:=H a=some u\/∃o,H a=some (.frz o u)
theorem Rd.ok {P:Program} {w:C1} {H:Hp} {h:Heap} {a:Addr} {u:HO} (r:Rd H a u) (x:HOk P w H h):ObjOk P w H h a u:=by
 rcases r with r|⟨o,r⟩
 ·exact x a u r
 ·obtain ⟨_,q⟩:=x a _ r;exact q
def Mut:Option HO->Prop
 | some (.lst _)=>True
 | some (.dK _)=>True
 | some (.dT _)=>True
 | some (.set _ _)=>True
 | some (.ins _ _ _)=>True
 | some (.ext _)=>True
 | _=>False
section
variable {P:Program} {w:C1} {H:Hp} {h h':Heap} {x e:Addr} {o':HO}
theorem HOk.write (ok:HOk P w H h) (mu:Mut (H x)) (he:e=x\/H e=some (.own x)) (k :∀b u,b≠e->h.get? b=some u->h'.get? b=some u) (heo :∃u,h'.get? e=some u)
  (new:ObjOk P w (upd H x o') h' x o'):HOk P w (upd H x o') h':=λ b u q=>by
 have f :∀c y,H c=some (.own y)->c≠x:=λ c y r z=>by subst z;rw [r] at mu;exact mu
 have j :∀c d,H c=some (.tup d)->c≠x:=λ c d r z=>by subst z;rw [r] at mu;exact mu
 by_cases hb:b=x
 ·subst hb;rw [z03] at q;cases q;exact new
 ·rw [upd_ne hb] at q;by_cases hbe:b=e
  ·have g:H b=some (.own x):=by
    rcases he with z|z
    ·exact absurd (hbe.trans z) hb
    ·rw [hbe];exact z
   rw [q] at g;cases g;obtain ⟨v,i⟩:=heo;exact ⟨v,by rw [hbe];exact i⟩
  ·refine (ok b u q).stay (λ c v a r=>k c v ?_ r) (λ c r=>by rw [upd_ne (f c b r)];exact r) λ c d r=>by rw [upd_ne (j c d r)];exact r
   rcases a with rfl|a
   ·exact hbe
   ·rintro rfl;rcases he with z|z
    ·exact f c b a z
    ·rw [a] at z;cases z;exact hb rfl
end
structure Un (fs ex:List Addr) (H H':Hp) (h h':Heap):Prop where
 keep :∀b o,h.get? b=some o->H b=none->b∉fs->b∉ex->h'.get? b=some o
 slot :∀b o,h.get? b=some o->H b=none->b∈fs->b∉ex->∃sl,h'.get? b=some { o with slots:=sl }
 free :∀b o,h.get? b=some o->H b=none->b∉ex->H' b=none
 there :∀b o,h.get? b=some o->b∉ex->∃o',h'.get? b=some o'
 tups :∀b xs,H b=some (.tup xs)->H' b=some (.tup xs)
 frzs :∀b o u,H b=some (.frz o u)->H' b=some (.frz o u)
 tbls :∀b ps,H b=some (.tbl ps)->∃more,H' b=some (.tbl (ps++more))
section
variable {fs fs' ex ex':List Addr} {H H1 H2:Hp} {h h1 h2 h':Heap} {a x e:Addr} {o:HO}
theorem Un.any (u:Un fs ex H H1 h h1) {b:Addr} {ob:Obj} (q:h.get? b=some ob) (n:H b=none) (hx:b∉ex) :∃sl,h1.get? b=some { ob with slots:=sl }:=by
 by_cases hb:b∈fs
 ·exact u.slot b ob q n hb hx
 ·exact ⟨ob.slots,u.keep b ob q n hb hx⟩
theorem Un.kept (k :∀b u,h.get? b=some u->h'.get? b=some u):Un fs ex H H h h':=
 ⟨λ b a q _ _ _=>k b a q,λ b a q _ _ _=>⟨a.slots,k b a q⟩,λ _ _ _ n _=>n,λ b a q _=>⟨a,k b a q⟩,λ _ _ q=>q,λ _ _ _ q=>q,λ _ c q=>⟨#[],by rw [q];simp⟩⟩
theorem Un.refl:Un fs ex H H h h:=Un.kept λ _ _ q=>q
theorem Un.laid (k :∀b u,h.get? b=some u->h'.get? b=some u) (hp:h.objs.size<=a) (hn:H a=none):Un fs ex H (upd H a o) h h' where
 keep:=λ b u q _ _ _=>k b u q
 slot:=λ b u q _ _ _=>⟨u.slots,k b u q⟩
 free:=λ b u q n _=>by rw [upd_ne (B1 (Y1 (S0 q) hp))];exact n
 there:=λ b u q _=>⟨u,k b u q⟩
 tups:=λ b c q=>by rw [upd_ne (z0q q hn)];exact q
 frzs:=λ b u c q=>by rw [upd_ne (z0q q hn)];exact q
 tbls:=λ b d q=>⟨#[],by rw [upd_ne (z0q q hn),q];simp⟩
theorem Un.write (mu:Mut (H x)) (he:e=x\/H e=some (.own x)) (k :∀b u,b≠e->h.get? b=some u->h'.get? b=some u) (heo :∃u,h'.get? e=some u):Un fs ex H (upd H x o) h h':=by
 have d :∀b,H b=none->b≠x:=λ b n z=>by subst z;rw [n] at mu;exact mu
 have c :∀b,H b=none->b≠e:=λ b n z=>by
  subst z;rcases he with r|r
  ·exact d b n r
  ·rw [n] at r;cases r
 have a :∀b u,H b=some u->¬ Mut (some u)->b≠x:=λ b u q f z=>by subst z;rw [q] at mu;exact f mu
 refine ⟨λ b u q n _ _=>k b u (c b n) q,λ b u q n _ _=>⟨u.slots,k b u (c b n) q⟩,λ b u q n _=>by rw [upd_ne (d b n)];exact n,λ b u q _=>?_,
  λ b g q=>by rw [upd_ne (a b _ q λ z=>z)];exact q,λ b u g q=>by rw [upd_ne (a b _ q λ z=>z)];exact q,λ b i q=>⟨#[],by rw [upd_ne (a b _ q λ z=>z),q];simp⟩⟩
 by_cases hbe:b=e
 ·subst hbe;exact heo
 ·exact ⟨u,k b u hbe q⟩
end
def trk (h:Heap) (H:Hp):List Addr:=(U0 h.objs.size).filter λ a=>(H a).isSome
def hidT (h:Heap) (H:Hp):Heap:=j09 h (trk h H)
theorem zh4 (h:Heap) (H:Hp):(hidT h H).objs.size=h.objs.size:=PySem.W.hideAll_size _ _
theorem ziv {h:Heap} {H:Hp} {b:Addr} {o:Obj} (e:h.get? b=some o) (n:H b=none):(hidT h H).get? b=some o:=
 p7 _ e λ a=>by have q:(H b).isSome=true:=(List.mem_filter.mp a).2;rw [n] at q;simp at q
theorem zkb {h:Heap} {H:Hp} {b:Addr} {o:Obj} (e:(hidT h H).get? b=some o):h.get? b=some o/\H b=none:=by
 have a:h.get? b=some o:=j41 (trk h H) e;refine ⟨a,?_⟩;cases q:H b with
 | none=>rfl
 | some x=>have c:b∈trk h H:=List.mem_filter.mpr ⟨List.mem_range.mpr (S0 a),by simp [q]⟩;have z:(hidT h H).get? b=none:=PySem.W.hideAll_none (trk h H) c;rw [z] at e;cases e
def zka (g h:Heap) (L:Addr):List (Addr×Obj):=(U0 h.objs.size).filterMap λ a=>if a=L\/(g.get? a).isSome=true then none else (h.get? a).map λ o=>(a,o)
def rest (g h:Heap) (L d:Addr):List (Addr×Obj):=(zka g h L).filter λ p=>decide (p.1≠d)
structure Mod (K:j0) (mg:Str->Option Value) (base:Heap):Prop where
 kin:K.In base
 glob:base.Ns Q2 mg
 blt :∃mb,base.Ns builtinsNs mb/\∀x:Str,x≠"__name__"->mb x=b5 x
 nolimit:base.NoLimit
structure Cx where
 prog:Program
 w:C1
 K:j0
 mg:Str->Option Value
 base:Heap
 A:O2
 N:List Str
 s₀:B0
 H₀:Hp
 env:Env
 outer:List Env
 stack:List Env
 ex:List Addr
 fn:Str->Bool
 calm:Bool
 pn:List (Addr×Obj)
 xe:Value->B0->Prop
def frs (l:List Env):List Addr:=l.filterMap (·.frame)
abbrev Cx.fs (X:Cx):List Addr:=frs X.outer
def Vis (sc:Scope) (x:Str):Prop:=sc.names.lookup x=some .local\/sc.names.lookup x=some .cell\/sc.names.lookup x=some .free
def Loc (sc:Scope) (x:Str):Prop:=sc.names.lookup x=some .local\/sc.names.lookup x=some .cell
def Look (env:Env) (h:Heap) (m:Str->Option Value) (x:Str) (u:Value):Prop:=
 (env.kindOf x=some .local/\m x=some u)\/((env.kindOf x=some .cell\/env.kindOf x=some .free)/\∃c,env.cells.lookup x=some c/\h.IsCell c (some u))
structure Cx.Ok (X:Cx):Prop where
 mod:Mod X.K X.mg X.base
 kind:X.env.scope.kind=.function
 glob:X.env.globals=Q2
 blt:X.env.builtins=builtinsNs
 above:X.s₀.heap.objs.size<=X.env.locals
 inj :∀x y c,X.env.cells.lookup x=some c->X.env.cells.lookup y=some c->x=y
 has :∀x,(X.env.kindOf x=some .cell\/X.env.kindOf x=some .free)->∃c,X.env.cells.lookup x=some c
 cab :∀x c,X.fn x=true->X.env.cells.lookup x=some c->X.s₀.heap.objs.size<=c
 hd:X.calm=true->X.A.handled=none
 frames:X.A.frames=some X.stack
 stk:X.stack=X.outer\/(X.stack=X.env :: X.outer/\X.env.frame=some X.env.locals)
 exf :∀b∈X.ex,b≠X.env.locals/\∀x c,X.env.cells.lookup x=some c->c≠b
 bs :∀b o,X.base.get? b=some o->X.s₀.heap.get? b=some o/\X.H₀ b=none
 bsz:X.base.objs.size<=X.s₀.heap.objs.size
 noex :∀b o,X.base.get? b=some o->b∉X.ex
 exfs :∀b∈X.ex,b∉X.fs
 funs:X.s₀.heap.FunFrames X.base X.outer
 frf :∀b∈X.fs,X.H₀ b=none
structure Inv (X:Cx) (pins:List (Addr×Obj)) (σ:List (Option V)) (H:Hp) (s:B0):Prop where
 ok:X.Ok
 os:s.os=X.s₀.os
 bare:P8 s.gens
 base:Un X.fs X.ex X.H₀ H X.s₀.heap s.heap
 loc :∃m,s.heap.Ns X.env.locals m/\∀(i:Nat) (x:Str) (v:V),X.N[i]? = some x->σ[i]? = some (some v)->Vis X.env.scope x->∃u,RelV v u/\Look X.env s.heap m x u
 cell :∀x c,X.env.cells.lookup x=some c->∃v,s.heap.IsCell c v
 free:H X.env.locals=none
 freeC :∀x c,X.env.cells.lookup x=some c->H c=none
 pin :∀p∈X.pn++pins,s.heap.get? p.1=some p.2/\H p.1=none/\p.1≠X.env.locals/\p.1∉X.fs/\∀v,p.2.data≠.cell v
 hok:HOk X.prog X.w H s.heap
 len:σ.length=X.N.length
section
variable {X:Cx} {pins:List (Addr×Obj)} {σ:List (Option V)} {H H':Hp} {s:B0} {h':Heap}
theorem Cx.Ok.nofr (ok:X.Ok) {b:Addr} {o:Obj} (e:X.base.get? b=some o):b∉X.fs:=λ a=>by have:=(ok.funs.mem a).1;rw [e] at this;cases this
theorem Inv.bs (I:Inv X pins σ H s) :∀b o,X.base.get? b=some o->s.heap.get? b=some o/\H b=none:=λ b o e=>⟨I.base.keep b o (I.ok.bs b o e).1 (I.ok.bs b o e).2 (I.ok.nofr e) (I.ok.noex b o e),I.base.free b o (I.ok.bs b o e).1 (I.ok.bs b o e).2 (I.ok.noex b o e)⟩
theorem Inv.bk (I:Inv X pins σ H s) :∀b o,X.base.get? b=some o->s.heap.get? b=some o:=λ b o e=>(I.bs b o e).1
theorem Inv.mod (I:Inv X pins σ H s):Mod X.K X.mg X.base:=I.ok.mod
theorem Inv.kIn (I:Inv X pins σ H s):X.K.In s.heap:=I.ok.mod.kin.keeps I.bk
theorem Inv.lt (I:Inv X pins σ H s):X.env.locals < s.heap.objs.size:=let ⟨_,hn,_⟩:=I.loc;hn.lt
theorem Inv.sz (I:Inv X pins σ H s):X.s₀.heap.objs.size<=s.heap.objs.size:=O0 I.ok.above (T8 I.lt)
theorem Inv.nofs (I:Inv X pins σ H s) {a:Addr} (h:s.heap.objs.size<=a):a∉X.fs:=λ b=>by obtain ⟨_,o,c,_⟩:=I.ok.funs.mem b;exact absurd (Y1 (S0 c) (O0 I.sz h)) (z4 _)
theorem Inv.cne (I:Inv X pins σ H s) :∀x c,X.env.cells.lookup x=some c->c≠X.env.locals:=λ x c e z=>by obtain ⟨v,o,b,a⟩:=I.cell x c e;obtain ⟨m,⟨i,h,g,f,d,_⟩,_⟩:=I.loc;rw [z,f] at b;cases b;rw [d] at a;cases a
theorem Inv.funs (I:Inv X pins σ H s):s.heap.FunFrames X.base X.outer:=by
 have all :∀(l:List Env),(∀b∈frs l,b∈X.fs)->X.s₀.heap.FunFrames X.base l->s.heap.FunFrames X.base l:=by
  intro l;induction l with
  | nil=>intro _ _;trivial
  | cons env r ih=>intro f k;obtain ⟨i,⟨L,o,c,h,j,g⟩,m⟩:=k;have d:L∈X.fs:=f L (by unfold frs;rw [G7,c];exact V1);obtain ⟨n,e⟩:=I.base.slot L o j (I.ok.frf L d) d λ z=>I.ok.exfs L z d;exact ⟨i,⟨L,_,c,h,e,g⟩,ih (λ b a=>f b (by unfold frs;rw [G7,c];exact Q1 _ a)) m⟩
 exact all X.outer (λ _ a=>a) I.ok.funs
theorem Inv.stack (I:Inv X pins σ H s):s.heap.FunFrames X.base X.stack:=by
 rcases I.ok.stk with e|⟨e,hf⟩
 ·rw [e];exact I.funs
 ·rw [e];obtain ⟨m,a,_⟩:=I.loc;refine .cons (by rw [I.ok.kind];decide) hf a ?_ I.funs;exact Heap.get?_none_of_le (O0 I.ok.bsz I.ok.above)
theorem Inv.stkSub (I:Inv X pins σ H s) :∀b∈frs X.stack,b∈X.env.locals :: X.fs:=λ b a=>by
 rcases I.ok.stk with e|⟨e,hf⟩
 ·rw [e] at a;exact Q1 _ a
 ·rw [e] at a;unfold frs at a;rw [G7,hf] at a;exact a
theorem Inv.stkFree (I:Inv X pins σ H s) :∀b∈frs X.stack,H b=none:=λ b a=>by
 rcases List.mem_cons.mp (I.stkSub b a) with e|a
 ·rw [e];exact I.free
 ·obtain ⟨_,o,c,_⟩:=I.ok.funs.mem a;exact I.base.free b o c (I.ok.frf b a) λ z=>I.ok.exfs b z a
theorem Inv.step {g':Array GenState} {t':Nat} {d':Drawn} {ch:List Addr} (I:Inv X pins σ H s)
  (hch :∀b∈ch,(b∈X.ex\/X.s₀.heap.objs.size<=b)/\b≠X.env.locals/\(∀x c,X.env.cells.lookup x=some c->c≠b)/\∀p∈X.pn++pins,p.1≠b)
  (keep :∀b o,b≠X.env.locals->b∉X.fs->b∉ch->s.heap.get? b=some o->H b=none->h'.get? b=some o)
  (slot :∀b o,b≠X.env.locals->b∈X.fs->b∉ch->s.heap.get? b=some o->H b=none->∃sl,h'.get? b=some { o with slots:=sl }) (free :∀b o,b∉ch->s.heap.get? b=some o->H b=none->H' b=none)
  (there :∀b o,b∉ch->s.heap.get? b=some o->∃o',h'.get? b=some o')
  (tups :∀b xs,H b=some (.tup xs)->H' b=some (.tup xs)) (frzs :∀b o u,H b=some (.frz o u)->H' b=some (.frz o u)) (tbls :∀b ps,H b=some (.tbl ps)->∃more,H' b=some (.tbl (ps++more)))
  (ns :∀m,s.heap.Ns X.env.locals m->h'.Ns X.env.locals m) (hok:HOk X.prog X.w H' h') (hg:P8 g') :
  Inv X pins σ H' { s with heap:=h',gens:=g',drawn:=d',toks:=t' }:=by
 have D :∀b o,X.s₀.heap.get? b=some o->b≠X.env.locals:=λ b o e=>B1 (Y1 (S0 e) I.ok.above);have y :∀b o,X.s₀.heap.get? b=some o->b∉X.ex->b∉ch:=λ b o e a g=>by
  rcases (hch b g).1 with z|z
  ·exact a z
  ·exact absurd (Y1 (S0 e) z) (z4 _)
 have E :∀x c,X.env.cells.lookup x=some c->∀v,s.heap.IsCell c v->h'.IsCell c v:=λ x c e v ⟨o,h,A⟩=>by
  have t:c∉ch:=λ z=>(hch c z).2.2.1 x c e rfl;by_cases hc:c∈X.fs
  ·obtain ⟨sl,q⟩:=slot c o (I.cne x c e) hc t h (I.freeC x c e);exact ⟨_,q,A⟩
  ·exact ⟨o,keep c o (I.cne x c e) hc t h (I.freeC x c e),A⟩
 refine ⟨I.ok,I.os,hg,⟨λ b o e n g a=>?_,λ b o e n g a=>?_,λ b o e n a=>?_,λ b o e a=>?_,λ b xs e=>tups b xs (I.base.tups b xs e),λ b o xs e=>frzs b o xs (I.base.frzs b o xs e),λ b ps e=>?_⟩,?_,λ x c e=>?_,?_,λ x c e=>?_,λ p C=>?_,hok,I.len⟩
 ·exact keep b o (D b o e) g (y b o e a) (I.base.keep b o e n g a) (I.base.free b o e n a)
 ·obtain ⟨sl,f⟩:=I.base.slot b o e n g a;obtain ⟨J,j⟩:=slot b _ (D b o e) g (y b o e a) f (I.base.free b o e n a);exact ⟨J,j⟩
 ·obtain ⟨o',f⟩:=I.base.there b o e a;exact free b o' (y b o e a) f (I.base.free b o e n a)
 ·obtain ⟨o',f⟩:=I.base.there b o e a;exact there b o' (y b o e a) f
 ·obtain ⟨G,f⟩:=I.base.tbls b ps e;obtain ⟨L,j⟩:=tbls b _ f;exact ⟨G++L,by rw [j,Array.append_assoc]⟩
 ·obtain ⟨m,M,K⟩:=I.loc;refine ⟨m,ns m M,λ i x v f j N=>?_⟩;obtain ⟨u,r,l⟩:=K i x v f j N;refine ⟨u,r,?_⟩;rcases l with l|⟨k,c,e,z⟩
  ·exact .inl l
  ·exact .inr ⟨k,c,e,E x c e _ z⟩
 ·obtain ⟨v,z⟩:=I.cell x c e;exact ⟨v,E x c e v z⟩
 ·obtain ⟨m,⟨o,_,_,h,_⟩,_⟩:=I.loc;exact free _ o (λ z=>(hch _ z).2.1 rfl) h I.free
 ·obtain ⟨v,o,h,A⟩:=I.cell x c e;exact free c o (λ z=>(hch c z).2.2.1 x c e rfl) h (I.freeC x c e)
 ·obtain ⟨e,n,F,B,d⟩:=I.pin p C;have t:p.1∉ch:=λ z=>(hch p.1 z).2.2.2 p C rfl;exact ⟨keep p.1 p.2 F B t e n,free p.1 p.2 t e n,F,B,d⟩
theorem Inv.un {t':Nat} (I:Inv X pins σ H s) (u:Un X.fs [] H H' s.heap h') (hok:HOk X.prog X.w H' h'):Inv X pins σ H' { s with heap:=h',toks:=t' }:=by obtain ⟨m,⟨o,t,q,c,r⟩,_⟩:=id I.loc;obtain ⟨k,g⟩:=u.any c I.free (by simp);exact I.step (g':=s.gens) (d':=s.drawn) (ch:=[]) (λ _ z=>nomatch z) (λ b o _ a _ e n=>u.keep b o e n a (by simp)) (λ b o _ a _ e n=>u.slot b o e n a (by simp)) (λ b o _ e n=>u.free b o e n (by simp)) (λ b o _ e=>u.there b o e (by simp)) u.tups u.frzs u.tbls (λ l i=>by obtain ⟨p,j,f,d,h⟩:=i;rw [c] at d;cases d;exact ⟨_,j,f,g,h⟩) hok I.bare
theorem Inv.call {g':Array GenState} {t':Nat} {d':Drawn} {ch:List Addr} (I:Inv X pins σ H s) (u:Un (frs X.stack) ch H H' s.heap h') (hok:HOk X.prog X.w H' h') (hg:P8 g')
  (hch :∀b∈ch,(b∈X.ex\/X.s₀.heap.objs.size<=b)/\b≠X.env.locals/\(∀x c,X.env.cells.lookup x=some c->c≠b)/\∀p∈X.pn++pins,p.1≠b) :
  Inv X pins σ H' { s with heap:=h',gens:=g',drawn:=d',toks:=t' }:=by
 obtain ⟨m,⟨o,A,y,f,r⟩,_⟩:=id I.loc;obtain ⟨q,d⟩:=u.any f I.free λ z=>(hch _ z).2.1 rfl;exact I.step (ch:=ch) hch (λ b o d h a e n=>u.keep b o e n (λ z=>(List.mem_cons.mp (I.stkSub b z)).elim d h) a) (λ b o _ _ a e n=>u.any e n a) (λ b o a e n=>u.free b o e n a) (λ b o a e=>u.there b o e a) u.tups u.frzs u.tbls (λ t k=>by obtain ⟨v,l,i,g,j⟩:=k;rw [f] at g;cases g;exact ⟨_,l,i,d,j⟩) hok hg
theorem Inv.turned {t':Nat} {it:Addr} (I:Inv X pins σ H s) (k :∀b o,b≠it->s.heap.get? b=some o->h'.get? b=some o) (hn:H it=none) (hL:it≠X.env.locals)
  (h1:it∈X.ex\/X.s₀.heap.objs.size<=it) (h2 :∀x c,X.env.cells.lookup x=some c->c≠it) (h3 :∀p∈X.pn++pins,p.1≠it):Inv X pins σ H { s with heap:=h',toks:=t' }:=by
 have d :∀b u,H b=some u->b≠it:=λ b u e z=>by rw [z,hn] at e;cases e
 refine I.step (g':=s.gens) (d':=s.drawn) (ch:=[it]) (λ b f=>?_) (λ b o _ _ a e _=>k b o (λ z=>a (by simp [z])) e) (λ b o _ _ a e _=>⟨o.slots,k b o (λ z=>a (by simp [z])) e⟩) (λ _ _ _ _ n=>n)
  (λ b o a e=>⟨o,k b o (λ z=>a (by simp [z])) e⟩) (λ _ _ e=>e) (λ _ _ _ e=>e) (λ b l e=>⟨#[],by rw [e];simp⟩) (λ m g=>?_) (λ b u e=>?_) I.bare
 ·have e:b=it:=by simpa using f
  subst e;exact ⟨h1,hL,h2,h3⟩
 ·obtain ⟨o,j,h,i,r⟩:=g;exact ⟨o,j,h,k _ o (D2 hL) i,r⟩
 ·refine (I.hok b u e).stay (λ c v a q=>k c v ?_ q) (λ _ q=>q) λ _ _ q=>q;rcases a with z|z
  ·rw [z];exact d b u e
  ·exact d c _ z
theorem Inv.tok (I:Inv X pins σ H s) (t:Nat):Inv X pins σ H { s with toks:=t }:=I.un (h':=s.heap) (t':=t) Un.refl I.hok
theorem Inv.kept {t':Nat} (I:Inv X pins σ H s) (k :∀b u,s.heap.get? b=some u->h'.get? b=some u):Inv X pins σ H { s with heap:=h',toks:=t' }:=I.un (Un.kept k) (I.hok.kept k)
theorem Inv.laid {a:Addr} {o:HO} {t':Nat} (I:Inv X pins σ H s) (k :∀b u,s.heap.get? b=some u->h'.get? b=some u) (hp:s.heap.objs.size<=a) (new:ObjOk X.prog X.w (upd H a o) h' a o) :
  Inv X pins σ (upd H a o) { s with heap:=h',toks:=t' }:=I.un (Un.laid k hp (I.hok.fresh hp)) (I.hok.laid k hp new)
theorem Inv.write {x e:Addr} {o:HO} {t':Nat} (I:Inv X pins σ H s) (mu:Mut (H x)) (he:e=x\/H e=some (.own x)) (k :∀b u,b≠e->s.heap.get? b=some u->h'.get? b=some u) (heo :∃u,h'.get? e=some u)
  (new:ObjOk X.prog X.w (upd H x o) h' x o):Inv X pins σ (upd H x o) { s with heap:=h',toks:=t' }:=I.un (Un.write mu he k heo) (I.hok.write mu he k heo new)
theorem Inv.weak {σ':List (Option V)} (I:Inv X pins σ H s) (hl:σ'.length=σ.length) (w :∀(i:Nat) v,σ'[i]? = some (some v)->σ[i]? = some (some v)):Inv X pins σ' H s:=
 ⟨I.ok,I.os,I.bare,I.base,let ⟨m,hn,hl'⟩:=I.loc;⟨m,hn,λ i x v c a b=>hl' i x v c (w i v a) b⟩,I.cell,I.free,I.freeC,I.pin,I.hok,hl.trans I.len⟩
theorem Inv.pins_of {pins':List (Addr×Obj)} (I:Inv X pins σ H s) (h :∀p∈pins',s.heap.get? p.1=some p.2/\H p.1=none/\p.1≠X.env.locals/\p.1∉X.fs/\∀v,p.2.data≠.cell v):Inv X pins' σ H s:=
 ⟨I.ok,I.os,I.bare,I.base,I.loc,I.cell,I.free,I.freeC,λ p a=>(List.mem_append.mp a).elim (λ z=>I.pin p (v7 _ z)) (h p),I.hok,I.len⟩
theorem zen {N:List Str} (hN:N.Nodup) {i j:Nat} {x:Str} (a:N[i]? = some x) (b:N[j]? = some x):i=j:=by obtain ⟨f,d⟩:=List.getElem?_eq_some_iff.mp a;obtain ⟨e,c⟩:=List.getElem?_eq_some_iff.mp b;exact (List.getElem_inj hN).mp (d.trans c.symm)
theorem zg4 {M:Model} {A:O2} {E:Value->B0->Prop} {i:Nat} {x:Str} {v:V} {u:Value} {Q:Unit->B0->Prop} (I:Inv X pins σ H s) (hN:X.N.Nodup) (hi:X.N[i]? = some x) (hx:Loc X.env.scope x) (r:RelV v u)
  (h :∀s',Inv X pins (σ.set i (some v)) H s'->(∃a,N6 a s.heap s'.heap/\(a=X.env.locals\/X.env.cells.lookup x=some a))->Q () s') (hf:X.fn x=true\/X.env.scope.names.lookup x=some .local:=by first|exact .inl rfl|exact .inr rfl|assumption):W0 M A (storeName X.env x u) Q E s:=by
 obtain ⟨m,T,hl⟩:=id I.loc;have a5:(X.env.scope.kind == .class || (X.env.scope.kind == .module && X.env.locals != X.env.globals))=false:=by rw [I.ok.kind];rfl
 have a0:i < σ.length:=by rw [I.len];exact (List.getElem?_eq_some_iff.mp hi).1
 have cne:=I.cne;have a2 :∀{a:Addr} {C:Heap},(∃o,s.heap.get? a=some o/\H a=none)->N6 a s.heap C->HOk X.prog X.w H C:=λ {a C} ha f b ob e=>by
  obtain ⟨_,_,a1⟩:=ha;refine (I.hok b ob e).stay (λ c G l q=>(f.2 c ?_).trans q) (λ _ q=>q) λ _ _ q=>q;rintro rfl;rcases l with rfl|l
  ·rw [a1] at e;cases e
  ·rw [a1] at l;cases l
 rcases hx with hk|hk
 ·refine wpAny_storeName_local hk T (λ C a3 f=>?_) a5;obtain ⟨oL,_,_,a4,_⟩:=id T;refine h _ ⟨I.ok,I.os,I.bare,⟨λ b o e n B hx=>?_,λ b o e n B hx=>?_,I.base.free,λ b o e hx=>?_,I.base.tups,I.base.frzs,I.base.tbls⟩,⟨_,a3,λ j y S g t U=>?_⟩,λ y c e=>?_,I.free,I.freeC,λ p L=>?_,a2 ⟨oL,a4,I.free⟩ f,by simpa using I.len⟩ ⟨_,f,.inl rfl⟩
  ·exact (f.2 b (B1 (Y1 (S0 e) I.ok.above))).trans (I.base.keep b o e n B hx)
  ·obtain ⟨O,g⟩:=I.base.slot b o e n B hx;exact ⟨O,(f.2 b (B1 (Y1 (S0 e) I.ok.above))).trans g⟩
  ·obtain ⟨R,g⟩:=I.base.there b o e hx;exact ⟨R,(f.2 b (B1 (Y1 (S0 e) I.ok.above))).trans g⟩
  ·by_cases hj:j=i
   ·subst hj;rw [hi] at g;cases g;rw [K0 a0] at t;cases t;exact ⟨u,r,.inl ⟨hk,by simp⟩⟩
   ·rw [Y0 (D2 hj)] at t;obtain ⟨W,P,q⟩:=hl j y S g t U;refine ⟨W,P,?_⟩;rcases q with ⟨k,e⟩|⟨k,c,e,z⟩
    ·refine .inl ⟨k,?_⟩;have:y≠x:=λ e=>hj (zen hN g (e ▸ hi));simp [this,e]
    ·exact .inr ⟨k,c,e,z.sameBut f (cne y c e)⟩
  ·obtain ⟨G,z⟩:=I.cell y c e;exact ⟨G,z.sameBut f (cne y c e)⟩
  ·obtain ⟨e,n,F,K,d⟩:=I.pin p L;exact ⟨(f.2 p.1 F).trans e,n,F,K,d⟩
 ·have J:X.fn x=true:=by
   rcases hf with z|z
   ·exact z
   ·rw [z] at hk;cases hk
  obtain ⟨c,l⟩:=I.ok.has x (.inl hk);obtain ⟨G,z⟩:=I.cell x c l;refine wpAny_storeName_cell I.ok.kind hk l z (λ C Y f=>?_);obtain ⟨oc,Z,a6⟩:=id z;refine h { s with heap:=C } ⟨I.ok,I.os,I.bare,⟨λ b o e n B hx=>?_,λ b o e n B hx=>?_,I.base.free,λ b o e hx=>?_,I.base.tups,I.base.frzs,I.base.tbls⟩,⟨m,T.sameBut f (D2 (cne x c l)),λ j y S g t U=>?_⟩,λ y D e=>?_,I.free,I.freeC,λ p L=>?_,a2 ⟨oc,Z,I.freeC x c l⟩ f,by simpa using I.len⟩ ⟨c,f,.inr l⟩
  ·exact (f.2 b (B1 (Y1 (S0 e) (I.ok.cab x c J l)))).trans (I.base.keep b o e n B hx)
  ·obtain ⟨O,g⟩:=I.base.slot b o e n B hx;exact ⟨O,(f.2 b (B1 (Y1 (S0 e) (I.ok.cab x c J l)))).trans g⟩
  ·obtain ⟨R,g⟩:=I.base.there b o e hx;exact ⟨R,(f.2 b (B1 (Y1 (S0 e) (I.ok.cab x c J l)))).trans g⟩
  ·by_cases hj:j=i
   ·subst hj;rw [hi] at g;cases g;rw [K0 a0] at t;cases t;exact ⟨u,r,.inr ⟨.inl hk,c,l,Y⟩⟩
   ·rw [Y0 (D2 hj)] at t;obtain ⟨W,P,q⟩:=hl j y S g t U;refine ⟨W,P,?_⟩;rcases q with q|⟨k,D,e,z'⟩
    ·exact .inl q
    ·refine .inr ⟨k,D,e,z'.sameBut f ?_⟩;rintro rfl;exact hj (zen hN g (I.ok.inj _ _ _ e l ▸ hi))
  ·by_cases hcc:D=c
   ·subst hcc;exact ⟨_,Y⟩
   ·obtain ⟨w2,z2⟩:=I.cell y D e;exact ⟨w2,z2.sameBut f hcc⟩
  ·obtain ⟨e,n,F,K,d⟩:=I.pin p L;refine ⟨(f.2 p.1 ?_).trans e,n,F,K,d⟩;intro q;rw [q,Z] at e;have q':oc=p.2:=X1 e;exact d G (by rw [<-q'];exact a6)
theorem zeo {M:Model} {A:O2} {E:Value->B0->Prop} {i:Nat} {x:Str} {v:V} {u:Value} {Q:Unit->B0->Prop} (I:Inv X pins σ H s) (hN:X.N.Nodup) (hi:X.N[i]? = some x) (hx:Loc X.env.scope x) (r:RelV v u)
  (h :∀s',Inv X pins (σ.set i (some v)) H s'->Q () s') (hf:X.fn x=true\/X.env.scope.names.lookup x=some .local:=by first|exact .inl rfl|exact .inr rfl|assumption):W0 M A (storeName X.env x u) Q E s:=
 zg4 I hN hi hx r (λ s' a _=>h s' a) hf
theorem Inv.call' {s':B0} {ch:List Addr} (I:Inv X pins σ H s) (ho:s'.os=s.os) (u:Un (frs X.stack) ch H H' s.heap s'.heap) (hok:HOk X.prog X.w H' s'.heap) (hg:P8 s'.gens)
  (hch :∀b∈ch,(b∈X.ex\/X.s₀.heap.objs.size<=b)/\b≠X.env.locals/\(∀x c,X.env.cells.lookup x=some c->c≠b)/\∀p∈X.pn++pins,p.1≠b):Inv X pins σ H' s':=by
 obtain ⟨d,g',d',t',a⟩:=s';have e:a=s.os:=ho;subst e;exact I.call (g':=g') (t':=t') (d':=d') u hok hg hch
end
abbrev XK:=Value->Option Addr->Hp->Prop
abbrev St:=List (Option V)
abbrev VK:=V->Hp->Prop
abbrev TE:=St->Hp->VK->Prop
abbrev TT:=St->Hp->(Bool->Hp->Prop)->Prop
abbrev TA:=St->Hp->(List V->Hp->Prop)->Prop
structure Ends where
 nx:St->Hp->Prop
 rt:VK
 bk:St->Hp->Prop:=λ _ _=>False
 ct:St->Hp->Prop:=λ _ _=>False
abbrev TS:=Ends->St->Hp->Prop
def EP (X:Cx) (pins:List (Addr×Obj)) (σ:St) (Q:VK) (u:Value) (s':B0):Prop:=∃v H',Inv X pins σ H' s'/\RelV v u/\Q v H'
def TP (X:Cx) (pins:List (Addr×Obj)) (σ:St) (Q:Bool->Hp->Prop) (b:Bool) (s':B0):Prop:=∃H',Inv X pins σ H' s'/\Q b H'
def AP (X:Cx) (pins:List (Addr×Obj)) (σ:St) (Q:List V->Hp->Prop) (us:List Value) (s':B0):Prop:=∃vs H',Inv X pins σ H' s'/\Vals vs us/\Q vs H'
def SP (X:Cx) (pins:List (Addr×Obj)) (D:Ends) (f:Flow) (s':B0):Prop:=
 match f with
 | .next=>∃σ' H',Inv X pins σ' H' s'/\D.nx σ' H'
 | .brk=>∃σ' H',Inv X pins σ' H' s'/\D.bk σ' H'
 | .cont=>∃σ' H',Inv X pins σ' H' s'/\D.ct σ' H'
 | .ret u=>∃v σ' H',Inv X pins σ' H' s'/\RelV v u/\D.rt v H'
def PE (X:Cx) (e:Expr) (t:TE):Prop:=
 ∀(pins:List (Addr×Obj)) (s:B0) (σ:St) (H:Hp) (Q:VK),Inv X pins σ H s->t σ H Q->W0 (N1 X.prog X.w) X.A (R3 e X.env) (EP X pins σ Q) X.xe s
def PT (X:Cx) (e:Expr) (t:TT):Prop:=
 ∀(pins:List (Addr×Obj)) (s:B0) (σ:St) (H:Hp) (Q:Bool->Hp->Prop),Inv X pins σ H s->t σ H Q->W0 (N1 X.prog X.w) X.A (isTrue e X.env (R3 e X.env)) (TP X pins σ Q) X.xe s
def PW (X:Cx) (e:Expr) (t:TT):Prop:=
 ∀(whole:Sem Value) (pins:List (Addr×Obj)) (s:B0) (σ:St) (H:Hp) (Q:Bool->Hp->Prop),Inv X pins σ H s->t σ H Q->W0 (N1 X.prog X.w) X.A (isTrue e X.env whole) (TP X pins σ Q) X.xe s
theorem PW.pt {X:Cx} {e:Expr} {t:TT} (h:PW X e t):PT X e t:=h _
def PA (X:Cx) (es:List Expr) (t:TA):Prop:=
 ∀(pos:Pos) (pins:List (Addr×Obj)) (s:B0) (σ:St) (H:Hp) (Q:List V->Hp->Prop),Inv X pins σ H s->t σ H Q->W0 (N1 X.prog X.w) X.A (j38 (N4 pos (L1 es X.env))) (AP X pins σ Q) X.xe s
def PS (X:Cx) (st:Stmt) (t:TS):Prop:=
 ∀(pins:List (Addr×Obj)) (s:B0) (σ:St) (H:Hp) (D:Ends),Inv X pins σ H s->t D σ H->W0 (N1 X.prog X.w) X.A (exec st X.env) (SP X pins D) X.xe s
def PSs (X:Cx) (st:List Stmt) (t:TS):Prop:=
 ∀(pins:List (Addr×Obj)) (s:B0) (σ:St) (H:Hp) (D:Ends),Inv X pins σ H s->t D σ H->W0 (N1 X.prog X.w) X.A (execs st X.env) (SP X pins D) X.xe s
theorem thn {α:Type} {t:Sem α} {Q Q':α->B0->Prop} {M:Model} {A:O2} {E:Value->B0->Prop} {s:B0} (h:W0 M A t Q E s) (hQ :∀a s,Q a s->Q' a s):W0 M A t Q' E s:=w4 h hQ λ _ _ x=>x
section
variable {X:Cx}
def tVar (i:Nat):TE:=λ σ H Q=>∃v,σ[i]? = some (some v)/\Q v H
def tC (v:V):TE:=λ _ H Q=>Q v H
theorem pe_var {i:Nat} {x:Str} {pos:Pos} (hN:X.N[i]? = some x) (hv:Vis X.env.scope x) (hd:(x == ("__debug__" : Str))=false:=by decide) (hcd:(x == ("__classdict__" : Str))=false:=by decide):PE X (.Name x pos) (tVar i):=by
 intro d s σ H Q I h;obtain ⟨v,e,h⟩:=h;obtain ⟨m,b,g⟩:=I.loc;obtain ⟨u,r,l⟩:=g i x v hN e hv;have fin:EP X d σ Q u s:=⟨v,H,I,r,h⟩
 rcases l with ⟨a,f⟩|⟨a,c,hc,hcell⟩
 ·exact wpAny_Name (wpAny_loadName_local I.ok.kind a b f fin) hd
 ·rcases a with a|a
  ·exact wpAny_Name (wpAny_loadName_cell I.ok.kind a hc hcell fin) hd
  ·exact wpAny_Name (wpAny_loadName_free I.ok.kind a hc hcell fin hcd) hd
theorem pe_int {i j pos}:PE X (.Constant (.int i) j pos) (tC (.int i)):=λ _ _ _ H _ I h=>wpAny_Constant_int ⟨.int i,H,I.tok _,⟨_,rfl⟩,h⟩
theorem pe_bl {b j pos}:PE X (.Constant (.bool b) j pos) (tC (.bl b)):=λ _ _ _ H _ I h=>Constant_bool ⟨.bl b,H,I,rfl,h⟩
theorem pe_non {j pos}:PE X (.Constant .none j pos) (tC .non):=λ _ _ _ H _ I h=>Constant_none ⟨.non,H,I,rfl,h⟩
theorem pe_str {x j pos}:PE X (.Constant (.str x) j pos) (tC (.str x)):=λ _ _ _ H _ I h=>Calls.Constant_str ⟨.str x,H,I.tok _,⟨_,rfl⟩,h⟩
def Gl (X:Cx) (x:Str):Prop:=X.env.kindOf x=some .globalImplicit
theorem zbd {E:Value->B0->Prop} {pins:List (Addr×Obj)} {s:B0} {σ:St} {H:Hp} {x:Str} {u:Value} {pos:Pos} {Q:Value->B0->Prop} (I:Inv X pins σ H s) (hg:Gl X x) (hm:X.mg x=some u) (h:Q u s)
  (hd:(x == ("__debug__" : Str))=false:=by decide):W0 (N1 X.prog X.w) X.A (R3 (.Name x pos) X.env) Q E s:=
 j1e I.ok.kind hg (Calls.loadGlobal_global (by rw [I.ok.glob];exact I.mod.glob.keeps I.bk) hm h) hd
theorem ld_blt {E:Value->B0->Prop} {pins:List (Addr×Obj)} {s:B0} {σ:St} {H:Hp} {x:Str} {u:Value} {pos:Pos} {Q:Value->B0->Prop} (I:Inv X pins σ H s) (hg:Gl X x) (hm:X.mg x=none) (hv:b5 x=some u) (h:Q u s)
  (hn:x≠"__name__":=by decide) (hd:(x == ("__debug__" : Str))=false:=by decide):W0 (N1 X.prog X.w) X.A (R3 (.Name x pos) X.env) Q E s:=by
 obtain ⟨c,b,a⟩:=I.mod.blt;exact j1e I.ok.kind hg (Calls.loadGlobal_builtin (by rw [I.ok.glob];exact I.mod.glob.keeps I.bk) hm (by rw [I.ok.blt];exact b.keeps I.bk) ((a x hn).trans hv) h) hd
theorem z1y {x:Str} {v:V} {u:Value} {pos:Pos} (hg:Gl X x) (hm:X.mg x=some u) (r:RelV v u) (hd:(x == ("__debug__" : Str))=false:=by decide):PE X (.Name x pos) (tC v):=
 λ _ _ _ H _ I h=>zbd I hg hm ⟨v,H,I,r,h⟩ hd
theorem z2k {x:Str} {v:V} {u:Value} {pos:Pos} (hg:Gl X x) (hm:X.mg x=none) (hv:b5 x=some u) (r:RelV v u) (hn:x≠"__name__":=by decide) (hd:(x == ("__debug__" : Str))=false:=by decide):PE X (.Name x pos) (tC v):=
 λ _ _ _ H _ I h=>ld_blt I hg hm hv ⟨v,H,I,r,h⟩ hn hd
variable {a b:Expr} {ta tb:TE} {pos:Pos}
def PC (X:Cx) (op:CmpOp) (a b:Expr) (t:TE):Prop:=
 ∀(pins:List (Addr×Obj)) (s:B0) (σ:St) (H:Hp) (Q:VK),Inv X pins σ H s->t σ H Q->
  W0 (N1 X.prog X.w) X.A (R3 a X.env) (λ v s₁=>W0 (N1 X.prog X.w) X.A (R3 b X.env) (λ u s₂=>W0 (N1 X.prog X.w) X.A (X2 op v u) (EP X pins σ Q) X.xe s₂) X.xe s₁) X.xe s
def tB (t:TE):TT:=λ σ H Q=>t σ H λ x H1=>∃c,x=.bl c/\Q c H1
theorem pt_cmp {op:CmpOp} {t:TE} (h:PC X op a b t) (h1:Q8 op b=false:=by first|exact nobehind _ (by decide) (by decide)|rfl):PT X (.Compare a [op] [b] pos) (tB t):=by intro f s σ H Q I e;refine wpAny_isTrue_Compare1 (thn (h f s σ H _ I e) λ v j h1=>thn h1 λ u i g=>thn g λ c k ⟨x,H1,I1,r1,q1⟩=>?_) h1;obtain ⟨d,rfl,q⟩:=q1;cases r1;exact J3 ⟨H1,I1,q⟩
theorem pt_val {e:Expr} {t:TE} (h:PE X e t) (he :∀whole,isTrue e X.env whole=(do let v <-whole;j37 e.pos;z9 [v] (truthy v)):=by intro _;rfl):PT X e (tB t):=by intro b s σ H Q I a;refine isTrue_plain (thn (h b s σ H _ I a) λ v c ⟨x,H1,I1,r1,q1⟩=>?_) (he _);obtain ⟨d,rfl,q⟩:=q1;cases r1;exact J3 ⟨H1,I1,q⟩
variable {tA tB':TT} {rest:List Expr}
def tAnd (t u:TT):TT:=λ σ H Q=>t σ H λ c H1=>if c=true then u σ H1 Q else Q false H1
def tOr (t u:TT):TT:=λ σ H Q=>t σ H λ c H1=>if c=true then Q true H1 else u σ H1 Q
def tNot (t:TT):TT:=λ σ H Q=>t σ H λ c H1=>Q (!c) H1
theorem z2w (ha:PT X a tA):PW X (.BoolOp .And [a] pos) tA:=by
 intro d b s σ H Q I h;refine isTrue_and (thn (ha b s σ H Q I h) λ c f e=>?_);cases c with
 | true=>exact isTrue_and_nil e
 | false=>exact e
theorem pw_or1 (ha:PT X a tA):PW X (.BoolOp .Or [a] pos) tA:=by
 intro d b s σ H Q I h;refine isTrue_or (thn (ha b s σ H Q I h) λ c f e=>?_);cases c with
 | false=>exact isTrue_or_nil e
 | true=>exact e
theorem pw_and (ha:PT X a tA) (hb:PW X (.BoolOp .And (b :: rest) pos) tB'):PW X (.BoolOp .And (a :: b :: rest) pos) (tAnd tA tB'):=by
 intro e d s σ H Q I h;refine isTrue_and (thn (ha d s σ H _ I h) λ c f ⟨H1,I1,q1⟩=>?_);cases c with
 | true=>exact hb e d f σ H1 Q I1 q1
 | false=>exact ⟨H1,I1,q1⟩
theorem pw_or (ha:PT X a tA) (hb:PW X (.BoolOp .Or (b :: rest) pos) tB'):PW X (.BoolOp .Or (a :: b :: rest) pos) (tOr tA tB'):=by
 intro e d s σ H Q I h;refine isTrue_or (thn (ha d s σ H _ I h) λ c f ⟨H1,I1,q1⟩=>?_);cases c with
 | true=>exact ⟨H1,I1,q1⟩
 | false=>exact hb e d f σ H1 Q I1 q1
theorem pt_not (ha:PT X a tA):PT X (.UnaryOp .Not a pos) (tNot tA):=by intro b s σ H Q I h;exact isTrue_not (ha b s σ H (λ c d=>Q (!c) d) I h)
def tAndV (ta tb:TE):TE:=λ σ H Q=>ta σ H λ x H1=>∃c,x=.bl c/\if c=true then tb σ H1 Q else Q (.bl false) H1
def tOrV (ta tb:TE):TE:=λ σ H Q=>ta σ H λ x H1=>∃c,x=.bl c/\if c=true then Q (.bl true) H1 else tb σ H1 Q
def tNotV (ta:TE):TE:=λ σ H Q=>ta σ H λ x H1=>∃c,x=.bl c/\Q (.bl (!c)) H1
theorem pe_one {op} {t:TE} (h:PE X a t):PE X (.BoolOp op [a] pos) t:=λ c s σ H Q I b=>BoolOp_one (h c s σ H Q I b)
theorem pe_and (ha:PE X a ta) (hb:PE X (.BoolOp .And (b :: rest) pos) tb):PE X (.BoolOp .And (a :: b :: rest) pos) (tAndV ta tb):=by
 intro e s σ H Q I h;refine BoolOp_and (thn (ha e s σ H _ I h) λ v f ⟨x,H1,I1,r1,d⟩=>?_);obtain ⟨c,rfl,d⟩:=d;cases r1;refine J3 ?_;cases c with
 | true=>exact hb e f σ H1 Q I1 d
 | false=>exact ⟨.bl false,H1,I1,rfl,d⟩
theorem pe_or (ha:PE X a ta) (hb:PE X (.BoolOp .Or (b :: rest) pos) tb):PE X (.BoolOp .Or (a :: b :: rest) pos) (tOrV ta tb):=by
 intro e s σ H Q I h;refine BoolOp_or (thn (ha e s σ H _ I h) λ v f ⟨x,H1,I1,r1,d⟩=>?_);obtain ⟨c,rfl,d⟩:=d;cases r1;refine J3 ?_;cases c with
 | false=>exact hb e f σ H1 Q I1 d
 | true=>exact ⟨.bl true,H1,I1,rfl,d⟩
theorem pe_not (ha:PE X a ta):PE X (.UnaryOp .Not a pos) (tNotV ta):=by intro d s σ H Q I h;refine UnaryOp_ (thn (ha d s σ H _ I h) λ v e ⟨x,H1,I1,r1,b⟩=>?_);obtain ⟨c,rfl,b⟩:=b;cases r1;exact not_of (J3 ⟨.bl (!c),H1,I1,rfl,b⟩)
def tIf (t:TT) (ta tb:TE):TE:=λ σ H Q=>t σ H λ c H1=>if c=true then ta σ H1 Q else tb σ H1 Q
theorem zjf {c:Expr} (hc:PT X c tA) (ha:PE X a ta) (hb:PE X b tb):PE X (.IfExp c a b pos) (tIf tA ta tb):=by
 intro e s σ H Q I h;refine wpAny_IfExp (thn (hc e s σ H _ I h) λ d f ⟨H1,I1,q1⟩=>?_);cases d with
 | true=>exact ha e f σ H1 Q I1 q1
 | false=>exact hb e f σ H1 Q I1 q1
end
def SqL (K:j0) (H:Hp) (a:Addr) (xs:List V):Prop:=
 Rd H a (.lst xs)\/
  ∃(o:Obj) (its:Array Value) (n:Nat),K.lookup a=some o/\o.cls=.type "list"/\o.dict=none/\o.data=.seq its n/\its.size<=sizeLine/\Vals xs its.toList
def SqT (K:j0) (H:Hp) (a:Addr) (xs:List V):Prop:=
 Rd H a (.tup xs)\/
  ∃(o:Obj) (its:Array Value) (n:Nat),K.lookup a=some o/\o.cls=.type "tuple"/\o.data=.seq its n/\its.size<=sizeLine/\Vals xs its.toList
def absV:Value->Option V
 | .none=>some .non
 | .bool b=>some (.bl b)
 | .int i _=>some (.int i)
 | .str x _=>some (.str x)
 | .bytes b _=>some (.byt b)
 | .float b _=>some (.flt b)
 | .ref a=>some (.ref a)
 | .type n=>some (.ty n)
 | _=>none
theorem RelV.abs {x:V} {u:Value} (r:RelV x u):absV u=some x:=by
 cases x with
 | non=>cases r;rfl
 | bl _=>cases r;rfl
 | int _=>obtain ⟨t,rfl⟩:=r;rfl
 | str _=>obtain ⟨t,rfl⟩:=r;rfl
 | byt _=>obtain ⟨t,rfl⟩:=r;rfl
 | flt _=>obtain ⟨t,rfl⟩:=r;rfl
 | ref _=>cases r;rfl
 | ty _=>cases r;rfl
theorem RelV.inj {x y:V} {u:Value} (r:RelV x u) (q:RelV y u):x=y:=X1 (r.abs.symm.trans q.abs)
theorem Vals.inj :∀{xs ys:List V} {us:List Value},Vals xs us->Vals ys us->xs=ys
 | _,_,_,.nil,.nil=>rfl
 | _,_,_,.cons r t,.cons r' t'=>by rw [r.inj r',Vals.inj t t']
section
variable {X:Cx} {pins:List (Addr×Obj)} {σ:St} {H:Hp} {s:B0} {a:Addr} {xs ys:List V}
theorem SqL.of {K:j0} (h:H a=some (.lst xs)):SqL K H a xs:=.inl (.inl h)
theorem SqT.of {K:j0} (h:H a=some (.tup xs)):SqT K H a xs:=.inl (.inl h)
theorem Inv.list (I:Inv X pins σ H s) (h:SqL X.K H a xs) :∃its:List Value,Vals xs its/\PlainL s.heap a its.toArray/\xs.length<=sizeLine:=by
 rcases h with h|⟨o,its,n,hk,hc,hd,hs,hz,r⟩
 ·obtain ⟨z,its,n,r,e⟩:=h.ok I.hok;exact ⟨its,r,⟨_,n,e,rfl,rfl,rfl⟩,z⟩
 ·refine ⟨its.toList,r,⟨o,n,I.kIn a o hk,hc,hd,by simpa using hs⟩,?_⟩;have e:=r.length;simp only [N2] at e;omega
theorem Inv.tuple (I:Inv X pins σ H s) (h:SqT X.K H a xs) :∃its:List Value,Vals xs its/\IsTup s.heap a its.toArray/\xs.length<=sizeLine:=by
 rcases h with h|⟨o,its,n,hk,hc,hs,hz,r⟩
 ·obtain ⟨z,its,r,p⟩:=h.ok I.hok;exact ⟨its,r,p.1,z⟩
 ·refine ⟨its.toList,r,⟨o,I.kIn a o hk,hc,n,by simpa using hs⟩,?_⟩;have e:=r.length;simp only [N2] at e;omega
theorem Inv.list_inj (I:Inv X pins σ H s) (h:SqL X.K H a xs) (h':SqL X.K H a ys):xs=ys:=by
 obtain ⟨f,r,⟨o,n,e,_,_,d⟩,_⟩:=I.list h;obtain ⟨g,i,⟨k,j,c,_,_,b⟩,_⟩:=I.list h';rw [e] at c;cases c;rw [d] at b;injection b with d1 _;have:f=g:=by simpa using congrArg Array.toList d1
 subst this;exact r.inj i
theorem Inv.tuple_inj (I:Inv X pins σ H s) (h:SqT X.K H a xs) (h':SqT X.K H a ys):xs=ys:=by
 obtain ⟨f,r,⟨o,e,_,n,d⟩,_⟩:=I.tuple h;obtain ⟨g,i,⟨k,c,_,j,b⟩,_⟩:=I.tuple h';rw [e] at c;cases c;rw [d] at b;injection b with d1 _;have:f=g:=by simpa using congrArg Array.toList d1
 subst this;exact r.inj i
end
abbrev Cx.wish (X:Cx) (E:Value->B0->Prop):Cx:={ X with xe:=E }
abbrev Cx.nox (X:Cx):Cx:=X.wish λ _ _=>False
theorem Cx.Ok.wish {X:Cx} (ok:X.Ok) (E:Value->B0->Prop):(X.wish E).Ok:=
 ⟨ok.mod,ok.kind,ok.glob,ok.blt,ok.above,ok.inj,ok.has,ok.cab,ok.hd,ok.frames,ok.stk,ok.exf,ok.bs,ok.bsz,ok.noex,ok.exfs,ok.funs,ok.frf⟩
theorem Cx.Ok.unwish {X:Cx} {E:Value->B0->Prop} (ok:(X.wish E).Ok):X.Ok:=
 ⟨ok.mod,ok.kind,ok.glob,ok.blt,ok.above,ok.inj,ok.has,ok.cab,ok.hd,ok.frames,ok.stk,ok.exf,ok.bs,ok.bsz,ok.noex,ok.exfs,ok.funs,ok.frf⟩
section
variable {X:Cx} {pins:List (Addr×Obj)} {σ:St} {H:Hp} {s:B0} {E:Value->B0->Prop}
theorem Inv.wish (I:Inv X pins σ H s) (E:Value->B0->Prop):Inv (X.wish E) pins σ H s:=⟨I.ok.wish E,I.os,I.bare,I.base,I.loc,I.cell,I.free,I.freeC,I.pin,I.hok,I.len⟩
theorem Inv.unwish (I:Inv (X.wish E) pins σ H s):Inv X pins σ H s:=⟨I.ok.unwish,I.os,I.bare,I.base,I.loc,I.cell,I.free,I.freeC,I.pin,I.hok,I.len⟩
theorem SP.unwish {D:Ends} {f:Flow} {s':B0} (h:SP (X.wish E) pins D f s'):SP X pins D f s':=by
 cases f with
 | next=>obtain ⟨a,b,I,q⟩:=h;exact ⟨a,b,I.unwish,q⟩
 | brk=>obtain ⟨a,b,I,q⟩:=h;exact ⟨a,b,I.unwish,q⟩
 | cont=>obtain ⟨a,b,I,q⟩:=h;exact ⟨a,b,I.unwish,q⟩
 | ret u=>obtain ⟨v,a,b,I,r,q⟩:=h;exact ⟨v,a,b,I.unwish,r,q⟩
theorem PSs.nox {st:List Stmt} {t:TS} (h:PSs X.nox st t):PSs X st t:=λ b s σ H D I a=>w4 (h b s σ H D (I.wish _) a) (λ _ _ q=>q.unwish) λ _ _ z=>E4 z
end
section
variable {X:Cx} {st:Stmt} {rest:List Stmt} {t u:TS} {e:Expr} {te:TE} {pos:Pos}
def tNext:TS:=λ D σ H=>D.nx σ H
def tSeq (t u:TS):TS:=λ D σ H=>t { D with nx:=u D } σ H
theorem z0e:PSs X [] tNext:=λ _ _ σ H _ I h=>j30 ⟨σ,H,I,h⟩
theorem z02 (h1:PS X st t) (h2:PSs X rest u):PSs X (st :: rest) (tSeq t u):=by
 intro a s σ H D I h;refine wpAny_execs_cons (thn (h1 a s σ H { D with nx:=u D } I h) λ f e q=>?_);cases f with
 | next=>obtain ⟨b,d,c,q⟩:=q;exact h2 a e b d D c q
 | ret v=>exact q
 | brk=>exact q
 | cont=>exact q
theorem z05 (h1:PS X st t):PSs X [st] t:=by
 intro a s σ H D I h;refine wpAny_execs_cons (thn (h1 a s σ H D I h) λ f b q=>?_);cases f with
 | next=>exact j30 q
 | ret v=>exact q
 | brk=>exact q
 | cont=>exact q
theorem Inv.quiet {pins:List (Addr×Obj)} {σ:St} {H:Hp} {s:B0} (I:Inv X pins σ H s):interactive X.env=false:=by simp [interactive,I.ok.kind]
def tDrop (te:TE):TS:=λ D σ H=>te σ H λ _ H1=>D.nx σ H1
theorem z0h (he:PE X e te) (hs:a9 e none pos.line X.env=X3 false:=by rfl):PS X (.Expr e pos) (tDrop te):=by intro a s σ H D I h;exact wpAny_Expr_any (thn (he a s σ H _ I h) λ v b ⟨x,H1,I1,r1,q1⟩=>⟨σ,H1,I1,q1⟩) I.quiet hs
def tRet (te:TE):TS:=λ D σ H=>te σ H D.rt
theorem ps_ret (he:PE X e te):PS X (.Return (some e) pos) (tRet te):=by intro a s σ H D I h;exact wpAny_Return_some (thn (he a s σ H _ I h) λ v b ⟨x,H1,I1,r1,q1⟩=>⟨x,σ,H1,I1,r1,q1⟩)
def tRetN:TS:=λ D _ H=>D.rt .non H
theorem z7c:PS X (.Return none pos) tRetN:=λ _ _ σ H _ I h=>wpAny_Return_none ⟨.non,σ,H,I,rfl,h⟩
def tIfS (c:TT) (t u:TS):TS:=λ D σ H=>c σ H λ b H1=>if b=true then t D σ H1 else u D σ H1
theorem ps_if {c:Expr} {a b:List Stmt} {tc:TT} (hc:PT X c tc) (ha:PSs X a t) (hb:PSs X b u):PS X (.If c a b pos) (tIfS tc t u):=by
 intro e s σ H D I h;refine wpAny_If (thn (hc e s σ H _ I h) λ d f ⟨H1,I1,q1⟩=>?_);cases d with
 | true=>exact ha e f σ H1 D I1 q1
 | false=>exact hb e f σ H1 D I1 q1
def tNever:TS:=λ _ _ _=>False
theorem z4h:PS X st tNever:=λ _ _ _ _ _ _ h=>h.elim
end
abbrev TG:=V->St->Hp->(St->Hp->Prop)->Prop
abbrev TGs:=List V->St->Hp->(St->Hp->Prop)->Prop
def PG (X:Cx) (target:Expr) (t:TG):Prop:=
 ∀(pins:List (Addr×Obj)) (s:B0) (σ:St) (H:Hp) (v:V) (u:Value) (Q:St->Hp->Prop),Inv X pins σ H s->RelV v u->t v σ H Q->
  W0 (N1 X.prog X.w) X.A (assign target X.env u) (λ _ s'=>∃σ' H',Inv X pins σ' H' s'/\Q σ' H') X.xe s
def PGs (X:Cx) (ts:List Expr) (t:TGs):Prop:=
 ∀(pins:List (Addr×Obj)) (s:B0) (σ:St) (H:Hp) (vs:List V) (us:List Value) (Q:St->Hp->Prop),Inv X pins σ H s->Vals vs us->t vs σ H Q->
  W0 (N1 X.prog X.w) X.A (assignInOrder ((E7 ts X.env).map (·.2)) us) (λ _ s'=>∃σ' H',Inv X pins σ' H' s'/\Q σ' H') X.xe s
abbrev TSet:=V->V->V->Hp->(Hp->Prop)->Prop
def PSet (X:Cx) (t:TSet):Prop:=
 ∀(pins:List (Addr×Obj)) (s:B0) (σ:St) (H:Hp) (o i v:V) (ov iv u:Value) (Q:Hp->Prop),Inv X pins σ H s->RelV o ov->RelV i iv->RelV v u->t o i v H Q->
  W0 (N1 X.prog X.w) X.A (setItem ov iv u) (λ _ s'=>∃H',Inv X pins σ H' s'/\Q H') X.xe s
section
variable {X:Cx} {pos:Pos}
def gName (i:Nat):TG:=λ v σ H Q=>Q (σ.set i (some v)) H
theorem z0f {i:Nat} {x:Str} (hN:X.N.Nodup) (hi:X.N[i]? = some x) (hx:Loc X.env.scope x) (hf:X.fn x=true\/X.env.scope.names.lookup x=some .local:=by first|exact .inl rfl|exact .inr rfl|assumption):PG X (.Name x pos) (gName i):=by intro b s σ H v u Q I r h;exact wpAny_assign_Name (zeo I hN hi hx r (λ c a=>⟨_,H,a,h⟩) hf)
def gNil:TGs:=λ vs σ H Q=>vs=[]/\Q σ H
def gCons (t:TG) (u:TGs):TGs:=λ vs σ H Q=>∃v r,vs=v :: r/\t v σ H λ σ' H'=>u r σ' H' Q
theorem z42:PGs X [] gNil:=by intro b s σ H a c Q I r h;obtain ⟨e,h⟩:=h;subst e;cases r;exact assignInOrder_nil ⟨σ,H,I,h⟩
theorem z0g {e:Expr} {es:List Expr} {t:TG} {u:TGs} (h1:PG X e t) (h2:PGs X es u)
  (hs:(E7 (e :: es) X.env).map (·.2)=assign e X.env :: (E7 es X.env).map (·.2):=by rfl):PGs X (e :: es) (gCons t u):=by
 intro a s σ H d g Q I r h;obtain ⟨v,f,c,h⟩:=h;subst c;cases r with
 | cons r rr=>rw [hs];refine assignInOrder_cons (thn (h1 a s σ H _ _ _ I r h) λ _ b ⟨σ1,H1,I1,q1⟩=>?_);exact h2 a b σ1 H1 _ _ Q I1 rr q1
def gTup (K:j0) (n:Nat) (t:TGs):TG:=λ v σ H Q=>∃a xs,v=.ref a/\SqT K H a xs/\xs.length=n/\t xs σ H Q
theorem pg_tup {es:List Expr} {k:Nat} {t:TGs} {n:Nat} (hc:X.calm=true) (h:PGs X es t)
  (hn:(E7 es X.env).length=n:=by rfl) (hst:(E7 es X.env).findIdx? (·.1)=none:=by rfl):PG X (.Tuple es k pos) (gTup X.K n t):=by
 intro f s σ H v u Q I r c;obtain ⟨a,j,w,g,i,c⟩:=c;subst w;cases r;obtain ⟨x,d,q,y⟩:=I.tuple g;refine assign_Tuple_tuple (I.ok.hd hc) q (by simp [hn,<-i,d.length]) hst λ p l=>?_;have m:Inv X f σ H { s with heap:=p }:=I.kept (t':=s.toks) λ b o e=>l b o (B1 (S0 e)) e;exact h f _ σ H j _ Q m (by simpa using d) c
def gSub (to ti:TE) (t:TSet):TG:=λ v σ H Q=>to σ H λ o H1=>ti σ H1 λ i H2=>t o i v H2 λ H3=>Q σ H3
theorem pg_sub {o i:Expr} {to ti:TE} {t:TSet} (ho:PE X o to) (hi:PE X i ti) (hs:PSet X t)
  (ha :∀v,assign (.Subscript o i pos) X.env v=(do
   let ov <-z9 [v] (R3 o X.env)
   let iv <-z9 [v,ov] (R3 i X.env)
   j37 pos
   z9 [v,ov,iv] (setItem ov iv v)
   release [v,ov,iv] []):=by intro _;rfl):PG X (.Subscript o i pos) (gSub to ti t):=by
 intro a s σ H v u Q I r h;rw [ha];refine o0 (Z1 (thn (ho a s σ H _ I h) λ ov c ⟨x,H1,I1,r1,q1⟩=>?_));refine o0 (Z1 (thn (hi a c σ H1 _ I1 q1) λ iv b ⟨y,H2,I2,r2,q2⟩=>?_));refine o0 (j0d (o0 (Z1 (thn (hs a b σ H2 x y v ov iv u _ I2 r1 r2 r q2) λ _ d ⟨H3,I3,q3⟩=>?_))));exact wpAny_release ⟨σ,H3,I3,q3⟩
def tAsg (te:TE) (g:TG):TS:=λ D σ H=>te σ H λ x H1=>g x σ H1 D.nx
theorem ps_asg {tg e:Expr} {te:TE} {g:TG} (he:PE X e te) (hg:PG X tg g) (hs:swapsWithSole [tg] e pos.line X.env=X3 false:=by rfl) (hw:swappedStores [tg] e X.env=X3 none:=by rfl)
  (h1:(E7 [tg] X.env).map (·.2)=[assign tg X.env]:=by rfl):PS X (.Assign [tg] e pos) (tAsg te g):=by
 intro a s σ H D I h;refine wpAny_Assign_stores (thn (he a s σ H _ I h) λ v b ⟨x,H1,I1,r1,q1⟩=>?_) hs hw;rw [h1];exact thn (hg a b σ H1 x v _ I1 r1 q1) λ _ c q=>q
theorem ps_set {i:Nat} {x:Str} {e:Expr} {te:TE} {pos':Pos} (hN:X.N.Nodup) (hi:X.N[i]? = some x) (hx:Loc X.env.scope x) (he:PE X e te) (hs:a9 e (some (.Name x pos')) pos.line X.env=X3 false:=by rfl) (hf:X.fn x=true\/X.env.scope.names.lookup x=some .local:=by first|exact .inl rfl|exact .inr rfl|assumption) :
  PS X (.Assign [.Name x pos'] e pos) (tAsg te (gName i)):=by
 intro a s σ H D I h;refine wpAny_Assign_Name (thn (he a s σ H _ I h) λ v d ⟨y,H1,I1,r1,q1⟩=>?_) hs;exact zeo I1 hN hi hx r1 (λ c b=>⟨_,H1,b,q1⟩) hf
end
structure It where
 go:Nat->Hp->Prop
 yld:Nat->Hp->V->Hp->Prop
 stop:Nat->Hp->Prop
def FpOk (X:Cx) (pins:List (Addr×Obj)) (H:Hp) (b:Addr):Prop:=
 H b=none/\b≠X.env.locals/\b∉X.fs/\(b∈X.ex\/X.s₀.heap.objs.size<=b)/\(∀x c,X.env.cells.lookup x=some c->c≠b)/\∀p∈X.pn++pins,p.1≠b
theorem Inv.fpOk {X:Cx} {pins:List (Addr×Obj)} {σ:St} {H H':Hp} {s:B0} {b:Addr} (I:Inv X pins σ H s) (hb:s.heap.objs.size<=b) (hn:H' b=none):FpOk X pins H' b:=by
 refine ⟨hn,Y3 (Y1 I.lt hb),I.nofs hb,.inr (O0 I.sz hb),λ x c e z=>?_,λ p a z=>?_⟩
 ·obtain ⟨v,q⟩:=I.cell x c e;exact absurd (Y1 q.lt (by rw [z];exact hb)) (z4 _)
 ·exact absurd (Y1 (S0 (I.pin p a).1) (by rw [z];exact hb)) (z4 _)
structure Turn (P:Program) (w:C1) (K:j0) (tg:Expr) (J:It) (fp:List Addr) (it:Addr) (tn:Nat->Heap->Prop):Prop where
 mem:it∈fp
 obj :∀i h,tn i h->∀b∈fp,∃o,h.get? b=some o/\∀v,o.data≠.cell v
 keep :∀i h h',tn i h->(∀b∈fp,∀o,h.get? b=some o->h'.get? b=some o)->tn i h'
 item :∀(X:Cx),X.prog=P->X.w=w->X.K=K->X.calm=true->∀(i:Nat) (pins:List (Addr×Obj)) (s:B0) (σ:St) (H:Hp) (E:Value->B0->Prop),Inv X pins σ H s->(∀b∈fp,FpOk X pins H b)->tn i s.heap->J.go i H->
  W0 (N1 P w) X.A (D7 (.ref it)) (λ r s1=>∃u,r=some u/\
   W0 (N1 P w) X.A (E9 tg (.ref it) u) (λ _ s2=>∃x H',Inv X pins σ H' s2/\RelV x u/\J.yld i H x H'/\tn (i + 1) s2.heap/\∀b∈fp,H' b=none) E s1) E s
 done :∀(X:Cx),X.prog=P->X.w=w->X.K=K->X.calm=true->∀(i:Nat) (pins:List (Addr×Obj)) (s:B0) (σ:St) (H:Hp) (E:Value->B0->Prop),Inv X pins σ H s->(∀b∈fp,FpOk X pins H b)->tn i s.heap->J.stop i H->
  W0 (N1 P w) X.A (D7 (.ref it)) (λ r s1=>r=none/\Inv X pins σ H s1) E s
 self :∀(A:O2) (i:Nat) (s:B0) (Q:Value->B0->Prop) (E:Value->B0->Prop),tn i s.heap->Q (.ref it) s->W0 (N1 P w) A (pyIter (.ref it)) Q E s
abbrev TI:=St->Hp->(It->Hp->Prop)->Prop
def PIE (X:Cx) (pins:List (Addr×Obj)) (σ:St) (tg:Expr) (R:It->Hp->Prop) (itv:Value) (s2:B0):Prop:=
 ∃(it:Addr) (fp:List Addr) (tn:Nat->Heap->Prop) (J:It) (H':Hp),itv=.ref it/\Inv X pins σ H' s2/\Turn X.prog X.w X.K tg J fp it tn/\tn 0 s2.heap/\(∀b∈fp,FpOk X pins H' b)/\R J H'
def PI (X:Cx) (tg iter:Expr) (wi:TI):Prop:=
 ∀(pins:List (Addr×Obj)) (s:B0) (σ:St) (H:Hp) (R:It->Hp->Prop),Inv X pins σ H s->wi σ H R->
  W0 (N1 X.prog X.w) X.A (R3 iter X.env) (λ v s1=>W0 (N1 X.prog X.w) X.A (pyIter v) (PIE X pins σ tg R) X.xe s1) X.xe s
theorem go_of {M:Model} {A:O2} {E:Value->B0->Prop} {s:B0} {tg:Expr} {it:Addr} {u:Value} {o:Obj} {n:String} {vs:Array Value} {Q:Unit->B0->Prop} (ho:s.heap.get? it=some o) (hc:o.cls=.type n) (hd:o.data=.fields vs)
    (hn:["enumerate","zip","dict_itemiterator","dict_reverseitemiterator","odict_iterator","itertools.zip_longest","itertools.pairwise"].contains n=false) (hQ:Q () s):W0 M A (E9 tg (.ref it) u) Q E s:=by
  unfold E9;cases tg<;>first
    | exact G0 hQ
    | (cases u<;>first
        | exact G0 hQ
        | (refine o0 (wpAny_load ho ?_)
           rw [hc,hd];show W0 M A (if (["enumerate","zip","dict_itemiterator","dict_reverseitemiterator","odict_iterator","itertools.zip_longest","itertools.pairwise"].contains n && vs[0]? == some (rawInt _))=true then _ else _) Q E s;rw [if_neg (by intro h;rw [hn,P6] at h;cases h)];exact G0 hQ))
def Itl (K:j0) (a:Addr):It:=
 ⟨λ i H=>∃xs x,SqL K H a xs/\xs[i]? = some x,λ i H x H'=>H'=H/\∀xs,SqL K H a xs->xs[i]? = some x,λ i H=>∃xs,SqL K H a xs/\xs.length<=i⟩
def Itt (K:j0) (a:Addr):It:=
 ⟨λ i H=>∃xs x,SqT K H a xs/\xs[i]? = some x,λ i H x H'=>H'=H/\∀xs,SqT K H a xs->xs[i]? = some x,λ i H=>∃xs,SqT K H a xs/\xs.length<=i⟩
def Itr (lo:Int) (n:Nat):It:=⟨λ i _=>i < n,λ i H x H'=>H'=H/\x=.int (lo + i),λ i _=>n<=i⟩
theorem zgl {P:Program} {w:C1} {K:j0} {tg:Expr} (a it:Addr):Turn P w K tg (Itl K a) [it] it (λ i h=>h.IsListIter it a i) where
 mem:=by simp
 obj:=λ i h f b g=>by
  have e:b=it:=by simpa using g
  subst e;obtain ⟨o,e,c,d⟩:=f;exact ⟨o,e,λ v z=>by rw [d] at z;cases z⟩
 keep:=λ i h l f k=>f.at λ o e=>k it (by simp) o e
 item:=by intro X y F q J i M s σ H E I m f r;subst y F q;obtain ⟨V,x,j,D⟩:=r;obtain ⟨N,n,p,R⟩:=I.list j;obtain ⟨u,U,Y⟩:=n.get D;obtain ⟨C,G,Q,B,t,A⟩:=m it (by simp);refine u4 f p.isList (x:=u) (by simpa using U) λ l L O=>?_;have W:Inv X M σ H { s with heap:=l }:=I.turned (t':=s.toks) (λ b o g e=>(O.2 b g).trans e) C G B t A;obtain ⟨o,e,c,d⟩:=id L;exact ⟨u,rfl,go_of (s:={ s with heap:=l }) e c d (by decide) ⟨x,H,W,Y,⟨rfl,λ Z S=>by rw [I.list_inj S j];exact D⟩,L,λ b g=>(m b g).1⟩⟩
 done:=by intro X y F q J i M s σ H E I m f r;subst y F q;obtain ⟨V,j,D⟩:=r;obtain ⟨N,n,p,R⟩:=I.list j;obtain ⟨C,G,Q,B,t,A⟩:=m it (by simp);have hl:=n.length;exact V4 (I.ok.hd J) f p.isList (by simp;omega) λ l T=>⟨rfl,I.turned (t':=s.toks) (λ b o g e=>T b o g e) C G B t A⟩
 self:=λ _ _ _ _ _ f h=>wpAny_pyIter_listiter f h
theorem zf9 {P:Program} {w:C1} {K:j0} {tg:Expr} (a it:Addr):Turn P w K tg (Itt K a) [it] it (λ i h=>h.IsTupleIter it a i) where
 mem:=by simp
 obj:=λ i h f b g=>by
  have e:b=it:=by simpa using g
  subst e;obtain ⟨o,e,c,d⟩:=f;exact ⟨o,e,λ v z=>by rw [d] at z;cases z⟩
 keep:=λ i h l f k=>f.at λ o e=>k it (by simp) o e
 item:=by intro X A G r L i N s σ H E I m f t;subst A G r;obtain ⟨V,x,j,F⟩:=t;obtain ⟨n,q,p,R⟩:=I.tuple j;obtain ⟨u,U,Y⟩:=q.get F;obtain ⟨D,J,Q,C,y,B⟩:=m it (by simp);refine wpAny_pyNext_tuple_item f (show s.heap.IsTuple a n.toArray from p) (x:=u) (by simpa using U) λ l M O=>?_;have W:Inv X N σ H { s with heap:=l }:=I.turned (t':=s.toks) (λ b o g e=>(O.2 b g).trans e) D J C y B;obtain ⟨o,e,c,d⟩:=id M;exact ⟨u,rfl,go_of (s:={ s with heap:=l }) e c d (by decide) ⟨x,H,W,Y,⟨rfl,λ Z S=>by rw [I.tuple_inj S j];exact F⟩,M,λ b g=>(m b g).1⟩⟩
 done:=by intro X A G r L i N s σ H E I m f t;subst A G r;obtain ⟨V,j,F⟩:=t;obtain ⟨n,q,p,R⟩:=I.tuple j;obtain ⟨D,J,Q,C,y,B⟩:=m it (by simp);have hl:=q.length;exact wpAny_pyNext_tuple_end (I.ok.hd L) f (show s.heap.IsTuple a n.toArray from p) (by simp;omega) λ l T=>⟨rfl,I.turned (t':=s.toks) (λ b o g e=>T b o g e) D J C y B⟩
 self:=λ _ _ _ _ _ f h=>wpAny_pyIter_tupleiter f h
theorem zdj {P:Program} {w:C1} {K:j0} {tg:Expr} (it:Addr) (lo:Int) (n:Nat):Turn P w K tg (Itr lo n) [it] it (λ i h=>IsRangeIter h it (lo + (i:Nat) * 1) ((n:Int) - (i:Nat)) 1) where
 mem:=by simp
 obj:=λ i h a b c=>by
  have e:b=it:=by simpa using c
  subst e;exact ⟨_,a,λ v z=>by have F:Data.fields _=Data.cell v:=z;cases F⟩
 keep:=λ i h d a k=>k it (by simp) _ a
 item:=by intro X p x g j i C s σ H E I f a l;subst p x g;obtain ⟨u,y,G,r,m,q⟩:=f it (by simp);have W:=Walks.range (prog:=X.prog) (w:=X.w) (I.ok.hd j) it lo 1 n;refine W.item i s _ _ l a λ v d A D B L=>?_;obtain ⟨t,rfl⟩:=D;have M:Inv X C σ H { s with heap:=d,toks:=A }:=I.turned (λ b o c e=>L b o (by simpa using c) e) u y r m q;refine ⟨_,rfl,go_of (s:={ s with heap:=d,toks:=A }) (n:="range_iterator") B rfl rfl (by decide) ⟨.int (lo + i),H,M,⟨t,?_⟩,⟨rfl,rfl⟩,B,λ b c=>(f b c).1⟩⟩;rw [Int.mul_one]
 done:=by intro X p x g j i C s σ H E I f a l;subst p x g;obtain ⟨u,y,G,r,m,q⟩:=f it (by simp);exact wpAny_pyNext_range_end (I.ok.hd j) a (by have:n<=i:=l;omega) λ d J=>⟨rfl,I.turned (t':=s.toks) (λ b o c e=>J b o c e) u y r m q⟩
 self:=λ _ _ _ _ _ a h=>wpAny_pyIter_rangeiter a h
section
variable {X:Cx} {tg:Expr}
def iList (K:j0) (tl:TE):TI:=λ σ H R=>tl σ H λ x H1=>∃a,x=.ref a/\(∃xs,SqL K H1 a xs)/\R (Itl K a) H1
def iTup (K:j0) (tl:TE):TI:=λ σ H R=>tl σ H λ x H1=>∃a,x=.ref a/\(∃xs,SqT K H1 a xs)/\R (Itt K a) H1
theorem z17 {l:Expr} {tl:TE} (hl:PE X l tl):PI X tg l (iList X.K tl):=by
 intro g s σ H R I h;refine thn (hl g s σ H _ I h) λ v c ⟨x,H1,I1,r1,q1⟩=>?_;obtain ⟨a,e,⟨m,f⟩,q⟩:=q1;subst e;cases r1;obtain ⟨i,j,p,k⟩:=I1.list f;refine Z4 p.isList ?_;refine ⟨c.heap.objs.size,[c.heap.objs.size],_,_,H1,rfl,I1.kept (t':=c.toks) λ b o e=>I0 _ e,zgl a _,⟨_,D1 _ rfl,rfl,rfl⟩,λ b d=>?_,q⟩;have e:b=c.heap.objs.size:=by simpa using d
 subst e;exact I1.fpOk (J0 _) (I1.hok.fresh (J0 _))
theorem pi_tup {l:Expr} {tl:TE} (hl:PE X l tl):PI X tg l (iTup X.K tl):=by
 intro i s σ H R I h;refine thn (hl i s σ H _ I h) λ v c ⟨x,H1,I1,r1,q1⟩=>?_;obtain ⟨a,e,⟨m,g⟩,q⟩:=q1;subst e;cases r1;obtain ⟨d,j,p,k⟩:=I1.tuple g;refine wpAny_pyIter_tuple (show c.heap.IsTuple a d.toArray from p) ?_;refine ⟨c.heap.objs.size,[c.heap.objs.size],_,_,H1,rfl,I1.kept (t':=c.toks) λ b o e=>I0 _ e,zf9 a _,⟨_,D1 _ rfl,rfl,rfl⟩,λ b f=>?_,q⟩;have e:b=c.heap.objs.size:=by simpa using f
 subst e;exact I1.fpOk (J0 _) (I1.hok.fresh (J0 _))
theorem zj1 {pins:List (Addr×Obj)} {σ:St} {H:Hp} {s:B0} {R:It->Hp->Prop} {E:Value->B0->Prop} {lo hi:Int} {t u v:Tok} {tk:Nat} (I:Inv X pins σ H s) (h1:-(2 ^ 62)<=lo) (h2:lo < 2 ^ 62) (h3:-(2 ^ 62)<=hi) (h4:hi < 2 ^ 62)
  (q:R (Itr lo (hi - lo).toNat) H):W0 (N1 X.prog X.w) X.A (pyIter (.ref s.heap.objs.size)) (PIE X pins σ tg R) E { s with heap:=s.heap.push { cls:=.type "range",data:=.fields #[.int lo t,.int hi u,.int 1 v] },toks:=tk }:=by
 refine wpAny_pyIter_range (IsRange.new ..) (small_one h1 h2 h3 h4) ?_;have a:Inv X pins σ H { s with heap:=s.heap.push { cls:=.type "range",data:=.fields #[.int lo t,.int hi u,.int 1 v] },toks:=tk }:=I.kept λ b o e=>I0 _ e;refine ⟨(s.heap.push { cls:=.type "range",data:=.fields #[.int lo t,.int hi u,.int 1 v] }).objs.size,[(s.heap.push { cls:=.type "range",data:=.fields #[.int lo t,.int hi u,.int 1 v] }).objs.size],_,_,H,rfl,
  a.kept (t':=tk) λ b o e=>I0 _ e,zdj _ lo (hi - lo).toNat,?_,λ b c=>?_,q⟩
 ·have d:lo + ((0:Nat):Int) * 1=lo:=by simp
  have f:(((hi - lo).toNat:Nat):Int) - ((0:Nat):Int)=Builtin.Range.rangeSize lo hi 1:=by rw [rangeSize_one];split<;>omega
  show IsRangeIter _ _ (lo + ((0:Nat):Int) * 1) ((((hi - lo).toNat:Nat):Int) - ((0:Nat):Int)) 1;rw [d,f];exact D1 _ rfl
 ·have e:b=(s.heap.push { cls:=.type "range",data:=.fields #[.int lo t,.int hi u,.int 1 v] }).objs.size:=by simpa using c
  subst e;exact a.fpOk (J0 _) (a.hok.fresh (J0 _))
def iRng1 (ta:TA):TI:=λ σ H R=>ta σ H λ vs H1=>∃j:Int,vs=[.int j]/\-(2 ^ 62)<=j/\j < 2 ^ 62/\R (Itr 0 j.toNat) H1
theorem z15 {a:Expr} {ta:TA} {p pos:Pos} (hg:Gl X "range") (hm:X.mg "range" = none) (ha:PA X [a] ta) (hs:L1 [a] X.env=[(false,R3 a X.env)]:=by rfl):PI X tg (.Call (.Name "range" p) [a] [] pos) (iRng1 ta):=by
 intro c s σ H R I h;refine Call_ (ld_blt I hg hm boot_range (B4 (thn (ha pos c s σ H _ I h) λ g f ⟨vs,H1,I1,r1,b⟩=>?_) hs rfl));obtain ⟨j,e,b,d,q⟩:=b;subst e;cases r1 with
 | cons r rr=>cases rr;obtain ⟨t,rfl⟩:=r;exact call_range_1 (zj1 I1 (by omega) (by omega) b d (by simpa using q))
def tFor (wi:TI) (g:TG) (tb:TS):TS:=λ D σ H=>wi σ H λ J H1=>∃W:Nat->Nat->St->Hp->Prop,(∃m,W 0 m σ H1)/\∀i m σ H,W i m σ H->
 (J.stop i H/\D.nx σ H)\/(J.go i H/\∃N:St->Hp->Prop,(∀σ' H',N σ' H'->∃m',m' < m/\W (i + 1) m' σ' H')/\∀x H',J.yld i H x H'->g x σ H' λ σ2 H2=>tb { D with nx:=N,ct:=N,bk:=D.nx } σ2 H2)
def pinsAt (fp:List Addr) (h:Heap):List (Addr×Obj):=fp.filterMap λ b=>(h.get? b).map λ o=>(b,o)
theorem z3z {fp:List Addr} {h:Heap} {b:Addr} {o:Obj} (hb:b∈fp) (e:h.get? b=some o):(b,o)∈pinsAt fp h:=List.mem_filterMap.mpr ⟨b,hb,by rw [e];rfl⟩
theorem zbv {fp:List Addr} {h:Heap} {p:Addr×Obj} (hp:p∈pinsAt fp h):p.1∈fp/\h.get? p.1=some p.2:=by
 obtain ⟨b,c,e⟩:=List.mem_filterMap.mp hp;cases q:h.get? b with
 | none=>rw [q] at e;cases e
 | some o=>rw [q] at e;have a:(b,o)=p:=X1 e;subst a;exact ⟨c,q⟩
theorem Inv.pinned {pins:List (Addr×Obj)} {σ:St} {H:Hp} {s:B0} {fp:List Addr} (I:Inv X pins σ H s) (hf :∀b∈fp,FpOk X pins H b) (ho :∀b∈fp,∃o,s.heap.get? b=some o/\∀v,o.data≠.cell v):Inv X (pins++pinsAt fp s.heap) σ H s:=
 I.pins_of λ p h=>(List.mem_append.mp h).elim (λ z=>I.pin p (R1 _ z)) λ z=>by obtain ⟨a,e⟩:=zbv z;obtain ⟨g,f,i,_⟩:=hf p.1 a;obtain ⟨o,c,d⟩:=ho p.1 a;rw [e] at c;cases c;exact ⟨e,g,f,i,d⟩
theorem Inv.unpinned {pins pl:List (Addr×Obj)} {σ:St} {H:Hp} {s:B0} (I:Inv X (pins++pl) σ H s):Inv X pins σ H s:=I.pins_of λ p a=>I.pin p (R1 _ (v7 _ a))
theorem ps_for {iter:Expr} {body:List Stmt} {wi:TI} {g:TG} {tb:TS} {pos:Pos} (hp:PassesOwn (N1 X.prog X.w) X.A X.env X.xe) (hc:X.calm=true) (hi:PI X tg iter wi) (hg:PG X tg g) (hb:PSs X body tb)
  (hs :∀x,Z5 iter X.env x=X3 x:=by intro _;rfl):PS X (.For tg iter body [] pos) (tFor wi g tb):=by
 intro l s σ H D I h;refine wpAny_For (thn (hi l s σ H _ I h) λ v s1 L=>thn L λ a1 s2 h2=>?_) hs;obtain ⟨it,p,G,J,H2,e,S,T,a0,B,W,⟨M,R⟩,Q⟩:=h2;subst e
 -- what stays true of the iterator's objects through the loop
 have y :∀{H':Hp},(∀b∈p,H' b=none)->∀b∈p,FpOk X l H' b:=λ hn b hb=>⟨hn b hb,(B b hb).2⟩
 refine codeAny_forLoop_any (λ n E=>∃i σ' H',Inv X l σ' H' E/\G i E.heap/\(∀b∈p,H' b=none)/\W i n σ' H') ?_ M ⟨0,σ,H2,S,a0,λ b hb=>(B b hb).1,R⟩;rintro n z ⟨i,σ3,H3,I3,st3,fr3,w3⟩;rcases Q i n σ3 H3 w3 with ⟨stop,K⟩|⟨go,N,hN,step⟩
 ·refine V7 hp (thn (T.done X rfl rfl rfl hc i l z σ3 H3 X.xe I3 (y fr3) st3 stop) λ r P ⟨hr,I4⟩=>?_);subst hr;exact j30 ⟨σ3,H3,I4,K⟩
 ·refine V7 hp (thn (T.item X rfl rfl rfl hc i l z σ3 H3 X.xe I3 (y fr3) st3 go) λ r P ⟨u,hr,h4⟩=>?_);subst hr;refine V7 hp (thn h4 λ _ F ⟨x,H5,I5,r5,y5,st5,fr5⟩=>?_);have V:=I5.pinned (y fr5) (T.obj _ _ st5);refine V7 hp (thn (hg _ F σ3 H5 x u _ V r5 (step x H5 y5)) λ _ Y ⟨σ6,H6,I6,q6⟩=>?_);refine V7 hp (thn (hb _ Y σ6 H6 _ I6 q6) λ f t k=>?_);have C :∀{j:St} {c:Hp},Inv X (l++pinsAt p F.heap) j c t->N j c->∃m,m < n/\∃i σ' H',Inv X l σ' H' t/\G i t.heap/\(∀b∈p,H' b=none)/\W i m σ' H':=λ {j c} a q=>by obtain ⟨m',hm,O⟩:=hN j c q;refine ⟨m',hm,i + 1,j,c,a.unpinned,T.keep _ _ _ st5 λ b hb o e=>(a.pin (b,o) (R1 _ (R1 _ (z3z hb e)))).1,λ b hb=>?_,O⟩;obtain ⟨o,e,d⟩:=T.obj _ _ st5 b hb;exact (a.pin (b,o) (R1 _ (R1 _ (z3z hb e)))).2.1
  cases f with
  | next=>obtain ⟨j,c,a,q⟩:=k;exact C a q
  | cont=>obtain ⟨j,c,a,q⟩:=k;exact C a q
  | brk=>obtain ⟨j,c,a,k⟩:=k;exact ⟨j,c,a.unpinned,k⟩
  | ret v=>obtain ⟨Z,j,c,a,U,k⟩:=k;exact ⟨Z,j,c,a.unpinned,U,k⟩
end
theorem z3q {K:j0} {a:Addr} {xs:List V} {g:TG} {tb:TS} {D:Ends} {σ:St} {H:Hp} (Pv:Nat->St->Hp->Prop) (h0:Pv 0 σ H) (hl :∀i σ H,i<=xs.length->Pv i σ H->SqL K H a xs)
  (hs :∀i x σ H,xs[i]? = some x->Pv i σ H->g x σ H λ σ2 H2=>tb { D with nx:=Pv (i + 1),ct:=Pv (i + 1),bk:=D.nx } σ2 H2) (hd :∀σ H,Pv xs.length σ H->D.nx σ H) :
  ∃W:Nat->Nat->St->Hp->Prop,(∃m,W 0 m σ H)/\∀i m σ H,W i m σ H->
   ((Itl K a).stop i H/\D.nx σ H)\/((Itl K a).go i H/\∃N:St->Hp->Prop,(∀σ' H',N σ' H'->∃m',m' < m/\W (i + 1) m' σ' H')/\∀x H',(Itl K a).yld i H x H'->g x σ H' λ σ2 H2=>tb { D with nx:=N,ct:=N,bk:=D.nx } σ2 H2):=by
 refine ⟨λ i m σ H=>m=xs.length - i/\i<=xs.length/\Pv i σ H,⟨xs.length,by simp,J2 _,h0⟩,?_⟩;rintro i m σ H ⟨rfl,hi,p⟩;have q:=hl i σ H hi p;by_cases hlt:i < xs.length
 ·refine .inr ⟨⟨xs,xs[i],q,by simp [hlt]⟩,Pv (i + 1),λ σ' H' b=>⟨xs.length - (i + 1),by omega,rfl,hlt,b⟩,λ x H' y=>?_⟩;obtain ⟨e,y⟩:=y;subst e;exact hs i x σ _ (y xs q) p
 ·have e:i=xs.length:=by omega
  subst e;exact .inl ⟨⟨xs,q,J0 _⟩,hd σ H p⟩
theorem z2d {lo:Int} {n:Nat} {g:TG} {tb:TS} {D:Ends} {σ:St} {H:Hp} (Pv:Nat->St->Hp->Prop) (h0:Pv 0 σ H)
  (hs :∀i σ H,i < n->Pv i σ H->g (.int (lo + i)) σ H λ σ2 H2=>tb { D with nx:=Pv (i + 1),ct:=Pv (i + 1),bk:=D.nx } σ2 H2) (hd :∀σ H,Pv n σ H->D.nx σ H) :
  ∃W:Nat->Nat->St->Hp->Prop,(∃m,W 0 m σ H)/\∀i m σ H,W i m σ H->
   ((Itr lo n).stop i H/\D.nx σ H)\/((Itr lo n).go i H/\∃N:St->Hp->Prop,(∀σ' H',N σ' H'->∃m',m' < m/\W (i + 1) m' σ' H')/\∀x H',(Itr lo n).yld i H x H'->g x σ H' λ σ2 H2=>tb { D with nx:=N,ct:=N,bk:=D.nx } σ2 H2):=by
 refine ⟨λ i m σ H=>m=n - i/\i<=n/\Pv i σ H,⟨n,by simp,J2 _,h0⟩,?_⟩;rintro i m σ H ⟨rfl,hi,p⟩;by_cases hlt:i < n
 ·refine .inr ⟨hlt,Pv (i + 1),λ σ' H' a=>⟨n - (i + 1),by omega,rfl,hlt,a⟩,λ x H' y=>?_⟩;obtain ⟨e,y⟩:=y;subst e y;exact hs i σ _ hlt p
 ·have e:i=n:=by omega
  subst e;exact .inl ⟨J0 _,hd σ H p⟩
abbrev R2:=V->V->Hp->VK->Prop
def OpR (X:Cx) (f:Value->Value->Sem Value) (r:R2):Prop:=
 ∀(pins:List (Addr×Obj)) (s:B0) (σ:St) (H:Hp) (x y:V) (v u:Value) (Q:VK),Inv X pins σ H s->RelV x v->RelV y u->r x y H Q->
  W0 (N1 X.prog X.w) X.A (f v u) (EP X pins σ Q) X.xe s
def UnR (X:Cx) (f:Value->Sem Value) (r:V->Hp->VK->Prop):Prop:=
 ∀(pins:List (Addr×Obj)) (s:B0) (σ:St) (H:Hp) (x:V) (v:Value) (Q:VK),Inv X pins σ H s->RelV x v->r x H Q->
  W0 (N1 X.prog X.w) X.A (f v) (EP X pins σ Q) X.xe s
def CallR (X:Cx) (f:Value) (r:List V->Hp->VK->Prop):Prop:=
 ∀(pins:List (Addr×Obj)) (s:B0) (σ:St) (H:Hp) (xs:List V) (us:List Value) (Q:VK),Inv X pins σ H s->Vals xs us->r xs H Q->
  W0 (N1 X.prog X.w) X.A (call f us) (EP X pins σ Q) X.xe s
def tOp (r:R2) (ta tb:TE):TE:=λ σ H Q=>ta σ H λ x H1=>tb σ H1 λ y H2=>r x y H2 Q
def tUn (r:V->Hp->VK->Prop) (ta:TE):TE:=λ σ H Q=>ta σ H λ x H1=>r x H1 Q
def rI (C:Int->Int->Prop) (g:Int->Int->V):R2:=λ x y H Q=>∃i j,x=.int i/\y=.int j/\C i j/\Q (g i j) H
def rI0 (g:Int->Int->V):R2:=λ x y H Q=>∃i j,x=.int i/\y=.int j/\Q (g i j) H
def rU (g:Int->V):V->Hp->VK->Prop:=λ x H Q=>∃i,x=.int i/\Q (g i) H
section
variable {X:Cx} {a b c:Expr} {ta tb tc:TE} {pos:Pos}
theorem binT (ha:PE X a ta) (hb:PE X b tb) {pins:List (Addr×Obj)} {s:B0} {σ:St} {H:Hp} {R:V->V->Hp->Prop} (I:Inv X pins σ H s)
  (h:ta σ H λ x H1=>tb σ H1 λ y H2=>R x y H2) {Q:Value->B0->Prop} {f:Value->Value->Sem Value}
  (hf :∀v u s2 x y H2,Inv X pins σ H2 s2->RelV x v->RelV y u->R x y H2->W0 (N1 X.prog X.w) X.A (f v u) Q X.xe s2) :
  W0 (N1 X.prog X.w) X.A (R3 a X.env) (λ v s₁=>W0 (N1 X.prog X.w) X.A (R3 b X.env) (λ u s₂=>W0 (N1 X.prog X.w) X.A (f v u) Q X.xe s₂) X.xe s₁) X.xe s:=by
 refine thn (ha pins s σ H _ I h) λ v c ⟨x,H1,I1,r1,q1⟩=>?_;refine thn (hb pins c σ H1 _ I1 q1) λ u s2 ⟨y,H2,I2,r2,q2⟩=>?_;exact hf v u s2 x y H2 I2 r1 r2 q2
theorem pe_op {op:Operator} {r:R2} (ho:OpR X (v6 op) r) (ha:PE X a ta) (hb:PE X b tb):PE X (.BinOp a op b pos) (tOp r ta tb):=by intro e s σ H Q I h;exact wpAny_BinOp (binT ha hb I h λ v u f x y d g c i q=>ho e f σ d x y v u Q g c i q)
theorem pe_un {op:UnaryOp} {r:V->Hp->VK->Prop} (ho:UnR X (unaryOp op) r) (ha:PE X a ta):PE X (.UnaryOp op a pos) (tUn r ta):=by intro b s σ H Q I h;exact UnaryOp_ (thn (ha b s σ H _ I h) λ v c ⟨x,H1,I1,r1,q1⟩=>ho b c σ H1 x v Q I1 r1 q1)
theorem opI {f:Value->Value->Sem Value} {C:Int->Int->Prop} {g:Int->Int->Int}
  (rule :∀(i j:Int) (t u:Tok) (s:B0) (Q:Value->B0->Prop) (E:Value->B0->Prop),C i j->Q (.int (g i j) s.toks) { s with toks:=s.toks + 1 }->W0 (N1 X.prog X.w) X.A (f (.int i t) (.int j u)) Q E s) :
  OpR X f (rI C λ i j=>.int (g i j)):=by
 intro e s σ H x y v u Q I a d h;obtain ⟨i,j,rfl,rfl,b,q⟩:=h;obtain ⟨t,rfl⟩:=a;obtain ⟨c,rfl⟩:=d;exact rule i j t c s _ _ b ⟨.int (g i j),H,I.tok _,⟨_,rfl⟩,q⟩
theorem opI0 {f:Value->Value->Sem Value} {g:Int->Int->Int}
  (rule :∀(i j:Int) (t u:Tok) (s:B0) (Q:Value->B0->Prop) (E:Value->B0->Prop),Q (.int (g i j) s.toks) { s with toks:=s.toks + 1 }->W0 (N1 X.prog X.w) X.A (f (.int i t) (.int j u)) Q E s) :
  OpR X f (rI0 λ i j=>.int (g i j)):=by
 intro d s σ H x y v u Q I a c h;obtain ⟨i,j,rfl,rfl,q⟩:=h;obtain ⟨t,rfl⟩:=a;obtain ⟨b,rfl⟩:=c;exact rule i j t b s _ _ ⟨.int (g i j),H,I.tok _,⟨_,rfl⟩,q⟩
theorem opB0 {f:Value->Value->Sem Value} {g:Int->Int->Bool}
  (rule :∀(i j:Int) (t u:Tok) (s:B0) (Q:Value->B0->Prop) (E:Value->B0->Prop),Q (.bool (g i j)) s->W0 (N1 X.prog X.w) X.A (f (.int i t) (.int j u)) Q E s) :
  OpR X f (rI0 λ i j=>.bl (g i j)):=by
 intro d s σ H x y v u Q I a c h;obtain ⟨i,j,rfl,rfl,q⟩:=h;obtain ⟨t,rfl⟩:=a;obtain ⟨b,rfl⟩:=c;exact rule i j t b s _ _ ⟨.bl (g i j),H,I,rfl,q⟩
def CPow (i j:Int):Prop:=0<=j/\j<=1000000/\i.natAbs < 2 ^ 64
def CMul (i j:Int):Prop:=(-(2 ^ 64) < i/\i < 2 ^ 64)\/(-(2 ^ 64) < j/\j < 2 ^ 64)
theorem CMul.ok {i j:Int} (h:CMul i j):IntMulOk i j:=by
 rcases h with ⟨b,a⟩|⟨b,a⟩
 ·exact .of_left (intBits_le_64 b a)
 ·exact .of_right (intBits_le_64 b a)
theorem op_add:OpR X (v6 .Add) (rI0 λ i j=>.int (i + j)):=opI0 λ _ _ _ _ _ _ _ q=>add_int q
theorem op_sub:OpR X (v6 .Sub) (rI0 λ i j=>.int (i - j)):=opI0 λ _ _ _ _ _ _ _ q=>sub_int q
theorem op_mul:OpR X (v6 .Mult) (rI CMul λ i j=>.int (i * j)):=opI λ _ _ _ _ _ _ _ a q=>mul_int q a.ok
theorem op_mod:OpR X (v6 .Mod) (rI (λ _ j=>0 < j) λ i j=>.int (i % j)):=opI λ i j _ _ _ _ _ a q=>by have b:(0:Int) < j:=a;exact mod_int' (by omega) (by rw [Int.fmod_eq_emod_of_nonneg i (by omega)];exact q)
theorem op_pow:OpR X (v6 .Pow) (rI CPow λ i j=>.int (i ^ j.toNat)):=opI λ _ _ _ _ _ _ _ a q=>pow_int_small a.1 a.2.1 a.2.2 q
theorem unI {f:Value->Sem Value} {g:Int->Int}
  (rule :∀(i:Int) (t:Tok) (s:B0) (Q:Value->B0->Prop) (E:Value->B0->Prop),Q (.int (g i) s.toks) { s with toks:=s.toks + 1 }->W0 (N1 X.prog X.w) X.A (f (.int i t)) Q E s) :
  UnR X f (rU λ i=>.int (g i)):=by
 intro b s σ H x v Q I a h;obtain ⟨i,rfl,q⟩:=h;obtain ⟨t,rfl⟩:=a;exact rule i t s _ _ ⟨.int (g i),H,I.tok _,⟨_,rfl⟩,q⟩
theorem un_neg:UnR X (unaryOp .USub) (rU λ i=>.int (-i)):=unI λ _ _ _ _ _ q=>neg_int q
end
def scal:V->V->Bool
 | .non,.non=>true | .non,.int _=>true | .int _,.non=>true | .non,.bl _=>true | .bl _,.non=>true | .non,.str _=>true | .str _,.non=>true
 | .int _,.int _=>true | .bl _,.bl _=>true | .str _,.str _=>true | .byt _,.byt _=>true
 | .int _,.str _=>true | .str _,.int _=>true | .bl _,.str _=>true | .str _,.bl _=>true
 | _,_=>false
def rEq:R2:=λ x y H Q=>scal x y=true/\Q (.bl (decide (x=y))) H
def rNe:R2:=λ x y H Q=>scal x y=true/\Q (.bl (!decide (x=y))) H
theorem zhp {i j:Int}:decide (V.int i=V.int j)=(i == j):=by rw [Bool.eq_iff_iff];simp
theorem dec_bl {i j:Bool}:decide (V.bl i=V.bl j)=(i == j):=by rw [Bool.eq_iff_iff];simp
theorem zc5 {i j:Str}:decide (V.str i=V.str j)=(i == j):=by rw [Bool.eq_iff_iff];simp
theorem zi2 {i j:Array UInt8}:decide (V.byt i=V.byt j)=(i.toList == j.toList):=by rw [Bool.eq_iff_iff];cases i;cases j;simp
section
variable {X:Cx} {a b c:Expr} {ta tb tc:TE} {pos:Pos}
theorem fin_bl {pins:List (Addr×Obj)} {σ:St} {H:Hp} {s:B0} {Q:VK} {k k':Bool} (I:Inv X pins σ H s) (q:Q (.bl k) H) (e:k=k'):EP X pins σ Q (.bool k') s:=by subst e;exact ⟨.bl k,H,I,rfl,q⟩
theorem op_eq:OpR X (X2 .Eq) rEq:=by
 intro e s σ H x y v u Q I d a h;obtain ⟨c,q⟩:=h;cases x with
 | non=>
  cases d;cases y with
  | non=>cases a;exact PySem.EqNone.eq_none_none (fin_bl I q (by simp))
  | bl j=>cases a;exact PySem.EqNone.eq_none_bool (fin_bl I q (by simp))
  | int j=>obtain ⟨b,rfl⟩:=a;exact PySem.EqNone.eq_none_int (fin_bl I q (by simp))
  | str j=>obtain ⟨b,rfl⟩:=a;exact PySem.EqNone.eq_none_str (fin_bl I q (by simp))
  | _=>exact absurd (show false=true from c) E1
 | bl i=>
  cases d;cases y with
  | non=>cases a;exact PySem.EqNone.eq_bool_none (fin_bl I q (by simp))
  | bl j=>cases a;exact eq_bool (fin_bl I q dec_bl)
  | str j=>obtain ⟨b,rfl⟩:=a;exact PySem.EqMixed.eq_bool_str (fin_bl I q (by simp))
  | _=>exact absurd (show false=true from c) E1
 | int i=>
  obtain ⟨t,rfl⟩:=d;cases y with
  | non=>cases a;exact PySem.EqNone.eq_int_none (fin_bl I q (by simp))
  | int j=>obtain ⟨b,rfl⟩:=a;exact eq_int (fin_bl I q zhp)
  | str j=>obtain ⟨b,rfl⟩:=a;exact PySem.EqMixed.eq_int_str (fin_bl I q (by simp))
  | _=>exact absurd (show false=true from c) E1
 | str i=>
  obtain ⟨t,rfl⟩:=d;cases y with
  | non=>cases a;exact PySem.EqNone.eq_str_none (fin_bl I q (by simp))
  | bl j=>cases a;exact PySem.EqMixed.eq_str_bool (fin_bl I q (by simp))
  | int j=>obtain ⟨b,rfl⟩:=a;exact PySem.EqMixed.eq_str_int (fin_bl I q (by simp))
  | str j=>obtain ⟨b,rfl⟩:=a;exact eq_str (fin_bl I q zc5)
  | _=>exact absurd (show false=true from c) E1
 | byt i=>
  obtain ⟨t,rfl⟩:=d;cases y with
  | byt j=>obtain ⟨b,rfl⟩:=a;exact PySem.W.eq_bytes (fin_bl I q zi2)
  | _=>exact absurd (show false=true from c) E1
 | _=>cases y<;>exact absurd (show false=true from c) E1
theorem op_ne:OpR X (X2 .NotEq) rNe:=by
 intro e s σ H x y v u Q I d a h;obtain ⟨c,q⟩:=h;cases x with
 | non=>
  cases d;cases y with
  | non=>cases a;exact PySem.EqNone.ne_none_none (fin_bl I q (by simp))
  | bl j=>cases a;exact PySem.EqNone.ne_none_bool (fin_bl I q (by simp))
  | int j=>obtain ⟨b,rfl⟩:=a;exact PySem.EqNone.ne_none_int (fin_bl I q (by simp))
  | str j=>obtain ⟨b,rfl⟩:=a;exact PySem.EqNone.ne_none_str (fin_bl I q (by simp))
  | _=>exact absurd (show false=true from c) E1
 | bl i=>
  cases d;cases y with
  | non=>cases a;exact PySem.EqNone.ne_bool_none (fin_bl I q (by simp))
  | bl j=>cases a;exact ne_bool (fin_bl I q (congrArg not dec_bl))
  | str j=>obtain ⟨b,rfl⟩:=a;exact PySem.EqMixed.ne_bool_str (fin_bl I q (by simp))
  | _=>exact absurd (show false=true from c) E1
 | int i=>
  obtain ⟨t,rfl⟩:=d;cases y with
  | non=>cases a;exact PySem.EqNone.ne_int_none (fin_bl I q (by simp))
  | int j=>obtain ⟨b,rfl⟩:=a;exact ne_int (fin_bl I q (congrArg not zhp))
  | str j=>obtain ⟨b,rfl⟩:=a;exact PySem.EqMixed.ne_int_str (fin_bl I q (by simp))
  | _=>exact absurd (show false=true from c) E1
 | str i=>
  obtain ⟨t,rfl⟩:=d;cases y with
  | non=>cases a;exact PySem.EqNone.ne_str_none (fin_bl I q (by simp))
  | bl j=>cases a;exact PySem.EqMixed.ne_str_bool (fin_bl I q (by simp))
  | int j=>obtain ⟨b,rfl⟩:=a;exact PySem.EqMixed.ne_str_int (fin_bl I q (by simp))
  | str j=>obtain ⟨b,rfl⟩:=a;exact ne_str (fin_bl I q (congrArg not zc5))
  | _=>exact absurd (show false=true from c) E1
 | byt i=>
  obtain ⟨t,rfl⟩:=d;cases y with
  | byt j=>obtain ⟨b,rfl⟩:=a;exact PySem.W.ne_bytes (fin_bl I q (congrArg not zi2))
  | _=>exact absurd (show false=true from c) E1
 | _=>cases y<;>exact absurd (show false=true from c) E1
theorem op_lt:OpR X (X2 .Lt) (rI0 λ i j=>.bl (decide (i < j))):=opB0 λ _ _ _ _ _ _ _ q=>lt_int q
theorem op_le:OpR X (X2 .LtE) (rI0 λ i j=>.bl (decide (i<=j))):=opB0 λ _ _ _ _ _ _ _ q=>le_int q
theorem op_gt:OpR X (X2 .Gt) (rI0 λ i j=>.bl (decide (j < i))):=opB0 λ _ _ _ _ _ _ _ q=>gt_int q
theorem zh5:OpR X (X2 .In) (λ x y H Q=>∃i j,x=.str i/\y=.str j/\Q (.bl (!(S7 j i 0 j.length 1).isEmpty)) H):=by intro c s σ H x y v u Q I a b h;obtain ⟨i,j,rfl,rfl,q⟩:=h;obtain ⟨t,rfl⟩:=a;obtain ⟨d,rfl⟩:=b;exact in_str (fin_bl I q rfl)
theorem op_isN:OpR X (X2 .Is) (λ x y H Q=>y=.non/\Q (.bl (decide (x=.non))) H):=by
 intro c s σ H x y v u Q I a b h;obtain ⟨rfl,q⟩:=h;cases b;refine is_none_gen (fin_bl I q ?_);cases x<;>first
  | (cases a;rfl)
  | (obtain ⟨t,rfl⟩:=a;rfl)
theorem z6g:OpR X (X2 .IsNot) (λ x y H Q=>y=.non/\Q (.bl (!decide (x=.non))) H):=by
 intro c s σ H x y v u Q I a b h;obtain ⟨rfl,q⟩:=h;cases b;refine isnot_none_gen (fin_bl I q ?_);cases x<;>first
  | (cases a;rfl)
  | (obtain ⟨t,rfl⟩:=a;rfl)
theorem OpR.or {f:Value->Value->Sem Value} {r r':R2} (h:OpR X f r) (h':OpR X f r'):OpR X f (λ x y H Q=>r x y H Q\/r' x y H Q):=by
 intro b s σ H x y v u Q I a c q;rcases q with q|q
 ·exact h b s σ H x y v u Q I a c q
 ·exact h' b s σ H x y v u Q I a c q
theorem nomark (b:Expr) {op:CmpOp} (h:op≠.In:=by decide) (h2:op≠.NotIn:=by decide):Q8 op b=false:=by
 have c:(op == CmpOp.In)=false:=by cases op<;>first|rfl|exact absurd rfl h
 have a:(op == CmpOp.NotIn)=false:=by cases op<;>first|rfl|exact absurd rfl h2
 cases b<;>simp [Q8,c,a]
theorem z39 {op:CmpOp} {r:R2} (ho:OpR X (X2 op) r) (ha:PE X a ta) (hb:PE X b tb) (hm:Q8 op b=false):PE X (.Compare a [op] [b] pos) (tOp r ta tb):=by intro e s σ H Q I h;exact wpAny_Compare1 (binT ha hb I h λ v u f x y d g c i q=>ho e f σ d x y v u Q g c i q) hm
def tTest (t:TE):TT:=λ σ H Q=>t σ H λ x H'=>∃k,x=.bl k/\Q k H'
theorem z0a {op:CmpOp} {r:R2} (ho:OpR X (X2 op) r) (ha:PE X a ta) (hb:PE X b tb) (hm:Q8 op b=false):PT X (.Compare a [op] [b] pos) (tTest (tOp r ta tb)):=by
 intro d s σ H Q I h;refine wpAny_isTrue_Compare1 (thn (ha d s σ H _ I h) λ v g ⟨x,H1,I1,r1,q1⟩=>thn (hb d g σ H1 _ I1 q1) λ u f ⟨y,H2,I2,r2,q2⟩=>thn (ho d f σ H2 x y v u _ I2 r1 r2 q2) λ c i ⟨z,H3,I3,r3,k,e,q3⟩=>?_) hm;subst e;cases r3;exact J3 ⟨H3,I3,q3⟩
def tChain (r r':R2) (ta tb tc:TE):TE:=λ σ H Q=>ta σ H λ x H1=>tb σ H1 λ y H2=>r x y H2 λ z H3=>∃k,z=.bl k/\
 (if k=true then tc σ H3 λ w' H4=>r' y w' H4 Q else Q (.bl false) H3)
theorem ze2 {op op':CmpOp} {r r':R2} (ho:OpR X (X2 op) r) (ho':OpR X (X2 op') r') (ha:PE X a ta) (hb:PE X b tb) (hc:PE X c tc)
  (hm:lastMarks [op,op'] [b,c]=false:=by with_unfolding_all rfl):PE X (.Compare a [op,op'] [b,c] pos) (tChain r r' ta tb tc):=by
 intro f s σ H Q I h;refine Compare_chain (thn (ha f s σ H _ I h) λ v i ⟨x,H1,I1,r1,q1⟩=>chain_link (thn (hb f i σ H1 _ I1 q1) λ u g ⟨y,H2,I2,r2,q2⟩=>thn (ho f g σ H2 x y v u _ I2 r1 r2 q2) λ d j ⟨z,H3,I3,r3,k,e,q3⟩=>?_)) hm;subst e;cases r3;refine J3 ?_;cases k with
 | false=>exact ite_ff ⟨.bl false,H3,I3,rfl,q3⟩
 | true=>exact ite_tt (chain_last (thn (hc f j σ H3 _ I3 q3) λ l m ⟨z',H4,I4,r4,q4⟩=>ho' f m σ H4 y z' u l Q I4 r2 r4 q4))
theorem zjn {op op':CmpOp} {r r':R2} (ho:OpR X (X2 op) r) (ho':OpR X (X2 op') r') (ha:PE X a ta) (hb:PE X b tb) (hc:PE X c tc)
  (hm:lastMarks [op,op'] [b,c]=false:=by with_unfolding_all rfl):PT X (.Compare a [op,op'] [b,c] pos) (tTest (tChain r r' ta tb tc)):=by
 intro f s σ H Q I h;refine isTrue_chain (thn (ha f s σ H _ I h) λ v j ⟨x,H1,I1,r1,q1⟩=>test_link (thn (hb f j σ H1 _ I1 q1) λ u i ⟨y,H2,I2,r2,q2⟩=>thn (ho f i σ H2 x y v u _ I2 r1 r2 q2) λ d g ⟨z,H3,I3,r3,k,e,q3⟩=>?_)) hm;subst e;cases r3;refine J3 ?_;cases k with
 | false=>obtain ⟨p,m,o⟩:=q3;cases m;exact ite_ff ⟨H3,I3,o⟩
 | true=>refine ite_tt (test_last (thn (hc f g σ H3 _ I3 q3) λ n l ⟨z',H4,I4,r4,q4⟩=>thn (ho' f l σ H4 y z' u n _ I4 r2 r4 q4) λ t q ⟨z2,H5,I5,r5,k2,e2,q5⟩=>?_));subst e2;cases r5;exact J3 ⟨H5,I5,q5⟩
theorem line63:(sizeLine:Nat) < 2 ^ 63:=by rw [sizeLine_eq];decide
theorem op_add_str:OpR X (v6 .Add) (λ x y H Q=>∃i j,x=.str i/\y=.str j/\i.length + j.length<=sizeLine/\Q (.str (i++j)) H):=by intro f s σ H x y v u Q I a c h;obtain ⟨i,j,rfl,rfl,d,q⟩:=h;obtain ⟨t,rfl⟩:=a;obtain ⟨b,rfl⟩:=c;exact add_str (λ b e=>⟨.str (i++j),H,I.tok _,⟨_,rfl⟩,q⟩) d
theorem vals1 {x:V} {us:List Value} (r:Vals [x] us) :∃u,us=[u]/\RelV x u:=by
 cases r with
 | cons r1 r2=>cases r2;exact ⟨_,rfl,r1⟩
theorem vals2 {x y:V} {us:List Value} (r:Vals [x,y] us) :∃u w',us=[u,w']/\RelV x u/\RelV y w':=by
 cases r with
 | cons r1 r2=>
  cases r2 with
  | cons r3 r4=>cases r4;exact ⟨_,_,rfl,r1,r3⟩
end
structure ObjM (h:Heap) (x dx C:Addr) (mA:Str->Option Value):Prop where
 obj:h.get? x=some (R4 C dx)
 ns:h.Ns1 dx mA
 ne:dx≠x
theorem zh2 {h:Heap} {dx:Addr} {mA:Str->Option Value} (n:h.Ns1 dx mA) :∃od,h.get? dx=some od/\∀name,R8 name od=some (mA name):=by
 obtain ⟨o,b,l,j,c,f,_,i⟩:=n;refine ⟨o,j,λ name=>?_⟩;have e:=i name;unfold nsFind findBy at e;rw [<-Array.find?_toList] at e;unfold R8;rw [c];dsimp only;split
 ·rename_i y q;rw [q] at e;exact congrArg some e
 ·rename_i q;rw [q] at e;have a:b.toList.any (·.refKey)=false:=by rw [List.any_eq_false];intro y d;obtain ⟨z,t,g⟩:=f y (Array.mem_toList_iff.mp d);simp [DictEntry.refKey,g]
  have k:¬ b.toList.any (·.refKey)=true:=by rw [a];exact E1
  rw [if_neg k];exact congrArg some e
theorem ObjM.look {h:Heap} {x dx C:Addr} {mA:Str->Option Value} (I:ObjM h x dx C mA) :∃od,PySem.W.InstAt h x (R4 C dx) C (some od)/\∀name,R8 name od=some (mA name):=
 let ⟨od,ho,hl⟩:=zh2 I.ns
 ⟨od,⟨I.obj,rfl,rfl,ho⟩,hl⟩
section
variable {prog:Program} {w:C1} {A:O2} {E:Value->B0->Prop} {s:B0} {K:j0} {x dx C f:Addr} {mA:Str->Option Value} {name:Str} {v:Value}
theorem zkc {expr:Bool} {Q:Value->B0->Prop} (X:K.In s.heap) (I:ObjM s.heap x dx C mA) (hg:a8 K C name=true) (hh:L9 K C=true)
  (ha:U3 K (.ref C) name=some none) (hv:mA name=some v) (hv':PySem.W.handedIn v=true) (h:Q v { s with toks:=s.toks + 1 }) :
  W0 (N1 prog w) A (getAttr (.ref x) name expr) Q E s:=by
 obtain ⟨b,J,a⟩:=I.look;exact PySem.W.get_value X J (d9 hg).1 (PySem.W.findObj_own hh ha rfl (by rw [a,hv])) hv' h
theorem zig {pl:Sem Bool} {Q:Value×List Value->B0->Prop} (X:K.In s.heap) (I:ObjM s.heap x dx C mA) (hg:a8 K C name=true)
  (hf:U3 K (.ref C) name=some (some (.ref f))) (ht:j21 K (.ref f)=true) (hv:mA name=none) (h:Q (.ref f,[.ref x]) s) :
  W0 (N1 prog w) A (getMethod (.ref x) name pl) Q E s:=by
 obtain ⟨b,J,a⟩:=I.look;exact PySem.W.method_fn X J (d9 hg).1 (d9 hg).2 hf (beq_iff_eq.mp ht) (by show (R8 name b).map (·.isSome)=some false;rw [a,hv];rfl) h
theorem zk2 {ns:List Str} {Q:Unit->B0->Prop} (X:K.In s.heap) (I:ObjM s.heap x dx C mA)
  (hs:U3 K (.ref C) "__setattr__" = some (some (.builtin "object.__setattr__"))) (hp:j48 K C=true) (ht:j08 K C name=some none) (hh:L9 K C=true)
  (hw:j33 mA ns) (hsz:ns.length<=sizeLine)
  (h :∀h',ObjM h' x dx C (λ y=>if y=name then some v else mA y)->N6 dx s.heap h'->Q () { s with heap:=h',toks:=s.toks + 2 }) :
  W0 (N1 prog w) A (setAttr (.ref x) name v) Q E s:=by
 obtain ⟨m,J,p⟩:=I.look;refine PySem.W.set_plain X J hs (PySem.W.osa_open (s:={ s with toks:=s.toks + 1 }) (r:=none) X J hp ht λ b=>?_);obtain ⟨l,e,f⟩:=PySem.W.any_some hh;have k:s.heap.get? x=some ⟨.ref C,some dx,.plain,#[]⟩:=I.obj;refine o0 (G0 (o0 (o0 (wpAny_loadPart k (o0 (PySem.W.Looks.here (s:={ s with toks:=s.toks + 1 }) (PySem.W.looks_clsIn X e) ?_))))));rw [f];refine G0 (a:=some dx) (o0 (G0 (o0 ?_)));refine wpAny_nsSet1 (s:={ s with toks:=s.toks + 1 }) I.ns λ h' d c=>?_;obtain ⟨q,o,n,g,j,i⟩:=d.count (PySem.Within.cons name v hw);refine o0 (wpAny_lookBehind g (by rw [j];exact pastItsLine_dict (O0 i (by rw [A1];omega))) ?_);exact G0 (h _ ⟨(c.2 _ (D2 I.ne)).trans I.obj,d,I.ne⟩ c)
theorem zit {R:j20->B0->Prop} {vs:List Value} {kw:List (Str×Value)} (X:K.In s.heap) (hm:PySem.W.makesIn K C=true)
  (hi:U3 K (.ref C) "__init__" = some (some (.ref f))) (hf:PySem.W.typeIn K (.ref f)=some (.type "function"))
  (h:B5 (N1 prog w) (A.under (.builtin "type.__call__" ⟨.ref C :: vs,kw⟩)) (.call (.ref f) ⟨.ref (s.heap.objs.size + 1) :: vs,kw⟩) (PySem.W.InitBack (s.heap.objs.size + 1) R)
   { s with heap:=(s.heap.push PySem.W.emptyDict).push (R4 C s.heap.objs.size) }) :
  B5 (N1 prog w) A (.call (.ref C) ⟨vs,kw⟩) R s:=by
 obtain ⟨c,g,d,t,b⟩:=s;exact PySem.W.make_core (PySem.W.makes_of X hm) (PySem.W.looks_findIn X hi) (λ a=>PySem.W.bind_fn X a hf) (.inl rfl) h
end
def putF (f:Str) (v:V):List (Str×V)->List (Str×V)
 | []=>[(f,v)]
 | (g,x) :: r=>if g=f then (g,v) :: r else (g,x) :: putF f v r
theorem z37 (f g:Str) (v:V) :∀fs:List (Str×V),(putF f v fs).lookup g=if g=f then some v else fs.lookup g
 | []=>by
  show y7 g [(f,v)]=_;by_cases h:g=f
  ·have a:(g == f)=true:=beq_iff_eq.mpr h;simp only [y7,a,if_pos h]
  ·have a:(g == f)=false:=beq_eq_false_iff_ne.mpr h;simp only [y7,a,if_neg h]
 | (k,x) :: r=>by
  have b:=z37 f g v r;rw [show putF f v ((k,x) :: r)=(if k=f then (k,v) :: r else (k,x) :: putF f v r) from rfl];by_cases hk:k=f
  ·rw [if_pos hk];by_cases h:g=k
   ·have a:(g == k)=true:=beq_iff_eq.mpr h;simp only [y7,a,if_pos (h.trans hk)]
   ·have a:(g == k)=false:=beq_eq_false_iff_ne.mpr h;simp only [y7,a,if_neg (λ e:g=f=>h (e.trans hk.symm))]
  ·rw [if_neg hk];by_cases h:g=k
   ·have a:(g == k)=true:=beq_iff_eq.mpr h;simp only [y7,a,if_neg (λ e:g=f=>hk (h.symm.trans e))]
   ·have a:(g == k)=false:=beq_eq_false_iff_ne.mpr h;simp only [y7,a];exact b
theorem z7m (f:Str) (v:V) :∀fs:List (Str×V),f∈(putF f v fs).map (·.1)/\∀g,g∈fs.map (·.1)->g∈(putF f v fs).map (·.1)
 | []=>⟨by simp [putF],λ g h=>by simp at h⟩
 | (k,x) :: r=>by
  obtain ⟨b,a⟩:=z7m f v r;rw [show putF f v ((k,x) :: r)=(if k=f then (k,v) :: r else (k,x) :: putF f v r) from rfl];by_cases hk:k=f
  ·rw [if_pos hk];subst hk;exact ⟨by simp,λ g h=>by simpa using h⟩
  ·rw [if_neg hk];refine ⟨?_,λ g h=>?_⟩
   ·rw [W1];exact Q1 _ b
   ·rw [W1] at h⊢;rcases List.mem_cons.mp h with e|e
    ·exact List.mem_cons.mpr (.inl e)
    ·exact Q1 _ (a g e)
theorem z77 (f:Str) (v:V) :∀fs:List (Str×V),(putF f v fs).length<=fs.length + 1
 | []=>by simp [putF]
 | (k,x) :: r=>by
  have a:=z77 f v r;rw [show putF f v ((k,x) :: r)=(if k=f then (k,v) :: r else (k,x) :: putF f v r) from rfl];by_cases hk:k=f
  ·rw [if_pos hk,A1,A1];omega
  ·rw [if_neg hk,A1,A1];omega
theorem RelO.some_of {v:V} {o:Option Value} (r:RelO (some v) o) :∃u,o=some u/\RelV v u:=by
 cases o with
 | none=>exact (show False from r).elim
 | some u=>exact ⟨u,rfl,r⟩
theorem RelO.none_of {o:Option Value} (r:RelO none o):o=none:=by
 cases o with
 | none=>rfl
 | some u=>exact (show False from r).elim
theorem zgx {v:V} {u:Value} (r:RelV v u):PySem.W.handedIn u=true:=by
 cases v with
 | non=>cases (show u=K3 from r);rfl
 | bl b=>cases (show u=J9 b from r);rfl
 | int i=>obtain ⟨t,e⟩:=(show∃t,u=m9 i t from r);cases e;rfl
 | str x=>obtain ⟨t,e⟩:=(show∃t,u=k9 x t from r);cases e;rfl
 | byt b=>obtain ⟨t,e⟩:=(show∃t,u=Value.bytes b t from r);cases e;rfl
 | flt b=>obtain ⟨t,e⟩:=(show∃t,u=j3j b t from r);cases e;rfl
 | ref a=>cases (show u=G1 a from r);rfl
 | ty n=>cases (show u=D3 n from r);rfl
section
variable {P:Program} {w:C1} {H H':Hp} {h h':Heap} {a C dx:Addr} {fs fs':List (Str×V)}
theorem zbj (hok:HOk P w H h) (e:H a=some (.ins C dx fs)) :∃mA,ObjM h a dx C mA/\(∀f,RelO (fs.lookup f) (mA f))/\j33 mA (fs.map (·.1))/\fs.length<=1000/\H dx=some (.own a):=by
 obtain ⟨d,z,b,c,mA,n,r,q⟩:=(show ObjOk P w H h a (.ins C dx fs) from hok a _ e)
 exact ⟨mA,⟨c,n,b⟩,r,q,z,d⟩
end
structure Cls (K:j0) (C:Addr):Prop where
 pg:a8 K C Str.empty=true
 hd:L9 K C=true
 po:j48 K C=true
 sa:U3 K (.ref C) "__setattr__" = some (some (.builtin "object.__setattr__"))
theorem Cls.get {K:j0} {C:Addr} (c:Cls K C) (f:Str):a8 K C f=true:=c.pg
def NoAttr (K:j0) (C:Addr) (f:Str):Prop:=U3 K (.ref C) f=some none
theorem NoAttr.taker {K:j0} {C:Addr} {f:Str} (n:NoAttr K C f):j08 K C f=some none:=by unfold j08;rw [show U3 K (.ref C) f=some none from n];rfl
structure Con (K:j0) (C:Addr) (f:Str) (v:V) (u:Value):Prop where
 at_:U3 K (.ref C) f=some (some u)
 rel:RelV v u
 get:j47 K u "__get__" = some none
 cp:PySem.W.copiedNames.contains f=false
structure Meth (K:j0) (C:Addr) (m:Str) (f:Addr):Prop where
 at_:U3 K (.ref C) m=some (some (.ref f))
 fn:j21 K (.ref f)=true
 kp:Y4 K (.ref f)=true
section
variable {X:Cx} {pins:List (Addr×Obj)} {σ:St} {H:Hp} {s:B0} {a C dx:Addr} {fs:List (Str×V)} {f:Str} {v:V} {A:O2} {E:Value->B0->Prop}
theorem zdr {b:Bool} {Q:Value->B0->Prop} (I:Inv X pins σ H s) (e:H a=some (.ins C dx fs)) (c:Cls X.K C) (n:NoAttr X.K C f) (l:fs.lookup f=some v)
  (h :∀u s',Inv X pins σ H s'->RelV v u->Q u s'):W0 (N1 X.prog X.w) A (getAttr (.ref a) f b) Q E s:=by
 obtain ⟨i,O,r,_,_,_⟩:=zbj I.hok e;obtain ⟨u,g,d⟩:=RelO.some_of (v:=v) (o:=i f) (by rw [<-l];exact r f);exact zkc I.kIn O (c.get f) c.hd n g (zgx d) (h u _ (I.tok _) d)
theorem zfm {m:Str} {g:Addr} {pl:Sem Bool} {Q:Value×List Value->B0->Prop} (I:Inv X pins σ H s) (e:H a=some (.ins C dx fs)) (c:Cls X.K C) (k:Meth X.K C m g) (l:fs.lookup m=none)
  (h:Q (.ref g,[.ref a]) s):W0 (N1 X.prog X.w) A (getMethod (.ref a) m pl) Q E s:=by
 obtain ⟨d,O,r,_,_,_⟩:=zbj I.hok e;have b:d m=none:=RelO.none_of (by rw [<-l];exact r m);exact zig I.kIn O (c.get m) k.at_ k.fn b h
theorem zeh {y:V} {u:Value} {Q:Unit->B0->Prop} (I:Inv X pins σ H s) (e:H a=some (.ins C dx fs)) (c:Cls X.K C) (n:NoAttr X.K C f) (hl:fs.length < 1000) (ry:RelV y u)
  (h :∀s',Inv X pins σ (upd H a (.ins C dx (putF f y fs))) s'->Q () s'):W0 (N1 X.prog X.w) A (setAttr (.ref a) f u) Q E s:=by
 obtain ⟨k,O,r,i,_,j⟩:=zbj I.hok e;have B:(fs.map (·.1)).length<=sizeLine:=by rw [C0,sizeLine_eq];omega
 refine zk2 I.kIn O c.sa c.po n.taker c.hd i B λ m d t=>h _ ?_;have l :∃o,m.get? dx=some o:=let ⟨o,_,_,e',_⟩:=d.ns;⟨o,e'⟩;refine I.write (x:=a) (e:=dx) (by rw [e];exact True.intro) (.inr j) (λ b q p z=>(t.2 b p).trans z) l ?_;refine ⟨by rw [upd_ne O.ne];exact j,?_,O.ne,d.obj,_,d.ns,λ g=>?_,λ g v=>?_⟩
 ·have:=z77 f y fs;omega
 ·show RelO ((putF f y fs).lookup g) (if g=f then some u else k g);rw [z37];by_cases q:g=f
  ·rw [if_pos q,if_pos q];exact ry
  ·rw [if_neg q,if_neg q];exact r g
 ·by_cases q:g=f
  ·rw [q];exact (z7m f y fs).1
  ·refine (z7m f y fs).2 g (i g λ z=>v ?_);show (if g=f then some u else k g)=none;rw [if_neg q];exact z
theorem Inv.made (I:Inv X pins σ H s):Inv X pins σ (upd (upd H s.heap.objs.size (.own (s.heap.objs.size + 1))) (s.heap.objs.size + 1) (.ins C s.heap.objs.size []))
  { s with heap:=(s.heap.push PySem.W.emptyDict).push (R4 C s.heap.objs.size) }:=by
 have d:(s.heap.push PySem.W.emptyDict).get? s.heap.objs.size=some PySem.W.emptyDict:=D1 s.heap rfl;have j:((s.heap.push PySem.W.emptyDict).push (R4 C s.heap.objs.size)).get? (s.heap.objs.size + 1)=some (R4 C s.heap.objs.size):=by
  have:=D1 (s.heap.push PySem.W.emptyDict) (o:=R4 C s.heap.objs.size) rfl
  rwa [L6] at this
 have i:(s.heap.push PySem.W.emptyDict).Ns s.heap.objs.size (λ _=>none):=⟨PySem.W.emptyDict,#[],_,d,rfl,(λ e h=>absurd h (by simp)),λ _=>rfl⟩
 have f:=I.laid (a:=s.heap.objs.size) (o:=.own (s.heap.objs.size + 1)) (h':=s.heap.push PySem.W.emptyDict) (t':=s.toks) (λ b u q=>I0 _ q) (J0 _) ⟨_,d⟩;refine f.laid (a:=s.heap.objs.size + 1) (o:=.ins C s.heap.objs.size []) (t':=s.toks) (λ b u q=>I0 _ q) (Nat.le_of_eq (L6 _ _)) ?_;have c:s.heap.objs.size≠s.heap.objs.size + 1:=B1 (C3 _);refine ⟨by rw [upd_ne c,z03],J2 _,c,j,λ _=>none,(Heap.Ns1.of_empty i).at λ o q=>I0 _ q,λ _=>True.intro,λ y g=>absurd rfl g⟩
theorem zk1 {prog:Program} {w:C1} {env:Env} {e:Expr} {f:Str} {pos:Pos} {s:B0} {Q:Value->B0->Prop} (hb:z5 e f env (R3 e env)=R3 e env)
  (h:W0 (N1 prog w) A (R3 e env) (λ o s₁=>W0 (N1 prog w) A (getAttr o f true) Q E s₁) E s):W0 (N1 prog w) A (R3 (.Attribute e f pos) env) Q E s:=
 Attribute_any_ h (by rw [arm_eval_Attribute,hb])
end
def tFld (K:j0) (ta:TE) (f:Str):TE:=λ σ H Q=>ta σ H λ x H1=>∃a C dx fs v,x=.ref a/\H1 a=some (.ins C dx fs)/\Cls K C/\NoAttr K C f/\fs.lookup f=some v/\Q v H1
def sFld (K:j0) (ta tv:TE) (f:Str):TS:=λ D σ H=>tv σ H λ y H1=>ta σ H1 λ x H2=>∃a C dx fs,x=.ref a/\H2 a=some (.ins C dx fs)/\Cls K C/\NoAttr K C f/\fs.length < 1000/\
 D.nx σ (upd H2 a (.ins C dx (putF f y fs)))
section
variable {X:Cx} {o e value:Expr} {f:Str} {pos pos' tpos:Pos} {ta tv:TE}
theorem pe_fld (he:PE X e ta) (hb:z5 e f X.env (R3 e X.env)=R3 e X.env):PE X (.Attribute e f pos) (tFld X.K ta f):=by intro b s σ H Q I h;refine zk1 hb (thn (he b s σ H _ I h) λ u j ⟨x,H1,I1,rx,a,C,dx,fs,v,ex,ea,c,n,l,q⟩=>?_);subst ex;obtain rfl:u=G1 a:=rx;exact zdr I1 ea c n l λ k i g d=>⟨v,H1,g,d,q⟩
theorem ps_fld (ha:PE X o ta) (hv:PE X value tv) (hs:a9 value (some (.Attribute o f pos')) pos.line X.env=X3 false):PS X (.Assign [.Attribute o f pos'] value pos) (sFld X.K ta tv f):=by intro b s σ H D I h;refine plainObj_wpAny_Assign_Attribute (thn (hv b s σ H _ I h) λ u e ⟨y,H1,I1,ry,q⟩=>thn (ha b e σ H1 _ I1 q) λ g i ⟨x,H2,I2,rx,a,C,dx,fs,ex,ea,c,n,l,q2⟩=>?_) hs;subst ex;obtain rfl:g=G1 a:=rx;exact zeh I2 ea c n l ry λ j d=>⟨σ,_,d,q2⟩
end
section
variable {X:Cx} {pins:List (Addr×Obj)} {σ:St} {H:Hp} {s:B0} {A:O2} {E:Value->B0->Prop} {Q:Value->B0->Prop} {c:Value} {b:Bool}
inductive TyOf (K:j0) (H:Hp):V->Value->Prop where
 | non:TyOf K H .non (.type "NoneType")
 | bl (x:Bool):TyOf K H (.bl x) (.type "bool")
 | int (i:Int):TyOf K H (.int i) (.type "int")
 | str (x:Str):TyOf K H (.str x) (.type "str")
 | flt (x:UInt64):TyOf K H (.flt x) (.type "float")
 | lst {a:Addr} {xs:List V} (e:H a=some (.lst xs)):TyOf K H (.ref a) (.type "list")
 | frz {a:Addr} {o:Obj} {xs:List V} (e:H a=some (.frz o (.lst xs))):TyOf K H (.ref a) (.type "list")
 | tup {a:Addr} {xs:List V} (e:H a=some (.tup xs)):TyOf K H (.ref a) (.type "tuple")
 | dK {a:Addr} {kvs:List (Key×V)} (e:H a=some (.dK kvs)):TyOf K H (.ref a) (.type "dict")
 | dT {a:Addr} {kvs:List (List Key×V)} (e:H a=some (.dT kvs)):TyOf K H (.ref a) (.type "dict")
 | ins {a C dx:Addr} {fs:List (Str×V)} (e:H a=some (.ins C dx fs)) (cl:Cls K C) (ha:U3 K (.ref C) "__class__" = some (some (.builtin "object.__class__")))
   (hn:j47 K (.builtin "object.__class__") "__get__" = some (some (.builtin "getset_descriptor.__get__"))) (htk:PySem.W.takesIn K (.builtin "object.__class__")=some true)
   (hm:PySem.W.mroIn K C (.type "object")=some true):TyOf K H (.ref a) (.ref C)
theorem zh3 {x:V} {u t:Value} (I:Inv X pins σ H s) (rx:RelV x u) (ty:TyOf X.K H x t) (e:PySem.W.kitOne X.K t c=some b) (h :∀tk,Q (.bool b) { s with toks:=tk }) :
  W0 (N1 X.prog X.w) A (call (.builtin "isinstance") [u,c]) Q E s:=by
 cases ty with
 | non=>cases (show u=K3 from rx);exact Q3 PySem.W.kitx_none I.kIn True.intro e (λ z=>nomatch z) h
 | bl y=>cases (show u=J9 y from rx);exact Q3 PySem.W.kitx_bool I.kIn True.intro e (λ z=>nomatch z) h
 | int i=>obtain ⟨t,q⟩:=(show∃t,u=m9 i t from rx);cases q;exact Q3 PySem.W.kitx_int I.kIn True.intro e (λ z=>nomatch z) h
 | str y=>obtain ⟨t,q⟩:=(show∃t,u=k9 y t from rx);cases q;exact Q3 PySem.W.kitx_str I.kIn True.intro e (λ z=>nomatch z) h
 | flt y=>obtain ⟨t,q⟩:=(show∃t,u=j3j y t from rx);cases q;exact Q3 PySem.W.kitx_float I.kIn True.intro e (λ z=>nomatch z) h
 | @lst a f ea=>
  cases (show u=G1 a from rx);obtain ⟨_,_,n,_,d⟩:=(show ObjOk X.prog X.w H s.heap a (.lst f) from I.hok a _ ea)
  exact Q3 j49 I.kIn ⟨_,d,rfl⟩ e (λ z=>nomatch z) h
 | @frz a ob f ea=>
  cases (show u=G1 a from rx);obtain ⟨_,_,_,n,_,d⟩:=(show ObjOk X.prog X.w H s.heap a (.frz ob (.lst f)) from I.hok a _ ea)
  exact Q3 j49 I.kIn ⟨_,d,rfl⟩ e (λ z=>nomatch z) h
 | @tup a f ea=>
  cases (show u=G1 a from rx);obtain ⟨_,_,_,p,_⟩:=(show ObjOk X.prog X.w H s.heap a (.tup f) from I.hok a _ ea)
  obtain ⟨o,d,g,_⟩:=p;exact Q3 PySem.W.kitx_tuple I.kIn ⟨o,d,g⟩ e (λ z=>nomatch z) h
 | @dK a kvs ea=>
  cases (show u=G1 a from rx);obtain ⟨_,_,l,_,p⟩:=(show ObjOk X.prog X.w H s.heap a (.dK kvs) from I.hok a _ ea)
  obtain ⟨o,k,j,d,g,_⟩:=p;exact Q3 j4a I.kIn ⟨o,d,g.1⟩ e (λ z=>nomatch z) h
 | @dT a kvs ea=>
  cases (show u=G1 a from rx);obtain ⟨_,_,f,_,o,k,j,d,g,_⟩:=(show ObjOk X.prog X.w H s.heap a (.dT kvs) from I.hok a _ ea)
  exact Q3 j4a I.kIn ⟨o,d,g.1⟩ e (λ z=>nomatch z) h
 | @ins a C dx fs ea cl ha hn htk hm=>cases (show u=G1 a from rx);obtain ⟨r,O,_⟩:=zbj I.hok ea;obtain ⟨m,J,_⟩:=O.look;exact Q3 (PySem.W.kitx_own (cl.get _) cl.hd ha hn htk hm) I.kIn J e (λ z=>nomatch z) h
end
structure Room (k:Nat) (A:O2):Prop where
 hd:A.handled=none
 dp:A.depth + 3 * k + 5 < recursionLimit
 un:A.units + 16 * k + 200 < cLine
 gd:A.guards=some []
theorem Room.mono {j k:Nat} {A:O2} (r:Room k A) (h:j<=k):Room j A:=⟨r.hd,by have:=r.dp;omega,by have:=r.un;omega,r.gd⟩
theorem Room.deeper {k:Nat} {A:O2} (r:Room (k + 1) A) (env:Env):Room k (A.deeper env):=
 ⟨r.hd,by have:=r.dp;show A.depth + 1 + 3 * k + 5 < _;omega,by have:=r.un;show A.units + 3 + 16 * k + 200 < _;omega,r.gd⟩
theorem zfh {A:O2} {C:Addr} {us:List Value} {kw:List (Str×Value)}:(A.under (.builtin "type.__call__" ⟨.ref C :: us,kw⟩)).depth=A.depth + 1:=by first|rfl|simp [V9,Code.weight,Code.isCreation,Code.isGuard,Code.isCaller,j4e,j04,guardIds]
theorem zer {A:O2} {C:Addr} {us:List Value} {kw:List (Str×Value)}:(A.under (.builtin "type.__call__" ⟨.ref C :: us,kw⟩)).units=A.units + 1:=by first|rfl|simp [V9,Code.cUnits,j4e,j04]
theorem Room.make {k:Nat} {A:O2} (r:Room (k + 1) A) (C:Addr) (us:List Value) (kw:List (Str×Value)):Room k (A.under (.builtin "type.__call__" ⟨.ref C :: us,kw⟩)):=
 ⟨r.hd,by have:=r.dp;rw [zfh];omega,by have:=r.un;rw [zer];omega,by have h:=r.gd;first|exact h|simp [V9,h,Code.weight,Code.isCreation,Code.isGuard,Code.isCaller,j4e,j04,guardIds]⟩
theorem Room.depth {k:Nat} {A:O2} (r:Room k A):A.depth < recursionLimit:=by have:=r.dp;omega
theorem Room.units {k:Nat} {A:O2} (r:Room k A):A.units + 64 < cLine:=by have:=r.un;omega
def tNil:TA:=λ _ H Q=>Q [] H
def tCons (ta:TE) (tr:TA):TA:=λ σ H Q=>ta σ H λ x H1=>tr σ H1 λ xs H2=>Q (x :: xs) H2
section
variable {X:Cx} {e:Expr} {es:List Expr} {te:TE} {t:TA} {pos:Pos}
theorem pa_nil:PA X [] tNil:=λ _ _ _ _ H Q I h=>M5 ⟨[],H,I,.nil,h⟩
theorem z01 (ha:PE X e te) (hr:PA X es t) (hs:L1 (e :: es) X.env=(false,R3 e X.env) :: L1 es X.env:=by rfl):PA X (e :: es) (tCons te t):=by intro a b s σ H Q I h;rw [hs];show W0 _ _ (j38 ((false,R3 e X.env) :: N4 a (L1 es X.env))) _ _ s;refine Q4 (thn (ha b s σ H _ I h) λ u c ⟨x,H1,I1,r1,q1⟩=>?_);exact thn (hr a b c σ H1 _ I1 q1) λ f d ⟨xs,H2,I2,r2,q2⟩=>⟨x :: xs,H2,I2,.cons r1 r2,q2⟩
def tTup (t:TA):TE:=λ σ H Q=>t σ H λ xs H1=>xs.length<=sizeLine/\∀p,H1 p=none->Q (.ref p) (upd H1 p (.tup xs))
def tLst (t:TA):TE:=λ σ H Q=>t σ H λ xs H1=>xs.length<=sizeLine/\∀p,H1 p=none->Q (.ref p) (upd H1 p (.lst xs))
theorem pe_tup {x1} (h:PA X es t):PE X (.Tuple es x1 pos) (tTup t):=by intro d s σ H Q I g;refine wpAny_Tuple_spliced (thn (h pos d s σ H _ I g) λ f a ⟨xs,H1,I1,r,z,q⟩=>⟨by rw [<-r.length];exact z,?_⟩);have c:H1 a.heap.objs.size=none:=I1.hok.fresh (J0 _);refine ⟨.ref a.heap.objs.size,upd H1 a.heap.objs.size (.tup xs),I1.laid (t':=a.toks) (λ b u e=>I0 _ e) (J0 _) ?_,rfl,q _ c⟩;exact ⟨z,f,r,IsTupN.new _ _⟩
theorem pe_lst (h:PA X es t):PE X (.List es pos) (tLst t):=by intro d s σ H Q I g;refine wpAny_List_spliced (thn (h pos d s σ H _ I g) λ f a ⟨xs,H1,I1,r,z,q⟩=>⟨by rw [<-r.length];exact z,?_⟩);have c:H1 a.heap.objs.size=none:=I1.hok.fresh (J0 _);refine ⟨.ref a.heap.objs.size,upd H1 a.heap.objs.size (.lst xs),I1.laid (t':=a.toks) (λ b u e=>I0 _ e) (J0 _) ?_,rfl,q _ c⟩;exact ⟨z,f,0,r,D1 _ rfl⟩
end
abbrev Sp:=List V->Hp->VK->XK->Prop
abbrev CXT:=List Env->Hp->B0->XK->Value->B0->Prop
structure Env0 (P:Program) (w:C1) (K:j0) (mg:Str->Option Value) (base:Heap) (A:O2) (outer:List Env) (s:B0) (H:Hp):Prop where
 frames:A.frames=some outer
 mod:Mod K mg base
 bs :∀b o,base.get? b=some o->s.heap.get? b=some o/\H b=none
 bsz:base.objs.size<=s.heap.objs.size
 funs:s.heap.FunFrames base outer
 frf :∀b∈frs outer,H b=none
 hok:HOk P w H s.heap
 bare:P8 s.gens
def CE (outer:List Env) (P:Program) (w:C1) (H:Hp) (s:B0) (Q:VK) (u:Value) (s':B0):Prop:=
 ∃v H',s'.os=s.os/\P8 s'.gens/\Un (frs outer) [] H H' s.heap s'.heap/\HOk P w H' s'.heap/\RelV v u/\Q v H'
def CR (CX:CXT) (outer:List Env) (P:Program) (w:C1) (H:Hp) (s:B0) (Q:VK) (E:XK) (r:j20) (s':B0):Prop:=
 match r with
 | .ok (.ret u)=>CE outer P w H s Q u s'
 | .ok _=>False
 | .error e=>CX outer H s E e s'
structure FnOk (P:Program) (w:C1) (K:j0) (mg:Str->Option Value) (base:Heap) (CX:CXT) (k:Nat) (f:Addr) (fd:FuncData) (ps:List Str) (sp:Sp):Prop where
 len :∀vs H Q E,sp vs H Q E->vs.length=ps.length
 run :∀(A:O2) (outer:List Env) (s:B0) (H:Hp) (args:Args) (us:List Value) (vs:List V) (Q:VK) (E:XK),Room k A->Env0 P w K mg base A outer s H->BindsTo s fd args (ps.zip us)->Vals vs us->sp vs H Q E->
  B5 (N1 P w) A (.call (.ref f) args) (CR CX outer P w H s Q E) s
theorem Env0.make {P:Program} {w:C1} {K:j0} {mg:Str->Option Value} {base:Heap} {A:O2} {outer:List Env} {s:B0} {H:Hp} (e:Env0 P w K mg base A outer s H) (C:Addr) (us:List Value) (kw:List (Str×Value)) :
  Env0 P w K mg base (A.under (.builtin "type.__call__" ⟨.ref C :: us,kw⟩)) outer s H:=⟨by first|exact e.frames|(simpa [V9,Code.envs,j04,pushEnvs] using e.frames),e.mod,e.bs,e.bsz,e.funs,e.frf,e.hok,e.bare⟩
section
variable {X:Cx} {pins:List (Addr×Obj)} {σ:St} {H:Hp} {s s':B0}
theorem Inv.env0 (I:Inv X pins σ H s):Env0 X.prog X.w X.K X.mg X.base X.A X.stack s H:=
 ⟨I.ok.frames,I.ok.mod,I.bs,O0 I.ok.bsz I.sz,I.stack,I.stkFree,I.hok,I.bare⟩
theorem Inv.after {Q:VK} {u:Value} (I:Inv X pins σ H s) (h:CE X.stack X.prog X.w H s Q u s'):EP X pins σ Q u s':=by obtain ⟨v,f,a,i,un,j,r,q⟩:=h;obtain ⟨e,g,d,t,c⟩:=s';obtain rfl:c=s.os:=a;exact ⟨v,f,I.call (h':=e) (g':=g) (d':=d) (t':=t) (ch:=[]) un j i (λ b z=>absurd z (by simp)),r,q⟩
end
def tCall (sp:Sp) (dvs:List V) (E:XK) (t:TA):TE:=λ σ H Q=>t σ H λ vs H1=>sp (vs++dvs) H1 Q E
def tMeth (C:Addr) (m:Str) (sp:Sp) (dvs:List V) (E:XK) (ta:TE) (t:TA):TE:=λ σ H Q=>ta σ H λ x H1=>∃a dx fs,x=.ref a/\H1 a=some (.ins C dx fs)/\fs.lookup m=none/\
 t σ H1 λ vs H2=>sp (x :: (vs++dvs)) H2 Q E
def tMake (C:Addr) (sp:Sp) (dvs:List V) (E:XK) (t:TA):TE:=λ σ H Q=>t σ H λ vs H1=>∀x dx,H1 x=none->H1 dx=none->dx≠x->
 sp (.ref x :: (vs++dvs)) (upd (upd H1 dx (.own x)) x (.ins C dx [])) (λ v H2=>v=.non/\Q (.ref x) H2) E
def Binds (K:j0) (fd:FuncData) (ps:List Str) (ds:List Value):Prop:=
 ∀(s:B0) (us:List Value),K.In s.heap->(us++ds).length=ps.length->BindsTo s fd ⟨us,[]⟩ (ps.zip (us++ds))
theorem Binds.all {K:j0} {fd:FuncData} {ps:List Str} (h :∀us:List Value,us.length=ps.length->bindArgs fd ⟨us,[]⟩=X3 (ps.zip us)):Binds K fd ps []:=λ s us _ a=>by rw [F2] at a⊢;exact .of_eq (h us a)
def Passes (CX:CXT) (X:Cx) (E:XK):Prop:=∀(pins:List (Addr×Obj)) (σ:St) (H:Hp) (s:B0) (e:Value) (s':B0),Inv X pins σ H s->CX X.stack H s E e s'->X.xe e s'
section
variable {X:Cx} {CX:CXT} {k:Nat} {f C:Addr} {fd:FuncData} {ps:List Str} {sp:Sp} {dvs:List V} {ds:List Value} {E:XK} {x m:Str} {p pos apos:Pos} {e o:Expr} {es:List Expr} {ta:TE} {t:TA}
theorem run_fn {pins:List (Addr×Obj)} {σ:St} {H:Hp} {s:B0} {Q:VK} {us:List Value} {vs:List V} (F:FnOk X.prog X.w X.K X.mg X.base CX k f fd ps sp) (hr:Room k X.A) (hb:Binds X.K fd ps ds) (hd:Vals dvs ds) (hx:Passes CX X E)
  (I:Inv X pins σ H s) (r:Vals vs us) (h:sp (vs++dvs) H Q E):W0 (N1 X.prog X.w) X.A (call (.ref f) us) (EP X pins σ Q) X.xe s:=by
 have b:Vals (vs++dvs) (us++ds):=r.append hd;have d:(us++ds).length=ps.length:=by rw [<-b.length];exact F.len _ _ _ _ h
 refine j3c (A6 (F.run X.A X.stack s H ⟨us,[]⟩ (us++ds) (vs++dvs) Q E hr I.env0 (hb s us I.kIn d) b h) λ r c a=>?_);cases r with
 | error e=>exact hx pins σ H s e c I a
 | ok fl=>
  cases fl with
  | ret u=>exact I.after a
  | next=>exact E4 a
  | brk=>exact E4 a
  | cont=>exact E4 a
theorem zf5 (F:FnOk X.prog X.w X.K X.mg X.base CX k f fd ps sp) (hr:Room k X.A) (hg:Gl X x) (hm:X.mg x=some (.ref f)) (hk:Y4 X.K (.ref f)=true) (hb:Binds X.K fd ps ds) (hd:Vals dvs ds) (hx:Passes CX X E)
  (ha:PA X (e :: es) t) (hdb:(x == ("__debug__" : Str))=false:=by decide) (he:L1 (e :: es) X.env=(false,R3 e X.env) :: L1 es X.env:=by rfl) (hpl:(N4 pos (L1 es X.env)).any (·.1)=false:=by rfl) :
  PE X (.Call (.Name x p) (e :: es) [] pos) (tCall sp dvs E t):=by
 intro a s σ H Q I h;refine C4 (zbd I hg hm ?_ hdb);refine A9 (h₀:=X.base) I.ok.mod.kin hk (thn (ha pos a s σ H _ I h) λ c b ⟨vs,H1,I1,r,q⟩=>⟨I1.kIn,?_⟩) he hpl;exact run_fn F hr hb hd hx I1 r q
theorem z2r {pl:Sem Bool} (he:PE X o ta) (c:Cls X.K C) (hm:Meth X.K C m f) (F:FnOk X.prog X.w X.K X.mg X.base CX k f fd ps sp) (hr:Room k X.A) (hb:Binds X.K fd ps ds) (hd:Vals dvs ds) (hx:Passes CX X E) (ha:PA X (e :: es) t)
  (hst:L1 (e :: es) X.env=(false,R3 e X.env) :: L1 es X.env:=by rfl) (hpl:(N4 pos (L1 es X.env)).any (·.1)=false:=by rfl)
  (ht:R3 (.Call (.Attribute o m apos) (e :: es) [] pos) X.env=(do
   let ov <-R3 o X.env
   j37 apos.atName
   let (f,first) <-z9 [ov] (getMethod ov m pl)
   callWith pos f first (N4 pos (L1 (e :: es) X.env)) (b9 pos (T6 [] X.env))):=by rfl) :
  PE X (.Call (.Attribute o m apos) (e :: es) [] pos) (tMeth C m sp dvs E ta t):=by
 intro b s σ H Q I h;refine PySem.W.methodCall_KW (pl:=pl) (thn (he b s σ H _ I h) λ u d ⟨x,H1,I1,rx,a,dx,fs,ex,ea,l,q⟩=>?_) ht;subst ex;obtain rfl:u=G1 a:=rx;refine zfm I1 ea c hm l ?_;refine A9 (first:=[.ref a]) (h₀:=X.base) I.ok.mod.kin hm.kp (thn (ha pos b d σ H1 _ I1 q) λ us g ⟨vs,H2,I2,r,q2⟩=>⟨I2.kIn,?_⟩) hst hpl;exact run_fn (us:=.ref a :: us) (vs:=.ref a :: vs) F hr hb hd hx I2 (.cons rfl r) q2
structure Mk (K:j0) (C f:Addr):Prop where
 makes:PySem.W.makesIn K C=true
 init:U3 K (.ref C) "__init__" = some (some (.ref f))
 fn:j21 K (.ref f)=true
 kp:Y4 K (.ref C)=true
theorem zj7 {pins:List (Addr×Obj)} {σ:St} {H:Hp} {s:B0} {Q:VK} {us:List Value} {vs:List V} (M:Mk X.K C f) (F:FnOk X.prog X.w X.K X.mg X.base CX k f fd ps sp) (hr:Room (k + 1) X.A) (hb:Binds X.K fd ps ds) (hd:Vals dvs ds)
  (hx:Passes CX X E) (I:Inv X pins σ H s) (r:Vals vs us)
  (h :∀x dx,H x=none->H dx=none->dx≠x->sp (.ref x :: (vs++dvs)) (upd (upd H dx (.own x)) x (.ins C dx [])) (λ v H2=>v=.non/\Q (.ref x) H2) E) :
  W0 (N1 X.prog X.w) X.A (call (.ref C) us) (EP X pins σ Q) X.xe s:=by
 have d:=h (s.heap.objs.size + 1) s.heap.objs.size (I.hok.fresh (W2 _)) (I.hok.fresh (J0 _)) (B1 (C3 _));have b:=Inv.made (C:=C) I;have c:Vals (V.ref (s.heap.objs.size + 1) :: (vs++dvs)) (G1 (s.heap.objs.size + 1) :: (us++ds)):=.cons rfl (r.append hd);have o:(G1 (s.heap.objs.size + 1) :: us++ds).length=ps.length:=by have e:=c.length;rw [F.len _ _ _ _ d] at e;exact e.symm
 refine j3c (zit (f:=f) I.kIn M.makes M.init (beq_iff_eq.mp M.fn) (A6 (F.run _ X.stack _ _ ⟨G1 (s.heap.objs.size + 1) :: us,[]⟩ (G1 (s.heap.objs.size + 1) :: (us++ds)) _ _ E (hr.make C us [])
  (b.env0.make C us []) (hb _ (G1 (s.heap.objs.size + 1) :: us) b.kIn o) c d) λ r m a=>?_))
 cases r with
 | error e=>exact hx pins σ _ _ e m b a
 | ok fl=>
  cases fl with
  | ret u=>obtain ⟨v,j,i,g,l,n⟩:=b.after a;subst l;exact ⟨g,⟨V.ref (s.heap.objs.size + 1),j,i,rfl,n⟩⟩
  | next=>exact E4 a
  | brk=>exact E4 a
  | cont=>exact E4 a
theorem z72 (M:Mk X.K C f) (F:FnOk X.prog X.w X.K X.mg X.base CX k f fd ps sp) (hr:Room (k + 1) X.A) (hg:Gl X x) (hm:X.mg x=some (.ref C)) (hb:Binds X.K fd ps ds) (hd:Vals dvs ds) (hx:Passes CX X E)
  (ha:PA X (e :: es) t) (hdb:(x == ("__debug__" : Str))=false:=by decide) (he:L1 (e :: es) X.env=(false,R3 e X.env) :: L1 es X.env:=by rfl) (hpl:(N4 pos (L1 es X.env)).any (·.1)=false:=by rfl) :
  PE X (.Call (.Name x p) (e :: es) [] pos) (tMake C sp dvs E t):=by
 intro a s σ H Q I h;refine C4 (zbd I hg hm ?_ hdb);refine A9 (h₀:=X.base) I.ok.mod.kin M.kp (thn (ha pos a s σ H _ I h) λ c b ⟨vs,H1,I1,r,q⟩=>⟨I1.kIn,?_⟩) he hpl;exact zj7 M F hr hb hd hx I1 r q
end
def PK (X:Cx) (kws:List K6) (t:TA):Prop:=
 ∀(pos:Pos) (pins:List (Addr×Obj)) (s:B0) (σ:St) (H:Hp) (Q:List V->Hp->Prop),Inv X pins σ H s->t σ H Q->W0 (N1 X.prog X.w) X.A (evalAll ((b9 pos (T6 kws X.env)).map (·.2))) (AP X pins σ Q) X.xe s
section
variable {X:Cx} {CX:CXT} {k:Nat} {f C:Addr} {fd:FuncData} {ps ks:List Str} {sp:Sp} {E:XK} {x m:Str} {p pos apos kpos:Pos} {e o:Expr} {es:List Expr} {kws:List K6} {te ta:TE} {t tk:TA} {nm:Option Str}
structure KBinds (K:j0) (fd:FuncData) (ps ks:List Str) (g:List Value->List Value->List Value) (gV:List V->List V->List V):Prop where
 to :∀(s:B0) (us ws:List Value),K.In s.heap->(g us ws).length=ps.length->BindsTo s fd ⟨us,ks.zip ws⟩ (ps.zip (g us ws))
 rel :∀{vs:List V} {us:List Value} {zs:List V} {ws:List Value},Vals vs us->Vals zs ws->Vals (gV vs zs) (g us ws)
variable {g:List Value->List Value->List Value} {gV:List V->List V->List V}
end
structure FnScope (N P:List Str) (sc:Scope):Prop where
 kind:sc.kind=.function
 co:sc.isCoroutine=false
 gen:sc.isGenerator=false
 nd:N.Nodup
 pre:N.take P.length=P
 par :∀x∈P,sc.names.lookup x=some .local\/sc.names.lookup x=some .cell
 nofree :∀y∈sc.names,y.2≠.free
theorem zbr {kindOf:Str->Option w6} {x:Str} :∀{binds:List (Str×Value)} {m:Str->Option Value},(∀v,(x,v)∉binds)->bindL kindOf binds m x=m x
 | [],_,_=>rfl
 | (n,v) :: r,m,h=>by
  unfold bindL;rw [zbr λ w a=>h w (Q1 _ a)];split
  ·have:x≠n:=by rintro rfl;exact h v V1
   simp [this]
  ·rfl
theorem zbn {kindOf:Str->Option w6} {x:Str} :∀{binds:List (Str×Value)} {m:Str->Option Value},(∀v,(x,v)∉binds)->bindC kindOf binds m x=m x
 | [],_,_=>rfl
 | (n,v) :: r,m,h=>by
  unfold bindC;rw [zbn λ w a=>h w (Q1 _ a)];split
  ·rfl
  ·have:x≠n:=by rintro rfl;exact h v V1
   simp [this]
theorem zby {kindOf:Str->Option w6} {x:Str} {v:Value} :∀{P:List Str} {vs:List Value} {i:Nat} {m:Str->Option Value},P.Nodup->P[i]? = some x->vs[i]? = some v->kindOf x=some .local->
  bindL kindOf (P.zip vs) m x=some v
 | [],_,_,_,_,h,_,_=>by simp at h
 | _ :: _,[],_,_,_,_,h,_=>by simp at h
 | p :: P,w :: vs,0,m,nd,h1,h2,hk=>by simp at h1 h2;subst h1;subst h2;show bindL kindOf ((p,w) :: P.zip vs) m p=_;unfold bindL;rw [zbr λ v a=>(List.nodup_cons.mp nd).1 (j14 a).1,if_pos hk];simp
 | p :: P,w :: vs,i + 1,m,nd,h1,h2,hk=>by show bindL kindOf ((p,w) :: P.zip vs) m x=_;unfold bindL;exact zby (i:=i) (List.nodup_cons.mp nd).2 (by simpa using h1) (by simpa using h2) hk
theorem zc3 {kindOf:Str->Option w6} {x:Str} {v:Value} :∀{P:List Str} {vs:List Value} {i:Nat} {m:Str->Option Value},P.Nodup->P[i]? = some x->vs[i]? = some v->kindOf x≠some .local->
  bindC kindOf (P.zip vs) m x=some v
 | [],_,_,_,_,h,_,_=>by simp at h
 | _ :: _,[],_,_,_,_,h,_=>by simp at h
 | p :: P,w :: vs,0,m,nd,h1,h2,hk=>by simp at h1 h2;subst h1;subst h2;show bindC kindOf ((p,w) :: P.zip vs) m p=_;unfold bindC;rw [zbn λ v a=>(List.nodup_cons.mp nd).1 (j14 a).1,if_neg hk];simp
 | p :: P,w :: vs,i + 1,m,nd,h1,h2,hk=>by show bindC kindOf ((p,w) :: P.zip vs) m x=_;unfold bindC;exact zc3 (i:=i) (List.nodup_cons.mp nd).2 (by simpa using h1) (by simpa using h2) hk
def start (N:List Str) (vs:List V):St:=vs.map some++P0 (N.length - vs.length) none
def cxOf (CX:CXT) (P:Program) (w:C1) (K:j0) (mg:Str->Option Value) (base:Heap) (N:List Str) (qual:Str) (scope:Scope) (f:Addr) (cd:Value) (A:O2) (outer:List Env) (s:B0) (H:Hp) (E:XK):Cx where
 prog:=P
 w:=w
 K:=K
 mg:=mg
 base:=base
 A:=A.deeper (G4 qual scope s.heap.objs.size f cd)
 N:=N
 s₀:=s
 H₀:=H
 env:=G4 qual scope s.heap.objs.size f cd
 outer:=outer
 stack:=G4 qual scope s.heap.objs.size f cd :: outer
 ex:=[]
 calm:=true
 fn:=λ _=>true
 pn:=[]
 xe:=λ e s'=>W0 (N1 P w) (A.deeper (G4 qual scope s.heap.objs.size f cd)) («leaving» (G4 qual scope s.heap.objs.size f cd) e) (λ _ s''=>CX outer H s E e s'') (λ e' s''=>CX outer H s E e' s'') s'
theorem zf6 {sc:Scope} {n:Nat} {x:Str} (h:sc.names.lookup x=some .cell) :∃c,(cellsFrom n sc.names []).lookup x=some c:=by have q:=j22 sc.names n [] (.inl h);exact Option.isSome_iff_exists.mp q
theorem zg1 {CX:CXT} {P:Program} {w:C1} {K:j0} {mg:Str->Option Value} {base:Heap} {N ps:List Str} {qual:Str} {scope:Scope} {f:Addr} {cd:Value} {A:O2} {outer:List Env} {s s1:B0} {H:Hp} {E:XK} {us:List Value} {vs:List V}
  (S:FnScope N ps scope) (hd:A.handled=none) (e0:Env0 P w K mg base A outer s H) (hl:vs.length=ps.length) (r:Vals vs us)
  (x:InCallC s s.heap.objs.size (bindL (G4 qual scope s.heap.objs.size f cd).kindOf (ps.zip us) λ _=>none) (cellsFrom (s.heap.objs.size + 1) scope.names []) (bindC (G4 qual scope s.heap.objs.size f cd).kindOf (ps.zip us) λ _=>none) s1) :
  Inv (cxOf CX P w K mg base N qual scope f cd A outer s H E) [] (start N vs) H s1:=by
 have J:ps.length<=N.length:=by have:=congrArg j4d S.pre;rw [Y6] at this;omega
 obtain ⟨l,G,rfl,t⟩:=x.done;have o :∀b:Addr,b∉(cxOf CX P w K mg base N qual scope f cd A outer s H E).ex:=λ b z=>absurd (show b∈([]:List Addr) from z) (by simp);refine ⟨⟨e0.mod,S.kind,rfl,rfl,J0 _,λ y z c l d=>?_,λ y g=>?_,λ y c _ h=>?_,λ _=>hd,Around.frames_deeper e0.frames,.inr ⟨rfl,rfl⟩,λ b z=>absurd z (o b),e0.bs,e0.bsz,λ b _ _=>o b,λ b z=>absurd z (o b),e0.funs,e0.frf⟩,
  rfl,e0.bare,Un.kept t,⟨_,x.toInCall.ns,λ i y v l d I=>?_⟩,λ y c h=>⟨_,x.cell y c h⟩,e0.hok.fresh (J0 _),λ y c h=>?_,λ p j=>absurd (show p∈([]:List (Addr×Obj)) from j) (by simp),e0.hok.kept t,?_⟩
 ·exact name_of_addr x.apart (a6 l) (a6 d)
 ·have g:scope.names.lookup y=some .cell\/scope.names.lookup y=some .free:=g;rcases g with g|g
  ·exact zf6 g
  ·exact absurd rfl (S.nofree _ (a6 g))
 ·exact T8 (x.above y c (a6 h))
 ·have m:i < vs.length:=by
   unfold start at d;by_cases m:i < vs.length
   ·exact m
   ·rw [Z0 (by simpa using m)] at d;rw [v5] at d;split at d<;>cases d
  have F:vs[i]? = some v:=by
   unfold start at d;rw [F1 (by simpa using m),N0] at d;cases e:vs[i]? with
   | none=>rw [e] at d;cases d
   | some a=>rw [e] at d;cases d;rfl
  obtain ⟨u,B,D⟩:=r.get F;have j:ps[i]? = some y:=by rw [<-S.pre,List.getElem?_take_of_lt (by omega)];exact l
  have C:ps.Nodup:=by rw [<-S.pre];exact S.nd.sublist (List.take_sublist _ _)
  refine ⟨u,D,?_⟩;rcases S.par y (T0 j) with k|k
  ·exact .inl ⟨k,zby C j B k⟩
  ·obtain ⟨c,e⟩:=zf6 (n:=s.heap.objs.size + 1) k;refine .inr ⟨.inl k,c,e,?_⟩;have q:=x.cell y c e;rw [zc3 C j B (by show scope.names.lookup y≠_;rw [k];decide)] at q;exact q
 ·exact e0.hok.fresh (T8 (x.above y c (a6 h)))
 ·unfold start;show _=N.length;rw [F0,C0,C2];omega
theorem fn_of {CX:CXT} {P:Program} {w:C1} {K:j0} {mg:Str->Option Value} {base:Heap} {k:Nat} {f:Addr} {name qual:Str} {params:Arguments} {body:List Stmt} {scope:Scope} {dV kV doc pm cdv ct oc:Value} {an od:Option Addr}
  {osl:Array (Option Value)} {N ps:List Str} {sp:Sp} (lk:K.lookup f=some ⟨oc,od,.func (E6 name qual params body scope dV kV doc pm an cdv ct),osl⟩) (hcd:S8 K cdv qual=true) (S:FnScope N ps scope)
  (len :∀vs H Q E,sp vs H Q E->vs.length=ps.length)
  (hbody :∀(A:O2) (outer:List Env) (s:B0) (H:Hp) (vs:List V) (Q:VK) (E:XK),Room k (A.deeper (G4 qual scope s.heap.objs.size f cdv))->sp vs H Q E->
   ∃t,PSs (cxOf CX P w K mg base N qual scope f cdv A outer s H E) body t/\t { nx:=λ _ H'=>Q .non H',rt:=Q } (start N vs) H) :
  FnOk P w K mg base CX (k + 1) f (E6 name qual params body scope dV kV doc pm an cdv ct) ps sp:=by
 refine ⟨len,λ A outer s H M B vs Q E h c m r j=>?_⟩;have D:=len _ _ _ _ j;have KX:K.In s.heap:=c.mod.kin.keeps λ b o e=>(c.bs b o e).1;have F:s.heap.NoLimit:=c.mod.nolimit.keeps λ b o e=>(c.bs b o e).1;have z :∀y∈ps.zip B,scope.names.lookup y.1=some .local\/(scope.names.lookup y.1=some .cell/\((cellsFrom (s.heap.objs.size + 1) scope.names []).lookup y.1).isSome=true):=λ ⟨n,v⟩ hy=>by
  rcases S.par n (j14 hy).1 with q|q
  ·exact .inl q
  ·exact .inr ⟨q,j22 _ _ _ (.inl q)⟩
 refine codeAny_call_function h.depth (KX _ _ lk) rfl S.co S.gen rfl (PySem.W.codeRec_of KX hcd) (m _ _ _ _ ?_);refine wpAny_newFunctionEnv_cells S.kind z λ O G l x=>?_;subst G;refine ⟨F.keeps x.toInCall.keep,codeAny_func ?_⟩;obtain ⟨t,L,p⟩:=hbody A outer s H vs Q E (h.deeper _) j;have I:Inv (cxOf CX P w K mg base N qual scope f cdv A outer s H E) [] (start N vs) H l:=zg1 S h.hd c D r x;refine w4 (L [] l (start N vs) H _ I p) (λ C i a=>?_) λ e i a=>a;have fin :∀{d:St} {H':Hp} {v:V} {u:Value},Inv (cxOf CX P w K mg base N qual scope f cdv A outer s H E) [] d H' i->RelV v u->Q v H'->CE outer P w H s Q u i:=
  λ {d H' v u} J g q=>⟨v,H',J.os,J.bare,J.base,J.hok,g,q⟩
 cases C with
 | ret u=>obtain ⟨v,d,H',J,g,q⟩:=a;exact fin J g q
 | next=>obtain ⟨d,H',J,q⟩:=a;exact fin (v:=V.non) (u:=K3) J rfl q
 | brk=>obtain ⟨_,_,_,q⟩:=a;exact E4 q
 | cont=>obtain ⟨_,_,_,q⟩:=a;exact E4 q
section
variable {X:Cx} {x:Str} {p pos:Pos} {e:Expr} {es:List Expr} {t:TA} {id T:String} {r:List V->Hp->VK->Prop}
def tCB (r:List V->Hp->VK->Prop) (t:TA):TE:=λ σ H Q=>t σ H λ vs H1=>r vs H1 Q
theorem z07 (hc:CallR X (.builtin id) r) (hg:Gl X x) (hm:X.mg x=none) (hv:b5 x=some (.builtin id)) (ha:PA X (e :: es) t) (hn:x≠"__name__":=by decide) (hdb:(x == ("__debug__" : Str))=false:=by decide)
  (he:L1 (e :: es) X.env=(false,R3 e X.env) :: L1 es X.env:=by rfl) (hpl:(N4 pos (L1 es X.env)).any (·.1)=false:=by rfl):PE X (.Call (.Name x p) (e :: es) [] pos) (tCB r t):=by
 intro a s σ H Q I h;refine C4 (ld_blt I hg hm hv ?_ hn hdb);exact B6 (thn (ha pos a s σ H _ I h) λ c b ⟨vs,H1,I1,r1,q1⟩=>hc a b σ H1 vs c Q I1 r1 q1) he hpl
theorem z5f (hc:CallR X (.type T) r) (hg:Gl X x) (hm:X.mg x=none) (hv:b5 x=some (.type T)) (ha:PA X (e :: es) t) (hn:x≠"__name__":=by decide) (hdb:(x == ("__debug__" : Str))=false:=by decide)
  (he:L1 (e :: es) X.env=(false,R3 e X.env) :: L1 es X.env:=by rfl) (hpl:(N4 pos (L1 es X.env)).any (·.1)=false:=by rfl):PE X (.Call (.Name x p) (e :: es) [] pos) (tCB r t):=by
 intro a s σ H Q I h;refine C4 (ld_blt I hg hm hv ?_ hn hdb);exact B4 (thn (ha pos a s σ H _ I h) λ c b ⟨vs,H1,I1,r1,q1⟩=>hc a b σ H1 vs c Q I1 r1 q1) he hpl
end
end L2
namespace HT
open PySem PyProof.Rows
section
variable {prog:Program} {w:C1} {A:O2} {E:Value->B0->Prop} {s:B0}
theorem cat_tup {t b:Addr} {vs ws:List Value} {Q:Value->B0->Prop} (ht:IsTup s.heap t vs.toArray) (hb:IsTup s.heap b ws.toArray) (hv:vs≠[])
  (h1:ws=[]->Q (.ref t) s) (h2:ws≠[]->Q (.ref s.heap.objs.size) { s with heap:=s.heap.push { cls:=.type "tuple",data:=.seq (vs++ws).toArray } })
  (hsz:vs.length + ws.length<=sizeLine):W0 (N1 prog w) A (v6 .Add (.ref t) (.ref b)) Q E s:=by
 obtain ⟨⟨cls,m,data,h⟩,a,g,n,d⟩:=id ht;obtain ⟨⟨p,j,o,l⟩,c,f,i,k⟩:=id hb;simp only at g d f k;subst g d f k;have e:vs.toArray++ws.toArray=(vs++ws).toArray:=by simp
 by_cases hw:ws=[]
 ·exact concat_meets ⟨_,a,rfl⟩ ⟨_,c,rfl⟩ noFill_tuple_add seq_tuple_add j24 j1f (j1b _ _)
   (tuple_addW1 t b vs.toArray ws.toArray n i m j h l (by simpa using hv) (by simp [hw])) ⟨a,c,h1 hw⟩
 ·refine concat_meets ⟨_,a,rfl⟩ ⟨_,c,rfl⟩ noFill_tuple_add seq_tuple_add j24 j1f (j1b _ _)
   (tuple_addW2 t b vs.toArray ws.toArray n i m j h l (by simpa using hv) (by simpa using hw) (by rw [X0,X0];exact hsz)) ⟨a,c,?_⟩
  rw [e];exact h2 hw
def sIx (n d:Nat):Option Int->Nat
 | none=>d
 | some v=>if v < 0 then (v + (n:Int)).toNat else min v.toNat n
theorem sIx_nat (n d k:Nat):sIx n d (some (k:Int))=min k n:=by show (if (k:Int) < 0 then ((k:Int) + (n:Int)).toNat else min (k:Int).toNat n)=min k n;rw [if_neg (by omega),S5]
theorem sIx_le (n d:Nat) (hd:d<=n) (o:Option Int):sIx n d o<=n:=by
 cases o with
 | none=>exact hd
 | some v=>
  show (if v < 0 then (v + (n:Int)).toNat else min v.toNat n)<=n;by_cases hv:v < 0
  ·rw [if_pos hv];omega
  ·rw [if_neg hv];exact Nat.min_le_right _ _
theorem zi6 (v:Int) (n d:Nat):(if v < 0 then max (v + (n:Int)) 0 else min v (n:Int))=((sIx n d (some v):Nat):Int):=by
 show (if v < 0 then max (v + (n:Int)) 0 else min v (n:Int))=(((if v < 0 then (v + (n:Int)).toNat else min v.toNat n):Nat):Int);by_cases hv:v < 0
 ·simp only [if_pos hv];omega
 ·simp only [if_neg hv];omega
theorem zfb (lo hi:Option Int) (n:Nat):o7 lo hi 1 (n:Int)=(((sIx n 0 lo:Nat):Int),((sIx n n hi:Nat):Int)):=by
 have a:¬ ((1:Int) < 0):=by omega
 unfold o7;simp only [a,if_false];refine j1h ?_ ?_
 ·cases lo with
  | none=>rfl
  | some v=>exact zi6 v n 0
 ·cases hi with
  | none=>rfl
  | some v=>exact zi6 v n n
theorem zfn (i j:Nat):F5 (i:Int) (j:Int) 1=j - i:=by
 unfold F5;have a:(1:Int) > 0:=by omega
 simp only [a,if_true,Int.ediv_one];split<;>omega
theorem z9o {v:Value} {o:Option Int} {Q:Option Int->B0->Prop} (p:j12 v o) (h:Q o s):W0 (N1 prog w) A (Builtin.Slice.slicePartIndex v) Q E s:=by
 cases p with
 | none=>exact slicePart_none h
 | int i t=>exact slicePart_int h
theorem z5k {sl:Addr} {vl vu:Value} {lo hi:Option Int} {n:Nat} {Q:Int×Int×Nat->B0->Prop} (hs:s.heap.IsSliceOf sl vl vu .none) (pl:j12 vl lo) (pu:j12 vu hi)
  (h:Q (((sIx n 0 lo:Nat):Int),1,sIx n n hi - sIx n 0 lo) s):W0 (N1 prog w) A (R9 (.ref sl) (X3 (n:Int))) Q E s:=by
 obtain ⟨c,b,d,a⟩:=id hs;unfold R9 Builtin.Slice.sliceFields;refine o0 (o0 (wpAny_field b a (x:=vl) rfl (o0 (wpAny_field b a (x:=vu) rfl (o0 (wpAny_field b a (x:=.none) rfl (G0 ?_)))))));refine o0 (slicePart_none ?_);show W0 _ _ (if ((1:Int) == 0)=true then _ else _) _ _ s;rw [if_neg (by decide)];refine o0 (z9o pl (o0 (z9o pu (o0 (G0 ?_)))));show W0 _ _ (match o7 lo hi 1 (n:Int) with|(lo,hi)=>X3 (lo,(1:Int),F5 lo hi 1)) _ _ s;rw [zfb lo hi n];show W0 _ _ (X3 (((sIx n 0 lo:Nat):Int),(1:Int),F5 ((sIx n 0 lo:Nat):Int) ((sIx n n hi:Nat):Int) 1)) _ _ s;rw [zfn];exact G0 h
theorem zjb (xs:Array Value) (i k:Nat):((U0 k).filterMap λ (m:Nat)=>xs[((i:Int) + (m:Int) * 1).toNat]?).toArray=((xs.toList.drop i).take k).toArray:=by
 have e:(λ (m:Nat)=>xs[((i:Int) + (m:Int) * 1).toNat]?)=λ m=>xs[i + m]?:=by
  funext m;have:((i:Int) + (m:Int) * 1).toNat=i + m:=by omega
  rw [this]
 rw [e];have:=pick_run xs i k;rw [List.filterMap_map] at this;have a:((λ x=>xs[x]?) ∘ λ x=>i + x)=λ m=>xs[i + m]?:=rfl;rw [a] at this;rw [this]
theorem getItem_tuple_cut {t sl:Addr} {items:Array Value} {vl vu:Value} {lo hi:Option Int} {Q:Value->B0->Prop} (ht:IsTup s.heap t items) (hs:s.heap.IsSliceOf sl vl vu .none) (pl:j12 vl lo) (pu:j12 vu hi)
  (hw:¬ (sIx items.size 0 lo=0/\sIx items.size items.size hi=items.size))
  (h:Q (.ref s.heap.objs.size) { s with heap:=s.heap.push { cls:=.type "tuple",data:=.seq ((items.toList.drop (sIx items.size 0 lo)).take (sIx items.size items.size hi - sIx items.size 0 lo)).toArray } })
  (hsz:items.size<=sizeLine):W0 (N1 prog w) A (j00 (.ref t) (.ref sl)) Q E s:=by
 have a:sizeOk (.seq ((items.toList.drop (sIx items.size 0 lo)).take (sIx items.size items.size hi - sIx items.size 0 lo)).toArray):=by show ((items.toList.drop (sIx items.size 0 lo)).take (sIx items.size items.size hi - sIx items.size 0 lo)).toArray.size<=sizeLine;rw [X0,Y6,j0h,N2];omega
 have k:sIx items.size items.size hi<=items.size:=sIx_le _ _ (J0 _) hi;obtain ⟨b,f,d,i⟩:=id hs;have e:s.TypeIs (.ref sl) "slice":=⟨b,f,d⟩
 unfold j00
 try with_reducible refine Z1 ?_
 first|refine o0 (G0 ?_)|skip
 refine o0 (wpAny_sequenceKey ht.typeIs (by decide) ?_);refine o0 (wpAny_callSpecial?_slot (name:=O3 "__getitem__") ht.typeIs f9
  (Z8 f9 ht.typeIs entry_tuple_getitem ?_ (args_tuple_getitem _ _)))
 show W0 _ _ (Builtin.Tuple.tupleItemsOf (.ref t) >>= _) _ _ s;refine o0 (tupleItemsOf_ ht ?_);refine o0 (Y7 e ?_);rw [if_pos (by decide)];refine o0 (z5k hs pl pu ?_);have c:¬ ((((sIx items.size 0 lo:Nat):Int) == 0 && (1:Int) == 1 && (sIx items.size items.size hi - sIx items.size 0 lo) == items.size)=true):=by intro q;rw [P4,P4] at q;have g:((sIx items.size 0 lo:Nat):Int)=0:=eq_of_beq q.1.1;have j:sIx items.size items.size hi - sIx items.size 0 lo=items.size:=eq_of_beq q.2;exact hw ⟨by omega,by omega⟩
 show W0 _ _ (if (((sIx items.size 0 lo:Nat):Int) == 0 && (1:Int) == 1 && (sIx items.size items.size hi - sIx items.size 0 lo) == items.size)=true then _ else _) _ _ s;rw [if_neg c,zjb];first
  | exact o0 (m:=N5 _) (Y5 (G0 ⟨_,rfl,G0 h⟩) a)
  | exact o0 (m:=N5 _) (Y5 (o0 (G0 (G0 ⟨_,rfl,G0 h⟩))) a)
  | exact o0 (o0 (m:=N5 _) (Y5 (G0 (G0 ⟨_,rfl,G0 h⟩)) a))
  | exact o0 (o0 (m:=N5 _) (Y5 (G0 ⟨_,rfl,G0 h⟩) a))
end
end HT
namespace L2
open PySem PySem.Spec PyProof.Rows
abbrev TO:=St->Hp->(Option Int->Hp->Prop)->Prop
def PO (X:Cx) (e:Option Expr) (t:TO):Prop:=
 ∀(pins:List (Addr×Obj)) (s:B0) (σ:St) (H:Hp) (Q:Option Int->Hp->Prop),Inv X pins σ H s->t σ H Q->
  W0 (N1 X.prog X.w) X.A (evalPart e X.env) (λ u s'=>∃o H',Inv X pins σ H' s'/\j12 u o/\Q o H') X.xe s
def tPart (t:TE):TO:=λ σ H Q=>t σ H λ x H1=>∃i,x=.int i/\Q (some i) H1
theorem zem {ns:List Int} :∀{us:List Value},Vals (ns.map V.int) us->W4 us ns:=by
 induction ns with
 | nil=>intro us r;rw [K7] at r;cases r;exact .nil
 | cons n ns ih=>
  intro us r;rw [W1] at r;cases r with
  | cons r1 r2=>obtain ⟨t,e⟩:=r1;subst e;exact .cons n t (ih r2)
section
variable {X:Cx} {e:Expr} {te:TE} {lo hi:Option Expr} {tl th:TO} {pos p2:Pos}
theorem zc4 (h:PE X e te):PO X (some e) (tPart te):=by intro b s σ H Q I a;rw [evalPart_some];refine thn (h b s σ H _ I a) λ u c ⟨x,H1,I1,r1,q1⟩=>?_;obtain ⟨i,rfl,q⟩:=q1;obtain ⟨t,rfl⟩:=r1;exact ⟨some i,H1,I1,.int i t,q⟩
def SlR (X:Cx) (r:V->Option Int->Option Int->Hp->VK->Prop):Prop:=
 ∀(pins:List (Addr×Obj)) (s:B0) (σ:St) (H:Hp) (x:V) (v vl vu:Value) (lo hi:Option Int) (sl:Addr) (Q:VK),Inv X pins σ H s->RelV x v->s.heap.IsSliceOf sl vl vu .none->j12 vl lo->j12 vu hi->r x lo hi H Q->
  ∃T id,j3d (.type T) "__getitem__" = X3 (some (.builtin id))/\s.TypeIs v T/\W0 (N1 X.prog X.w) X.A (j00 v (.ref sl)) (EP X pins σ Q) X.xe s
theorem SlR.or {r r':V->Option Int->Option Int->Hp->VK->Prop} (h:SlR X r) (h':SlR X r'):SlR X (λ x lo hi H Q=>r x lo hi H Q\/r' x lo hi H Q):=by
 intro g s σ H x v i f lo hi b Q I a d c e q;rcases q with q|q
 ·exact h g s σ H x v i f lo hi b Q I a d c e q
 ·exact h' g s σ H x v i f lo hi b Q I a d c e q
def tSl (r:V->Option Int->Option Int->Hp->VK->Prop) (te:TE) (tl th:TO):TE:=λ σ H Q=>te σ H λ x H1=>tl σ H1 λ l H2=>th σ H2 λ u H3=>r x l u H3 Q
theorem zfk {r:V->Option Int->Option Int->Hp->VK->Prop} (hr:SlR X r) (he:PE X e te) (hl:PO X lo tl) (hu:PO X hi th):PE X (.Subscript e (.Slice lo hi none p2) pos) (tSl r te tl th):=by intro c s σ H Q I h;refine Subscript_ (thn (he c s σ H _ I h) λ v i ⟨x,H1,I1,r1,q1⟩=>?_);refine wpAny_Slice (thn (hl c i σ H1 _ I1 q1) λ f g ⟨l,H2,I2,pl,q2⟩=>thn (hu c g σ H2 _ I2 q2) λ d a ⟨u,H3,I3,pu,q3⟩=>?_);rw [evalPart_none];refine G0 ?_;have m:Inv X c σ H3 { a with heap:=a.heap.push { cls:=.type "slice",data:=.fields #[f,d,.none] } }:=I3.kept (t':=a.toks) λ b o q=>I0 _ q;obtain ⟨T,id,k,n,j⟩:=hr c { a with heap:=a.heap.push { cls:=.type "slice",data:=.fields #[f,d,.none] } } σ H3 x v f d l u a.heap.objs.size Q m r1 (Heap.IsSliceOf.new ..) pl pu q3;show W0 (N1 X.prog X.w) X.A (subscriptTail e (.Slice lo hi none p2) v (.ref a.heap.objs.size)) (EP X c σ Q) X.xe { a with heap:=a.heap.push { cls:=.type "slice",data:=.fields #[f,d,.none] } };exact tail_any (ops:=[.ref a.heap.objs.size,v]) n k j (by with_unfolding_all rfl)
def cutV (xs:List V) (lo hi:Option Int):List V:=(xs.drop (HT.sIx xs.length 0 lo)).take (HT.sIx xs.length xs.length hi - HT.sIx xs.length 0 lo)
theorem z75 (xs:List V) (lo hi:Option Int):(cutV xs lo hi).length<=xs.length:=by unfold cutV;rw [Y6,j0h];omega
def rSlT (K:j0):V->Option Int->Option Int->Hp->VK->Prop:=λ x lo hi H Q=>∃a xs,x=.ref a/\SqT K H a xs/\
 ¬ (HT.sIx xs.length 0 lo=0/\HT.sIx xs.length xs.length hi=xs.length)/\∀p,H p=none->Q (.ref p) (upd H p (.tup (cutV xs lo hi)))
theorem sl_tup:SlR X (rSlT X.K):=by
 intro z s σ H x v y w d e u Q I k t l m h;obtain ⟨a,c,rfl,n,p,q⟩:=h;cases k;obtain ⟨j,r,i,g⟩:=I.tuple n;have f:j.toArray.size=c.length:=by rw [X0];exact r.length.symm
 refine ⟨"tuple",_,PyProof.Rows.slot_tuple_getitem.lookup,i.typeIs,?_⟩;refine HT.getItem_tuple_cut i t l m (by rw [f];exact p) ?_ (by rw [f];exact g);rw [f];refine ⟨.ref s.heap.objs.size,_,I.laid (t':=s.toks) (o:=.tup (cutV c d e)) (λ b A q=>I0 _ q) (J0 _) ?_,rfl,q _ (I.hok.fresh (J0 _))⟩;exact ⟨O0 (z75 c d e) g,_,(r.drop (HT.sIx c.length 0 d)).take (HT.sIx c.length c.length e - HT.sIx c.length 0 d),IsTupN.new _ _⟩
def rCatT (K:j0):R2:=λ x y H Q=>∃a b xs ys,x=.ref a/\y=.ref b/\SqT K H a xs/\SqT K H b ys/\xs≠[]/\xs.length + ys.length<=sizeLine/\
 (ys=[]->Q (.ref a) H)/\(ys≠[]->∀p,H p=none->Q (.ref p) (upd H p (.tup (xs++ys))))
theorem Vals.nil_iff {xs:List V} {us:List Value} (r:Vals xs us):us=[]↔xs=[]:=by
 cases r with
 | nil=>simp
 | cons _ _=>simp
theorem zk4:OpR X (v6 .Add) (rCatT X.K):=by intro C s σ H x y v u Q I f l h;obtain ⟨a,b,r,i,rfl,rfl,n,g,t,e,j,m⟩:=h;cases f;cases l;obtain ⟨A,d,k,_⟩:=I.tuple n;obtain ⟨B,c,p,_⟩:=I.tuple g;refine HT.cat_tup k p (λ z=>t (d.nil_iff.mp z)) (λ z=>⟨.ref a,H,I,rfl,j (c.nil_iff.mp z)⟩) (λ z=>?_) (by rw [<-d.length,<-c.length];exact e);refine ⟨.ref s.heap.objs.size,_,I.laid (t':=s.toks) (o:=.tup (r++i)) (λ b D q=>I0 _ q) (J0 _) ?_,rfl,m (λ w=>z (c.nil_iff.mpr w)) _ (I.hok.fresh (J0 _))⟩;exact ⟨by rw [F0];exact e,_,d.append c,IsTupN.new _ _⟩
end
def ixN (n:Nat) (i:Int):Option Nat:=if 0<=i then (if i < n then some i.toNat else none) else if -(n:Int)<=i then some (i + n).toNat else none
def atI {α:Type} (xs:List α) (i:Int):Option α:=(ixN xs.length i).bind λ j=>xs[j]?
theorem zi3 {n:Nat} {i:Int} {j:Nat} (h:ixN n i=some j):seqIndex? i n=some j/\j < n/\-(n:Int)<=i/\i < n:=by
 unfold ixN at h;by_cases h0:0<=i
 ·rw [if_pos h0] at h;by_cases h1:i < n
  ·rw [if_pos h1] at h;have e:i.toNat=j:=X1 h;exact ⟨by rw [seqIndex_of h0 h1,e],by omega,by omega,h1⟩
  ·rw [if_neg h1] at h;cases h
 ·rw [if_neg h0] at h;by_cases h1:-(n:Int)<=i
  ·rw [if_pos h1] at h;have e:(i + n).toNat=j:=X1 h;exact ⟨by rw [seqIndex_neg (by omega) h1,e],by omega,h1,by omega⟩
  ·rw [if_neg h1] at h;cases h
theorem zdm {α:Type} {xs:List α} {i:Int} {v:α} (h:atI xs i=some v) :∃j,seqIndex? i xs.length=some j/\xs[j]? = some v/\j < xs.length/\-(xs.length:Int)<=i/\i < xs.length:=by
 unfold atI at h;cases e:ixN xs.length i with
 | none=>rw [e] at h;cases h
 | some j=>rw [e] at h;obtain ⟨d,a,b,c⟩:=zi3 e;exact ⟨j,d,h,a,b,c⟩
theorem z08 {α:Type} {xs:List α} {j:Nat} {v:α} (h:xs[j]? = some v):atI xs (j:Int)=some v:=by
 have a:j < xs.length:=(List.getElem?_eq_some_iff.mp h).1;have e:ixN xs.length (j:Int)=some j:=by unfold ixN;rw [if_pos (by omega),if_pos (by omega)];simp
 unfold atI;rw [e];exact h
def zjw (b:Expr):Prop:=∀o i,j2c b false o i=operate [o,i] (j00 o i)
def IxR (X:Cx) (r:R2):Prop:=
 ∀(value slice:Expr) (pins:List (Addr×Obj)) (s:B0) (σ:St) (H:Hp) (x y:V) (v u:Value) (Q:VK),Inv X pins σ H s->RelV x v->RelV y u->r x y H Q->
  j2c slice false v u=operate [v,u] (j00 v u)->W0 (N1 X.prog X.w) X.A (subscriptTail value slice v u) (EP X pins σ Q) X.xe s
def MtR (X:Cx) (id:String) (r:V->List V->Hp->VK->Prop):Prop:=
 ∀(pins:List (Addr×Obj)) (s:B0) (σ:St) (H:Hp) (x:V) (xs:List V) (v:Value) (us:List Value) (Q:VK),Inv X pins σ H s->RelV x v->Vals xs us->r x xs H Q->
  W0 (N1 X.prog X.w) X.A (call (.builtin id) (v :: us)) (EP X pins σ Q) X.xe s
section
variable {X:Cx} {a b:Expr} {ta tb:TE} {pos:Pos}
theorem IxR.or {r r':R2} (h:IxR X r) (h':IxR X r'):IxR X (λ x y H Q=>r x y H Q\/r' x y H Q):=by
 intro b f d s σ H x y v u Q I a e q c;rcases q with q|q
 ·exact h b f d s σ H x y v u Q I a e q c
 ·exact h' b f d s σ H x y v u Q I a e q c
theorem pe_ix {r:R2} (hr:IxR X r) (ha:PE X a ta) (hb:PE X b tb) (hs:zjw b):PE X (.Subscript a b pos) (tOp r ta tb):=by intro e s σ H Q I h;exact Subscript_ (binT ha hb I h λ v u f x y d g c i q=>hr a b e f σ d x y v u Q g c i q (hs _ _))
def rIxL (K:j0):R2:=λ x y H Q=>∃p xs i v,x=.ref p/\y=.int i/\SqL K H p xs/\atI xs i=some v/\Q v H
def rIxT (K:j0):R2:=λ x y H Q=>∃p xs i v,x=.ref p/\y=.int i/\SqT K H p xs/\atI xs i=some v/\Q v H
def rIxS:R2:=λ x y H Q=>∃z i c,x=.str z/\y=.int i/\z.length<=sizeLine/\atI z.cps.toList i=some c/\Q (.str ⟨#[c]⟩) H
theorem ix_list:IxR X (rIxL X.K):=by
 intro L J f s σ H x y v u Q I g o h e;obtain ⟨p,M,i,z,rfl,rfl,n,D,q⟩:=h;cases g;obtain ⟨t,rfl⟩:=o;obtain ⟨k,r,b,G⟩:=I.list n;obtain ⟨j,a,E,F,m,C⟩:=zdm D;obtain ⟨w,d,l⟩:=r.get E;have B:=r.length;have N:=line63;have fin:EP X f σ Q w s:=⟨z,H,I,l,q⟩
 by_cases h0:0<=i
 ·have c:i.toNat=j:=by rw [seqIndex_of h0 C] at a;exact X1 a
  exact item_listR b.isList h0 (by omega) (by rw [c];simpa using d) fin e
 ·have c:(i + (k.toArray.size:Int)).toNat=j:=by rw [seqIndex_neg (by omega) m] at a;rw [X0,<-B];exact X1 a
  exact subscriptTail_builtinR (x:=w) b.isList.typeIs slot_list_getitem.lookup
   (wpAny_getItem_list_neg (Q:=λ r A=>r=w/\EP X f σ Q r A) b.isList (by omega) (by rw [X0]<;>omega) (by omega) (by rw [c];simpa using d) ⟨rfl,fin⟩) e
theorem ix_tup:IxR X (rIxT X.K):=by
 intro G F b s σ H x y v u Q I c k h o;obtain ⟨p,J,i,z,rfl,rfl,g,n,q⟩:=h;cases c;obtain ⟨t,rfl⟩:=k;obtain ⟨B,r,a,E⟩:=I.tuple g;obtain ⟨j,e,A,D,C,M⟩:=zdm n;obtain ⟨w,f,d⟩:=r.get A;have m:=r.length;have L:=line63;have fin:EP X b σ Q w s:=⟨z,H,I,d,q⟩
 exact subscriptTail_builtinR (x:=w) a.typeIs slot_tuple_getitem.lookup
  (getItem_tuple (j:=j) (Q:=λ r l=>r=w/\EP X b σ Q r l) a (by omega) (by omega) (by rw [X0,<-m];exact e) (by simpa using f) ⟨rfl,fin⟩) o
theorem ix_str:IxR X rIxS:=by
 intro A w C s σ H x y v u Q I b f h m;obtain ⟨z,i,c,rfl,rfl,r,l,q⟩:=h;obtain ⟨t,rfl⟩:=b;obtain ⟨D,rfl⟩:=f;obtain ⟨j,a,o,p,d,k⟩:=zdm l;have g:z.cps.toList.length=z.length:=by simp [Str.length]
 rw [g] at a d k;have B:=line63;exact tail_any (typeIs_str s z t) slot_str_getitem.lookup (getItem_str (c:=c) (by have n:decide (i < -(2 ^ 63:Int))=false:=decide_eq_false (by omega);have e:decide (i ≥ 2 ^ 63)=false:=decide_eq_false (by omega);rw [n,e,S9]) (by rw [a];simpa using o) ⟨.str ⟨#[c]⟩,H,I.tok _,⟨_,rfl⟩,q⟩) m
def rIx (K:j0):R2:=λ x y H Q=>rIxL K x y H Q\/rIxT K x y H Q\/rIxS x y H Q
theorem ix_seq:IxR X (rIx X.K):=ix_list.or (ix_tup.or ix_str)
theorem zde (its:List Value) (n j:Nat) (u:Value):y4 (·.setIfInBounds j u) { cls:=.type "list",data:=.seq its.toArray n }={ cls:=.type "list",data:=.seq (its.set j u).toArray n }:=by simp [y4]
theorem Inv.lst {pins:List (Addr×Obj)} {σ:St} {H:Hp} {s:B0} {p:Addr} {xs:List V} (I:Inv X pins σ H s) (h:H p=some (.lst xs)) :
  ∃(its:List Value) (n:Nat),Vals xs its/\s.heap.get? p=some { cls:=.type "list",data:=.seq its.toArray n }/\xs.length<=sizeLine:=by
 obtain ⟨z,its,n,r,e⟩:=I.hok p _ h;exact ⟨its,n,r,e,z⟩
theorem Inv.lstUpd {pins:List (Addr×Obj)} {σ:St} {H:Hp} {s:B0} {p:Addr} {xs ys:List V} {its its':List Value} {n n':Nat} {f:Obj->Obj} (I:Inv X pins σ H s) (h:H p=some (.lst xs))
  (ho:s.heap.get? p=some { cls:=.type "list",data:=.seq its.toArray n }) (hf:f { cls:=.type "list",data:=.seq its.toArray n }={ cls:=.type "list",data:=.seq its'.toArray n' }) (r:Vals ys its') (hz:ys.length<=sizeLine) (t:Nat) :
  Inv X pins σ (upd H p (.lst ys)) { s with heap:=s.heap.update p f,toks:=t }:=by
 have e:(s.heap.update p f).get? p=some { cls:=.type "list",data:=.seq its'.toArray n' }:=by rw [X6 f ho (by rw [hf]<;>rfl),hf]
 refine I.write (x:=p) (e:=p) (by rw [h];trivial) (.inl rfl) (λ b u a q=>(L4 _ _ (D2 a)).trans q) ⟨_,e⟩ ?_;exact ⟨hz,its',n',r,e⟩
def rSetL:V->V->V->Hp->(Hp->Prop)->Prop:=λ o i v H Q=>∃p xs k j,o=.ref p/\i=.int k/\H p=some (.lst xs)/\ixN xs.length k=some j/\Q (upd H p (.lst (xs.set j v)))
theorem z25:PSet X rSetL:=by
 intro C s σ H o i v D E u Q I A z w h;obtain ⟨p,B,k,j,rfl,rfl,f,y,q⟩:=h;cases A;obtain ⟨t,rfl⟩:=z;obtain ⟨e,n,r,b,x⟩:=I.lst f;obtain ⟨a,G,l,g⟩:=zi3 y;have d:=r.length;have F:=line63;have m:Inv X C σ (upd H p (.lst (B.set j v))) { s with heap:=s.heap.update p (y4 (·.setIfInBounds j u)) }:=
  I.lstUpd f b (zde e n j u) (r.set w j) (by rw [Q0];exact x) s.toks
 by_cases h0:0<=k
 ·have c:k.toNat=j:=by rw [seqIndex_of h0 g] at a;exact X1 a
  exact PySem.W.ki_setAt b h0 (by omega) (by rw [X0,<-d];exact g) (by rw [c];exact ⟨_,m,q⟩)
 ·have c:(k + (e.toArray.size:Int)).toNat=j:=by rw [seqIndex_neg (by omega) l] at a;rw [X0,<-d];exact X1 a
  exact PySem.W.ki_setBack b (by omega) (by rw [X0,<-d];exact l) (by omega) (by rw [c];exact ⟨_,m,q⟩)
theorem zbb (lo hi:Option Int) (n:Nat):(N7 lo hi none n).1=((HT.sIx n 0 lo:Nat):Int)/\(N7 lo hi none n).2.1=((HT.sIx n n hi:Nat):Int)/\(N7 lo hi none n).2.2=1:=by
 refine ⟨?_,?_,rfl⟩
 ·cases lo with
  | none=>simp [N7,HT.sIx]
  | some i=>
   simp only [N7,HT.sIx,Option.getD_none,show (1:Int) > 0 by decide,if_true];by_cases h:i < 0
   ·simp only [h,if_true]<;>omega
   ·simp only [h,if_false]<;>omega
 ·cases hi with
  | none=>simp [N7,HT.sIx]
  | some i=>
   simp only [N7,HT.sIx,Option.getD_none,show (1:Int) > 0 by decide,if_true];by_cases h:i < 0
   ·simp only [h,if_true]<;>omega
   ·simp only [h,if_false]<;>omega
theorem z93 (its:List Value) (lo hi:Option Int):slicePick its.toArray lo hi none=((its.drop (HT.sIx its.length 0 lo)).take (HT.sIx its.length its.length hi - HT.sIx its.length 0 lo)).toArray:=by obtain ⟨c,a,b⟩:=zbb lo hi its.toArray.size;unfold slicePick;rw [c,a,b];simp only [sliceRange_one,pick_run,X0]<;>rfl
def rSlL (K:j0):V->Option Int->Option Int->Hp->VK->Prop:=λ x lo hi H Q=>∃a xs,x=.ref a/\SqL K H a xs/\∀p,H p=none->Q (.ref p) (upd H p (.lst (cutV xs lo hi)))
theorem sl_list:SlR X (rSlL X.K):=by intro y s σ H x v w u d e t Q I g m i j h;obtain ⟨a,c,rfl,l,q⟩:=h;cases g;obtain ⟨p,r,f,k⟩:=I.list l;have n:=r.length;refine ⟨"list",_,slot_list_getitem.lookup,f.isList.typeIs,?_⟩;refine wpAny_getItem_list_slice f.isList m i j .none (by simp) ?_ (by rw [X0]<;>omega);rw [z93,<-n];refine ⟨.ref s.heap.objs.size,_,I.laid (t':=s.toks) (o:=.lst (cutV c d e)) (λ b z q=>I0 _ q) (J0 _) ?_,rfl,q _ (I.hok.fresh (J0 _))⟩;exact ⟨O0 (z75 c d e) k,_,0,(r.drop (HT.sIx c.length 0 d)).take (HT.sIx c.length c.length e - HT.sIx c.length 0 d),D1 _ rfl⟩
def flatV:V->Bool
 | .non=>true
 | .bl _=>true
 | .int _=>true
 | .str _=>true
 | _=>false
def eqV:V->V->Bool
 | .non,.non=>true
 | .bl a,.bl b=>a == b
 | .bl a,.int b=>(if a then 1 else 0) == b
 | .int a,.bl b=>a == (if b then 1 else 0)
 | .int a,.int b=>a == b
 | .str a,.str b=>a == b
 | _,_=>false
theorem eqAt_V {A:O2} {s:B0} {y x:V} {u v:Value} (ry:RelV y u) (rx:RelV x v) (fy:flatV y=true) (fx:flatV x=true):j1a A s u v (eqV y x):=by
 cases y with
 | non=>
  cases ry;cases x with
  | non=>cases rx;exact W5 _
  | bl b=>cases rx;exact SeqAt.EqAt.none_bool b
  | int b=>obtain ⟨t,rfl⟩:=rx;exact SeqAt.EqAt.none_int b t
  | str b=>obtain ⟨t,rfl⟩:=rx;exact SeqAt.EqAt.none_str b t
  | _=>exact absurd (show false=true from fx) E1
 | bl a=>
  cases ry;cases x with
  | non=>cases rx;exact SeqAt.EqAt.bool_none a
  | bl b=>cases rx;exact SeqAt.EqAt.bool_bool a b
  | int b=>obtain ⟨t,rfl⟩:=rx;exact SeqAt.EqAt.bool_int a b t
  | str b=>obtain ⟨t,rfl⟩:=rx;exact SeqAt.EqAt.bool_str a b t
  | _=>exact absurd (show false=true from fx) E1
 | int a=>
  obtain ⟨c,rfl⟩:=ry;cases x with
  | non=>cases rx;exact SeqAt.EqAt.int_none a c
  | bl b=>cases rx;exact SeqAt.EqAt.int_bool a c b
  | int b=>obtain ⟨t,rfl⟩:=rx;exact j2g a c b t
  | str b=>obtain ⟨t,rfl⟩:=rx;exact j2f a c b t
  | _=>exact absurd (show false=true from fx) E1
 | str a=>
  obtain ⟨c,rfl⟩:=ry;cases x with
  | non=>cases rx;exact SeqAt.EqAt.str_none a c
  | bl b=>cases rx;exact SeqAt.EqAt.str_bool a c b
  | int b=>obtain ⟨t,rfl⟩:=rx;exact j2e a c b t
  | str b=>obtain ⟨t,rfl⟩:=rx;exact j2d a c b t
  | _=>exact absurd (show false=true from fx) E1
 | _=>exact absurd (show false=true from fy) E1
def eqU (x:V) (u:Value):Bool:=match u with
 | .none=>eqV .non x
 | .bool b=>eqV (.bl b) x
 | .int i _=>eqV (.int i) x
 | .str z _=>eqV (.str z) x
 | _=>false
theorem eqU_of {x y:V} {u:Value} (r:RelV y u) (f:flatV y=true):eqU x u=eqV y x:=by
 cases y with
 | non=>cases r;rfl
 | bl b=>cases r;rfl
 | int i=>obtain ⟨t,rfl⟩:=r;rfl
 | str z=>obtain ⟨t,rfl⟩:=r;rfl
 | _=>exact absurd (show false=true from f) E1
theorem z9k {x:V} :∀{xs:List V} {us:List Value},Vals xs us->xs.all flatV=true->us.any (eqU x)=xs.any λ y=>eqV y x
 | _,_,.nil,_=>rfl
 | y :: xs,u :: us,.cons r t,f=>by rw [G5,P4] at f;rw [o8,o8,eqU_of r f.1,z9k t f.2]
theorem z6f {A:O2} {s:B0} {x:V} {v:Value} (rx:RelV x v) (fx:flatV x=true) :∀{xs:List V} {us:List Value},Vals xs us->xs.all flatV=true->∀u∈us,j1a A s u v (eqU x u)
 | _,_,.nil,_=>λ u a=>by cases a
 | y :: xs,u :: us,.cons r t,f=>λ b a=>by
  rw [G5,P4] at f;rcases List.mem_cons.mp a with rfl|a
  ·rw [eqU_of r f.1];exact eqAt_V r rx f.1 fx
  ·exact z6f rx fx t f.2 b a
def inV (x:V) (xs:List V):Bool:=xs.any λ y=>eqV y x
def rIn (K:j0) (neg:Bool):R2:=λ x y H Q=>∃p xs,y=.ref p/\(SqL K H p xs\/SqT K H p xs)/\flatV x=true/\xs.all flatV=true/\Q (.bl (if neg then !inV x xs else inV x xs)) H
theorem zbf:OpR X (X2 .In) (rIn X.K false):=by
 intro k s σ H x y v u Q I e i h;obtain ⟨p,j,rfl,b,f,fs,q⟩:=h;cases i;rcases b with b|b
 ·obtain ⟨a,r,c,g⟩:=I.list b;refine SeqAt.in_listAt (eqU x) c.isList (λ w d=>z6f e f r fs w (by simpa using d)) ⟨.bl _,H,I,rfl,?_⟩;rw [show a.toArray.any (eqU x)=a.any (eqU x) by simp,z9k r fs];exact q
 ·obtain ⟨a,r,c,g⟩:=I.tuple b;refine SeqAt.in_tupleAt (eqU x) c (λ w d=>z6f e f r fs w (by simpa using d)) ⟨.bl _,H,I,rfl,?_⟩;rw [show a.toArray.any (eqU x)=a.any (eqU x) by simp,z9k r fs];exact q
theorem z6c:OpR X (X2 .NotIn) (rIn X.K true):=by
 intro k s σ H x y v u Q I e i h;obtain ⟨p,j,rfl,b,f,fs,q⟩:=h;cases i;rcases b with b|b
 ·obtain ⟨a,r,c,g⟩:=I.list b;refine SeqAt.notIn_listAt (eqU x) c.isList (λ w d=>z6f e f r fs w (by simpa using d)) ⟨.bl _,H,I,rfl,?_⟩;rw [show a.toArray.any (eqU x)=a.any (eqU x) by simp,z9k r fs];exact q
 ·obtain ⟨a,r,c,g⟩:=I.tuple b;refine SeqAt.notIn_tupleAt (eqU x) c (λ w d=>z6f e f r fs w (by simpa using d)) ⟨.bl _,H,I,rfl,?_⟩;rw [show a.toArray.any (eqU x)=a.any (eqU x) by simp,z9k r fs];exact q
theorem call_len_seq:CallR X (.builtin "len") (λ xs H Q=>∃p ys,xs=[.ref p]/\(SqL X.K H p ys\/SqT X.K H p ys)/\Q (.int ys.length) H):=by
 intro j s σ H xs k Q I r h;obtain ⟨p,ys,rfl,a,q⟩:=h;obtain ⟨u,rfl,e⟩:=vals1 r;cases e;have i:=line63;rcases a with a|a
 ·obtain ⟨f,c,b,g⟩:=I.list a;have d:=c.length;exact Calls.call_len_list b.isList (by simp only [X0]<;>omega) ⟨.int ys.length,H,I.tok _,⟨s.toks + 1,by rw [X0,d]⟩,q⟩
 ·obtain ⟨f,c,b,g⟩:=I.tuple a;have d:=c.length;exact len_tuple b (by simp only [X0]<;>omega) ⟨.int ys.length,H,I.tok _,⟨s.toks + 1,by rw [X0,d]⟩,q⟩
theorem zb1:CallR X (.builtin "len") (λ xs H Q=>∃z,xs=[.str z]/\z.length<=sizeLine/\Q (.int z.length) H):=by intro b s σ H xs c Q I r h;obtain ⟨z,rfl,d,q⟩:=h;obtain ⟨u,rfl,t,rfl⟩:=vals1 r;have a:=line63;exact len_str (by omega) ⟨.int z.length,H,I.tok _,⟨_,rfl⟩,q⟩
theorem CallR.or {f:Value} {r r':List V->Hp->VK->Prop} (h:CallR X f r) (h':CallR X f r'):CallR X f (λ xs H Q=>r xs H Q\/r' xs H Q):=by
 intro b s σ H xs c Q I a q;rcases q with q|q
 ·exact h b s σ H xs c Q I a q
 ·exact h' b s σ H xs c Q I a q
theorem zao:CallR X (.type "list") (λ xs H Q=>∃p ys,xs=[.ref p]/\(SqL X.K H p ys\/SqT X.K H p ys)/\∀l,H l=none->Q (.ref l) (upd H l (.lst ys))):=by
 intro y s σ H xs A Q I r h;obtain ⟨p,ys,rfl,i,q⟩:=h;obtain ⟨u,rfl,x⟩:=vals1 r;cases x;have fin :∀(c:List Value),Vals ys c->ys.length<=sizeLine->∀(a:Heap) (d:Nat),(∀b o',s.heap.get? b=some o'->a.get? b=some o')->
   a.get? s.heap.objs.size=some { cls:=.type "list",dict:=none,data:=.seq c.toArray d,slots:=#[] }->EP X y σ Q (.ref s.heap.objs.size) { s with heap:=a }:=λ c f g a d j e=>
  ⟨.ref s.heap.objs.size,_,I.laid (t':=s.toks) j (J0 _) (show ObjOk X.prog X.w _ a _ (.lst ys) from ⟨g,c,d,f,e⟩),rfl,q _ (I.hok.fresh (J0 _))⟩
 rcases i with i|i
 ·obtain ⟨c,f,k,g⟩:=I.list i;have z:=f.length;obtain ⟨o,t,m,n,v⟩:=k.isList;exact call_list_seq p (.inl rfl) t m v (λ a d j e=>fin c f g a d j e) (by simp only [X0]<;>omega)
 ·obtain ⟨c,f,k,g⟩:=I.tuple i;have z:=f.length;obtain ⟨o,t,m,n,v⟩:=k;exact call_list_seq p (.inr rfl) t m v (λ a d j e=>fin c f g a d j e) (by simp only [X0]<;>omega)
theorem z5a:CallR X (.type "tuple") (λ xs H Q=>∃p ys,xs=[.ref p]/\((SqL X.K H p ys/\∀l,H l=none->Q (.ref l) (upd H l (.tup ys)))\/(SqT X.K H p ys/\Q (.ref p) H))):=by
 intro k s σ H xs v Q I r h;obtain ⟨p,ys,rfl,h⟩:=h;obtain ⟨u,rfl,m⟩:=vals1 r;cases m;rcases h with ⟨f,q⟩|⟨f,q⟩
 ·obtain ⟨c,g,d,i⟩:=I.list f;have x:=g.length;refine call_tuple_list d.isList (λ a t=>?_) (by simp only [X0]<;>omega);have j:Inv X k σ H { s with heap:=a }:=I.kept (t':=s.toks) t;have n:Inv X k σ (upd H a.objs.size (.tup ys)) { s with heap:=a.push { cls:=.type "tuple",data:=.seq c.toArray } }:=
   j.laid (t':=s.toks) (λ b o e=>I0 _ e) (J0 _) (show ObjOk X.prog X.w _ _ _ (.tup ys) from ⟨i,c,g,IsTupN.new _ _⟩)
  exact ⟨.ref a.objs.size,_,n,rfl,q _ (j.hok.fresh (J0 _))⟩
 ·obtain ⟨c,g,d,i⟩:=I.tuple f;exact call_tuple_same d ⟨.ref p,H,I,rfl,q⟩
def tyV (K:j0) (T:String) (x:V) (H:Hp):Prop:=match x with
 | .str _=>T = "str"
 | .int _=>T = "int"
 | .ref p=>(T = "list"/\∃xs,SqL K H p xs)\/(T = "tuple"/\∃o,K.lookup p=some o/\o.cls=.type "tuple"/\o.dict=none)\/
   (T = "dict"/\((∃kvs,H p=some (.dK kvs))\/∃kvs,H p=some (.dT kvs)))\/(T = "set"/\∃S n,H p=some (.set S n))
 | _=>False
theorem tyV_is {pins:List (Addr×Obj)} {σ:St} {H:Hp} {s:B0} {T:String} {x:V} {v:Value} (I:Inv X pins σ H s) (r:RelV x v) (ty:tyV X.K T x H) :
  s.TypeIs v T/\∀a,v=.ref a->∃ob,s.heap.get? a=some ob/\ob.dict=none:=by
 cases x with
 | str z=>obtain ⟨t,rfl⟩:=r;cases (show T = "str" from ty);exact ⟨typeIs_str s z t,λ _ e=>nomatch e⟩
 | int i=>obtain ⟨t,rfl⟩:=r;cases (show T = "int" from ty);exact ⟨typeIs_int s i t,λ _ e=>nomatch e⟩
 | ref p=>
  cases r;rcases ty with ⟨rfl,l,j⟩|⟨rfl,o,b,hc,d⟩|⟨rfl,b⟩|⟨rfl,S,n,b⟩
  ·obtain ⟨k,_,g,_⟩:=I.list j;refine ⟨g.isList.typeIs,λ a e=>?_⟩;cases e;obtain ⟨o,n,e,c,d,_⟩:=g;exact ⟨o,e,d⟩
  ·refine ⟨⟨o,I.kIn p o b,hc⟩,λ a e=>?_⟩;cases e;exact ⟨o,I.kIn _ o b,d⟩
  ·have z :∃o,s.heap.get? p=some o/\o.ExactDict:=by
    rcases b with ⟨h,b⟩|⟨h,b⟩
    ·obtain ⟨_,_,_,_,o,_,_,e,ex,_⟩:=I.hok p _ b;exact ⟨o,e,ex⟩
    ·obtain ⟨_,_,_,_,o,_,_,e,ex,_⟩:=I.hok p _ b;exact ⟨o,e,ex⟩
   obtain ⟨o,e,ex⟩:=z;refine ⟨⟨o,e,ex.1⟩,λ a f=>?_⟩;cases f;exact ⟨o,e,ex.2.1⟩
  ·obtain ⟨o,_,_,_,e,ex,_⟩:=I.hok p _ b;refine ⟨⟨o,e,ex.1⟩,λ a f=>?_⟩;cases f;exact ⟨o,e,ex.2.1⟩
 | _=>exact E4 ty
def tBM (K:j0) (T:String) (r:V->List V->Hp->VK->Prop) (to:TE) (t:TA):TE:=λ σ H Q=>to σ H λ x H1=>tyV K T x H1/\t σ H1 λ xs H2=>r x xs H2 Q
variable {o e:Expr} {es:List Expr} {to:TE} {t:TA} {name:Str} {apos cpos:Pos} {T id:String} {r:V->List V->Hp->VK->Prop}
theorem pe_bm (pa:PlainAttrs T) (slot:Slot T name id) (hty:typeOf (.builtin id)=X3 (.type "method_descriptor")) (hm:MtR X id r) (ho:PE X o to) (ha:PA X (e :: es) t)
  (hbase:z5 o name X.env (R3 o X.env)=R3 o X.env:=by rfl)
  (hfew:((N4 cpos (L1 (e :: es) X.env)).all (λ x=>!x.1) && (b9 cpos (T6 [] X.env)).all (λ x=>x.1.isSome)
   && decide ((e :: es).length + ([]:List K6).length + (if ([]:List K6).isEmpty then 0 else 1) < 30))=true:=by rfl)
  (hline:(apos.endLine == cpos.line)=true:=by rfl) (hs:L1 (e :: es) X.env=(false,R3 e X.env) :: L1 es X.env:=by rfl) (hplain:(N4 cpos (L1 es X.env)).any (·.1)=false:=by rfl) :
  PE X (.Call (.Attribute o name apos) (e :: es) [] cpos) (tBM X.K T r to t):=by
 intro a s σ H Q I h;refine wpAny_Call_method_late hbase hfew hline rfl (thn (ho a s σ H _ I h) λ v d ⟨x,H1,I1,r1,ty,q1⟩=>?_);obtain ⟨g,i⟩:=tyV_is I1 r1 ty;refine ⟨T,id,pa,slot,hty,g,i,?_⟩;have b:=ha cpos a d σ H1 _ I1 q1;rw [hs] at b⊢;refine j35 (by show (false || (N4 cpos (L1 es X.env)).any (·.1))=false;rw [hplain]<;>rfl) (i9 ?_);exact thn b λ f c ⟨vs,H2,I2,r2,q2⟩=>hm a c σ H2 x vs v f Q I2 r1 r2 q2
end
def MtM (X:Cx) (id:String) (r:V->List V->Hp->VK->Prop):Prop:=
 ∀(pins:List (Addr×Obj)) (s:B0) (σ:St) (H:Hp) (x:V) (xs:List V) (v:Value) (us:List Value) (Q:VK),Inv X pins σ H s->RelV x v->Vals xs us->r x xs H Q->
  W0 (N1 X.prog X.w) X.A (call (.builtin id) (v :: us)) (EP X pins σ Q) X.xe s
theorem Vals.one :∀{x:V} {us:List Value},Vals [x] us->∃u,us=[u]/\RelV x u
 | _,_,.cons r .nil=>⟨_,rfl,r⟩
theorem Vals.eraseIdx :∀{xs:List V} {us:List Value} (i:Nat),Vals xs us->Vals (xs.eraseIdx i) (us.eraseIdx i)
 | _,_,_,.nil=>.nil
 | _,_,0,.cons _ t=>t
 | _,_,i + 1,.cons r t=>.cons r (Vals.eraseIdx i t)
theorem Vals.rep {xs:List V} {us:List Value} (h:Vals xs us) :∀k:Nat,Vals (P0 k xs).flatten (P0 k us).flatten
 | 0=>.nil
 | k + 1=>by rw [b6,b6,j8,j8];exact Vals.append h (Vals.rep h k)
theorem zc0 {α:Type} :∀(l:List α) (i:Nat),(l.eraseIdx i).length<=l.length
 | [],_=>J0 _
 | _ :: _,0=>W2 _
 | _ :: r,i + 1=>Nat.succ_le_succ (zc0 r i)
theorem zbk (its:List Value) :∀(k:Nat) (acc:List Value),
  List.foldl (λ x1 x2=>x1++x2) acc.toArray (P0 k its.toArray)=(acc++(P0 k its).flatten).toArray
 | 0,acc=>by simp
 | k + 1,acc=>by
  have e:acc.toArray++its.toArray=(acc++its).toArray:=by simp
  have a:(acc++its)++(P0 k its).flatten=acc++(P0 (k + 1) its).flatten:=by rw [b6,j8,A2]
  rw [<-a,<-zbk its k (acc++its),<-e,b6,N3]
section
variable {X:Cx} {pins:List (Addr×Obj)} {σ:St} {H:Hp} {s:B0} {l b:Addr} {xs ys zs:List V}
theorem Inv.lset {its its':List Value} {n:Nat} {f:Array Value->Array Value} {t':Nat} (I:Inv X pins σ H s) (hH:H l=some (.lst xs))
  (e:s.heap.get? l=some { cls:=.type "list",data:=.seq its.toArray n }) (hf:f its.toArray=its'.toArray) (hv:Vals ys its') (hz:ys.length<=sizeLine) :
  Inv X pins σ (upd H l (.lst ys)) { s with heap:=s.heap.update l (y4 f),toks:=t' }:=by
 have q:=PySem.IsL.update e f;rw [hf] at q;refine I.write (x:=l) (e:=l) (by rw [hH];exact trivial) (.inl rfl) (λ c u a b=>(L4 s.heap (y4 f) (D2 a)).trans b) ⟨_,q⟩ ?_;exact ⟨hz,its',_,hv,q⟩
theorem Inv.lnew {its:List Value} {t':Nat} (I:Inv X pins σ H s) (hv:Vals ys its) (hz:ys.length<=sizeLine) :
  Inv X pins σ (upd H s.heap.objs.size (.lst ys)) { s with heap:=s.heap.push { cls:=.type "list",data:=.seq its.toArray },toks:=t' }:=
 I.laid (λ _ _ q=>I0 _ q) (J0 _) ⟨hz,its,0,hv,D1 _ rfl⟩
theorem Inv.fresh (I:Inv X pins σ H s):H s.heap.objs.size=none:=I.hok.fresh (J0 _)
theorem Inv.lstM (I:Inv X pins σ H s) (hH:H l=some (.lst xs)):xs.length<=sizeLine/\∃(its:List Value) (n:Nat),Vals xs its/\xs.length=its.length/\s.heap.get? l=some { cls:=.type "list",data:=.seq its.toArray n }:=by obtain ⟨z,its,n,r,e⟩:=I.hok l _ hH;exact ⟨z,its,n,r,r.length,e⟩
theorem zf2 {n:Nat} (h:n<=sizeLine):T5 n=false:=by unfold T5;exact decide_eq_false (by omega)
end
section
variable {X:Cx}
def zib:V->List V->Hp->VK->Prop:=λ x vs H Q=>∃l xs y,x=.ref l/\vs=[y]/\H l=some (.lst xs)/\xs.length < sizeLine/\Q .non (upd H l (.lst (xs++[y])))
theorem zgh:MtM X "list.append" zib:=by intro o s σ H x m v i Q I c d h;obtain ⟨l,k,y,rfl,rfl,b,g,q⟩:=h;cases c;obtain ⟨u,rfl,f⟩:=d.one;obtain ⟨z,a,n,r,j,e⟩:=I.lstM b;refine z8 F.slot_list_append ⟨_,e,rfl⟩ F.entry_list_append (F.args_list_append_2 _ _) (PySem.list_append l a.toArray n u (by rw [X0];omega)) ⟨e,?_⟩;refine ⟨.non,_,I.lset (its':=a++[u]) b e (by simp) (r.append (.cons f .nil)) ?_,rfl,q⟩;rw [F0,E3];omega
def zhw:V->List V->Hp->VK->Prop:=λ x vs H Q=>∃l b xs zs,x=.ref l/\vs=[.ref b]/\H l=some (.lst xs)/\H b=some (.lst zs)/\xs.length + zs.length<=sizeLine/\Q .non (upd H l (.lst (xs++zs)))
theorem zgm:MtM X "list.extend" zhw:=by
 intro E s σ H x D v A Q I f g h;obtain ⟨l,b,C,G,rfl,rfl,d,k,w,q⟩:=h;cases f;obtain ⟨u,rfl,t⟩:=g.one;cases t;obtain ⟨z,a,n,r,B,e⟩:=I.lstM d;obtain ⟨J,c,i,p,y,m⟩:=I.lstM k;have o:a.toArray.size + c.toArray.size<=sizeLine:=by rw [X0,X0];omega
 have j:¬ (not a.toArray.isEmpty && T5 (a.toArray.size + c.toArray.size))=true:=by rw [zf2 o,v9];exact E1
 refine z8 F.slot_list_extend ⟨_,e,rfl⟩ F.entry_list_extend (F.args_list_extend_2 _ _)
  (AutoSeq1.list_extend_list_list_0 l a.toArray n b c.toArray i j (by rw [X0];omega) (by omega)) ⟨e,m,?_⟩
 refine ⟨.non,_,I.lset (its':=a++c) d e (by simp) (r.append p) ?_,rfl,q⟩;rw [F0];omega
def rPopAt:V->List V->Hp->VK->Prop:=λ x vs H Q=>∃l xs i k y,x=.ref l/\vs=[.int i]/\H l=some (.lst xs)/\-(2 ^ 63)<=i/\i < 2 ^ 63/\seqIndex? i xs.length=some k/\xs[k]? = some y/\Q y (upd H l (.lst (xs.eraseIdx k)))
theorem zj5:MtM X "list.pop" rPopAt:=by
 intro G s σ H x E v D Q I c d h;obtain ⟨l,p,i,k,y,rfl,rfl,b,g,C,m,j,q⟩:=h;cases c;obtain ⟨u,rfl,B⟩:=d.one;obtain ⟨t,rfl⟩:=B;obtain ⟨z,a,n,r,o,e⟩:=I.lstM b;obtain ⟨w,A,f⟩:=r.get j;refine z8 F.slot_list_pop ⟨_,e,rfl⟩ F.entry_list_pop (F.args_list_pop_2 _ _)
  (MeetsSeq.list_pop_at l a.toArray n i t k w (fitsIndex_both g C) (by rw [X0,<-o];exact m) (by rw [<-Array.getElem?_toList];exact A) (by rw [X0];omega)) ⟨e,?_⟩
 refine ⟨y,_,I.lset (its':=a.eraseIdx k) b e ?_ (r.eraseIdx k) ?_,f,q⟩
 ·show a.toArray.eraseIdxIfInBounds k=(a.eraseIdx k).toArray;rw [List.eraseIdxIfInBounds_toArray]
 ·have:=zc0 p k;omega
def rCat:R2:=λ x y H Q=>∃l b xs zs,x=.ref l/\y=.ref b/\H l=some (.lst xs)/\H b=some (.lst zs)/\xs.length + zs.length<=sizeLine/\∀p,H p=none->Q (.ref p) (upd H p (.lst (xs++zs)))
theorem op_cat:OpR X (v6 .Add) rCat:=by
 intro B s σ H x y v u Q I d i h;obtain ⟨l,b,A,C,rfl,rfl,j,f,p,q⟩:=h;cases d;cases i;obtain ⟨z,a,n,r,w,e⟩:=I.lstM j;obtain ⟨D,c,o,k,t,g⟩:=I.lstM f;refine PySem.P.add_list e g ?_ (by rw [X0,X0];omega);have m:a.toArray++c.toArray=(a++c).toArray:=by simp
 rw [m];exact ⟨.ref _,_,I.lnew (t':=s.toks) (r.append k) (by rw [F0];omega),rfl,q _ I.fresh⟩
def rRep:R2:=λ x y H Q=>∃l k xs,x=.ref l/\y=.int k/\H l=some (.lst xs)/\-(2 ^ 63)<=k/\k < 2 ^ 63/\xs.length * k.toNat<=sizeLine/\
 ∀p,H p=none->Q (.ref p) (upd H p (.lst (P0 k.toNat xs).flatten))
theorem zko {α:Type} (xs:List α) (k:Nat):(P0 k xs).flatten.length=k * xs.length:=by
 induction k with
 | zero=>simp
 | succ k ih=>rw [b6,j8,F0,ih,Nat.succ_mul,j0b]
theorem op_rep:OpR X (v6 .Mult) rRep:=by
 intro L s σ H x y v u Q I g p h;obtain ⟨l,k,K,rfl,rfl,w,j,G,f,q⟩:=h;cases g;obtain ⟨t,rfl⟩:=p;obtain ⟨z,b,n,r,E,e⟩:=I.lstM w;have J:b.toArray.size * k.toNat<=sizeLine:=by rw [X0,<-E];exact f
 have o:¬ b.toArray.size * k.toNat > (2 ^ 63 - 1) / 8:=by
  have:(sizeLine:Nat)<=(2 ^ 63 - 1) / 8:=by decide
  omega
 have A:¬ (!Builtin.List.listFitsIndex k)=true:=by rw [fitsIndex_both j G];exact E1
 have i:¬ T5 (b.toArray.size * k.toNat)=true:=by rw [zf2 J];exact E1
 have D:List.foldl (λ c d=>c++d) #[] (P0 (if b.toArray.isEmpty=true then 0 else k.toNat) b.toArray)=(P0 k.toNat b).flatten.toArray:=by
  have B :∀m:Nat,List.foldl (λ c d=>c++d) #[] (P0 m b.toArray)=(P0 m b).flatten.toArray:=λ m=>by have:=zbk b m [];rw [List.nil_append] at this;exact this
  rw [B];cases b with
  | nil=>simp
  | cons a r'=>rw [if_neg (by simp)]
 refine wpAny_binaryOp_repeat_ref (T:="list") (U:="int") (by decide) ⟨_,e,rfl⟩ (λ C=>typeIs_int C k t) noFill_list_mul F.fills_int_mul F.slot_int_rmul repeat_list F.slot_int_index.lookup
  (z8 F.slot_int_rmul (typeIs_int s k t) F.entry_int_rmul (F.args_int_rmul_2 _ _) (int___rmul___int_list k t l b.toArray n)
   ⟨e,rfl,⟨_,e,rfl⟩,z8 F.slot_list_mul ⟨_,e,rfl⟩ F.entry_list_mul (F.args_list_mul_2 _ _) (AutoListH.list___mul___list_int_3 l b.toArray n k t A o i) ⟨e,?_⟩⟩)
 rw [D];exact ⟨.ref _,_,I.lnew (t':=s.toks) (r.rep k.toNat) (by rw [zko,Nat.mul_comm];exact f),rfl,q _ I.fresh⟩
end
section
variable {prog:Program} {w:C1} {A:O2} {E:Value->B0->Prop} {s:B0}
set_option maxRecDepth 100000 in
end
section
variable {κ:Type} [DecidableEq κ]
def valV (kvs:List (κ×V)) (k:κ):Option V:=(kvs.find? λ kv=>decide (kv.1=k)).map (·.2)
def putK (kvs:List (κ×V)) (k:κ) (v:V):List (κ×V):=
 if (kvs.any λ kv=>decide (kv.1=k))=true then kvs.map (λ kv=>if kv.1=k then (kv.1,v) else kv) else kvs++[(k,v)]
theorem z1e {p:κ×V} {r:List (κ×V)} {k:κ} (e:p.1=k):valV (p :: r) k=some p.2:=by simp [valV,U4,e]
theorem z18 {p:κ×V} {r:List (κ×V)} {k:κ} (e:¬ p.1=k):valV (p :: r) k=valV r k:=by simp [valV,U4,e]
theorem z62 (k:κ) :∀kvs:List (κ×V),(kvs.any λ kv=>decide (kv.1=k))=(valV kvs k).isSome
 | []=>rfl
 | p :: r=>by
  rw [o8];by_cases e:p.1=k
  ·simp only [z1e e,decide_eq_true e,Bool.true_or,Option.isSome_some]
  ·rw [z18 e,decide_eq_false e,Bool.false_or];exact z62 k r
theorem zf8 (k j:κ) (y:V) :∀kvs:List (κ×V),valV (kvs.map λ kv=>if kv.1=k then (kv.1,y) else kv) j=(valV kvs j).map λ x=>if j=k then y else x
 | []=>rfl
 | p :: r=>by
  have a:=zf8 k j y r;rw [W1];by_cases h:p.1=k
  ·rw [if_pos h];by_cases e:p.1=j
   ·rw [z1e (p:=(p.1,y)) e,z1e e,F8,if_pos (e.symm.trans h)]
   ·rw [z18 (p:=(p.1,y)) e,z18 e,a]
  ·rw [if_neg h];by_cases e:p.1=j
   ·rw [z1e (p:=p) e,z1e e,F8,if_neg (λ z=>h (e.trans z))]
   ·rw [z18 (p:=p) e,z18 e,a]
theorem zc9 (k j:κ) (y:V) :∀kvs:List (κ×V),valV kvs k=none->valV (kvs++[(k,y)]) j=if j=k then some y else valV kvs j
 | [],_=>by
  by_cases e:k=j
  ·rw [if_pos e.symm];exact z1e (p:=(k,y)) e
  ·rw [if_neg (λ z=>e z.symm)];exact z18 (p:=(k,y)) e
 | p :: r,hn=>by
  rw [List.cons_append];have a:¬ p.1=k:=λ z=>by rw [z1e z] at hn;cases hn
  rw [z18 a] at hn;have b:=zc9 k j y r hn;by_cases e:p.1=j
  ·rw [z1e e,z1e e,if_neg (λ z=>a (e.trans z))]
  ·rw [z18 e,z18 e,b]
theorem z7q (kvs:List (κ×V)) (k j:κ) (y:V):valV (putK kvs k y) j=if j=k then some y else valV kvs j:=by
 unfold putK;by_cases a:(kvs.any λ b=>decide (b.1=k))=true
 ·rw [if_pos a,zf8];rw [z62] at a;by_cases e:j=k
  ·obtain ⟨x,c⟩:=Option.isSome_iff_exists.mp a;rw [if_pos e,e,c,F8,if_pos rfl]
  ·rw [if_neg e];cases valV kvs j with
   | none=>rfl
   | some x=>rw [F8,if_neg e]
 ·rw [if_neg a];refine zc9 k j y kvs ?_;rw [z62] at a;cases q:valV kvs k with
  | none=>rfl
  | some x=>rw [q] at a;exact (a rfl).elim
theorem z21 (kvs:List (κ×V)) (k:κ) (v:V):(putK kvs k v).length<=kvs.length + 1:=by
 unfold putK;split
 ·rw [C0];omega
 ·rw [F0,A1,Z3];omega
theorem RelO.isSome_eq {o:Option V} {u:Option Value} (r:RelO o u):o.isSome=u.isSome:=by
 cases o with
 | none=>cases u with
  | none=>rfl
  | some _=>exact (show False from r).elim
 | some _=>cases u with
  | none=>exact (show False from r).elim
  | some _=>rfl
theorem RelO.getD {o:Option V} {u:Option Value} {d:V} {d':Value} (r:RelO o u) (rd:RelV d d'):RelV (o.getD d) (u.getD d'):=by
 cases o with
 | none=>cases u with
  | none=>exact rd
  | some _=>exact (show False from r).elim
 | some _=>cases u with
  | none=>exact (show False from r).elim
  | some _=>exact r
theorem KV.val {kvs:List (κ×V)} {vs:List (κ×Value)} (r:KV kvs vs) (k:κ):RelO (valV kvs k) (j15 vs k):=by
 unfold KV at r;induction r with
 | nil=>exact True.intro
 | @cons p q ps qs h t ih=>
  obtain ⟨c,d⟩:=h;by_cases e:p.1=k
  ·have a:q.1=k:=c.symm.trans e;have b:j15 (q :: qs) k=some q.2:=by simp [j15,U4,a]
   rw [z1e e,b];exact d
  ·have a:¬ q.1=k:=λ z=>e (c.trans z);have b:j15 (q :: qs) k=j15 qs k:=by simp [j15,U4,a]
   rw [z18 e,b];exact ih
theorem KV.any {kvs:List (κ×V)} {vs:List (κ×Value)} (r:KV kvs vs) (k:κ):(kvs.any λ kv=>decide (kv.1=k))=vs.any λ kv=>decide (kv.1=k):=by
 unfold KV at r;induction r with
 | nil=>rfl
 | cons h t ih=>rw [o8,o8,ih,h.1]
theorem KV.repl {kvs:List (κ×V)} {vs:List (κ×Value)} (r:KV kvs vs) (k:κ) {y:V} {u:Value} (ry:RelV y u) :
  KV (kvs.map λ kv=>if kv.1=k then (kv.1,y) else kv) (vs.map λ kv=>if kv.1=k then (kv.1,u) else kv):=by
 unfold KV at r⊢;induction r with
 | nil=>exact .nil
 | @cons p q ps qs h t ih=>
  rw [W1,W1];refine .cons ?_ ih;obtain ⟨a,b⟩:=h;by_cases e:p.1=k
  ·rw [if_pos e,if_pos (a.symm.trans e)];exact ⟨a,ry⟩
  ·rw [if_neg e,if_neg (λ z=>e (a.trans z))];exact ⟨a,b⟩
theorem KV.put {kvs:List (κ×V)} {vs:List (κ×Value)} (r:KV kvs vs) (k:κ) {y:V} {u:Value} (ry:RelV y u):KV (putK kvs k y) (stored vs k u):=by
 unfold putK stored;rw [r.any k];by_cases e:(vs.any λ a=>decide (a.1=k))=true
 ·rw [if_pos e,if_pos e];exact r.repl k ry
 ·rw [if_neg e,if_neg e];exact Paired.snoc r ⟨rfl,ry⟩
theorem KV.length {kvs:List (κ×V)} {vs:List (κ×Value)} (r:KV kvs vs):kvs.length=vs.length:=X7 r
end
theorem kV_is {P:Program} {w:C1} {k:Key} {u:Value} (r:RelV (kV k) u):(z0k P w).is k u=true:=by
 cases k with
 | inl i=>obtain ⟨t,e⟩:=(show∃t,u=m9 i t from r);subst e;exact zd9 P w i t
 | inr x=>obtain ⟨t,e⟩:=(show∃t,u=k9 x t from r);subst e;exact zd6 P w x t
theorem zc2 {P:Program} {w:C1} :∀{ks:List Key} {us:List Value},Vals (ks.map kV) us->ItemsAre (z0k P w) ks us
 | [],_,r=>by rw [K7] at r;cases r;exact .nil
 | k :: ks,_,r=>by
  rw [W1] at r;cases r with
  | cons h t=>exact .cons (kV_is h) (zc2 t)
abbrev KT (H:Hp):List (List Key×V)->List (List Key×Addr×Value)->Prop:=B9 λ p q=>p.1=q.1/\H q.2.1=some (.tup (p.1.map kV))/\RelV p.2 q.2.2
theorem KT.val {H:Hp} {kvs:List (List Key×V)} {xs:List (List Key×Addr×Value)} (r:KT H kvs xs) (k:List Key):RelO (valV kvs k) ((j0f xs k).map (·.2)):=by
 induction r with
 | nil=>exact True.intro
 | @cons p q ps qs h t ih=>
  obtain ⟨c,_,d⟩:=h;by_cases e:p.1=k
  ·have a:q.1=k:=c.symm.trans e;have b:j0f (q :: qs) k=some q.2:=by simp [j0f,U4,a]
   rw [z1e e,b];exact d
  ·have a:¬ q.1=k:=λ z=>e (c.trans z);have b:j0f (q :: qs) k=j0f qs k:=by simp [j0f,U4,a]
   rw [z18 e,b];exact ih
theorem KT.repl {H:Hp} {kvs:List (List Key×V)} {xs:List (List Key×Addr×Value)} (r:KT H kvs xs) (k:List Key) {y:V} {u:Value} (ry:RelV y u) :
  KT H (kvs.map λ kv=>if kv.1=k then (kv.1,y) else kv) (xs.map (putAt k u)):=by
 induction r with
 | nil=>exact .nil
 | @cons p q ps qs h t ih=>
  rw [W1,W1];refine .cons ?_ ih;obtain ⟨a,b,c⟩:=h;unfold putAt;by_cases e:p.1=k
  ·rw [if_pos e,if_pos (a.symm.trans e)];exact ⟨a,b,ry⟩
  ·rw [if_neg e,if_neg (λ z=>e (a.trans z))];exact ⟨a,b,c⟩
theorem KT.put {H:Hp} {kvs:List (List Key×V)} {xs:List (List Key×Addr×Value)} (r:KT H kvs xs) (k:List Key) {b:Addr} {y:V} {u:Value} (hb:H b=some (.tup (k.map kV))) (ry:RelV y u) :
  KT H (putK kvs k y) (storedH xs k b u):=by
 have e:(kvs.any λ a=>decide (a.1=k))=(j0f xs k).isSome:=by rw [z62,(r.val k).isSome_eq,T9]
 unfold putK storedH;rw [e];by_cases q:(j0f xs k).isSome=true
 ·rw [if_pos q,if_pos q];exact r.repl k ry
 ·rw [if_neg q,if_neg q];exact Paired.snoc r ⟨rfl,hb,ry⟩
theorem KT.keeps {H H':Hp} {kvs:List (List Key×V)} {xs:List (List Key×Addr×Value)} (r:KT H kvs xs) (ht :∀b ys,H b=some (.tup ys)->H' b=some (.tup ys)):KT H' kvs xs:=
 Paired.mapP r λ _ _ z=>⟨z.1,ht _ _ z.2.1,z.2.2⟩
section
variable {P:Program} {w:C1} {H:Hp} {h:Heap} {a:Addr}
theorem rd_of {u:HO} (ok:HOk P w H h) (e:Rd H a u):ObjOk P w H h a u:=e.ok ok
theorem dk_rd {kvs:List (Key×V)} (ok:HOk P w H h) (e:Rd H a (.dK kvs)):kvs.length<=sizeLine/\(a == w5)=false/\∃vs,KV kvs vs/\h.DictOf (z0k P w) a vs:=
 show ObjOk P w H h a (.dK kvs) from rd_of ok e
theorem dk_of {kvs:List (Key×V)} (ok:HOk P w H h) (e:H a=some (.dK kvs)):kvs.length<=sizeLine/\(a == w5)=false/\∃vs,KV kvs vs/\h.DictOf (z0k P w) a vs:=dk_rd ok (.inl e)
theorem key_of {ks:List Key} (ok:HOk P w H h) (e:H a=some (.tup (ks.map kV))):(S6 (z0k P w)).is h ks a:=by
 obtain ⟨_,b,r,⟨o,d,c,n,f⟩,_⟩:=(show ObjOk P w H h a (.tup (ks.map kV)) from ok a _ e)
 exact ⟨o,b.toArray,n,d,c,f,by simpa using zc2 r⟩
theorem dt_rd {kvs:List (List Key×V)} (ok:HOk P w H h) (e:Rd H a (.dT kvs)):kvs.length<=sizeLine/\(a == w5)=false/\
  ∃xs,KT H kvs xs/\h.DictOfH (S6 (z0k P w)) a xs:=by
 obtain ⟨z,y,xs,r,o,i,f,j,c,k,g,d⟩:=(show ObjOk P w H h a (.dT kvs) from rd_of ok e)
 refine ⟨z,y,xs,r,o,i,f,j,c,k,g,λ x b=>?_,d⟩;have all :∀{l:List (List Key×V)} {m:List (List Key×Addr×Value)},KT H l m->∀x∈m,(S6 (z0k P w)).is h x.1 x.2.1:=by
  intro l m q;induction q with
  | nil=>intro x b;exact nomatch b
  | @cons p q ps qs hq t ih=>
   intro x b;rcases List.mem_cons.mp b with e|b
   ·subst e;exact key_of ok (by rw [<-hq.1];exact hq.2.1)
   ·exact ih x b
 exact all r x b
theorem dt_of {kvs:List (List Key×V)} (ok:HOk P w H h) (e:H a=some (.dT kvs)):kvs.length<=sizeLine/\(a == w5)=false/\
  ∃xs,KT H kvs xs/\h.DictOfH (S6 (z0k P w)) a xs:=dt_rd ok (.inl e)
end
def DGet (H:Hp) (a:Addr) (y:V) (r:Option V):Prop:=
 (∃kvs k,Rd H a (.dK kvs)/\y=kV k/\r=valV kvs k)\/∃kvs k b,Rd H a (.dT kvs)/\y=.ref b/\H b=some (.tup (k.map kV))/\r=valV kvs k
def DPut (H:Hp) (a:Addr) (y v:V) (H':Hp):Prop:=
 (∃kvs k,H a=some (.dK kvs)/\y=kV k/\kvs.length < sizeLine/\H'=upd H a (.dK (putK kvs k v)))\/
 ∃kvs k b,H a=some (.dT kvs)/\y=.ref b/\H b=some (.tup (k.map kV))/\kvs.length < sizeLine/\H'=upd H a (.dT (putK kvs k v))
theorem DGet.k {H:Hp} {a:Addr} {kvs:List (Key×V)} {k:Key} (e:H a=some (.dK kvs)):DGet H a (kV k) (valV kvs k):=.inl ⟨kvs,k,.inl e,rfl,rfl⟩
theorem DPut.k {H:Hp} {a:Addr} {kvs:List (Key×V)} {k:Key} {v:V} (e:H a=some (.dK kvs)) (hl:kvs.length < sizeLine):DPut H a (kV k) v (upd H a (.dK (putK kvs k v))):=.inl ⟨kvs,k,e,rfl,hl,rfl⟩
section
variable {X:Cx} {pins:List (Addr×Obj)} {σ:St} {H:Hp} {s:B0} {a:Addr} {y v:V} {u r:Value} {o:Option V} {A:O2} {E:Value->B0->Prop}
theorem Inv.big (I:Inv X pins σ H s):w5 < s.heap.objs.size:=by have h:Q2 < s.heap.objs.size:=(I.mod.glob.keeps I.bk).lt;exact Q7 (by decide) h
theorem zhe {Q:Value->B0->Prop} (hu:A.units + 1 < cLine) (I:Inv X pins σ H s) (g:DGet H a y (some v)) (ry:RelV y u) (h :∀w' s',Inv X pins σ H s'->RelV v w'->Q w' s') :
  W0 (N1 X.prog X.w) A (j00 (.ref a) u) Q E s:=by
 rcases g with ⟨r,k,e,c,l⟩|⟨r,k,b,e,c,eb,l⟩
 ·subst c;obtain ⟨z,m,n,d,i⟩:=dk_rd I.hok e;obtain ⟨w',f,j⟩:=RelO.some_of (v:=v) (o:=j15 n k) (by rw [l];exact d.val k);exact wpAny_getItem_of (kV_is ry) i.mapOf f (h w' _ (I.tok _) j)
 ·subst c;cases (show u=G1 b from ry);obtain ⟨z,m,x,d,i⟩:=dt_rd I.hok e;obtain ⟨w',f,j⟩:=RelO.some_of (v:=v) (o:=(j0f x k).map (·.2)) (by rw [l];exact d.val k);obtain ⟨p,t,q⟩:=Option.map_eq_some_iff.mp f;refine wpAny_getItem_heap (v8 hu) (key_of I.hok eb) i t ?_;rw [q];exact h w' _ (I.tok _) j
theorem zkj {Q:Value->B0->Prop} (hu:A.units + 1 < cLine) (I:Inv X pins σ H s) (g:DGet H a y o) (ry:RelV y u) (h :∀s',Inv X pins σ H s'->Q (.bool (!o.isSome)) s') :
  W0 (N1 X.prog X.w) A (X2 .NotIn u (.ref a)) Q E s:=by
 rcases g with ⟨j,k,e,d,l⟩|⟨j,k,b,e,d,eb,l⟩
 ·subst d;obtain ⟨z,c,m,i,f⟩:=dk_rd I.hok e;refine wpAny_notIn_of (kV_is ry) c f.mapOf ?_;rw [<-(i.val k).isSome_eq,<-l];exact h _ (I.tok _)
 ·subst d;cases (show u=G1 b from ry);obtain ⟨z,c,n,i,f⟩:=dt_rd I.hok e;refine wpAny_notIn_heap (v8 hu) (key_of I.hok eb) c f ?_;have q:=(i.val k).isSome_eq;rw [T9] at q;rw [<-q,<-l];exact h _ (I.tok _)
theorem zfd {h':Heap} {t':Nat} {ob:HO} (I:Inv X pins σ H s) (mu:Mut (H a)) (hs:N6 a s.heap h') (he :∃q,h'.get? a=some q) (new:ObjOk X.prog X.w (upd H a ob) h' a ob) :
  Inv X pins σ (upd H a ob) { s with heap:=h',toks:=t' }:=
 I.write (x:=a) (e:=a) mu (.inl rfl) (λ b q c z=>(hs.2 b c).trans z) he new
theorem dk_new {P:Program} {w:C1} {H':Hp} {h':Heap} {kvs:List (Key×V)} {vs:List (Key×Value)} (z:kvs.length<=sizeLine) (hd:(a == w5)=false) (rel:KV kvs vs) (dd:h'.DictOf (z0k P w) a vs) :
  ObjOk P w H' h' a (.dK kvs):=⟨z,hd,vs,rel,dd⟩
theorem zge {H':Hp} {Q:Unit->B0->Prop} (hu:A.units + 1 < cLine) (I:Inv X pins σ H s) (g:DPut H a y v H') (ry:RelV y u) (rv:RelV v r) (h :∀s',Inv X pins σ H' s'->Q () s') :
  W0 (N1 X.prog X.w) A (setItem (.ref a) u r) Q E s:=by
 rcases g with ⟨d,k,e,m,l,o⟩|⟨d,k,b,e,m,eb,l,o⟩
 ·subst m o;obtain ⟨z,x,K,f,p⟩:=dk_of I.hok e;have n:K.length<=sizeLine:=by rw [<-f.length];exact z
  have t:(putK d k v).length<=sizeLine:=by have:=z21 d k v;omega
  refine wpAny_setItem_pairs (hsz:=n) (kV_is ry) p λ D j B=>h _ ?_;have M :∃q,D.get? a=some q:=let ⟨q,_,_,i,_⟩:=j;⟨q,i⟩;exact zfd I (by rw [e];exact True.intro) B M (dk_new t x (f.put k rv) j)
 ·subst m o;cases (show u=G1 b from ry);obtain ⟨z,x,J,f,p⟩:=dt_of I.hok e;have n:J.length<=sizeLine:=by rw [<-X7 f];exact z
  have t:(putK d k v).length<=sizeLine:=by have:=z21 d k v;omega
  refine wpAny_setItem_heap (hsz:=n) (v8 hu) (key_of I.hok eb) p λ D j B=>h _ ?_;obtain ⟨q,O,N,i,P,G,F,_,L⟩:=j;refine zfd I (by rw [e];exact True.intro) B ⟨q,i⟩ ⟨t,x,_,(f.put k eb rv).keeps λ c R C=>?_,q,O,N,i,P,G,F,L⟩;rw [upd_ne (ne_of C e (λ z=>nomatch z))];exact C
end
def NoSl (i:Expr):Prop:=∀ov iv,j2c i false ov iv=operate [ov,iv] (j00 ov iv)
theorem zl1 {prog:Program} {w:C1} {A:O2} {E:Value->B0->Prop} {s:B0} {env:Env} {value slice:Expr} {pos:Pos} {T id:String} {Q:Value->B0->Prop}
  (hl:j3d (.type T) "__getitem__" = X3 (some (.builtin id))) (hs:NoSl slice)
  (h:W0 (N1 prog w) A (R3 value env) (λ o s₁=>W0 (N1 prog w) A (R3 slice env) (λ i s₂=>s₂.TypeIs o T/\W0 (N1 prog w) A (j00 o i) Q E s₂) E s₁) E s) :
  W0 (N1 prog w) A (R3 (.Subscript value slice pos) env) Q E s:=by
 refine Subscript_ (w4 h (λ o s₁ e=>w4 e (λ i s₂ a=>?_) λ _ _ x=>x) λ _ _ x=>x);obtain ⟨b,a⟩:=a;unfold subscriptTail;refine o0 ?_;rw [getitemInPython_of_ne b.not_modules];refine o0 (wpAny_specialOf b hl ?_);have fin:W0 (N1 prog w) A (j2c slice false o i) (λ r c=>W0 (N1 prog w) A (letTemporaryGo value o r >>= λ _=>X3 r) Q E c) E s₂:=by rw [hs o i];exact wpAny_operating (w4 a (λ r c d=>o0 (wpAny_letTemporaryGo (G0 d))) λ _ _ x=>x)
 first
  | exact G0 (o0 fin)
  | exact o0 (G0 (o0 fin))
  | exact o0 fin
theorem zcj {X:Cx} {pins:List (Addr×Obj)} {σ:St} {H:Hp} {s:B0} {a:Addr} {y:V} {o:Option V} (I:Inv X pins σ H s) (g:DGet H a y o):s.TypeIs (.ref a) "dict":=by
 rcases g with ⟨d,k,e,_,_⟩|⟨d,k,b,e,_,_,_⟩
 ·obtain ⟨_,_,f,_,c⟩:=dk_rd I.hok e;exact c.typeIs
 ·obtain ⟨_,_,h,_,c⟩:=dt_rd I.hok e;exact c.typeIs
def tDGet (td ty:TE):TE:=λ σ H Q=>td σ H λ x H1=>ty σ H1 λ y H2=>∃a v,x=.ref a/\DGet H2 a y (some v)/\Q v H2
def zkt (ty td:TE):TE:=λ σ H Q=>ty σ H λ y H1=>td σ H1 λ x H2=>∃a o,x=.ref a/\DGet H2 a y o/\Q (.bl (!o.isSome)) H2
def sDPut (td ty tv:TE):TS:=λ D σ H=>tv σ H λ v H1=>td σ H1 λ x H2=>ty σ H2 λ y H3=>∃a H4,x=.ref a/\DPut H3 a y v H4/\D.nx σ H4
section
variable {X:Cx} {o i e value:Expr} {pos pos' tpos:Pos} {td ty tv:TE}
theorem z0d (hu:X.A.units + 1 < cLine) (ho:PE X o td) (hi:PE X i ty) (hs:NoSl i):PE X (.Subscript o i pos) (tDGet td ty):=by intro b s σ H Q I h;refine zl1 PySem.F.slot_dict_getitem.lookup hs (thn (ho b s σ H _ I h) λ u e ⟨x,H1,I1,rx,q1⟩=>thn (hi b e σ H1 _ I1 q1) λ j f ⟨y,H2,I2,ry,a,v,ex,g,q2⟩=>?_);subst ex;obtain rfl:u=G1 a:=rx;exact ⟨zcj I2 g,zhe hu I2 g ry λ l k d c=>⟨v,H2,d,c,q2⟩⟩
theorem zgu (hu:X.A.units + 1 < cLine) (hi:PE X i ty) (ho:PE X o td):PC X .NotIn i o (zkt ty td):=by intro b s σ H Q I h;refine thn (hi b s σ H _ I h) λ f d ⟨y,H1,I1,ry,q1⟩=>thn (ho b d σ H1 _ I1 q1) λ u e ⟨x,H2,I2,rx,a,ov,ex,g,q2⟩=>?_;subst ex;obtain rfl:u=G1 a:=rx;exact zkj hu I2 g ry λ j c=>⟨.bl (!ov.isSome),H2,c,rfl,q2⟩
theorem z3a (hu:X.A.units + 1 < cLine) (ho:PE X o td) (hi:PE X i ty) (hv:PE X value tv) (hs:a9 value (some (.Subscript o i pos')) pos.line X.env=X3 false) :
  PS X (.Assign [.Subscript o i pos'] value pos) (sDPut td ty tv):=by
 intro b s σ H D I h;refine wpAny_Assign_Subscript (thn (hv b s σ H _ I h) λ r d ⟨v,H1,I1,rv,q1⟩=>thn (ho b d σ H1 _ I1 q1) λ u c ⟨x,H2,I2,rx,q2⟩=>thn (hi b c σ H2 _ I2 q2) λ j f ⟨y,H3,I3,ry,a,H4,ex,g,q3⟩=>?_) hs;subst ex;obtain rfl:u=G1 a:=rx;exact zge hu I3 g ry rv λ k e=>⟨σ,H4,e,q3⟩
end
theorem zfs {P:Program} {w:C1} {H:Hp} (h:Heap) (hb:w5 < h.objs.size):ObjOk P w H (h.push { cls:=.type "dict",data:=.dict #[] }) h.objs.size (.dK []):=
 ⟨J2 _,beq_eq_false_iff_ne.mpr (D2 (B1 hb)),[],.nil,j3a h⟩
def tDNewK:TE:=λ _ H Q=>∀p,H p=none->Q (.ref p) (upd H p (.dK []))
section
variable {X:Cx} {pos:Pos}
theorem ze8:PE X (.Dict [] [] pos) tDNewK:=λ b s σ H Q I h=>wpAny_Dict_empty ⟨.ref s.heap.objs.size,_,I.laid (a:=s.heap.objs.size) (o:=.dK []) (t':=s.toks) (λ _ _ q=>I0 _ q) (J0 _) (zfs s.heap I.big),rfl,h _ (I.hok.fresh (J0 _))⟩
end
def tPairs:List (TE×TE)->St->Hp->(List (V×V)->Hp->Prop)->Prop
 | [],_,H,Q=>Q [] H
 | (tk,tv) :: r,σ,H,Q=>tk σ H λ x H1=>tv σ H1 λ y H2=>tPairs r σ H2 λ ps H3=>Q ((x,y) :: ps) H3
abbrev VV:List (V×V)->List (Value×Value)->Prop:=B9 λ p q=>RelV p.1 q.1/\RelV p.2 q.2
def PPs (X:Cx) (pos:Pos) (keys:List (Option Expr)) (values:List Expr) (trs:List (TE×TE)):Prop:=
 ∀(pins:List (Addr×Obj)) (s:B0) (σ:St) (H:Hp) (Q:List (V×V)->Hp->Prop),Inv X pins σ H s->tPairs trs σ H Q->
  W0 (N1 X.prog X.w) X.A (evalPairs (pairTrees keys values X.env pos)) (λ vs s'=>∃ps H',Inv X pins σ H' s'/\VV ps vs/\Q ps H') X.xe s
theorem zhv {X:Cx} {pos:Pos}:PPs X pos [] [] []:=λ a s σ H Q I h=>pairTrees_nil_walk ⟨[],H,I,.nil,h⟩
theorem z4o {X:Cx} {pos:Pos} {k v:Expr} {ks:List (Option Expr)} {vs:List Expr} {tk tv:TE} {trs:List (TE×TE)} (hk:PE X k tk) (hv:PE X v tv) (hr:PPs X pos ks vs trs) :
  PPs X pos (some k :: ks) (v :: vs) ((tk,tv) :: trs):=λ a s σ H Q I h=>
 pairTrees_cons_walk (thn (hk a s σ H _ I h) λ u c ⟨x,H1,I1,rx,q1⟩=>thn (hv a c σ H1 _ I1 q1) λ d b ⟨y,H2,I2,ry,q2⟩=>thn (hr a b σ H2 _ I2 q2) λ f e ⟨ps,H3,I3,rel,q3⟩=>⟨(x,y) :: ps,H3,I3,.cons ⟨rx,ry⟩ rel,q3⟩)
def mergeK (kvs more:List (Key×V)):List (Key×V):=more.foldl (λ acc kv=>putK acc kv.1 kv.2) kvs
theorem KV.merge :∀{more:List (Key×V)} {rs:List (Key×Value)} {kvs:List (Key×V)} {vs:List (Key×Value)},KV more rs->KV kvs vs->KV (mergeK kvs more) (merged vs rs):=by
 intro more rs kvs vs r;unfold KV at r;induction r generalizing kvs vs with
 | nil=>intro q;exact q
 | @cons p q ps qs h t ih=>
  intro a;have e:KV (putK kvs p.1 p.2) (stored vs q.1 q.2):=by have:=a.put p.1 h.2;rw [<-h.1];exact this
  exact ih e
theorem z52 :∀(more kvs:List (Key×V)),(mergeK kvs more).length<=kvs.length + more.length
 | [],kvs=>by show kvs.length<=kvs.length + 0;omega
 | p :: r,kvs=>by have b:=z52 r (putK kvs p.1 p.2);have a:=z21 kvs p.1 p.2;show (mergeK (putK kvs p.1 p.2) r).length<=_;rw [A1];omega
theorem z9i {P:Program} {w:C1} :∀{kvs:List (Key×V)} {ws:List (Value×Value)},VV (kvs.map λ kv=>(kV kv.1,kv.2)) ws->∃rs,Carries (z0k P w) ws rs/\KV kvs rs
 | [],_,r=>by rw [K7] at r;cases r;exact ⟨[],True.intro,.nil⟩
 | p :: kvs,_,r=>by
  rw [W1] at r;cases r with
  | @cons a b as bs h t=>obtain ⟨rs,c,q⟩:=z9i (P:=P) (w:=w) t;obtain ⟨e,d⟩:=b;exact ⟨(p.1,d) :: rs,⟨kV_is h.1,rfl,c⟩,.cons ⟨rfl,h.2⟩ q⟩
def tDisp (trs:List (TE×TE)):TE:=λ σ H Q=>∀p,H p=none->tPairs trs σ (upd H p (.dK [])) λ ps H2=>H2 p=some (.dK [])/\∃kvs:List (Key×V),ps=kvs.map (λ kv=>(kV kv.1,kv.2))/\kvs.length<=15/\Q (.ref p) (upd H2 p (.dK (mergeK [] kvs)))
theorem zie {X:Cx} {pos:Pos} {keys:List (Option Expr)} {values:List Expr} {trs:List (TE×TE)} (h:PPs X pos keys values trs) (hall:keys.all (·.isSome)=true) (hl:keys.length=values.length) (h0:keys≠[])
  (h15:keys.length<=15):PE X (.Dict keys values pos) (tDisp trs):=by
 intro t s σ H Q I q;have l:=I.hok.fresh (J0 s.heap.objs.size);have m:=I.laid (a:=s.heap.objs.size) (o:=.dK []) (h':=s.heap.push { cls:=.type "dict",data:=.dict #[] }) (t':=s.toks) (λ _ _ q=>I0 _ q) (J0 _) (zfs s.heap I.big);refine wpAny_Dict_walk (knd:=z0k X.prog X.w) hall hl h0 h15 (thn (h t _ σ _ _ m (q _ l)) λ x u ⟨ps,H2,I2,rel,e,kvs,ep,lk,q2⟩=>?_);subst ep;obtain ⟨p,c,j⟩:=z9i (P:=X.prog) (w:=X.w) rel;obtain ⟨z,k,v,d,i⟩:=dk_of I2.hok e;cases d;refine ⟨p,c,i,λ h' b r=>⟨.ref s.heap.objs.size,_,?_,rfl,q2⟩⟩;have g:(mergeK [] kvs).length<=sizeLine:=by have f:=z52 kvs [];rw [Z3] at f;rw [sizeLine_eq];omega
 have n :∃q,h'.get? s.heap.objs.size=some q:=let ⟨q,_,_,hq,_⟩:=b;⟨q,hq⟩;exact zfd I2 (by rw [e];exact True.intro) r n (dk_new g k (j.merge .nil) b)
structure M1 (X:Cx) (o:Expr) (m:Str) (apos:Pos) (e:Expr) (cpos:Pos):Prop where
 base:z5 o m X.env (R3 o X.env)=R3 o X.env
 few:((N4 cpos (L1 [e] X.env)).all (λ x=>!x.1) && (b9 cpos (T6 [] X.env)).all (λ x=>x.1.isSome)
  && decide (([e]:List Expr).length + ([]:List K6).length + (if ([]:List K6).isEmpty then 0 else 1) < 30))=true
 line:(apos.endLine == cpos.line)=true
 trees:N4 cpos (L1 [e] X.env)=[(false,R3 e X.env)]
structure M2 (X:Cx) (o:Expr) (m:Str) (apos:Pos) (e f:Expr) (cpos:Pos):Prop where
 base:z5 o m X.env (R3 o X.env)=R3 o X.env
 few:((N4 cpos (L1 [e,f] X.env)).all (λ x=>!x.1) && (b9 cpos (T6 [] X.env)).all (λ x=>x.1.isSome)
  && decide (([e,f]:List Expr).length + ([]:List K6).length + (if ([]:List K6).isEmpty then 0 else 1) < 30))=true
 line:(apos.endLine == cpos.line)=true
 trees:N4 cpos (L1 [e,f] X.env)=[(false,R3 e X.env),(false,R3 f X.env)]
def IsD (H:Hp) (a:Addr):Prop:=(∃kvs,Rd H a (.dK kvs))\/∃kvs,Rd H a (.dT kvs)
theorem isD_at {X:Cx} {pins:List (Addr×Obj)} {σ:St} {H:Hp} {s:B0} {a:Addr} (I:Inv X pins σ H s) (d:IsD H a) :
  s.TypeIs (.ref a) "dict"/\(∀b,G1 a=.ref b->∃ob,s.heap.get? b=some ob/\ob.dict=none)/\(a == w5)=false:=by
 rcases d with ⟨i,e⟩|⟨i,e⟩
 ·obtain ⟨_,f,j,_,c⟩:=dk_rd I.hok e;refine ⟨c.typeIs,λ b q=>?_,f⟩;cases q;obtain ⟨ob,_,_,g,h,_⟩:=c;exact ⟨ob,g,h.2.1⟩
 ·obtain ⟨_,f,k,_,c⟩:=dt_rd I.hok e;refine ⟨c.typeIs,λ b q=>?_,f⟩;cases q;obtain ⟨ob,_,_,g,h,_⟩:=c;exact ⟨ob,g,h.2.1⟩
section
variable {X:Cx} {pins:List (Addr×Obj)} {σ:St} {H:Hp} {s:B0} {a:Addr} {y d:V} {u r:Value} {o:Option V} {A:O2} {E:Value->B0->Prop}
theorem d_get2 {Q:Value->B0->Prop} (hu:A.units + 1 < cLine) (I:Inv X pins σ H s) (g:DGet H a y o) (ry:RelV y u) (rd:RelV d r) (h :∀w' s',Inv X pins σ H s'->RelV (o.getD d) w'->Q w' s') :
  W0 (N1 X.prog X.w) A (call (.builtin "dict.get") [.ref a,u,r]) Q E s:=by
 rcases g with ⟨m,k,e,i,l⟩|⟨m,k,b,e,i,eb,l⟩
 ·subst i;obtain ⟨z,f,p,j,c⟩:=dk_rd I.hok e;refine call_meetsIn E8 c.typeIs j25 (j1g _ _ _) (meets_dict_get_default (z0k X.prog X.w) a (kV_is ry) f r) ⟨_,c.mapOf,h _ _ (I.tok _) ?_⟩;rw [l];exact (j.val k).getD rd
 ·subst i;cases (show u=G1 b from ry);obtain ⟨z,f,n,j,c⟩:=dt_rd I.hok e;refine call_meetsIn E8 c.typeIs j25 (j1g _ _ _) (meetsH_dict_get_default (S6 (z0k X.prog X.w)) a b f r) ⟨v8 hu,k,n,key_of I.hok eb,c,h _ _ (I.tok _) ?_⟩;rw [l];exact (j.val k).getD rd
end
def tDGet2 (td ty tx:TE):TE:=λ σ H Q=>td σ H λ x H1=>∃a,x=.ref a/\IsD H1 a/\ty σ H1 λ y H2=>tx σ H2 λ z H3=>∃o,DGet H3 a y o/\Q (o.getD z) H3
section
variable {X:Cx} {o e f:Expr} {apos cpos:Pos} {td ty tx:TE}
theorem zjs (hu:X.A.units + 1 < cLine) (ho:PE X o td) (he:PE X e ty) (hf:PE X f tx) (m:M2 X o "get" apos e f cpos):PE X (.Call (.Attribute o "get" apos) [e,f] [] cpos) (tDGet2 td ty tx):=by
 intro b s σ H Q I h;refine wpAny_Call_method m.base m.few m.line PySem.F.plainAttrs_dict E8 PySem.F.type_dict_get (thn (ho b s σ H _ I h) λ u k ⟨x,H1,I1,rx,a,ex,d,q1⟩=>?_);subst ex;obtain rfl:u=G1 a:=rx;obtain ⟨c,l,_⟩:=isD_at I1 d;refine ⟨c,l,?_⟩;rw [m.trees];refine j35 rfl (i9 (Q4 (thn (he b k σ H1 _ I1 q1) λ r j ⟨y,H2,I2,ry,q2⟩=>Q4 (thn (hf b j σ H2 _ I2 q2) λ v p ⟨z,H3,I3,rz,ov,g,q3⟩=>M5 ?_))));exact d_get2 hu I3 g ry rz λ t q n i=>⟨_,H3,n,i,q3⟩
end
end L2
namespace Att
open PySem PySem.W PySem.Calls PyProof.Rows
theorem z6v {P:R0} {h:Heap} :∀(ns:List Int) (vs:List Value),WellAll P h vs (ns.map WData.int)->W4 vs ns:=by
 intro ns;induction ns with
 | nil=>intro vs w;rw [K7] at w;cases w;exact .nil
 | cons n ns ih=>
  intro vs w;rw [W1] at w;cases w with
  | cons a b=>cases a;exact .cons _ _ (ih _ b)
theorem zgt {l:OpenLaw} {n:Nat} (hn:l.most=some n) {P:R0} {h:Heap} {args:List WData} {vals:List Value}
  (hpre:l.row.toRowW.claim.pre args=true) (hwl:WellAll P h vals args) :
  ∃a vs ns,vals=[G1 a]/\args=[WData.list (ns.map WData.int)]/\h.get? a=some { cls:=.type "list",data:=.seq vs.toArray }/\W4 vs ns/\ns.length<=n:=by
 have k:WShape.hasAll [] args [.list .int]=true:=(pre_splitW hpre).1;have e:l.pre.holds [] { args:=args }=true:=(pre_splitW hpre).2;obtain ⟨d,r,rfl,i,f⟩:=hasAllW_cons k;obtain rfl:=hasAllW_nil f;obtain ⟨o,rfl,j⟩:=hasW_list i;obtain ⟨ns,rfl⟩:=items_int j;have g:ns.length<=n:=by
  unfold OpenLaw.pre at e;have c:(WTm.not (.lt (.lit (.int (n:Int))) (.len (.arg 0)))).holds [] { args:=[.list (ns.map .int)] }=true:=by have c:=(holds_andW e).1;rw [hn] at c;exact c
  have b:=condW_of c (w_not (w_lt w_lit (w_len_list (w_arg rfl))));rw [C0] at b;refine j10 λ q=>?_;have m:(n:Int) < ((ns.length:Nat):Int):=by omega
  first
   | (rw [decide_eq_true m] at b;exact absurd b (by decide))
   | (simp at b;omega)
 cases hwl with
 | cons w1 w2=>
  cases w2;cases w1 with
  | list ho hall=>exact ⟨_,_,ns,rfl,rfl,ho,z6v ns _ hall,g⟩
theorem zhm (l:OpenLaw) (args:List WData):l.row.toRowW.claim.post args (.bool true) args=true:=
 postW_of (r:=l.row.toRowW) (X:=(true == true))
  (show WShape.has [] (.bool true) .bool=true by first|rfl|decide|simp [WShape.has,WShape.arms,WShape.armsAll])
  (show (WTm.eq .res (.lit (.bool true))).value [] { args:=args,res:=some (.bool true),after:=args }=some (.bool (true == true)) from w_eq_bool (w_res rfl) w_lit) rfl
theorem attach_call {l:OpenLaw} {n:Nat} {q:Program} {loose:List Str} {XP:(Str->Option Value)->Heap->Prop} {YP:C1->Heap->Prop} {d:DefRec}
  (hn:l.most=some n) (hdf:d.params.defaults=[])
  (call :∀(w:C1) (s₀ s₁:B0) (mg mb:Str->Option Value) (fa:Addr) (o:Obj) (pm cd doc:Value) (a:Addr) (vs:List Value) (ns:List Int),
   Ground q loose [] XP w s₀ mg mb s₁.heap->YP w s₁.heap->
   s₁.heap.get? fa=some o->o.data=.func (docDef d.name d.params d.body d.scope pm cd doc)->s₁.heap.CodeRec cd d.name->mg d.name=some (.ref fa)->
   s₁.heap.get? a=some { cls:=.type "list",data:=.seq vs.toArray }->W4 vs ns->ns.length<=n->s₁.gens = #[]->
   B5 (N1 l.prog w) j17 (.call (.ref fa) ⟨[.ref a],[]⟩) (λ r s'=>r=.ok (.ret (.bool true))/\OldK s₁.heap s'.heap/\s'.os=s₁.os/\P8 s'.gens) s₁) :
  WalkO q loose XP YP l.row.toRowW d [] (λ f vs=>PySem.call f vs):=by
 intro w s₀ s₁ mg mb G Y fa o pm cd doc p kV k t i b c j B D F u C A x E;obtain rfl:p=.none:=Dflts.none b hdf;obtain rfl:kV=.none:=Dflts.noKw b;obtain ⟨a,vs,ns,rfl,rfl,s,v,z⟩:=zgt hn u x;refine enter_call (A6 (call w s₀ s₁ mg mb fa o pm cd doc a vs ns G Y k (fd_plain t) i c s v z j) λ r s' h=>?_);obtain ⟨rfl,y,g,e⟩:=h;exact ⟨.inl ⟨.bool true,.bool true,[],rfl,λ _=>rfl,.bool true,zhm l _,λ _=>⟨z7,λ _ m=>(nomatch m)⟩⟩,y,g,e⟩
end Att
namespace L2
open PySem PySem.Spec PyProof.Rows
theorem zbt :∀{vs:List Value} {ns:List Int},W4 vs ns->Vals (ns.map V.int) vs
 | _,_,.nil=>.nil
 | _,_,.cons n t h=>.cons ⟨t,rfl⟩ (zbt h)
def Only (H:Hp):Prop:=∀b,H b=none\/∃o xs,H b=some (.frz o (.lst xs))
theorem ziw {P:Program} {w:C1} {K:j0} {mg mb:Str->Option Value} {CX:CXT} {k:Nat} {fa a:Addr} {fd:FuncData} {x:Str} {sp:Sp} {s₁:B0} {vs:List Value} {ns:List Int}
  (KX:K.In s₁.heap) (hns:s₁.heap.Ns Q2 mg) (hb:s₁.heap.Ns builtinsNs mb) (hbb :∀x:Str,x≠"__name__"->mb x=b5 x) (hlim:s₁.heap.NoLimit) (hg:s₁.gens = #[])
  (ha:s₁.heap.get? a=some { cls:=.type "list",data:=.seq vs.toArray }) (hi:W4 vs ns) (hl:ns.length<=sizeLine) (hr:Room k j17)
  (F :∀base:Heap,K.In base->base.Ns Q2 mg->FnOk P w K mg base CX k fa fd [x] sp) (hbind :∀(s:B0) (u:Value),BindsTo s fd ⟨[u],[]⟩ [(x,u)])
  (hsp :∀H:Hp,Only H->SqL K H a (ns.map V.int)->sp [.ref a] H (λ v _=>v=.bl true) λ _ _ _=>False)
  (hCX :∀H e s',CX [] H s₁ (λ _ _ _=>False) e s'->False) :
  B5 (N1 P w) j17 (.call (.ref fa) ⟨[.ref a],[]⟩) (λ r s'=>r=.ok (.ret (.bool true))/\OldK s₁.heap s'.heap/\s'.os=s₁.os/\P8 s'.gens) s₁:=by
 have i:=zbt hi;have I:=hi.length
 -- from an abstract heap in which nothing but the script may be tracked
 have l :∀H:Hp,Only H->SqL K H a (ns.map V.int)->HOk P w H s₁.heap->(∀b,H b≠none->b=a)->(H a≠none->K.lookup a=none)->
   B5 (N1 P w) j17 (.call (.ref fa) ⟨[.ref a],[]⟩) (λ r s'=>r=.ok (.ret (.bool true))/\OldK s₁.heap s'.heap/\s'.os=s₁.os/\P8 s'.gens) s₁:=by
  intro H t Q j p C;have A :∀{b:Addr} {o:Obj},s₁.heap.get? b=some o->H b=none->(hidT s₁.heap H).get? b=some o:=λ e n=>ziv e n;have G :∀{b:Addr} {o:Obj} {es:Array DictEntry} {ep:Nat},s₁.heap.get? b=some o->o.data=.dict es ep->H b=none:=λ {b o es ep} e d=>by
   cases q:H b with
   | none=>rfl
   | some u=>have g:b=a:=p b (by rw [q];simp);subst g;rw [ha] at e;cases e;have N:Data.seq vs.toArray _=Data.dict es ep:=d;cases N
  have f :∀{b:Addr} {m:Str->Option Value},s₁.heap.Ns b m->(hidT s₁.heap H).Ns b m:=λ {b m} ⟨o,es,ep,e,d,r⟩=>⟨o,es,ep,A e (G e d),d,r⟩
  have y:K.In (hidT s₁.heap H):=λ b o e=>A (KX b o e) (by
   cases q:H b with
   | none=>rfl
   | some u=>have g:b=a:=p b (by rw [q];simp);subst g;rw [C (by rw [q];simp)] at e;cases e)
  have M:Mod K mg (hidT s₁.heap H):=⟨y,f hns,⟨mb,f hb,hbb⟩,let ⟨mc,h1,h2⟩:=hlim;⟨mc,f h1,h2⟩⟩
  have O:Env0 P w K mg (hidT s₁.heap H) j17 [] s₁ H:=⟨rfl,M,λ b o e=>zkb e,Nat.le_of_eq (zh4 _ _),trivial,λ b hb=>absurd (show b∈([]:List Addr) from hb) (by simp),j,.of_eq hg⟩
  refine A6 ((F _ y (f hns)).run j17 [] s₁ H ⟨[.ref a],[]⟩ [.ref a] [.ref a] _ _ hr O (hbind s₁ (.ref a)) (.cons rfl .nil) (hsp H t Q)) λ r s' h=>?_;cases r with
  | error e=>exact (hCX H e s' h).elim
  | ok fl=>
   cases fl with
   | next=>exact E4 h
   | brk=>exact E4 h
   | cont=>exact E4 h
   | ret u=>
    obtain ⟨v,T,os,D,un,J,L,q⟩:=h;have R:v=.bl true:=q;subst R;obtain rfl:u=J9 true:=L;refine ⟨rfl,OldK.of_keep λ b o e=>?_,os,D⟩;cases q:H b with
    | none=>exact un.keep b o e q (by intro z;exact absurd (show b∈([]:List Addr) from z) (by simp)) (by simp)
    | some u=>
     rcases t b with z|⟨ob,xs,z⟩
     ·rw [q] at z;cases z
     ·have S:=un.frzs b ob _ z;obtain ⟨B,_⟩:=j b _ z;obtain ⟨E,_⟩:=J b _ S;rw [e] at B;cases B;exact E
 cases hk:K.lookup a with
 | some o=>
  -- the script is one of the module's own objects
  have e:=KX a o hk;rw [ha] at e;cases e;refine l (λ _=>none) (λ _=>.inl rfl) (.inr ⟨_,vs.toArray,_,hk,rfl,rfl,rfl,by rw [X0,I];exact hl,by simpa using i⟩) (λ b u z=>by have c:(none:Option HO)=some u:=z;cases c) (λ b z=>absurd rfl z) λ z=>absurd rfl z
 | none=>
  refine l (λ b=>if b=a then some (.frz { cls:=.type "list",data:=.seq vs.toArray } (.lst (ns.map V.int))) else none) (λ b=>?_) (.inl (.inr ⟨{ cls:=.type "list",data:=.seq vs.toArray },if_pos rfl⟩)) (λ b u z=>?_) (λ b z=>?_) λ _=>hk
  ·by_cases hb:b=a
   ·exact .inr ⟨_,_,if_pos hb⟩
   ·exact .inl (if_neg hb)
  ·by_cases hb:b=a
   ·have c:=(if_pos hb).symm.trans z;cases c;subst hb;exact ⟨ha,by rw [C0];exact hl,vs,_,i,ha⟩
   ·have c:=(if_neg hb).symm.trans z;cases c
  ·by_cases hb:b=a
   ·exact hb
   ·exact absurd (if_neg hb) z
theorem walk_of {l:PySem.W.OpenLaw} {n k:Nat} {q:Program} {loose:List Str} {XP:(Str->Option Value)->Heap->Prop} {YP:C1->Heap->Prop} {d:DefRec} {K:R0->j0} {CX:C1->CXT} {sp:C1->Sp} {x:Str}
  (hn:l.most=some n) (hn2:n<=sizeLine) (hdf:d.params.defaults=[]) (hr:Room k j17)
  (hY :∀(w:C1) (h:Heap),YP w h->(K w.params).In h)
  (F :∀(w:C1) (mg:Str->Option Value) (fa:Addr) (h:Heap),(K w.params).In h->h.Ns Q2 mg->mg d.name=some (.ref fa)->
   ∃fd:FuncData,(∀(s:B0) (u:Value),BindsTo s fd ⟨[u],[]⟩ [(x,u)])/\
    ∀base:Heap,(K w.params).In base->base.Ns Q2 mg->FnOk l.prog w (K w.params) mg base (CX w) k fa fd [x] (sp w))
  (hsp :∀(w:C1) (H:Hp) (a:Addr) (ns:List Int),ns.length<=n->Only H->SqL (K w.params) H a (ns.map V.int)->sp w [.ref a] H (λ v _=>v=.bl true) λ _ _ _=>False)
  (hCX :∀(w:C1) (H:Hp) (s:B0) (e:Value) (s':B0),CX w [] H s (λ _ _ _=>False) e s'->False) :
  PySem.W.WalkO q loose XP YP l.row.toRowW d [] (λ f vs=>PySem.call f vs):=by
 refine Att.attach_call hn hdf λ w B r mg M fa o C J D a vs ns G Y I L E i t z c m=>?_;have KX:=hY w _ Y;obtain ⟨fd,j,y⟩:=F w mg fa _ KX G.T.g i;exact ziw KX G.T.g G.T.b G.T.builtins G.T.nolimit m t z (O0 c hn2) hr y j (λ H p A=>hsp w H a ns c p A) λ H e s'=>hCX w H r e s'
def z98 (s:Stmt):Arguments:=match s with
 | .FunctionDef _ a _ _ _ _ _ _ _ _=>a
 | _=>{ posonlyargs:=[],args:=[],vararg:=none,kwonlyargs:=[],kw_defaults:=[],kwarg:=none,defaults:=[] }
def z6h (s:Stmt):List Stmt:=match s with
 | .FunctionDef _ _ b _ _ _ _ _ _ _=>b
 | _=>[]
def z06 (s:Stmt):Scope:=match s with
 | .FunctionDef _ _ _ _ _ _ sc _ _ _=>sc
 | _=>{ kind:=.function,names:=[],isGenerator:=false,isCoroutine:=false }
abbrev CX0:CXT:=λ _ _ _ _ _ _=>False
abbrev E0:XK:=λ _ _ _=>False
theorem pass0 {X:Cx}:Passes CX0 X E0:=λ _ _ _ _ _ _ _ h=>h.elim
structure Fun (K:j0) (x qual:Str) (st:Stmt) (f:Addr) (fd:FuncData):Prop where
 ex :∃(oc:Value) (od:Option Addr) (kV doc pm:Value) (an:Option Addr) (cdv ct:Value) (osl:Array (Option Value)),
  fd=E6 x qual (z98 st) (z6h st) (z06 st) .none kV doc pm an cdv ct/\K.lookup f=some ⟨oc,od,.func fd,osl⟩/\S8 K cdv qual=true
 kp:Y4 K (.ref f)=true
section
variable {P:Program} {w:C1} {K:j0} {mg:Str->Option Value} {base:Heap}
theorem Fun.ok {x qual:Str} {st:Stmt} {f:Addr} {fd:FuncData} {N ps:List Str} {k:Nat} {sp:Sp} (F:Fun K x qual st f fd) (S:FnScope N ps (z06 st)) (len :∀vs H Q E,sp vs H Q E->vs.length=ps.length)
  (hbody :∀(cdv:Value) (A:O2) (outer:List Env) (s:B0) (H:Hp) (vs:List V) (Q:VK) (E:XK),Room k (A.deeper (G4 qual (z06 st) s.heap.objs.size f cdv))->sp vs H Q E->
   ∃t,PSs (cxOf CX0 P w K mg base N qual (z06 st) f cdv A outer s H E).nox (z6h st) t/\t { nx:=λ _ H'=>Q .non H',rt:=Q } (start N vs) H):FnOk P w K mg base CX0 (k + 1) f fd ps sp:=by
 obtain ⟨g,i,kV,n,m,e,cdv,l,j,rfl,c,a⟩:=F.ex;refine fn_of c a S len λ A outer s H vs Q E d b=>?_;obtain ⟨t,h,q⟩:=hbody cdv A outer s H vs Q E d b;exact ⟨t,h.nox,q⟩
theorem Fun.binds {x qual:Str} {st:Stmt} {f:Addr} {fd:FuncData} {ps:List Str} (F:Fun K x qual st f fd)
  (h :∀(kV doc pm:Value) (an:Option Addr) (cdv ct:Value) (us:List Value),us.length=ps.length->bindArgs (E6 x qual (z98 st) (z6h st) (z06 st) .none kV doc pm an cdv ct) ⟨us,[]⟩=X3 (ps.zip us)):Binds K fd ps []:=by
 obtain ⟨e,c,kV,doc,pm,an,cdv,ct,d,rfl,b,a⟩:=F.ex;exact .all (h kV doc pm an cdv ct)
theorem fun_mk {x qual:Str} {st:Stmt} {f:Addr} {oc:Value} {od an:Option Addr} {osl:Array (Option Value)} {kV doc pm cdv ct:Value} (l:K.lookup f=some ⟨oc,od,.func (E6 x qual (z98 st) (z6h st) (z06 st) .none kV doc pm an cdv ct),osl⟩)
  (c:S8 K cdv qual=true) (k:Y4 K (.ref f)=true):Fun K x qual st f (E6 x qual (z98 st) (z6h st) (z06 st) .none kV doc pm an cdv ct):=⟨⟨oc,od,kV,doc,pm,an,cdv,ct,osl,rfl,l,c⟩,k⟩
end
theorem hu_of {A:O2} {k:Nat} (hr:Room k A):A.units + 1 < cLine:=V0 (Nat.add_le_add_left (by decide:1<=64) _) hr.units
section
variable {X:Cx}
theorem pv (i:Nat) {x:Str} {pos:Pos} (hN:X.N[i]? = some x:=by rfl) (hv:Vis X.env.scope x:=by first|exact K1 rfl|exact J1 (K1 rfl)|exact J1 (J1 rfl)) (hd:(x == ("__debug__" : Str))=false:=by decide)
  (hcd:(x == ("__classdict__" : Str))=false:=by decide):PE X (.Name x pos) (tVar i):=pe_var hN hv hd hcd
end
theorem iteF {A B:Prop} (h:B):if false=true then A else B:=by rw [if_neg E1];exact h
theorem iteT {A B:Prop} (h:A):if true=true then A else B:=by rw [if_pos rfl];exact h
theorem ite2 {c A B:Prop} [Decidable c] (h1:c->A) (h2:¬ c->B):if c then A else B:=by
 by_cases h:c
 ·rw [if_pos h];exact h1 h
 ·rw [if_neg h];exact h2 h
def Same (H H':Hp):Prop:=∀b o,H b=some o->H' b=some o
theorem Same.refl (H:Hp):Same H H:=λ _ _ h=>h
theorem Same.trans {H H1 H2:Hp} (a:Same H H1) (b:Same H1 H2):Same H H2:=λ c o h=>b c o (a c o h)
theorem Same.free {H H':Hp} (e:Same H H') {l:Addr} (h:H' l=Option.none):H l=Option.none:=by
 cases q:H l with
 | none=>rfl
 | some o=>rw [e l o q] at h;cases h
theorem Same.seq {K:j0} {H H':Hp} {a:Addr} {xs:List V} (e:Same H H') (h:SqL K H a xs):SqL K H' a xs:=by
 rcases h with (h|⟨o,h⟩)|h
 ·exact .inl (.inl (e _ _ h))
 ·exact .inl (.inr ⟨o,e _ _ h⟩)
 ·exact .inr h
end L2
set_option maxHeartbeats 4000000
namespace L2
open PySem PySem.Spec PyProof.Rows
section
variable {prog:Program} {w:C1} {A:O2} {R:j20->B0->Prop} {s:B0}
theorem zgw {elt target iter:Expr} {ifs:List Expr} {scope:Scope} {pos:Pos} {it acc:Value} {env:Env} (J:Nat->B0->Prop)
  (turn :∀n s,J n s->W0 (N1 prog w) A (D7 it) (λ r s₁=>match r with
   | none=>R (.ok .next) s₁
   | some v=>W0 (N1 prog w) A (E9 target it v) (λ _ s₂=>W0 (N1 prog w) A (assign target env v) (λ _ s₃=>
     W0 (N1 prog w) A (forIn ifs true λ c r=>if r=true then do let ok <-isTrue c env (R3 c env);X3 (A4 ok) else X3 (A4 r)) (λ ok s₄=>
      if ok=true then W0 (N1 prog w) A (R3 elt env) (λ x s₅=>W0 (N1 prog w) A (call (.builtin "list.append") [acc,x]) (λ _ s₆=>∃m,m < n/\J m s₆) (λ _ _=>False) s₅) (λ _ _=>False) s₄
      else∃m,m < n/\J m s₄) (λ _ _=>False) s₃) (λ _ _=>False) s₂) (λ _ _=>False) s₁) (λ _ _=>False) s)
  (n:Nat) (h:J n s):B5 (N1 prog w) A (.compLoop (.ListComp elt [⟨target,iter,ifs,0⟩] scope pos) 0 it acc env) R s:=by
 refine codeAny_loop rfl J (λ n s e=>?_) n h;show W0 _ A ((compTurn (.ListComp elt [⟨target,iter,ifs,0⟩] scope pos) 0 it acc env).onRaise (λ x=>do noteFrame x env;theTreesLotGoes x)) _ _ s;refine wpAny_noted ?_;rw [compTurn_list];refine o0 (j0d (o0 (w4 (turn n s e) (λ r s₁ b=>?_) λ _ _ f=>f.elim)));cases r with
 | none=>exact G0 b
 | some v=>
  refine o0 (w4 b (λ _ s₂ g=>o0 (w4 g (λ _ s₃ d=>o0 (w4 d (λ ok s₄ a=>?_) λ _ _ f=>f.elim)) λ _ _ f=>f.elim)) λ _ _ f=>f.elim);cases ok with
  | false=>exact G0 ⟨rfl,a⟩
  | true=>exact o0 (o0 (w4 a (λ x s₅ j=>o0 (w4 j (λ _ s₆ i=>G0 (G0 ⟨rfl,i⟩)) λ _ _ f=>f.elim)) λ _ _ f=>f.elim))
end
theorem z3i {env:Env} :∀(names:List (Str×w6)) (acc:List (Str×Addr)),(∀y∈names,y.2=E2->∃c,env.cells.lookup y.1=some c)->(∀y c,acc.lookup y=some c->env.cells.lookup y=some c)->
  ∃cl,(forIn names acc λ (x:Str×w6) (r:List (Str×Addr))=>(match x with
    | (name,kind)=>if (kind == E2)=true then do let c <-cellOf env name;X3 (A4 ((name,c) :: r)) else X3 (A4 r):Sem (ForInStep (List (Str×Addr)))))=X3 cl/\
   (∀y c,cl.lookup y=some c->env.cells.lookup y=some c)/\(∀y,((y,E2)∈names\/∃c,acc.lookup y=some c)->∃c,cl.lookup y=some c)
 | [],acc,_,ha=>⟨acc,by rw [T7],ha,λ y h=>h.elim (λ z=>nomatch z) id⟩
 | (n,k) :: r,acc,hf,ha=>by
  rw [A7];dsimp only;by_cases hk:k=E2
  ·subst hk;obtain ⟨c,j⟩:=hf (n,.free) V1 rfl;have e:cellOf env n=X3 c:=by unfold cellOf;rw [j]
   rw [if_pos (by rfl),e];obtain ⟨cl,g,f,i⟩:=z3i r ((n,c) :: acc) (λ y a=>hf y (Q1 _ a)) (λ y d b=>by
    rw [o5] at b;by_cases a:(y == n)=true
    ·rw [a] at b;have:=eq_of_beq a;subst this;cases b;exact j
    ·rw [j0j] at a;rw [a] at b;exact ha y d b)
   refine ⟨cl,g,f,λ y a=>i y ?_⟩;rcases a with a|⟨d,b⟩
   ·rcases List.mem_cons.mp a with z|z
    ·cases z;exact .inr ⟨c,by rw [o5];simp⟩
    ·exact .inl z
   ·refine .inr ?_;rw [o5];by_cases a:(y == n)=true
    ·rw [a];exact ⟨c,rfl⟩
    ·rw [j0j] at a;rw [a];exact ⟨d,b⟩
  ·rw [if_neg (by simpa using hk)];obtain ⟨cl,g,f,i⟩:=z3i r acc (λ y a=>hf y (Q1 _ a)) ha;refine ⟨cl,g,f,λ y a=>i y ?_⟩;rcases a with a|a
   ·rcases List.mem_cons.mp a with z|z
    ·cases z;exact absurd rfl hk
    ·exact .inl z
   ·exact .inr a
theorem zdp {scope:Scope} {env:Env} (hf :∀y∈scope.names,y.2=E2->∃c,env.cells.lookup y.1=some c) :
  ∃cl,closureFor scope env=X3 cl/\(∀y c,cl.lookup y=some c->env.cells.lookup y=some c)/\(∀y,(y,E2)∈scope.names->∃c,cl.lookup y=some c):=by
 obtain ⟨cl,d,a,e⟩:=z3i (env:=env) scope.names [] hf (λ _ _ z=>nomatch z);refine ⟨cl,?_,a,λ y b=>e y (.inl b)⟩;simp only [closureFor];rw [d];rfl
theorem mem_of_lookup {κ:Type} {y:Str} {k:κ} :∀{l:List (Str×κ)},l.lookup y=some k->(y,k)∈l
 | (n,c) :: r,h=>by
  rw [o5] at h;by_cases hy:(y == n)=true
  ·rw [hy] at h;cases h;rw [eq_of_beq hy];exact V1
  ·rw [j0j] at hy;rw [hy] at h;exact Q1 _ (mem_of_lookup h)
theorem z65 {scope:Scope} {env:Env} (hcell :∀y∈scope.names,y.2≠NameKind.cell) {y:Str} {k:w6} (h:(J8 scope env).names.lookup y=some k) (hk:k=.cell\/k=.free):(y,E2)∈scope.names:=by
 have m:=mem_of_lookup h;unfold J8 at m;obtain ⟨⟨n,c⟩,a,e⟩:=List.mem_map.mp m;dsimp only at e;by_cases hc:(c == E2)=true
 ·have:=eq_of_beq hc;subst this;split at e<;>(injection e with e1 e2;subst e1;exact a)
 ·rw [if_neg (by simp [hc])] at e;injection e with e1 e2;subst e1 e2;rcases hk with rfl|rfl
  ·exact absurd rfl (hcell _ a)
  ·exact absurd rfl hc
abbrev cxComp (X:Cx) (scope:Scope) (cl:List (Str×Addr)) (N:List Str) (C:Addr) (s₂:B0) (H₂:Hp) (fp:List Addr):Cx:=
 { X with N:=N,s₀:=s₂,H₀:=H₂,env:=compEnvC scope cl C X.env,outer:=X.stack,stack:=X.stack,ex:=fp,fn:=λ _=>false,pn:=[],xe:=λ _ _=>False }
def PF (X:Cx) (ifs:List Expr) (t:TT):Prop:=
 ∀(pins:List (Addr×Obj)) (s:B0) (σ:St) (H:Hp) (Q:Bool->Hp->Prop),Inv X pins σ H s->t σ H Q->
  W0 (N1 X.prog X.w) X.A (forIn ifs true λ c r=>if r=true then do let ok <-isTrue c X.env (R3 c X.env);X3 (A4 ok) else X3 (A4 r)) (TP X pins σ Q) X.xe s
theorem pf_nil {X:Cx}:PF X [] (λ _ H Q=>Q true H):=λ _ _ _ H _ I h=>wpAny_tests_nil ⟨H,I,h⟩
theorem pf_one {X:Cx} {c:Expr} {t:TT} (h:PT X c t):PF X [c] t:=λ a s σ H Q I q=>wpAny_tests_one (h a s σ H Q I q)
theorem Vals.snoc {xs:List V} {us:List Value} {x:V} {u:Value} (r:Vals xs us) (q:RelV x u):Vals (xs++[x]) (us++[u]):=Vals.append r (.cons q .nil)
def TagOf (H:Hp) (x:V) (T:String):Prop:=match x with
 | .non=>T = "NoneType"
 | .bl _=>T = "bool"
 | .int _=>T = "int"
 | .str _=>T = "str"
 | .ref a=>((∃xs,H a=some (.lst xs))/\T = "list")\/((∃xs,H a=some (.tup xs))/\T = "tuple")\/((∃kvs,H a=some (.dK kvs))/\T = "dict")
 | _=>False
def instB (T C:String):Bool:=T == C || (T == "bool" && C == "int")
theorem TagOf.ty {K:j0} {H:Hp} {x:V} {T:String} (h:TagOf H x T):TyOf K H x (.type T):=by
 cases x with
 | non=>cases (show T = "NoneType" from h);exact .non
 | bl b=>cases (show T = "bool" from h);exact .bl b
 | int i=>cases (show T = "int" from h);exact .int i
 | str z=>cases (show T = "str" from h);exact .str z
 | ref a=>
  rcases h with ⟨⟨c,e⟩,rfl⟩|⟨⟨c,e⟩,rfl⟩|⟨⟨c,e⟩,rfl⟩
  ·exact .lst e
  ·exact .tup e
  ·exact .dK e
 | _=>exact h.elim
theorem TagOf.one {H:Hp} {x:V} {T:String} (h:TagOf H x T):T = "NoneType"\/T = "bool"\/T = "int"\/T = "str"\/T = "list"\/T = "tuple"\/T = "dict":=by
 cases x with
 | non=>exact .inl h
 | bl b=>exact .inr (.inl h)
 | int i=>exact .inr (.inr (.inl h))
 | str z=>exact .inr (.inr (.inr (.inl h)))
 | ref a=>rcases h with ⟨_,rfl⟩|⟨_,rfl⟩|⟨_,rfl⟩<;>simp
 | _=>exact h.elim
def isiC:List String:=["int","str","bool","tuple","list"]
theorem kit_of (K:j0) {T C:String} (h:T = "NoneType"\/T = "bool"\/T = "int"\/T = "str"\/T = "list"\/T = "tuple"\/T = "dict") (hC:C∈isiC):PySem.W.kitOne K (.type T) (.type C)=some (instB T C):=by
 have hC:C = "int"\/C = "str"\/C = "bool"\/C = "tuple"\/C = "list":=by simpa [isiC] using hC
 rcases h with rfl|rfl|rfl|rfl|rfl|rfl|rfl<;>rcases hC with rfl|rfl|rfl|rfl|rfl<;>kernel_rfl
section
variable {X:Cx}
theorem z0o:CallR X (.builtin "isinstance") (λ xs H Q=>∃x C T,xs=[x,.ty C]/\TagOf H x T/\C∈isiC/\Q (.bl (instB T C)) H):=by intro g s σ H xs i Q I r h;obtain ⟨x,C,T,rfl,a,f,q⟩:=h;obtain ⟨u,d,rfl,b,e⟩:=vals2 r;cases (show d=D3 C from e);exact zh3 I b a.ty (kit_of X.K a.one f) λ c=>⟨.bl _,H,I.tok c,rfl,q⟩
theorem zhj {ys:List V} {its:List Value} (rv:Vals ys its) (hb :∀y∈ys,∃b,y=V.bl b):((U0 its.length).all λ i=>decide (ys[i]? = some (V.bl true)))=ys.all λ y=>decide (y=V.bl true):=by
 have e:=rv.length;rw [Bool.eq_iff_iff,List.all_eq_true,List.all_eq_true];constructor
 ·intro h y d;obtain ⟨i,a,rfl⟩:=o6 d;have:=h i (List.mem_range.mpr (by omega));simpa [a] using this
 ·intro h i a;have c:i < ys.length:=by have:=List.mem_range.mp a;omega
  have:=h ys[i] (Z2 c);simpa [c] using this
theorem z38 (hc:X.calm=true):CallR X (.builtin "all") (λ xs H Q=>∃p ys,xs=[.ref p]/\SqL X.K H p ys/\(∀y∈ys,∃b,y=V.bl b)/\Q (.bl (ys.all λ y=>decide (y=V.bl true))) H):=by
 intro P s σ H xs L Q I r h;obtain ⟨p,ys,rfl,B,j,q⟩:=h;obtain ⟨u,rfl,n⟩:=vals1 r;cases n;obtain ⟨g,c,d,J⟩:=I.list B;have t:p≠s.heap.objs.size:=by obtain ⟨o,e,_⟩:=d.isList;exact B1 (S0 e)
 refine call_all_walk (Z4 d.isList ?_);refine ⟨s.heap.objs.size,_,_,_,_,_,λ i=>decide (ys[i]? = some (V.bl true)),rfl,Walks.list (show X.A.in1.handled=none from I.ok.hd hc) s.heap.objs.size p t g.toArray,⟨⟨_,D1 _ rfl,rfl,rfl⟩,d.isList.at λ o e=>I0 _ e⟩,?_,?_⟩
 ·intro i v M N G a E;have a:g[i]? = some v:=by simpa using a
  obtain ⟨F,e⟩:=List.getElem?_eq_some_iff.mp a;have f:i < ys.length:=by rw [c.length];exact F
  obtain ⟨b,l⟩:=j ys[i] (Z2 f);obtain ⟨u,m,k⟩:=c.get (i:=i) (x:=ys[i]) (by simp [f]);rw [a] at m;cases m;rw [l] at k;cases (show v=J9 b from k);have:decide (ys[i]? = some (V.bl true))=b:=by rw [v0 f,l];cases b<;>simp
  exact J3 (this ▸ E)
 ·intro O w C;have e:=zhj c j;rw [<-X0] at e;refine ⟨.bl _,H,I.kept (t':=w) λ b o z=>C b o ?_ (I0 _ z),rfl,e.symm ▸ q⟩;intro D;rw [List.mem_singleton.mp D] at z;exact absurd (S0 z) (z4 _)
def CDivB (i j:Int):Prop:=0 < j/\j < 2 ^ 64
theorem z1r:OpR X (v6 .FloorDiv) (rI CDivB λ i j=>.int (i / j)):=opI λ i j _ _ _ _ _ a q=>by
 obtain ⟨b,c⟩:=a;refine floordiv_int (by omega) ?_ (.inl (PyProof.noPylong_of_log2 ?_))
 ·rw [Int.fdiv_eq_ediv_of_nonneg _ (by omega)];exact q
 ·have:j.natAbs.log2 < 64:=(Nat.log2_lt (by omega)).mpr (by omega);omega
structure KDict (K:j0) (P:R0) (a:Addr) (kvs:List (Str×V)):Prop where
 ex :∃es n,K.lookup a=some ⟨.type "dict",none,.dict es n,#[]⟩/\B9 (λ (p:Str×V) (e:DictEntry)=>(∃t,e.key=.str p.1 t)/\e.hash=g0 P p.1/\RelV p.2 e.val) kvs es.toList
 lo:(a == w5)=false
theorem zgb {kvs:List (Str×V)} {P:R0} :∀{es:List DictEntry},B9 (λ (p:Str×V) (e:DictEntry)=>(∃t,e.key=.str p.1 t)/\e.hash=g0 P p.1/\RelV p.2 e.val) kvs es->∀z,
  RelO (kvs.lookup z) (findBy Z7 es.toArray z):=by
 intro es r;induction r with
 | nil=>intro z;exact True.intro
 | @cons p e kvs es h t a=>
  intro z;obtain ⟨⟨g,d⟩,f,c⟩:=h;have a:=a z;unfold findBy at a⊢;rw [List.find?_toArray] at a⊢;rw [U4,o5];have b:Z7 z e.key=(z == p.1):=by rw [d];show (p.1 == z)=_;rw [Bool.eq_iff_iff,beq_iff_eq,beq_iff_eq];exact ⟨λ q=>q.symm,λ q=>q.symm⟩
  cases hz:(z == p.1) with
  | true=>rw [b,hz];exact c
  | false=>rw [b,hz];exact a
theorem KDict.mapOf {a:Addr} {kvs:List (Str×V)} (D:KDict X.K X.w.params a kvs) {h:Heap} (k:X.K.In h) :∃f,h.MapOf (strKind X.prog X.w) a f/\∀z,RelO (kvs.lookup z) (f z):=by
 obtain ⟨c,n,d,r⟩:=D.ex;have b:PySem.W.KeysLit X.w.params c.toList:=by
  clear d D;generalize c.toList=l at r;induction r with
  | nil=>exact True.intro
  | cons h t ih=>obtain ⟨⟨g,b⟩,e,j⟩:=h;exact ⟨⟨_,g,b,e⟩,ih⟩
 have i :∀z,RelO (kvs.lookup z) (findBy Z7 c.toList.toArray z):=zgb r;exact ⟨_,PySem.W.mapOf_K (prog:=X.prog) k d b,λ z=>by simpa using i z⟩
theorem ziz {a:Addr} {kvs:List (Str×V)} (D:KDict X.K X.w.params a kvs):OpR X (X2 .In) (λ x y H Q=>∃z,x=.str z/\y=.ref a/\Q (.bl (kvs.lookup z).isSome) H):=by intro g s σ H x y v u Q I b e h;obtain ⟨z,rfl,rfl,q⟩:=h;obtain ⟨t,rfl⟩:=b;cases e;obtain ⟨f,d,c⟩:=D.mapOf I.kIn;refine wpAny_in_of (w9 X.prog X.w z t) D.lo d ⟨.bl _,H,I.tok _,rfl,?_⟩;have:=c z;rw [RelO.isSome_eq this] at q;exact q
theorem ix_kd {a:Addr} {kvs:List (Str×V)} (D:KDict X.K X.w.params a kvs):IxR X (λ x y H Q=>∃z v,x=.ref a/\y=.str z/\kvs.lookup z=some v/\Q v H):=by
 intro l k m s σ H x y v u Q I d g h i;obtain ⟨z,r,rfl,rfl,e,q⟩:=h;cases d;obtain ⟨t,rfl⟩:=g;obtain ⟨f,c,j⟩:=D.mapOf I.kIn;have b:=j z;rw [e] at b;cases ef:f z with
 | none=>rw [ef] at b;exact b.elim
 | some u=>rw [ef] at b;exact tail_any c.typeIs slot_dict_getitem.lookup (wpAny_getItem_of (w9 X.prog X.w z t) c ef ⟨r,H,I.tok _,b,q⟩) i
structure KDictT (K:j0) (P:R0) (a:Addr) (kvs:List ((Str×Str)×V)):Prop where
 ex :∃es n,K.lookup a=some ⟨.type "dict",none,.dict es n,#[]⟩/\B9 (λ (p:(Str×Str)×V) (e:DictEntry)=>(∃(b:Addr) (t t':Tok) (m:Nat),e.key=.ref b/\K.lookup b=some ⟨.type "tuple",none,.seq #[.str p.1.1 t,.str p.1.2 t'] m,#[]⟩)/\
  e.hash=U1 (A0 [g0 P p.1.1,g0 P p.1.2])/\RelV p.2 e.val) kvs es.toList
 nd:(kvs.map (·.1)).Nodup
 lo:(a == w5)=false
theorem zgc {prog:Program} {w:C1} {K:j0} {h:Heap} (k:K.In h) :∀{kvs:List ((Str×Str)×V)} {es:List DictEntry},
  B9 (λ (p:(Str×Str)×V) (e:DictEntry)=>(∃(b:Addr) (t t':Tok) (m:Nat),e.key=.ref b/\K.lookup b=some ⟨.type "tuple",none,.seq #[.str p.1.1 t,.str p.1.2 t'] m,#[]⟩)/\
   e.hash=U1 (A0 [g0 w.params p.1.1,g0 w.params p.1.2])/\RelV p.2 e.val) kvs es->
  ∃xs:List (List Str×Addr×Value),es=xs.map (entryOfKey (S6 (strKind prog w)))/\(∀x∈xs,(S6 (strKind prog w)).is h x.1 x.2.1)/\xs.map (·.1)=kvs.map (λ p=>[p.1.1,p.1.2])/\
   ∀a b,RelO (kvs.lookup (a,b)) ((j0f xs [a,b]).map (·.2)):=by
 intro kvs es r;induction r with
 | nil=>exact ⟨[],rfl,λ x f=>absurd f L0,rfl,λ a b=>True.intro⟩
 | @cons p e kvs es hpe t ih=>
  obtain ⟨xs,s,A,u,q⟩:=ih;obtain ⟨⟨b,B,D,m,j,v⟩,i,n⟩:=hpe;refine ⟨([p.1.1,p.1.2],b,e.val) :: xs,?_,?_,?_,?_⟩
  ·rw [W1,<-s];congr 1;obtain ⟨y,o,C⟩:=e;have j:o=.ref b:=j;have i:y=_:=i;subst j i;rfl
  ·intro x f;rcases List.mem_cons.mp f with rfl|f
   ·exact ⟨_,_,m,k _ _ v,rfl,rfl,.cons (w9 prog w _ _) (.cons (w9 prog w _ _) .nil)⟩
   ·exact A x f
  ·rw [W1,W1,u]
  ·intro c d;have:=q c d;rw [o5];unfold j0f at this⊢;rw [U4];by_cases hcd:(c,d)=p.1
   ·have l:((c,d) == p.1)=true:=by rw [beq_iff_eq];exact hcd
    rw [l];have g:decide ([p.1.1,p.1.2]=[c,d])=true:=by rw [<-hcd];simp
    rw [g];exact n
   ·have l:((c,d) == p.1)=false:=by rw [beq_eq_false_iff_ne];exact hcd
    rw [l];have g:decide ([p.1.1,p.1.2]=[c,d])=false:=by rw [decide_eq_false_iff_not];intro z;injection z with z1 z;injection z with z2 _;exact hcd (j1h z1.symm z2.symm)
    rw [g];exact this
theorem z7a :∀{l:List (Str×Str)},l.Nodup->(l.map λ p=>[p.1,p.2]).Nodup
 | [],_=>List.nodup_nil
 | p :: r,h=>by obtain ⟨a,b⟩:=List.nodup_cons.mp h;rw [W1];refine List.nodup_cons.mpr ⟨λ m=>a ?_,z7a b⟩;obtain ⟨q,c,e⟩:=List.mem_map.mp m;injection e with e1 e;injection e with e2 _;have:q=p:=j1h e1 e2;exact this ▸ c
theorem KDictT.dict {a:Addr} {kvs:List ((Str×Str)×V)} (D:KDictT X.K X.w.params a kvs) {h:Heap} (k:X.K.In h) :∃xs,h.DictOfH (S6 (strKind X.prog X.w)) a xs/\∀c d,RelO (kvs.lookup (c,d)) ((j0f xs [c,d]).map (·.2)):=by obtain ⟨f,n,j,r⟩:=D.ex;obtain ⟨xs,g,i,b,e⟩:=zgc (prog:=X.prog) (w:=X.w) k r;refine ⟨xs,⟨_,f,n,k _ _ j,⟨rfl,rfl,rfl⟩,rfl,g,i,?_⟩,e⟩;rw [b];have:=z7a D.nd;rw [K4] at this;exact this
theorem zk6 {pins:List (Addr×Obj)} {σ:St} {H:Hp} {s:B0} {p:Addr} {c d:Str} (I:Inv X pins σ H s) (hp:H p=some (.tup [.str c,.str d])):(S6 (strKind X.prog X.w)).is s.heap [c,d] p:=by
 obtain ⟨_,g,a,⟨o,f,e,n,b⟩,_⟩:=(show ObjOk X.prog X.w H s.heap p (.tup [.str c,.str d]) from I.hok p _ hp)
 cases a with
 | cons r1 a=>
  cases a with
  | cons r2 a=>cases a;obtain ⟨h,rfl⟩:=r1;obtain ⟨i,rfl⟩:=r2;exact ⟨o,_,n,f,e,b,.cons (w9 X.prog X.w _ _) (.cons (w9 X.prog X.w _ _) .nil)⟩
theorem zb2 {a:Addr} {kvs:List ((Str×Str)×V)} (hu:X.A.units + 1 < cLine) (D:KDictT X.K X.w.params a kvs) :
  OpR X (X2 .NotIn) (λ x y H Q=>∃p c d,x=.ref p/\H p=some (.tup [.str c,.str d])/\y=.ref a/\Q (.bl (!(kvs.lookup (c,d)).isSome)) H):=by
 intro j s σ H x y v u Q I b i h;obtain ⟨p,c,d,rfl,g,rfl,q⟩:=h;cases b;cases i;obtain ⟨l,f,e⟩:=D.dict I.kIn;refine wpAny_notIn_heap (k:=[c,d]) hu (zk6 I g) D.lo f ⟨.bl _,H,I.tok _,rfl,?_⟩;have:=RelO.isSome_eq (e c d);rw [T9] at this;rw [this] at q;exact q
end
structure Cal (P:Program) (w:C1) (K:j0) (mg:Str->Option Value) (base:Heap) (x:Str) (ps:List Str) (k:Nat) (sp:Sp):Prop where
 ex :∃f fd,FnOk P w K mg base CX0 k f fd ps sp/\mg x=some (.ref f)/\Y4 K (.ref f)=true/\Binds K fd ps []
section
variable {X:Cx} {x:Str} {ps:List Str} {k:Nat} {sp:Sp} {e:Expr} {es:List Expr} {t:TA} {p pos:Pos}
theorem pe_cal (c:Cal X.prog X.w X.K X.mg X.base x ps k sp) (hr:Room k X.A) (hg:Gl X x) (ha:PA X (e :: es) t) (hn:x≠"__name__":=by decide) (hdb:(x == ("__debug__" : Str))=false:=by decide)
  (he:L1 (e :: es) X.env=(false,R3 e X.env) :: L1 es X.env:=by rfl) (hpl:(N4 pos (L1 es X.env)).any (·.1)=false:=by rfl):PE X (.Call (.Name x p) (e :: es) [] pos) (tCall sp [] E0 t):=by
 obtain ⟨f,g,F,d,a,b⟩:=c.ex;exact zf5 F hr hg d a b .nil pass0 ha hdb he hpl
end
structure TX (K:j0) (mg:Str->Option Value):Prop where
 of :∀{n:Str} {v:Value},M3 K Q2 n=some (some v)->mg n=some v
 no :∀{n:Str},M3 K Q2 n=some none->mg n=none
theorem TX.mk' {K:j0} {mg:Str->Option Value} {h:Heap} (X:K.In h) (G:h.Ns Q2 mg):TX K mg:=⟨λ e=>PySem.W.mg_of X G e,λ e=>PySem.W.mg_none_of X G e⟩
section
variable {X:Cx}
def rAdd4 (K:j0):R2:=λ x y H Q=>(∃i j,x=.int i/\y=.int j/\Q (.int (i + j)) H)\/(∃i j,x=.str i/\y=.str j/\i.length + j.length<=sizeLine/\Q (.str (i++j)) H)\/rCat x y H Q\/rCatT K x y H Q
theorem opAdd:OpR X (v6 .Add) (rAdd4 X.K):=op_add.or (op_add_str.or (op_cat.or zk4))
theorem opEq:OpR X (X2 .Eq) rEq:=op_eq
theorem opNe:OpR X (X2 .NotEq) rNe:=op_ne
theorem z0n:CallR X (.builtin "len") (λ xs H Q=>(∃p ys,xs=[.ref p]/\(SqL X.K H p ys\/SqT X.K H p ys)/\Q (.int ys.length) H)\/∃z,xs=[.str z]/\z.length<=sizeLine/\Q (.int z.length) H):=call_len_seq.or zb1
end
def z0j (x:V) (g:Int):Bool:=match x with
 | .int i=>decide (-g<=i) && decide (i<=g)
 | _=>false
def tupOf (H:Hp) (x:V):Option (List V):=match x with
 | .ref a=>(match H a with|some (.tup xs)=>some xs|_=>none)
 | _=>none
theorem zfw {H H':Hp} {x:V} {T:String} (t:TagOf H x T) (e:Same H H'):tupOf H' x=tupOf H x:=by
 cases x with
 | ref a=>rcases t with ⟨⟨b,h⟩,_⟩|⟨⟨b,h⟩,_⟩|⟨⟨b,h⟩,_⟩<;>(unfold tupOf;dsimp only;rw [h,e a _ h])
 | _=>rfl
theorem TagOf.same {H H':Hp} {x:V} {T:String} (t:TagOf H x T) (e:Same H H'):TagOf H' x T:=by
 cases x with
 | ref a=>
  rcases t with ⟨⟨b,h⟩,z⟩|⟨⟨b,h⟩,z⟩|⟨⟨b,h⟩,z⟩
  ·exact .inl ⟨⟨b,e a _ h⟩,z⟩
  ·exact .inr (.inl ⟨⟨b,e a _ h⟩,z⟩)
  ·exact .inr (.inr ⟨⟨b,e a _ h⟩,z⟩)
 | _=>exact t
theorem TagOf.tuple {H:Hp} {x:V} (t:TagOf H x "tuple") :∃a xs,x=.ref a/\H a=some (.tup xs):=by
 cases x with
 | ref a=>
  rcases t with ⟨_,z⟩|⟨⟨xs,h⟩,_⟩|⟨_,z⟩
  ·exact absurd z (by decide)
  ·exact ⟨a,xs,rfl,h⟩
  ·exact absurd z (by decide)
 | non=>exact absurd (show "tuple" = "NoneType" from t) (by decide)
 | bl b=>exact absurd (show "tuple" = "bool" from t) (by decide)
 | int i=>exact absurd (show "tuple" = "int" from t) (by decide)
 | str z=>exact absurd (show "tuple" = "str" from t) (by decide)
 | _=>exact t.elim
theorem TagOf.int {H:Hp} {x:V} (t:TagOf H x "int") :∃i,x=.int i:=by
 cases x with
 | ref a=>rcases t with ⟨_,z⟩|⟨_,z⟩|⟨_,z⟩<;>exact absurd z (by decide)
 | non=>exact absurd (show "int" = "NoneType" from t) (by decide)
 | bl b=>exact absurd (show "int" = "bool" from t) (by decide)
 | int i=>exact ⟨i,rfl⟩
 | str z=>exact absurd (show "int" = "str" from t) (by decide)
 | _=>exact t.elim
theorem TagOf.str {H:Hp} {x:V} (t:TagOf H x "str") :∃z,x=.str z:=by
 cases x with
 | ref a=>rcases t with ⟨_,z⟩|⟨_,z⟩|⟨_,z⟩<;>exact absurd z (by decide)
 | non=>exact absurd (show "str" = "NoneType" from t) (by decide)
 | bl b=>exact absurd (show "str" = "bool" from t) (by decide)
 | int i=>exact absurd (show "str" = "int" from t) (by decide)
 | str z=>exact ⟨z,rfl⟩
 | _=>exact t.elim
theorem noInt {H:Hp} {x:V} {T:String} (t:TagOf H x T) (h:T≠"int") (g:Int):z0j x g=false:=by
 cases x with
 | int i=>exact absurd t h
 | _=>rfl
theorem noTup {H:Hp} {x:V} {T:String} (t:TagOf H x T) (h:T≠"tuple"):tupOf H x=none:=by
 cases x with
 | ref a=>
  rcases t with ⟨⟨b,e⟩,_⟩|⟨_,z⟩|⟨⟨b,e⟩,_⟩
  ·unfold tupOf;dsimp only;rw [e]
  ·exact absurd z h
  ·unfold tupOf;dsimp only;rw [e]
 | _=>rfl
theorem z6d {H:Hp} {x:V} {T:String} (t:TagOf H x T) {C:String} (h:C≠"int"):instB T C=decide (T=C):=by
 unfold instB;have:(C == "int")=false:=by simpa using h
 rw [this,v9,S9,Bool.beq_eq_decide_eq]
def Flat (H:Hp) (x:V):Prop:=∀xs,tupOf H x=some xs->xs.length<=1000/\∀y∈xs,∃T,TagOf H y T
theorem z69 {α β:Type} [BEq α] [LawfulBEq α] {l:List (α×β)} {a:α} {b:β} (h:l.lookup a=some b):(a,b)∈l:=by
 induction l with
 | nil=>cases h
 | cons p r ih=>
  obtain ⟨c,d⟩:=p;rw [o5] at h;cases hc:(a == c) with
  | true=>rw [hc] at h;cases h;rw [eq_of_beq hc];exact V1
  | false=>rw [hc] at h;exact Q1 _ (ih h)
theorem zbs {names:List (Str×w6)} {Q:Str×w6->Prop} (h:(names.all λ y=>y.2 != E2)=true) :∀y∈names,y.2=E2->Q y:=λ y a e=>by have:=List.all_eq_true.mp h y a;rw [e] at this;exact absurd this (by decide)
theorem Same.upd {H:Hp} {p:Addr} {o:HO} (h:H p=none):Same H (upd H p o):=λ b u e=>by rw [upd_ne (z0q e h)];exact e
theorem Same.seqT {K:j0} {H H':Hp} {a:Addr} {xs:List V} (e:Same H H') (h:SqT K H a xs):SqT K H' a xs:=by
 rcases h with (h|⟨o,h⟩)|h
 ·exact .inl (.inl (e _ _ h))
 ·exact .inl (.inr ⟨o,e _ _ h⟩)
 ·exact .inr h
theorem zdu {H:Hp} {x:V} {xs:List V} (h:tupOf H x=some xs) :∃a,x=.ref a/\H a=some (.tup xs):=by
 unfold tupOf at h;cases x with
 | ref a=>
  dsimp only at h;split at h
  ·rename_i ys e;exact ⟨a,rfl,by rw [e,X1 h]⟩
  ·cases h
 | _=>cases h
end L2
namespace L2
open PySem PySem.Spec PyProof.Rows
open Builtin.Str (occurrences partsBetween strKind)
section
variable {X:Cx}
theorem zbz {vl:Value} {lo:Option Int} (p:j12 vl lo) :∃l:Option (Int×Tok),vl=partValue l/\l.map (·.1)=lo:=by
 cases p with
 | none=>exact ⟨none,rfl,rfl⟩
 | int i t=>exact ⟨some (i,t),rfl,rfl⟩
end
end L2
namespace L2
open PySem PySem.Spec PyProof.Rows
section
variable {X:Cx}
def rSlS:V->Option Int->Option Int->Hp->VK->Prop:=λ x lo hi H Q=>∃z,x=.str z/\z.length<=sizeLine/\Q (.str (Txt.slice z lo hi)) H
theorem sl_str:SlR X rSlS:=by
 intro p s σ H x v o m n r j Q I a f c d h;obtain ⟨z,rfl,e,q⟩:=h;obtain ⟨t,rfl⟩:=a;obtain ⟨l,rfl,b⟩:=zbz c;obtain ⟨u,rfl,g⟩:=zbz d;subst b g;refine ⟨"str",_,F.slot_str_getitem.lookup,typeIs_str _ _ _,wpAny_getItem_str_slice (l:=l) (u:=u) (st:=none) f rfl
  (post_val_or_str ⟨O0 (Txt.slice_le z _ _) e,λ i k=>⟨.str (Txt.slice z _ _),H,I.tok k,⟨i,rfl⟩,q⟩⟩)⟩
theorem slSeq:SlR X (λ x lo hi H Q=>rSlL X.K x lo hi H Q\/rSlT X.K x lo hi H Q\/rSlS x lo hi H Q):=sl_list.or (sl_tup.or sl_str)
end
def RowAt (H:Hp) (r:Addr):Prop:=∃a b c:Int,H r=some (.lst [.int a,.int b,.int c])/\0<=c/\c < 536870909
def Kept (r:Addr) (H H':Hp):Prop:=∀b o,b≠r->H b=some o->H' b=some o
theorem Kept.refl {r:Addr} {H:Hp}:Kept r H H:=λ _ _ _ h=>h
theorem Kept.trans {r:Addr} {H H1 H2:Hp} (a:Kept r H H1) (b:Kept r H1 H2):Kept r H H2:=λ c o n h=>b c o n (a c o n h)
theorem Same.kept {r:Addr} {H H':Hp} (s:Same H H'):Kept r H H':=λ b o _ h=>s b o h
theorem Kept.set {r:Addr} {H:Hp} {o:HO}:Kept r H (upd H r o):=λ b u n h=>by rw [upd_ne n];exact h
structure Rw (r:Addr) (H H':Hp):Prop where
 k:Kept r H H'
 r:RowAt H' r
def Off (r:Addr) (H:Hp) (x:V):Prop:=∃T,TagOf H x T/\x≠.ref r
def Good (r:Addr) (H:Hp) (x:V):Prop:=Off r H x/\∀xs,tupOf H x=some xs->xs.length<=1000/\∀y∈xs,Off r H y
def GA (r:Addr) (n:Nat) (ta:TA) (σ:St) (H0:Hp):Prop:=∀H,Same H0 H->∀Q:List V->Hp->Prop,(∀xs H',Same H H'->xs.length=n->(∀y∈xs,Good r H' y)->Q xs H')->ta σ H Q
section
variable {r:Addr} {σ:St} {H0:Hp} {K:j0}
theorem zhr {ta:TA} {g:TG} {rest:TS} {D:Ends} {σ:St} {H:Hp} (h:tLst ta σ H λ x H1=>g x σ H1 (rest D)):tSeq (tAsg (tLst ta) g) rest D σ H:=h
theorem g_name {i:Nat} {v:V} {σ:St} {H:Hp} {Q:St->Hp->Prop} (h:Q (σ.set i (some v)) H):gName i v σ H Q:=h
theorem t_nx {nx ct bk:St->Hp->Prop} {rt:VK} {σ:St} {H:Hp} (h:nx σ H):Ends.nx { nx:=nx,rt:=rt,bk:=bk,ct:=ct } σ H:=h
end
end L2
namespace L2
open PySem
section
variable {prog:Program} {w:C1} {A:O2} {E:Value->B0->Prop} {s:B0}
structure ZApart (z T U i j a b:Addr):Prop where
 dis:[z,T,U,i,j].Nodup
 fa:a∉[z,T,U,i,j]
 fb:b∉[z,T,U,i,j]
structure ZAt (h:Heap) (z T U i j a b:Addr) (n:Nat) (f:Value):Prop where
 z:IsZip h z T U f
 t:IsPair h T (.ref i) (.ref j)
 u :∃p q,IsPair h U p q
 i:h.IsTupleIter i a n
 j:h.IsTupleIter j b n
end
end L2
namespace L2
open PySem PySem.Spec PyProof.Rows
inductive Dt where
 | non|bl (b:Bool)|int (i:Int)|str (z:Str)|tup (ds:List Dt)
mutual
def IsDt (K:j0) (H:Hp):Dt->V->Prop
 | .non,v=>v=.non
 | .bl b,v=>v=.bl b
 | .int i,v=>v=.int i
 | .str z,v=>v=.str z
 | .tup ds,v=>∃a xs,v=.ref a/\SqT K H a xs/\IsDts K H ds xs
def IsDts (K:j0) (H:Hp):List Dt->List V->Prop
 | [],xs=>xs=[]
 | d :: ds,xs=>∃x r,xs=x :: r/\IsDt K H d x/\IsDts K H ds r
end
mutual
def Dt.deep:Dt->Nat
 | .tup ds=>Dt.deeps ds + 1
 | _=>0
def Dt.deeps:List Dt->Nat
 | []=>0
 | d :: ds=>max d.deep (Dt.deeps ds)
def Dt.plain:Dt->Bool
 | .int _=>true
 | .str _=>true
 | .tup ds=>Dt.plains ds
 | _=>false
def Dt.plains:List Dt->Bool
 | []=>true
 | d :: ds=>d.plain && Dt.plains ds
end
section
variable {X:Cx}
theorem Inv.turnedL {pins:List (Addr×Obj)} {σ:St} {H:Hp} {s:B0} {h':Heap} {t':Nat} {fp:List Addr} (I:Inv X pins σ H s) (k :∀b o,b∉fp->s.heap.get? b=some o->h'.get? b=some o) (hf :∀b∈fp,FpOk X pins H b) :
  Inv X pins σ H { s with heap:=h',toks:=t' }:=by
 have f :∀b u,H b=some u->b∉fp:=λ b u e z=>by have:=(hf b z).1;rw [this] at e;cases e
 refine I.step (g':=s.gens) (d':=s.drawn) (ch:=fp) (λ b d=>⟨(hf b d).2.2.2.1,(hf b d).2.1,(hf b d).2.2.2.2.1,(hf b d).2.2.2.2.2⟩) (λ b o _ _ a e _=>k b o a e) (λ b o _ _ a e _=>⟨o.slots,k b o a e⟩) (λ _ _ _ _ n=>n)
  (λ b o a e=>⟨o,k b o a e⟩) (λ _ _ e=>e) (λ _ _ _ e=>e) (λ b l e=>⟨#[],by rw [e];simp⟩) (λ m g=>?_) (λ b u e=>?_) I.bare
 ·obtain ⟨o,j,h,i,r⟩:=g;exact ⟨o,j,h,k _ o (λ z=>(hf _ z).2.1 rfl) i,r⟩
 ·refine (I.hok b u e).stay (λ c v a q=>k c v ?_ q) (λ _ q=>q) λ _ _ q=>q;rcases a with z|z
  ·rw [z];exact f b u e
  ·exact f c _ z
theorem Inv.turnedLaid {pins:List (Addr×Obj)} {σ:St} {H:Hp} {s:B0} {h':Heap} {t':Nat} {fp:List Addr} {a:Addr} {o:HO} (I:Inv X pins σ H s) (k :∀b o,b∉fp->s.heap.get? b=some o->h'.get? b=some o) (hf :∀b∈fp,FpOk X pins H b)
  (hp:s.heap.objs.size<=a) (new:ObjOk X.prog X.w (upd H a o) h' a o):Inv X pins σ (upd H a o) { s with heap:=h',toks:=t' }:=by
 have l:H a=none:=I.hok.fresh hp;have h :∀b u,H b=some u->b∉fp:=λ b u e z=>by have:=(hf b z).1;rw [this] at e;cases e
 have g :∀b u,H b=some u->upd H a o b=some u:=λ b u e=>by rw [upd_ne (z0q e l)];exact e
 refine I.step (g':=s.gens) (d':=s.drawn) (ch:=fp) (λ b d=>⟨(hf b d).2.2.2.1,(hf b d).2.1,(hf b d).2.2.2.2.1,(hf b d).2.2.2.2.2⟩) (λ b o _ _ f e _=>k b o f e) (λ b o _ _ f e _=>⟨o.slots,k b o f e⟩)
  (λ b u _ e n=>by rw [upd_ne (λ z=>by subst z;exact absurd (S0 e) (Nat.not_lt.mpr hp))];exact n)
  (λ b o f e=>⟨o,k b o f e⟩) (λ _ _ e=>g _ _ e) (λ _ _ _ e=>g _ _ e) (λ b x e=>⟨#[],by rw [g _ _ e];simp⟩) (λ m j=>?_) (λ b u e=>?_) I.bare
 ·obtain ⟨o,t,p,i,r⟩:=j;exact ⟨o,t,p,k _ o (λ z=>(hf _ z).2.1 rfl) i,r⟩
 ·by_cases d:b=a
  ·subst d;rw [z03] at e;cases e;exact new
  ·rw [upd_ne d] at e;refine (I.hok b u e).stay (λ c v f q=>k c v ?_ q) (λ c q=>g _ _ q) λ c y q=>g _ _ q;rcases f with z|z
   ·rw [z];exact h b u e
   ·exact h c _ z
theorem z0p {o e:Expr} {es:List Expr} {to:TE} {t:TA} {apos cpos:Pos} (ho:PE X o to) (ha:PA X (e :: es) t)
  (hbase:z5 o "append" X.env (R3 o X.env)=R3 o X.env:=by rfl)
  (hfew:((N4 cpos (L1 (e :: es) X.env)).all (λ x=>!x.1) && (b9 cpos (T6 [] X.env)).all (λ x=>x.1.isSome)
   && decide ((e :: es).length + ([]:List K6).length + (if ([]:List K6).isEmpty then 0 else 1) < 30))=true:=by rfl)
  (hline:(apos.endLine == cpos.line)=true:=by rfl) (hs:L1 (e :: es) X.env=(false,R3 e X.env) :: L1 es X.env:=by rfl) (hplain:(N4 cpos (L1 es X.env)).any (·.1)=false:=by rfl) :
  PE X (.Call (.Attribute o "append" apos) (e :: es) [] cpos) (tBM X.K "list" zib to t):=pe_bm f8 PySem.F.slot_list_append PySem.F.type_list_append zgh ho ha hbase hfew hline hs hplain
end
def KeptL (L:List Addr) (H H':Hp):Prop:=∀b o,b∉L->H b=some o->H' b=some o
theorem KeptL.trans {L:List Addr} {H H1 H2:Hp} (a:KeptL L H H1) (b:KeptL L H1 H2):KeptL L H H2:=λ c o n h=>b c o n (a c o n h)
theorem KeptL.set {L:List Addr} {H:Hp} {l:Addr} {o:HO} (h:l∈L):KeptL L H (upd H l o):=λ b u n e=>by rw [upd_ne (λ z=>n (by rw [z];exact h))];exact e
theorem iteP {c A B:Prop} [Decidable c] (hc:c) (h:A):if c then A else B:=by rw [if_pos hc];exact h
theorem iteN {c A B:Prop} [Decidable c] (hc:¬ c) (h:B):if c then A else B:=by rw [if_neg hc];exact h
theorem zjq {names:List (Str×w6)} {n:Str} {Q:Str×w6->Prop} (h:(names.all λ y=>y.2 != E2 || y.1 == n)=true) (q :∀k,Q (n,k)) :∀y∈names,y.2=E2->Q y:=λ y c e=>by
 have:=List.all_eq_true.mp h y c;rw [e] at this;have:(y.1 == n)=true:=by simpa using this
 obtain ⟨a,b⟩:=y;rw [beq_iff_eq] at this;have:a=n:=this;subst this;exact q b
theorem ObjOk.there {P:Program} {w:C1} {H:Hp} {h:Heap} {a:Addr} {o:HO} (x:ObjOk P w H h a o) :∃ob,h.get? a=some ob:=by
 cases o with
 | lst xs=>obtain ⟨_,_,_,_,e⟩:=x;exact ⟨_,e⟩
 | tup xs=>obtain ⟨_,_,_,⟨o,e,_⟩,_⟩:=x;exact ⟨_,e⟩
 | dK kvs=>obtain ⟨_,_,_,_,o,_,_,e,_⟩:=x;exact ⟨_,e⟩
 | dT kvs=>obtain ⟨_,_,_,_,o,_,_,e,_⟩:=x;exact ⟨_,e⟩
 | set S n=>obtain ⟨o,_,_,_,e,_⟩:=x;exact ⟨_,e⟩
 | ins C dx fs=>obtain ⟨_,_,_,e,_⟩:=x;exact ⟨_,e⟩
 | own y=>exact x
 | xd fs=>obtain ⟨_,⟨o,_,_,e,_⟩,_⟩:=x;exact ⟨_,e⟩
 | rng lo hi=>obtain ⟨_,_,_,e⟩:=x;exact ⟨_,e⟩
 | frz ob u=>obtain ⟨e,_⟩:=x;exact ⟨_,e⟩
 | tbl ps=>exact ⟨_,show h.get? a=some _ from x⟩
 | met f y=>exact ⟨_,show h.get? a=some _ from x⟩
 | ext φ=>exact x.2.1
def CXE (P:Program) (w:C1) (base:Heap):CXT:=λ outer H s E e s'=>∃(ea:Addr) (cls a0:Value) (B:Heap) (H':Hp),e=.ref ea/\s'.os=s.os/\P8 s'.gens/\Un (frs outer) [] H H' s.heap s'.heap/\HOk P w H' s'.heap/\H' ea=none/\
 base.StaysIn B/\Heap.FlyingW B outer ea cls a0 s'.heap/\(∀b o,s'.heap.get? b=some o->b∉frs outer->((∃u,H' b=some u)\/∃u,s.heap.get? b=some u)->B.get? b=some o)/\E cls none H'
theorem passN {X:Cx}:Passes (CXE X.prog X.w X.base) X E0:=λ _ _ _ _ _ _ _ ⟨_,_,_,_,_,_,_,_,_,_,_,_,_,_,z⟩=>z.elim
theorem zdq {env:Env} {l:List Env} {L:Addr} (h:env.frame=some L):frs (env :: l)=L :: frs l:=by unfold frs;rw [G7,h]
section
variable {P:Program} {w:C1} {K:j0} {mg:Str->Option Value} {base:Heap} {N:List Str} {qual:Str} {scope:Scope} {f:Addr} {cd:Value} {A:O2} {outer:List Env} {s:B0} {H:Hp} {E:XK}
theorem passE:Passes (CXE P w base) (cxOf (CXE P w base) P w K mg base N qual scope f cd A outer s H E) E:=by
 intro a6 σ W x e r I c;obtain ⟨ea,a4,a0,B,C,rfl,os,a3,un,X,T,hB,fl,keep,hE⟩:=c;have S:frs (G4 qual scope s.heap.objs.size f cd :: outer)=s.heap.objs.size :: frs outer:=zdq rfl;have Z :∀b o,r.heap.get? b=some o->b∉s.heap.objs.size :: frs outer->((∃u,C b=some u)\/∃u,x.heap.get? b=some u)->B.get? b=some o:=λ b o e a D=>keep b o e (by rw [show frs (cxOf (CXE P w base) P w K mg base N qual scope f cd A outer s H E).stack=_ from S];exact a) D;have l:Un (s.heap.objs.size :: frs outer) [] W C x.heap r.heap:=S ▸ un;have h:Un (frs outer) [] H W s.heap x.heap:=I.base;have R :∀b o,s.heap.get? b=some o->b≠s.heap.objs.size:=λ b o e=>B1 (S0 e);have Y :∀b∈s.heap.objs.size :: frs outer,C b=none:=λ b a=>by
  rcases List.mem_cons.mp a with rfl|a
  ·obtain ⟨m,T,_⟩:=I.loc;obtain ⟨o,_,_,F,_⟩:=T;exact l.free _ o F I.free (by simp)
  ·obtain ⟨_,o,F,_⟩:=I.ok.funs.mem a;obtain ⟨p,G⟩:=h.there b o F (by simp);exact l.free b p G (h.free b o F (I.ok.frf b a) (by simp)) (by simp)
 show W0 (N1 P w) _ («leaving» _ _) _ _ r;refine wpAny_leaves_onW I.ok.frames rfl fl λ L Q up=>?_;have stay :∀b o,r.heap.get? b=some o->b∉s.heap.objs.size :: frs outer->((∃u,C b=some u)\/∃u,x.heap.get? b=some u)->L.get? b=some o:=λ b o e a D=>Q.1 b o (Z b o e a D);have V :∀b o,b∈frs outer->r.heap.get? b=some o->∃M,L.get? b=some { o with slots:=M }:=λ b o a e=>by
  obtain ⟨_,p,G,hd⟩:=fl.2.2.1.mem (show b∈(G4 qual scope s.heap.objs.size f cd :: outer).filterMap (·.frame) from by show b∈frs (G4 qual scope s.heap.objs.size f cd :: outer);rw [S];exact Q1 _ a);rw [e] at G;cases G;exact up b o e hd
 have there :∀b o,s.heap.get? b=some o->∃j k,x.heap.get? b=some j/\r.heap.get? b=some k:=λ b o e=>by obtain ⟨j,d⟩:=h.there b o e (by simp);obtain ⟨k,i⟩:=l.there b j d (by simp);exact ⟨j,k,d,i⟩
 refine ⟨ea,a4,a0,B,C,rfl,os.trans I.os,a3,⟨λ b o e n a _=>?_,λ b o e n a _=>?_,λ b o e n _=>?_,λ b o e _=>?_,λ b xs e=>l.tups b xs (h.tups b xs e),λ b o u e=>l.frzs b o u (h.frzs b o u e),λ b ps e=>?_⟩,λ b u e=>?_,T,hB,Q,λ b o e a D=>?_,hE⟩
 ·have d:=h.keep b o e n a (by simp);have J:b∉s.heap.objs.size :: frs outer:=λ z=>(List.mem_cons.mp z).elim (R b o e) a;exact stay b o (l.keep b o d (h.free b o e n (by simp)) J (by simp)) J (.inr ⟨o,d⟩)
 ·obtain ⟨M,d⟩:=h.slot b o e n a (by simp);obtain ⟨a7,i⟩:=l.slot b _ d (h.free b o e n (by simp)) (Q1 _ a) (by simp);obtain ⟨a2,U⟩:=V b _ a i;exact ⟨a2,U⟩
 ·obtain ⟨j,k,d,i⟩:=there b o e;exact l.free b j d (h.free b o e n (by simp)) (by simp)
 ·obtain ⟨j,k,d,i⟩:=there b o e;by_cases a:b∈frs outer
  ·obtain ⟨M,U⟩:=V b k a i;exact ⟨_,U⟩
  ·exact ⟨k,stay b k i (λ z=>(List.mem_cons.mp z).elim (R b o e) a) (.inr ⟨j,d⟩)⟩
 ·obtain ⟨m1,d⟩:=h.tbls b ps e;obtain ⟨m2,i⟩:=l.tbls b _ d;exact ⟨m1++m2,by rw [i,Array.append_assoc]⟩
 ·refine (X b u e).stay (λ c v y q=>stay c v q ?_ (.inl ?_)) (λ _ q=>q) λ _ _ q=>q
  ·intro z;have:=Y c z;rcases y with rfl|y
   ·rw [e] at this;cases this
   ·rw [y] at this;cases this
  ·rcases y with rfl|y
   ·exact ⟨u,e⟩
   ·exact ⟨_,y⟩
 ·have a1 :∀p,r.heap.get? b=some p->b∉s.heap.objs.size :: frs outer->((∃u,C b=some u)\/∃u,x.heap.get? b=some u)->B.get? b=some o:=λ p O J a5=>by have g:=Z b p O J a5;have:=Q.1 b p g;rw [show ({ r with heap:=L }:B0).heap.get? b=L.get? b from rfl,this] at e;cases e;exact g
  rcases D with ⟨u,t⟩|⟨u,t⟩
  ·obtain ⟨p,O⟩:=(X b u t).there;refine a1 p O (λ z=>?_) (.inl ⟨u,t⟩);rw [Y b z] at t;cases t
  ·obtain ⟨j,k,d,i⟩:=there b u t;exact a1 k i (λ z=>(List.mem_cons.mp z).elim (R b u t) a) (.inr ⟨j,d⟩)
theorem raiseE {pins:List (Addr×Obj)} {σ:St} {H1:Hp} {s1:B0} {h':Heap} {ea C:Addr} {args:List Value} (I:Inv (cxOf (CXE P w base) P w K mg base N qual scope f cd A outer s H E) pins σ H1 s1) (hx:Heap.MadeExcOf s1.heap h' ea (.ref C) args) (hE:E (.ref C) none H1) :
  (cxOf (CXE P w base) P w K mg base N qual scope f cd A outer s H E).xe (.ref ea) { s1 with heap:=h' }:=by
 have m:frs (G4 qual scope s.heap.objs.size f cd :: outer)=s.heap.objs.size :: frs outer:=zdq rfl;have h:Un (frs outer) [] H H1 s.heap s1.heap:=I.base;have G :∀b o,s.heap.get? b=some o->b≠s.heap.objs.size:=λ b o e=>B1 (S0 e);have D:s1.heap.FunFrames base (G4 qual scope s.heap.objs.size f cd :: outer):=I.stack;have a0 :∀J∈(G4 qual scope s.heap.objs.size f cd :: outer),∀a,J.frame=some a->a∈s.heap.objs.size :: frs outer:=λ J Y a R=>by rw [<-m];exact List.mem_filterMap.mpr ⟨J,Y,R⟩
 have M :∀b∈s.heap.objs.size :: frs outer,H1 b=none:=λ b d=>by have:=I.stkFree b (by rw [show frs (cxOf (CXE P w base) P w K mg base N qual scope f cd A outer s H E).stack=_ from m];exact d);exact this
 have T:base.StaysIn (j09 s1.heap (s.heap.objs.size :: frs outer)):=λ b o e=>p7 _ (I.bk b o e) λ S=>by have:=(D.mem (show b∈(G4 qual scope s.heap.objs.size f cd :: outer).filterMap (·.frame) from (show b∈frs (G4 qual scope s.heap.objs.size f cd :: outer) from by rw [m];exact S))).1;rw [e] at this;cases this
 show W0 (N1 P w) _ («leaving» _ _) _ _ _;refine wpAny_leaves_madeW (s:={ s1 with heap:=h' }) I.ok.frames rfl (λ b o q=>j41 _ q) (PySem.W.funFrames_hide D a0) hx λ p t F _ _ up=>?_;have stay :∀b o,s1.heap.get? b=some o->b∉s.heap.objs.size :: frs outer->p.get? b=some o:=λ b o e d=>F.1 b o (p7 _ e d);have L :∀b o,b∈frs outer->s1.heap.get? b=some o->∃y,p.get? b=some { o with slots:=y }:=λ b o d e=>by
  obtain ⟨_,j,O,V⟩:=D.mem (show b∈(G4 qual scope s.heap.objs.size f cd :: outer).filterMap (·.frame) from by show b∈frs (G4 qual scope s.heap.objs.size f cd :: outer);rw [m];exact Q1 _ d);rw [e] at O;cases O;exact up b o (hx.keeps b o e) V
 have X:H1 ea=none:=by
  cases q:H1 ea with
  | none=>rfl
  | some u=>obtain ⟨o,e⟩:=(I.hok ea u q).there;rw [hx.new] at e;cases e
 refine ⟨ea,.ref C,.ref t,_,H1,rfl,I.os,I.bare,⟨λ b o e n d _=>?_,λ b o e n d _=>?_,λ b o e n _=>h.free b o e n (by simp),λ b o e _=>?_,h.tups,h.frzs,h.tbls⟩,λ b u e=>?_,X,T,F,λ b o e d Z=>?_,hE⟩
 ·exact stay b o (h.keep b o e n d (by simp)) λ z=>(List.mem_cons.mp z).elim (G b o e) d
 ·obtain ⟨y,k⟩:=h.slot b o e n d (by simp);obtain ⟨a1,r⟩:=L b _ d k;exact ⟨a1,r⟩
 ·obtain ⟨l,k⟩:=h.there b o e (by simp);by_cases d:b∈frs outer
  ·obtain ⟨y,r⟩:=L b l d k;exact ⟨_,r⟩
  ·exact ⟨l,stay b l k λ z=>(List.mem_cons.mp z).elim (G b o e) d⟩
 ·refine (I.hok b u e).stay (λ c v x q=>stay c v q λ z=>?_) (λ _ q=>q) λ _ _ q=>q;have:=M c z;rcases x with rfl|x
  ·rw [e] at this;cases this
  ·rw [x] at this;cases this
 ·have Q :∀j,s1.heap.get? b=some j->b∉s.heap.objs.size :: frs outer->(j09 s1.heap (s.heap.objs.size :: frs outer)).get? b=some o:=λ j B U=>by have g:=p7 _ B U;have:=F.1 b j g;rw [show ({ s1 with heap:=p }:B0).heap.get? b=p.get? b from rfl,this] at e;cases e;exact g
  rcases Z with ⟨u,i⟩|⟨u,i⟩
  ·obtain ⟨j,B⟩:=(I.hok b u i).there;refine Q j B λ z=>?_;rw [M b z] at i;cases i
  ·obtain ⟨l,k⟩:=h.there b u i (by simp);exact Q l k λ z=>(List.mem_cons.mp z).elim (G b u i) d
end
theorem PS.nox {X:Cx} {st:Stmt} {t:TS} (h:PS X.nox st t):PS X st t:=λ b s σ H D I a=>w4 (h b s σ H D (I.wish _) a) (λ _ _ q=>q.unwish) λ _ _ z=>E4 z
theorem own_in {K:j0} {h₀:Heap} {mg:Str->Option Value} {x:Str} {C:Addr} {bmB:List Value} {newId:String} (X:K.In h₀) (hm:mg x=some (.ref C)) (q:n9 K C bmB newId=true):OwnCls x C bmB newId mg h₀:=by
 refine ⟨hm,?_⟩;unfold n9 at q;split at q
 ·rename_i dd cd sl ho;split at q
  ·rename_i C' bm k0 k1 k2 k3 n k5 hm' hs;simp only [P4,beq_iff_eq,Bool.not_eq_true'] at q;obtain ⟨⟨⟨⟨⟨rfl,rfl⟩,b⟩,h⟩,a⟩,c⟩:=q;obtain ⟨f,bs,m,i,d,e,g,sub,j,k,o⟩:=cd;obtain ⟨l⟩:=sl;dsimp only at hm' b a c hs;subst hm' b hs;exact ⟨bm,i,f,d,bs,e,g,sub,j,k,dd,k0,k1,k2,k3,k5,_,X _ _ ho,.of_isNs (PySem.W.isNs_of_in X a),PySem.W.nsMap_none_of_in X a c,PySem.W.tail_of_in X h⟩
  ·cases q
 ·cases q
def tRaise (C:Addr) (E:XK) (t:TA):TS:=λ _ σ H=>t σ H λ vs H1=>vs.length<=sizeLine/\E (.ref C) none H1
section
variable {P:Program} {w:C1} {K:j0} {mg:Str->Option Value} {base:Heap} {N:List Str} {qual:Str} {scope:Scope} {f:Addr} {cd:Value} {A:O2} {outer:List Env} {s:B0} {H:Hp} {E:XK}
theorem z86 {x:Str} {C:Addr} {B newId initId:String} {bm:List Value} {e0:Expr} {es:List Expr} {np cpos pos:Pos} {t:TA} (FB:ExcBaseFacts B newId initId bm) (hm:mg x=some (.ref C)) (hK:n9 K C bm newId=true)
  (hg:Gl (cxOf (CXE P w base) P w K mg base N qual scope f cd A outer s H E) x) (ha:PA (cxOf (CXE P w base) P w K mg base N qual scope f cd A outer s H E) (e0 :: es) t)
  (hdb:(x == ("__debug__" : Str))=false:=by decide)
  (he:L1 (e0 :: es) (G4 qual scope s.heap.objs.size f cd)=(false,R3 e0 (G4 qual scope s.heap.objs.size f cd)) :: L1 es (G4 qual scope s.heap.objs.size f cd):=by rfl)
  (hpl:(N4 cpos (L1 es (G4 qual scope s.heap.objs.size f cd))).any (·.1)=false:=by rfl) :
  PS (cxOf (CXE P w base) P w K mg base N qual scope f cd A outer s H E) (.Raise (some (.Call (.Name x np) (e0 :: es) [] cpos)) none pos) (tRaise C E t):=by
 intro j c σ b D I h;have O:OwnCls x C bm newId mg base:=own_in I.ok.mod.kin hm hK;obtain ⟨e,d,nm,q,bs,hdct,sn,sub,ab,col,dd,k0,k1,k2,k3,k5,mN,l,i,g,T⟩:=O.obj;have a:=ha cpos j c σ b _ I h;refine wpAny_Raise_call_subT (C:=C) (nm:=nm) (q:=q) (N:=d) (bs:=bs) (bm:=e) (hdct:=hdct) (sn:=sn) (sub:=sub) (ab:=ab) (col:=col) (dd:=dd) (k0:=k0) (k1:=k1) (k2:=k2) (k3:=k3) (k5:=k5)
  FB (mN:=mN) (T.hasType FB.hasBase) (I.ok.hd rfl) (by show (N4 cpos (L1 (e0 :: es) (G4 qual scope s.heap.objs.size f cd))).any (·.1)=false;rw [he];show (false || (N4 cpos (L1 es (G4 qual scope s.heap.objs.size f cd))).any (·.1))=false;rw [hpl];rfl) g (zbd I hg O.bound ⟨rfl,?_⟩ hdb)
 have k:L1 (e0 :: es) (cxOf (CXE P w base) P w K mg base N qual scope f cd A outer s H E).env=(false,R3 e0 (G4 qual scope s.heap.objs.size f cd)) :: L1 es (G4 qual scope s.heap.objs.size f cd):=he;rw [k] at a⊢;exact i9 (w4 a (λ n m ⟨vs,H2,I2,r,hl,hE⟩=>⟨rfl,by rw [<-r.length];exact hl,I2.bk _ _ l,i.keeps I2.bk,T.keeps I2.bk,λ o p hm=>raiseE I2 hm hE⟩) λ _ _ y=>y)
theorem Fun.okE {x qual:Str} {st:Stmt} {f:Addr} {fd:FuncData} {N ps:List Str} {k:Nat} {sp:Sp} (F:Fun K x qual st f fd) (S:FnScope N ps (z06 st)) (len :∀vs H Q E,sp vs H Q E->vs.length=ps.length)
  (hbody :∀(cdv:Value) (A:O2) (outer:List Env) (s:B0) (H:Hp) (vs:List V) (Q:VK) (E:XK),Room k (A.deeper (G4 qual (z06 st) s.heap.objs.size f cdv))->sp vs H Q E->
   ∃t,PSs (cxOf (CXE P w base) P w K mg base N qual (z06 st) f cdv A outer s H E) (z6h st) t/\t { nx:=λ _ H'=>Q .non H',rt:=Q } (start N vs) H):FnOk P w K mg base (CXE P w base) (k + 1) f fd ps sp:=by
 obtain ⟨g,h,kV,m,l,e,cdv,j,i,rfl,c,a⟩:=F.ex;exact fn_of c a S len λ A outer s H vs Q E d b=>hbody cdv A outer s H vs Q E d b
end
structure CalE (P:Program) (w:C1) (K:j0) (mg:Str->Option Value) (base:Heap) (x:Str) (ps:List Str) (k:Nat) (sp:Sp):Prop where
 ex :∃f fd,FnOk P w K mg base (CXE P w base) k f fd ps sp/\mg x=some (.ref f)/\Y4 K (.ref f)=true/\Binds K fd ps []
section
variable {X:Cx} {x:Str} {ps:List Str} {k:Nat} {sp:Sp} {e:Expr} {es:List Expr} {t:TA} {p pos:Pos}
theorem zkq (c:CalE X.prog X.w X.K X.mg X.base x ps k sp) (hr:Room k X.A) (hg:Gl X x) (ha:PA X (e :: es) t) (hn:x≠"__name__":=by decide) (hdb:(x == ("__debug__" : Str))=false:=by decide)
  (he:L1 (e :: es) X.env=(false,R3 e X.env) :: L1 es X.env:=by rfl) (hpl:(N4 pos (L1 es X.env)).any (·.1)=false:=by rfl):PE X (.Call (.Name x p) (e :: es) [] pos) (tCall sp [] E0 t):=by
 obtain ⟨f,g,F,d,a,b⟩:=c.ex;exact zf5 F hr hg d a b .nil passN ha hdb he hpl
theorem zkn {E:XK} (hx:Passes (CXE X.prog X.w X.base) X E) (c:CalE X.prog X.w X.K X.mg X.base x ps k sp) (hr:Room k X.A) (hg:Gl X x) (ha:PA X (e :: es) t) (hn:x≠"__name__":=by decide) (hdb:(x == ("__debug__" : Str))=false:=by decide)
  (he:L1 (e :: es) X.env=(false,R3 e X.env) :: L1 es X.env:=by rfl) (hpl:(N4 pos (L1 es X.env)).any (·.1)=false:=by rfl):PE X (.Call (.Name x p) (e :: es) [] pos) (tCall sp [] E t):=by
 obtain ⟨f,g,F,d,a,b⟩:=c.ex;exact zf5 F hr hg d a b .nil hx ha hdb he hpl
end
end L2
set_option maxHeartbeats 400000
namespace L2
open PySem PySem.Spec PyProof.Rows PySem.W PySem.Calls PySem.Builtin PySem.Builtin.ObjectAttr PySem.Builtin.Getset_descriptor
end L2
namespace L2
open PySem PySem.Spec PyProof.Rows PySem.W
end L2
namespace L2
open PySem PySem.Spec PyProof.Rows
end L2
set_option maxHeartbeats 4000000
namespace L2
open PySem PySem.Spec PyProof.Rows
def cStG (σ:St) (fr:List (Nat×Str)) (us:List (Option V)):St:=us++fr.map λ p=>(σ[p.1]?).join
def tCompG (wi:TI) (n:Nat) (fr:List (Nat×Str)) (g:TG) (tc:TT) (te:TE):TE:=λ σ H Q=>wi σ H λ J H1=>∃W:Nat->Nat->List V->Hp->Prop,(∃m,W 0 m [] H1)/\∀i m ys H,W i m ys H->
 (J.stop i H/\ys.length<=sizeLine/\∀p,H p=none->Q (.ref p) (upd H p (.lst ys)))\/
 (J.go i H/\ys.length<=sizeLine/\∀v H',J.yld i H v H'->g v (cStG σ fr (P0 n none)) H' λ σ6 H6=>∃us,us.length=n/\σ6=cStG σ fr us/\tc (cStG σ fr us) H6 λ b H2=>if b=true then te (cStG σ fr us) H2 λ y H3=>∃m',m' < m/\W (i + 1) m' (ys++[y]) H3 else∃m',m' < m/\W (i + 1) m' ys H2)
section
variable {X:Cx}
theorem zjr {scope:Scope} {cl:List (Str×Addr)} {N:List Str} {C:Addr} {s₂:B0} {H₂:Hp} {fp:List Addr} {x:Str} {px:Pos} (i:Nat) (hN:N.Nodup) (hi:N[i]? = some x) (hx:scope.names.lookup x=some .local):PG (cxComp X scope cl N C s₂ H₂ fp) (.Name x px) (gName i):=
 z0f hN hi (.inl (lookup_relabel_local hx)) (.inr (lookup_relabel_local hx))
theorem zdw {xs:List Str} {tg:Expr} {g:TG} {pos:Pos} {elt iter:Expr} {ifs:List Expr} {scope:Scope} {fr:List (Nat×Str)} {wi:TI} {tc:TT} {te:TE} {use:Option (Value->Sem Unit)} {QQ:Value->B0->Prop} {pins:List (Addr×Obj)} {s:B0} {σ:St} {H:Hp} {Q:VK} {pp:Pos} (hcalm:X.calm=true) (hi:PI X tg iter wi)
  (hfr :∀p∈fr,X.N[p.1]? = some p.2/\(X.env.kindOf p.2=some .cell\/X.env.kindOf p.2=some .free))
  (hfree :∀y∈scope.names,y.2=E2->X.env.kindOf y.1=some .cell\/X.env.kindOf y.1=some .free)
  (hfs :∀p∈fr,(p.2,E2)∈scope.names/\((J8 scope X.env).names.lookup p.2=some .cell\/(J8 scope X.env).names.lookup p.2=some .free))
  (hcell :∀y∈scope.names,y.2≠NameKind.cell) (hkind:scope.kind=.function) (hnames :∀y∈scope.names,y.2=NameKind.local->scope.names.lookup y.1=some .local)
  (hg :∀cl C s₂ H₂ fp,PG (cxComp X scope cl (xs++fr.map (·.2)) C s₂ H₂ fp) tg g)
  (ht :∀cl C s₂ H₂ fp,PF (cxComp X scope cl (xs++fr.map (·.2)) C s₂ H₂ fp) ifs tc) (he :∀cl C s₂ H₂ fp,PE (cxComp X scope cl (xs++fr.map (·.2)) C s₂ H₂ fp) elt te)
  (hs :∀x,Z5 iter X.env x=X3 x) (I:Inv X pins σ H s) (h:tCompG wi xs.length fr g tc te σ H Q)
  (hend :∀(D:Addr) (s4:B0) (H4:Hp),Inv X pins σ H4 s4->(∃m,s4.heap.Ns (D + 1) m)->H4 (D + 1)=none->D + 1≠X.env.locals->X.s₀.heap.objs.size<=D + 1->(D + 1∉X.fs/\(∀x c,X.env.cells.lookup x=some c->c≠D + 1)/\∀p∈X.pn++pins,p.1≠D + 1)->Q (.ref D) H4->compPost (N1 X.prog X.w) X.A X.xe use QQ (.ref D) (D + 1) (.ok .next) s4) :
  W0 (N1 X.prog X.w) X.A (comprehension (.ListComp elt [⟨tg,iter,ifs,0⟩] scope pos) scope X.env pp (newList []) false (firstIter [⟨tg,iter,ifs,0⟩] X.env) use) QQ X.xe s:=by
 obtain ⟨cl,d5,U,b8⟩:=zdp (scope:=scope) (env:=X.env) λ y R hk=>I.ok.has y.1 (hfree y R hk);refine wpAny_comprehension_free (use:=use) rfl hs d5 hkind hnames (thn (hi pins s σ H _ I h) λ xv s₁ h₁=>thn h₁ λ g0 s₂ h₂=>?_);obtain ⟨it,fp,tn,J,L,e,f,T,b6,M,W,⟨m0,w0⟩,d6⟩:=h₂;subst e
 -- the list that is filled,the block's names
 refine Y5 (wpAny_newFunctionEnv hcell (by intro y R;simp at R) (λ h₁ a4 a0=>?_) hkind);dsimp only at a4 a0⊢;generalize hD:s₂.heap.objs.size=D at a4 a0⊢;generalize hG:s₂.heap.push { cls:=.type "list",dict:=none,data:=.seq ([]:List Value).toArray }=G at a4 a0⊢;have hC:G.objs.size=D + 1:=by rw [<-hG,L6,hD]
 generalize hCC:G.objs.size=C at a4 a0 hC⊢;subst hC;have a6 :∀b∈fp,b < D:=λ b a=>by obtain ⟨o,e,_⟩:=T.obj _ _ b6 b a;rw [<-hD];exact S0 e
 have a1 :∀b o,s₂.heap.get? b=some o->h₁.get? b=some o:=λ b o e=>a0.extBut b o (B1 (K2 (by rw [<-hD];exact S0 e))) (I0 _ (hG ▸ I0 _ e));have e8:G.get? D=some { cls:=.type "list",dict:=none,data:=.seq ([]:List Value).toArray }:=by rw [<-hG,<-hD];exact D1 _ rfl
 have f5:h₁.PlainList D #[]:=⟨0,a0.extBut _ _ (B1 (C3 D)) (I0 _ e8)⟩
 have f0 :∀y c,cl.lookup y=some c->c < D:=λ y c e=>by obtain ⟨v,q⟩:=f.cell y c (U y c e);rw [<-hD];exact q.lt
 have d7 :∀b∈frs X.stack,b < D:=λ b a=>by
  rcases List.mem_cons.mp (f.stkSub b a) with e|a
  ·rw [e,<-hD];exact f.lt
  ·rw [<-hD];exact Nat.lt_of_not_le λ z=>f.nofs z a
 have d0 :∀b∈fp,b∉frs X.stack:=λ b a f6=>by
  rcases List.mem_cons.mp (f.stkSub b f6) with e|z
  ·exact (M b a).2.1 e
  ·exact (M b a).2.2.1 z
 generalize hX':cxComp X scope cl (xs++fr.map (·.2)) (D + 1) s₂ L fp=X';have f8:X'.Ok:=by
  subst hX';refine ⟨f.ok.mod,hkind,f.ok.glob,f.ok.blt,(by show s₂.heap.objs.size<=D + 1;omega),λ y z c S O=>f.ok.inj y z c (U _ _ S) (U _ _ O),λ y R=>?_,(λ _ _ z=>Bool.noConfusion z),f.ok.hd,f.ok.frames,.inl rfl,λ b a=>⟨?_,λ y c e=>?_⟩,λ b o e=>f.bs b o e,?_,λ b o e a=>?_,d0,f.env0.funs,f.stkFree⟩
  ·rcases R with R|R
   ·exact b8 y (z65 hcell R (.inl rfl))
   ·exact b8 y (z65 hcell R (.inr rfl))
  ·exact B1 (K2 (a6 b a))
  ·exact (M b a).2.2.2.2.1 y c (U y c e)
  ·exact O0 f.ok.bsz f.sz
  ·rcases (M b a).2.2.2.1 with z|z
   ·exact f.ok.noex b o e z
   ·exact absurd (Y1 (S0 (f.ok.bs b o e).1) z) (z4 _)
 have Z:X'.env.locals=D + 1:=by subst hX';rfl
 have a3:X'.env.cells=cl:=by subst hX';rfl
 have b0:X'.fs=frs X.stack:=by subst hX';rfl
 have b7:X'.pn=[]:=by subst hX';rfl
 have a5:X'.s₀=s₂:=by subst hX';rfl
 have c2:X'.H₀=L:=by subst hX';rfl
 have b1:X'.ex=fp:=by subst hX';rfl
 have c8:X'.N=xs++fr.map (·.2):=by subst hX';rfl
 have c9:X'.A=X.A:=by subst hX';rfl
 have E:X'.prog=X.prog/\X'.w=X.w/\X'.K=X.K/\X'.calm=true:=by subst hX';exact ⟨rfl,rfl,rfl,hcalm⟩
 have b3:X'.xe=λ _ _=>False:=by subst hX';rfl
 have c6:X'.env=compEnvC scope cl (D + 1) X.env:=by subst hX';rfl
 have e0:PF X' ifs tc:=hX' ▸ ht cl (D + 1) s₂ L fp;have d3:PE X' elt te:=hX' ▸ he cl (D + 1) s₂ L fp;have f3:PG X' tg g:=hX' ▸ hg cl (D + 1) s₂ L fp;have fresh :∀b,D<=b->L b=none:=λ b a=>f.hok.fresh (by rw [hD];exact a);have start :∀t,Inv X' [] (cStG σ fr (P0 xs.length none)) L { s₂ with heap:=h₁,toks:=t }:=λ t=>by
  refine ⟨f8,by rw [a5],f.bare,?_,⟨_,by rw [Z];exact a4,λ i y v S O e3=>?_⟩,λ y c e=>?_,by rw [Z];exact fresh _ (W2 _),λ y c e=>?_,λ p B=>?_,?_,?_⟩
  ·rw [b0,b1,c2,a5];exact Un.kept a1
  ·rw [c8] at S;by_cases a2:i < xs.length
   ·exfalso;unfold cStG at O;rw [F1 (by rw [C2];exact a2),v5,if_pos a2] at O;cases O
   ·have a2:xs.length<=i:=j10 a2;rw [Z0 a2,N0] at S;unfold cStG at O;rw [Z0 (by rw [C2];exact a2),C2,N0] at O;generalize i - xs.length=i at S O;cases ej:fr[i]? with
    | none=>rw [ej] at S;cases S
    | some p=>
     rw [ej] at S;obtain rfl:p.2=y:=X1 S;have a8:(σ[p.1]?).join=some v:=by rw [ej] at O;exact X1 O
     have f1:σ[p.1]? = some (some v):=by
      cases q:σ[p.1]? with
      | none=>rw [q] at a8;cases a8
      | some z=>rw [q] at a8;exact congrArg some a8
     have B:=T0 ej;obtain ⟨m,hn,hl⟩:=f.loc;obtain ⟨u,r,l⟩:=hl p.1 p.2 v (hfr p B).1 f1 (by rcases (hfr p B).2 with z|z;exact .inr (.inl z);exact .inr (.inr z));refine ⟨u,r,.inr ⟨?_,?_⟩⟩
     ·rw [c6];exact (hfs p B).2
     ·rcases l with ⟨z,_⟩|⟨_,c,ec,q⟩
      ·exfalso;rcases (hfr p B).2 with z'|z'<;>(rw [z] at z';cases z')
      ·obtain ⟨c',c1⟩:=b8 p.2 (hfs p B).1;have:=U _ _ c1;rw [ec] at this;cases this;obtain ⟨o,ho,hd⟩:=q;exact ⟨c,by rw [a3];exact c1,o,a1 _ _ ho,hd⟩
  ·rw [a3] at e;obtain ⟨v,o,ho,hd⟩:=f.cell y c (U y c e);exact ⟨v,o,a1 _ _ ho,hd⟩
  ·rw [a3] at e;exact f.freeC y c (U y c e)
  ·rw [b7] at B;exact nomatch B
  ·rw [E.1,E.2.1];exact f.hok.kept a1
  ·rw [c8];unfold cStG;simp
 have FP :∀{pins':List (Addr×Obj)} {H':Hp},(∀b∈fp,H' b=none)->(∀p∈pins',p.1=D)->∀b∈fp,FpOk X' pins' H' b:=λ hn B b a=>by
  refine ⟨hn b a,?_,?_,.inl (by rw [b1];exact a),λ y c e=>?_,λ p c3=>?_⟩
  ·rw [Z];exact B1 (K2 (a6 b a))
  ·rw [b0];exact d0 b a
  ·rw [a3] at e;exact (M b a).2.2.2.2.1 y c (U y c e)
  ·rw [b7] at c3;rw [B p c3];exact Y3 (a6 b a)
 -- the turns
 have loop :∀s₃:B0,s₃={ s₂ with heap:=h₁,toks:=s₂.toks + ([]:List (Str×Value)).length }->
   B5 (N1 X.prog X.w) X.A (.compLoop (.ListComp elt [⟨tg,iter,ifs,0⟩] scope pos) 0 (.ref it) (.ref D) (compEnvC scope cl (D + 1) X.env))
    (compPost (N1 X.prog X.w) X.A X.xe use QQ (.ref D) (D + 1)) s₃:=by
  rintro s₃ rfl;rw [<-c6,<-E.1,<-E.2.1,<-c9];refine zgw (λ k s'=>∃i ys its H',Inv X' [] (cStG σ fr (P0 xs.length none)) H' s'/\tn i s'.heap/\(∀b∈fp,H' b=none)/\s'.heap.PlainList D its.toArray/\Vals ys its/\H' D=none/\W i k ys H') ?_ m0
   ⟨0,[],[],L,start _,T.keep _ _ _ b6 λ b a o e=>a1 b o e,λ b a=>(M b a).1,f5,.nil,fresh _ (J0 _),w0⟩
  rintro n s3 ⟨i,ys,its,H3,I3,st3,fr3,ac3,rv3,hD3,w3⟩;obtain ⟨na,f7⟩:=id ac3;have c0:Inv X' [(D,{ cls:=.type "list",data:=.seq its.toArray na })] (cStG σ fr (P0 xs.length none)) H3 s3:=I3.pins_of λ p B=>by rw [List.mem_singleton] at B;subst B;refine ⟨f7,hD3,by rw [Z];exact B1 (C3 D),by rw [b0];exact λ z=>z4 _ (d7 D z),λ v z=>nomatch z⟩
  have hT:=T;rw [<-E.1,<-E.2.1,<-E.2.2.1] at hT;rcases d6 i n ys H3 w3 with ⟨stop,b2,qn⟩|⟨go,b2,step⟩
  ·refine thn (hT.done X' rfl rfl rfl E.2.2.2 i _ s3 _ H3 _ c0 (FP fr3 (by intro p B;rw [List.mem_singleton.mp B])) st3 stop) λ r s4 ⟨hr,I4⟩=>?_;subst hr;obtain ⟨m4,e5,_⟩:=id I4.loc;obtain ⟨Y,d1⟩ :∃Y,Y=s4.heap:=⟨_,rfl⟩
   have c7:N6 (D + 1) s4.heap Y:=by rw [d1];exact ⟨rfl,λ _ _=>rfl⟩
   have d4:D≠D + 1:=B1 (C3 D);have d9:=(I4.pin (D,_) (R1 _ V1))
   have f9:Y.get? D=some { cls:=.type "list",data:=.seq its.toArray na }:=(c7.2 D d4).trans d9.1;have un:Un (frs X.stack) fp L H3 s₂.heap s4.heap:=by have:=I4.base;rw [b0,b1,c2,a5] at this;exact this
   have kp :∀b o,b≠D + 1->s4.heap.get? b=some o->Y.get? b=some o:=λ b o a e=>(c7.2 b a).trans e;have a9 :∀b o,s₂.heap.get? b=some o->b≠D + 1/\b≠D:=λ b o e=>by have:=S0 e;rw [hD] at this;exact ⟨B1 (K2 this),B1 this⟩
   have d8:Un (frs X.stack) fp L (upd H3 D (.lst ys)) s₂.heap Y:=by
    refine ⟨λ b o e n a hx=>kp b o (a9 b o e).1 (un.keep b o e n a hx),λ b o e n a hx=>?_,λ b o e n hx=>by rw [upd_ne (a9 b o e).2];exact un.free b o e n hx,λ b o e hx=>?_,λ b xs e=>?_,λ b o u e=>?_,λ b ps e=>?_⟩
    ·obtain ⟨sl,z⟩:=un.slot b o e n a hx;exact ⟨sl,kp _ _ (a9 b o e).1 z⟩
    ·obtain ⟨o',z⟩:=un.there b o e hx;exact ⟨o',kp _ _ (a9 b o e).1 z⟩
    ·rw [upd_ne (z0q e (fresh D (J0 _)))];exact un.tups b xs e
    ·rw [upd_ne (z0q e (fresh D (J0 _)))];exact un.frzs b o u e
    ·rw [upd_ne (z0q e (fresh D (J0 _)))];exact un.tbls b ps e
   have b5:H3 (D + 1)=none:=by have:=I4.free;rw [Z] at this;exact this
   have e4:HOk X.prog X.w (upd H3 D (.lst ys)) Y:=λ b u e=>by
    by_cases a:b=D
    ·subst a;rw [z03] at e;cases e;exact ⟨b2,its,na,rv3,f9⟩
    ·rw [upd_ne a] at e;have z:=I4.hok b u e;rw [E.1,E.2.1] at z;refine z.stay (λ c v hc q=>kp c v ?_ q) (λ c q=>by rw [upd_ne (z0q q hD3)];exact q) λ c xs q=>by rw [upd_ne (z0q q hD3)];exact q
     rintro rfl;rcases hc with rfl|hc
     ·rw [b5] at e;cases e
     ·rw [b5] at hc;cases hc
   subst d1;have I5:Inv X pins σ (upd H3 D (.lst ys)) s4:=f.call' (s':=s4) (ch:=fp) (by have:=I4.os;rw [a5] at this;exact this) d8 e4 I4.bare (λ b a=>⟨(M b a).2.2.2.1,(M b a).2.1,(M b a).2.2.2.2.1,(M b a).2.2.2.2.2⟩);show compPost (N1 X'.prog X'.w) X'.A X.xe use QQ (.ref D) (D + 1) (.ok .next) s4;rw [E.1,E.2.1,c9];refine hend D s4 _ I5 ⟨m4,Z ▸ e5⟩ ?_ ?_ ?_ ?_ (qn D hD3)
   ·rw [upd_ne (Y3 (C3 D))];exact b5
   ·exact Y3 (K2 (by rw [<-hD];exact f.lt))
   ·exact O0 f.sz (by rw [hD];exact W2 D)
   ·refine ⟨λ z=>f.nofs (by rw [hD];exact W2 D) z,λ y c e=>?_,λ p B=>?_⟩
    ·obtain ⟨v,q⟩:=f.cell y c e;exact B1 (K2 (by rw [<-hD];exact q.lt))
    ·exact B1 (K2 (by rw [<-hD];exact S0 (f.pin p B).1))
  ·refine thn (hT.item X' rfl rfl rfl E.2.2.2 i _ s3 _ H3 _ c0 (FP fr3 (by intro p B;rw [List.mem_singleton.mp B])) st3 go) λ r s4 ⟨u,hr,h4⟩=>?_;subst hr;refine thn h4 λ _ s5 ⟨v,H5,I5,r5,y5,st5,fr5⟩=>?_;have f4:=I5.pinned (FP fr5 (by intro p B;rw [List.mem_singleton.mp B])) (T.obj _ _ st5);have g5:=f3 _ s5 (cStG σ fr (P0 xs.length none)) H5 v u _ f4 r5 (step v H5 y5);rw [b3] at g5;refine thn g5 λ _ s6 ⟨σ6,H6,I6,us,hus,e6,q6⟩=>?_;subst e6;have t6:=e0 _ s6 _ H6 _ I6 q6;rw [b3] at t6;refine thn t6 λ ok s7 ⟨H7,I7,q7⟩=>?_;have c5 :∀{H8:Hp} {F:B0} {ys':List V} {its':List Value} {pl:List (Addr×Obj)},Inv X' (pl++pinsAt fp s5.heap) (cStG σ fr us) H8 F->F.heap.PlainList D its'.toArray->Vals ys' its'->H8 D=none->(∃m',m' < n/\W (i + 1) m' ys' H8)->
     ∃m,m < n/\∃i ys its H',Inv X' [] (cStG σ fr (P0 xs.length none)) H' F/\tn i F.heap/\(∀b∈fp,H' b=none)/\F.heap.PlainList D its.toArray/\Vals ys its/\H' D=none/\W i m ys H':=λ {H8 F ys' its' pl} P b9 rv8 a7 ⟨m',hm,w8⟩=>by
    refine ⟨m',hm,i + 1,ys',its',H8,(P.pins_of (pins':=[]) (λ p B=>absurd B L0)).weak (by unfold cStG;simp [hus]) ?_,T.keep _ _ _ st5 λ b a o e=>(P.pin (b,o) (R1 _ (R1 _ (z3z a e)))).1,λ b a=>?_,b9,rv8,a7,w8⟩
    ·intro j z e;unfold cStG at e⊢;by_cases hj:j < xs.length
     ·rw [F1 (by rw [C2];exact hj),v5,if_pos hj] at e;cases e
     ·have hj:xs.length<=j:=j10 hj;rw [Z0 (by rw [C2];exact hj),C2] at e;rw [Z0 (by rw [hus];exact hj),hus];exact e
    ·obtain ⟨o,e,d⟩:=T.obj _ _ st5 b a;exact (P.pin (b,o) (R1 _ (R1 _ (z3z a e)))).2.1
   have b4 :∀{H8:Hp} {F:B0} {σ8:St},Inv X' ([(D,{ cls:=.type "list",data:=.seq its.toArray na })]++pinsAt fp s5.heap) σ8 H8 F->F.heap.PlainList D its.toArray/\H8 D=none:=λ P=>
    have z:=P.pin (D,_) (R1 _ (v7 _ V1))
    ⟨⟨na,z.1⟩,z.2.1⟩
   cases ok with
   | false=>rw [if_neg E1] at q7⊢;exact c5 I7 (b4 I7).1 rv3 (b4 I7).2 q7
   | true=>
    rw [if_pos rfl] at q7⊢;have t7:=d3 _ s7 _ H7 _ I7 q7;rw [b3] at t7;refine thn t7 λ y F ⟨vy,H8,P,r8,q8⟩=>?_;obtain ⟨b9,a7⟩:=b4 P;refine wpAny_list_append_plain (hsz:=by have:=rv3.length;rw [X0,<-this];exact b2) b9 λ h9 c4 d2=>?_;have I9:Inv X' ([]++pinsAt fp s5.heap) (cStG σ fr us) H8 F:=P.pins_of λ p B=>(P.pin p (R1 _ (R1 _ B)))
    have e7:Inv X' ([]++pinsAt fp s5.heap) (cStG σ fr us) H8 { F with heap:=h9 }:=by
     refine I9.turned (t':=F.toks) (it:=D) (λ b o a e=>(d2.2 b a).trans e) a7 (by rw [Z];exact B1 (C3 D)) (.inr (by rw [a5,hD];exact J0 _)) (λ y' c e=>?_) λ p B=>?_
     ·rw [a3] at e;exact B1 (f0 y' c e)
     ·rw [b7] at B;exact B1 (a6 _ (zbv B).1)
    have e9:its.toArray.push y=(its++[y]).toArray:=by simp
    rw [e9] at c4;exact c5 e7 c4 (rv3.snoc r8) a7 q8
 exact codeAny_compStart_list (loop _ rfl) (T.self _ 0 _ _ _ (T.keep _ _ _ b6 λ b a o e=>a1 b o e) (loop _ rfl))
theorem zft {xs:List Str} {tg:Expr} {g:TG} {pos:Pos} {elt iter:Expr} {ifs:List Expr} {scope:Scope} {fr:List (Nat×Str)} {wi:TI} {tc:TT} {te:TE} (hcalm:X.calm=true) (hi:PI X tg iter wi)
  (hfr :∀p∈fr,X.N[p.1]? = some p.2/\(X.env.kindOf p.2=some .cell\/X.env.kindOf p.2=some .free))
  (hfree :∀y∈scope.names,y.2=E2->X.env.kindOf y.1=some .cell\/X.env.kindOf y.1=some .free)
  (hfs :∀p∈fr,(p.2,E2)∈scope.names/\((J8 scope X.env).names.lookup p.2=some .cell\/(J8 scope X.env).names.lookup p.2=some .free))
  (hcell :∀y∈scope.names,y.2≠NameKind.cell) (hkind:scope.kind=.function) (hnames :∀y∈scope.names,y.2=NameKind.local->scope.names.lookup y.1=some .local)
  (hg :∀cl C s₂ H₂ fp,PG (cxComp X scope cl (xs++fr.map (·.2)) C s₂ H₂ fp) tg g)
  (ht :∀cl C s₂ H₂ fp,PF (cxComp X scope cl (xs++fr.map (·.2)) C s₂ H₂ fp) ifs tc) (he :∀cl C s₂ H₂ fp,PE (cxComp X scope cl (xs++fr.map (·.2)) C s₂ H₂ fp) elt te)
  (hs :∀x,Z5 iter X.env x=X3 x:=by intro _;rfl):PE X (.ListComp elt [⟨tg,iter,ifs,0⟩] scope pos) (tCompG wi xs.length fr g tc te):=by
 intro t s σ H Q I h;rw [eval_ListComp];refine zdw hcalm hi hfr hfree hfs hcell hkind hnames hg ht he hs I h λ D f i j a n k d ⟨c,hc,hp⟩ q=>?_;obtain ⟨m,a⟩:=a;exact ⟨m,a,λ r l=>⟨.ref D,i,j.turned (t':=f.toks) (it:=D + 1) (λ b o c e=>(l.2 b c).trans e) n k (.inr d) hc hp,rfl,q⟩⟩
theorem zdl {xs:List Str} {tg:Expr} {g:TG} {pos:Pos} {elt iter:Expr} {ifs:List Expr} {scope:Scope} {fr:List (Nat×Str)} {wi:TI} {tc:TT} {te:TE} {i:Nat} {y:Str} {py spos:Pos} (hNy:X.N.Nodup) (hiy:X.N[i]? = some y) (hy:Loc X.env.scope y) (hcalm:X.calm=true) (hi:PI X tg iter wi)
  (hfr :∀p∈fr,X.N[p.1]? = some p.2/\(X.env.kindOf p.2=some .cell\/X.env.kindOf p.2=some .free))
  (hfree :∀y∈scope.names,y.2=E2->X.env.kindOf y.1=some .cell\/X.env.kindOf y.1=some .free)
  (hfs :∀p∈fr,(p.2,E2)∈scope.names/\((J8 scope X.env).names.lookup p.2=some .cell\/(J8 scope X.env).names.lookup p.2=some .free))
  (hcell :∀y∈scope.names,y.2≠NameKind.cell) (hkind:scope.kind=.function) (hnames :∀y∈scope.names,y.2=NameKind.local->scope.names.lookup y.1=some .local)
  (hg :∀cl C s₂ H₂ fp,PG (cxComp X scope cl (xs++fr.map (·.2)) C s₂ H₂ fp) tg g)
  (ht :∀cl C s₂ H₂ fp,PF (cxComp X scope cl (xs++fr.map (·.2)) C s₂ H₂ fp) ifs tc) (he :∀cl C s₂ H₂ fp,PE (cxComp X scope cl (xs++fr.map (·.2)) C s₂ H₂ fp) elt te)
  (hs :∀x,Z5 iter X.env x=X3 x:=by intro _;rfl) (hw:a9 (.ListComp elt [⟨tg,iter,ifs,0⟩] scope pos) (some (.Name y py)) spos.line X.env=X3 true:=by rfl) (hf:X.fn y=true\/X.env.scope.names.lookup y=some .local:=by first|exact .inl rfl|exact .inr rfl|assumption) :
  PS X (.Assign [.Name y py] (.ListComp elt [⟨tg,iter,ifs,0⟩] scope pos) spos) (tAsg (tCompG wi xs.length fr g tc te) (gName i)):=by
 intro u s σ H D I h;rw [exec_Assign_Name_used y py _ spos hw];refine o0 (j0d (o0 ?_));show W0 _ _ (do let _ <-comprehension (.ListComp elt [⟨tg,iter,ifs,0⟩] scope pos) scope X.env (firstIterPos [⟨tg,iter,ifs,0⟩] pos) (newList []) (firstAsync [⟨tg,iter,ifs,0⟩]) (firstIter [⟨tg,iter,ifs,0⟩] X.env) (some (assign (.Name y py) X.env));X3 ()) _ _ _;refine o0 (zdw hcalm hi hfr hfree hfs hcell hkind hnames hg ht he hs I h λ A j k l d w n B ⟨c,hc,hp⟩ q=>?_);obtain ⟨m,d⟩:=d;obtain ⟨o,O,M,E,r,G,J⟩:=d;have K:Inv X ((A + 1,o) :: u) σ k j:=l.pins_of λ p a=>by
  rcases List.mem_cons.mp a with rfl|a
  ·exact ⟨E,w,n,c,λ v z=>by rw [r] at z;cases z⟩
  ·exact l.pin p (R1 _ a)
 refine thn (z0f (pos:=py) hNy hiy hy hf _ j σ k (.ref A) (.ref A) D.nx K rfl q) λ _ t ⟨σ5,H5,I6,q6⟩=>?_;have f:=I6.pin (A + 1,o) (R1 _ V1);have F:Inv X u σ5 H5 t:=I6.pins_of λ p a=>I6.pin p (R1 _ (Q1 _ a));refine ⟨m,⟨o,O,M,f.1,r,G,J⟩,λ P L=>?_⟩;exact G0 (G0 ⟨σ5,H5,F.turned (t':=t.toks) (it:=A + 1) (λ b o c e=>(L.2 b c).trans e) f.2.1 n (.inr B) hc hp,q6⟩)
end
end L2
set_option maxHeartbeats 400000
namespace L2
open PySem PySem.Spec PyProof.Rows
theorem z97 {t rest:TS} {D:Ends} {σ:St} {H:Hp} (R:St->Hp->Prop) (hr :∀σ1 H1,R σ1 H1->rest D σ1 H1) (h:(∀σ1 H1,R σ1 H1->rest D σ1 H1)->t { D with nx:=rest D } σ H):tSeq t rest D σ H:=h hr
theorem z0b {te:TE} {g:TG} {rest:TS} {D:Ends} {σ:St} {H:Hp} (h:te σ H λ x H1=>g x σ H1 (rest D)):tSeq (tAsg te g) rest D σ H:=h
structure Runs (J:It) (H1:Hp) (n:Nat) (Item:Nat->V->Hp->Prop):Prop where
 go :∀i,i < n->∀H,Same H1 H->J.go i H
 stop :∀H,Same H1 H->J.stop n H
 item :∀i,i < n->∀H v H',Same H1 H->J.yld i H v H'->Same H H'/\Item i v H'
theorem z2g (p:Nat->Bool) (n:Nat):(U0 (n + 1)).filter p=(U0 n).filter p++(if p n=true then [n] else []):=by rw [j13,C6,List.filter_cons];cases p n<;>rfl
inductive All2 {α β:Type} (R:α->β->Prop):List α->List β->Prop
 | nil:All2 R [] []
 | cons {a:α} {b:β} {xs:List α} {ys:List β}:R a b->All2 R xs ys->All2 R (a :: xs) (b :: ys)
theorem z5l {α β:Type} {R:α->β->Prop} :∀{xs:List α} {ys:List β} {x:α} {y:β},All2 R xs ys->R x y->All2 R (xs++[x]) (ys++[y])
 | [],_,x,y,.nil,h=>.cons h .nil
 | _ :: _,_,x,y,.cons a r,h=>.cons a (z5l r h)
theorem z00 {α β:Type} {R S:α->β->Prop} (h :∀a b,R a b->S a b) :∀{xs:List α} {ys:List β},All2 R xs ys->All2 S xs ys
 | [],_,.nil=>.nil
 | _ :: _,_,.cons a r=>.cons (h _ _ a) (z00 h r)
theorem z04 {α β:Type} {R:α->β->Prop} :∀{xs:List α} {ys:List β},All2 R xs ys->ys.length=xs.length
 | [],_,.nil=>rfl
 | _ :: _,_,.cons _ r=>congrArg (· + 1) (z04 r)
theorem z1m {α β:Type} {f:α->β} :∀{xs:List α} {ys:List β},All2 (λ x y=>y=f x) xs ys->ys=xs.map f
 | [],_,.nil=>rfl
 | _ :: _,_,.cons a r=>by rw [W1,z1m r,a]
theorem z63 {α β:Type} (p:α->Bool) (f:α->β) (d:α) :∀xs:List α,((U0 xs.length).filter λ i=>p (xs[i]?.getD d)).map (λ i=>f (xs[i]?.getD d))=(xs.filter p).map f:=by
 intro xs;have h:(U0 xs.length).map (λ i=>xs[i]?.getD d)=xs:=by
  apply Z6
  ·simp
  ·intro i b a;simp only [List.getElem_map,List.getElem_range,v0 a,Option.getD_some]
 have e:(xs.filter p).map f=((((U0 xs.length).map (λ i=>xs[i]?.getD d))).filter p).map f:=by rw [h]
 rw [e,List.filter_map,K4];rfl
structure QE (X:Cx) (e:Expr) (t:TE):Prop where
 run:PE X e t
structure QA (X:Cx) (es:List Expr) (t:TA):Prop where
 run:PA X es t
structure QPs (X:Cx) (pos:Pos) (ks:List (Option Expr)) (vs:List Expr) (t:List (TE×TE)):Prop where
 run:PPs X pos ks vs t
structure QS (X:Cx) (st:Stmt) (t:TS):Prop where
 run:PS X st t
structure QSs (X:Cx) (sts:List Stmt) (t:TS):Prop where
 run:PSs X sts t
section
variable {X:Cx} {pos:Pos}
theorem q_of {sts:List Stmt} {t:TS} {G:TS->Prop} (q:QSs X sts t) (g:G t) :∃t,PSs X sts t/\G t:=⟨t,q.run,g⟩
theorem zeq {st:Stmt} {t:TS} (h:QS X st t):QSs X [st] t:=⟨z05 h.run⟩
theorem z10 {st:Stmt} {rest:List Stmt} {t u:TS} (h:QS X st t) (r:QSs X rest u):QSs X (st :: rest) (tSeq t u):=⟨z02 h.run r.run⟩
theorem qs_set {i:Nat} {x:Str} {e:Expr} {te:TE} {pos':Pos} (hN:X.N.Nodup) (hi:X.N[i]? = some x) (hx:Loc X.env.scope x) (he:QE X e te) (hs:a9 e (some (.Name x pos')) pos.line X.env=X3 false:=by rfl) (hf:X.fn x=true\/X.env.scope.names.lookup x=some .local:=by first|exact .inl rfl|exact .inr rfl|assumption) :
  QS X (.Assign [.Name x pos'] e pos) (tAsg te (gName i)):=⟨ps_set hN hi hx he.run hs hf⟩
theorem qs_for {tg iter:Expr} {body:List Stmt} {wi:TI} {g:TG} {tb:TS} (hp:PassesOwn (N1 X.prog X.w) X.A X.env X.xe) (hc:X.calm=true) (hi:PI X tg iter wi) (hg:PG X tg g) (hb:QSs X body tb)
  (hs :∀x,Z5 iter X.env x=X3 x:=by intro _;rfl):QS X (.For tg iter body [] pos) (tFor wi g tb):=⟨ps_for hp hc hi hg hb.run hs⟩
theorem qe_tup {es:List Expr} {t:TA} {x1} (h:QA X es t):QE X (.Tuple es x1 pos) (tTup t):=⟨pe_tup h.run⟩
theorem qa_nil:QA X [] tNil:=⟨pa_nil⟩
theorem zhu {e:Expr} {es:List Expr} {te:TE} {t:TA} (ha:QE X e te) (hr:QA X es t) (hs:L1 (e :: es) X.env=(false,R3 e X.env) :: L1 es X.env:=by rfl):QA X (e :: es) (tCons te t):=⟨z01 ha.run hr.run hs⟩
end
theorem z7e {X:Cx} {K:j0} (h:X.K=K):IxR X (rIx K):=h ▸ ix_seq
theorem z0m {α β:Type} {R:α->β->Prop} :∀{xs:List α} {ys:List β} {i:Nat} {y:β},All2 R xs ys->ys[i]? = some y->∃x,xs[i]? = some x/\R x y
 | _,_,i,y,.nil,e=>by simp at e
 | _,_,0,y,.cons a _,e=>by rw [D4] at e;cases e;exact ⟨_,D4,a⟩
 | _,_,i + 1,y,.cons _ r,e=>by rw [u3] at e;obtain ⟨x,c,b⟩:=z0m r e;exact ⟨x,by rw [u3];exact c,b⟩
end L2
set_option maxHeartbeats 4000000
namespace L2
open PySem PySem.Spec PyProof.Rows
def IteL (K:j0) (a:Addr):It:=
  ⟨λ i H=>∃xs x,SqL K H a xs/\xs[i]? = some x,
   λ i H v H'=>∃p,H p=none/\v=.ref p/\∀xs,SqL K H a xs->∃x,xs[i]? = some x/\H'=upd H p (.tup [.int i,x]),
   λ i H=>∃xs,SqL K H a xs/\xs.length=i⟩
theorem w_0:(0:Nat)<=sizeLine:=by decide
theorem w_1:(1:Nat)<=sizeLine:=by decide
theorem w_2:(2:Nat)<=sizeLine:=by decide
theorem w_3:(3:Nat)<=sizeLine:=by decide
theorem w_4:(4:Nat)<=sizeLine:=by decide
theorem w_5:(5:Nat)<=sizeLine:=by decide
theorem w_6:(6:Nat)<=sizeLine:=by decide
theorem zf7 {P:Program} {w:C1} {K:j0} {elts:List Expr} {x1:Nat} {pos:Pos} {e it a:Addr} (ne:e≠it) (nae:a≠e) (nai:a≠it):Turn P w K (.Tuple elts x1 pos) (IteL K a) [e,it] e (λ n h=>(∃old,IsEnum h e it (n:Nat) old)/\h.IsListIter it a n) where
 mem:=by simp
 obj:=λ n h g c f=>by
  simp only [V3,L0,or_false] at f;rcases f with rfl|rfl
  ·obtain ⟨⟨old,z⟩,_⟩:=g;exact ⟨_,z,λ v z=>by cases (show Data.fields _=Data.cell v from z)⟩
  ·obtain ⟨_,o,e,_,d⟩:=g;exact ⟨o,e,λ v z=>by rw [d] at z;cases z⟩
 keep:=λ n h T g k=>by obtain ⟨⟨old,z⟩,o,e1,e2⟩:=g;exact ⟨⟨old,k e (by simp) _ z⟩,o,k it (by simp) _ e1,e2⟩
 item:=by
  intro X G L r f n a7 s σ H E I q g C;subst G L r;obtain ⟨Q,x,p,O⟩:=C;obtain ⟨i,F,j,_⟩:=I.list p;have j:s.heap.IsList a i.toArray:=j.isList;obtain ⟨u,M,ru⟩:=F.get O;have D:=Draws.list (prog:=X.prog) (w:=X.w) (A:=X.A.in1) (I.ok.hd f) it a nai i.toArray;have a3:n < i.toArray.size:=by have:=(List.getElem?_eq_some_iff.mp M).1;simpa using this
  obtain ⟨⟨old,V⟩,N⟩:=g;refine wpAny_pyNext_enum_itemD D V ⟨N,j⟩ a3 ne (by simp [ne,nae.symm]) λ y T t m a0 a6 tT hz J=>?_;have m:i[n]? = some y:=by simpa using m
  rw [M] at m;cases m;have Z:e < s.heap.objs.size:=S0 V;have a2:it < s.heap.objs.size:=by obtain ⟨o,z,_⟩:=N;exact S0 z
  have U:s.heap.objs.size≠e:=Y3 Z;have nT:s.heap.objs.size∉[e,it]:=by simp only [V3,L0,or_false,not_or];exact ⟨U,Y3 a2⟩
  refine ⟨_,rfl,wpAny_letOwnedTupleGo_enum a0 λ R a1 B=>?_⟩;have k2 :∀b o,b∉[e,it]->s.heap.get? b=some o->R.get? b=some o:=λ b o l z=>by simp only [V3,L0,or_false,not_or] at l;exact (B.2 b l.1).trans (J b o l.1 l.2 z)
  have S:=(B.2 _ U).trans tT;have a5:=a6.1.elim λ o z=>(⟨o,(B.2 it ne.symm).trans z.1,z.2⟩:R.IsListIter it a (n + 1))
  have fr:H s.heap.objs.size=none:=I.hok.fresh (J0 _);refine ⟨.ref s.heap.objs.size,upd H s.heap.objs.size (.tup [.int n,x]),I.turnedLaid (t':=t + 1) k2 q (J0 _) ⟨w_2,[.int n t,u],.cons ⟨t,rfl⟩ (.cons ru .nil),⟨_,S,rfl,_,rfl⟩,_,S,rfl⟩,rfl,⟨_,fr,rfl,λ a8 a4=>⟨x,?_,rfl⟩⟩,⟨⟨_,a1⟩,a5⟩,λ c f=>?_⟩
  ·rw [I.list_inj a4 p];exact O
  ·rw [upd_ne (λ (z:c=s.heap.objs.size)=>nT (z ▸ f))];exact (q c f).1
 done:=by
  intro X G L r f n a7 s σ H E I q g C;subst G L r;obtain ⟨Q,p,rfl⟩:=C;obtain ⟨i,F,j,_⟩:=I.list p;have j:s.heap.IsList a i.toArray:=j.isList;have D:=Draws.list (prog:=X.prog) (w:=X.w) (A:=X.A.in1) (I.ok.hd f) it a nai i.toArray;have W:=WalksT.enumerateD D e ne (by simp [ne,nae.symm]) (by simp);have la:i.toArray.size=Q.length:=by simpa using F.length.symm
  exact W.done s _ E (by rw [la];exact ⟨g.1,g.2,j⟩) λ T Y J=>⟨rfl,I.turnedL (t':=Y) (λ c o f e=>J c o f e) q⟩
 self:=λ _ _ _ _ _ g h=>g.1.elim λ old z=>wpAny_pyIter_enum z h
def ieL (K:j0) (ta:TA):TI:=λ σ H R=>ta σ H λ vs H1=>∃a xs,vs=[.ref a]/\SqL K H1 a xs/\R (IteL K a) H1
theorem zik {X:Cx} {elts:List Expr} {x1:Nat} {tpos:Pos} {e:Expr} {ta:TA} {p pos:Pos} (hg:Gl X "enumerate") (hm:X.mg "enumerate" = none) (ha:PA X [e] ta) (hs:L1 [e] X.env=[(false,R3 e X.env)]:=by rfl) :
  PI X (.Tuple elts x1 tpos) (.Call (.Name "enumerate" p) [e] [] pos) (ieL X.K ta):=by
 intro t s σ H R I h;refine Call_ (ld_blt I hg hm boot_enumerate (B4 (thn (ha pos t s σ H _ I h) λ w b ⟨vs,H1,I1,r1,q1⟩=>?_) (by rw [hs];rfl) rfl));obtain ⟨a,y,k,r,q⟩:=q1;subst k;obtain ⟨u,rfl,v⟩:=vals1 r1;cases (show u=G1 a from v);obtain ⟨l,x,d,_⟩:=I1.list r;have d:b.heap.IsList a l.toArray:=d.isList;have f:a < b.heap.objs.size:=by obtain ⟨o,e,_⟩:=id d;exact S0 e
 refine call_enumerate_list d λ z j n _ m=>?_;refine wpAny_pyIter_enum j ?_;refine ⟨_,_,_,_,H1,rfl,I1.kept (t':=b.toks) m,zf7 (Y3 (C3 _)) (B1 (K2 f)) (B1 f),⟨⟨_,j⟩,n⟩,λ c i=>?_,q⟩;have g:b.heap.objs.size<=c:=by
  simp only [V3,L0,or_false] at i;rcases i with rfl|rfl
  ·exact j11 _ _
  ·exact J0 _
 exact I1.fpOk g (I1.hok.fresh g)
end L2
set_option maxHeartbeats 400000
namespace L2
open PySem PySem.Spec PyProof.Rows
section
variable {X:Cx}
theorem zew {o e:Expr} {es:List Expr} {to:TE} {t:TA} {apos cpos:Pos} (ho:PE X o to) (ha:PA X (e :: es) t)
  (hbase:z5 o "pop" X.env (R3 o X.env)=R3 o X.env:=by rfl)
  (hfew:((N4 cpos (L1 (e :: es) X.env)).all (λ x=>!x.1) && (b9 cpos (T6 [] X.env)).all (λ x=>x.1.isSome)
   && decide ((e :: es).length + ([]:List K6).length + (if ([]:List K6).isEmpty then 0 else 1) < 30))=true:=by rfl)
  (hline:(apos.endLine == cpos.line)=true:=by rfl) (hs:L1 (e :: es) X.env=(false,R3 e X.env) :: L1 es X.env:=by rfl) (hplain:(N4 cpos (L1 es X.env)).any (·.1)=false:=by rfl) :
  PE X (.Call (.Attribute o "pop" apos) (e :: es) [] cpos) (tBM X.K "list" rPopAt to t):=pe_bm f8 PySem.F.slot_list_pop PySem.F.type_list_pop zj5 ho ha hbase hfew hline hs hplain
end
mutual
def IsPd (K:j0) (H:Hp):PyData->V->Prop
 | .none,v=>v=.non
 | .bool b,v=>v=.bl b
 | .int i,v=>v=.int i
 | .str z,v=>v=.str z
 | .list ds,v=>∃a xs,v=.ref a/\SqL K H a xs/\IsPds K H ds xs
 | .tuple ds,v=>∃a xs,v=.ref a/\SqT K H a xs/\IsPds K H ds xs
 | .dict _,_=>False
def IsPds (K:j0) (H:Hp):List PyData->List V->Prop
 | [],xs=>xs=[]
 | d :: ds,xs=>∃x r,xs=x :: r/\IsPd K H d x/\IsPds K H ds r
end
mutual
def plainP:PyData->Bool
 | .none=>true
 | .bool _=>false
 | .int _=>true
 | .str z=>(PyData.str z).canLay0
 | .list ds=>zei ds
 | .tuple ds=>zei ds
 | .dict _=>false
def zei:List PyData->Bool
 | []=>true
 | d :: ds=>plainP d && zei ds
end
end L2
set_option maxHeartbeats 1000000
namespace L2
open PySem PySem.Spec PyProof.Rows
section
variable {prog:Program} {w:C1} {A:O2} {E:Value->B0->Prop} {s:B0}
theorem z5h:entryFor table "dict.update.loop" = some D9.«dict.update.loop»:=by kernel_rfl
theorem zh9 {l:Addr} {items:Array Value} {n:Nat} {sl:Array (Option Value)} {Q:Option Value->B0->Prop} (h:s.heap.get? l=some { cls:=.type "list",data:=.seq items n,slots:=sl }) (hh:A.handled=none)
  (q :∀h' tk,(∀b o,s.heap.get? b=some o->h'.get? b=some o)->Q none { s with heap:=h',toks:=tk }):W0 (N1 prog w) A (j16 (.ref l) (O3 "keys")) Q E s:=by
 unfold j16;refine o0 (wpAny_mkText ?_);unfold getAttrBy? getAttrBy;have c:V6 { s with toks:=s.toks + 1 } (.ref l) "list":=⟨_,h,rfl⟩
 refine o0 (j0e (Z1 (o0 (Y7 c ?_))));rw [show j3d (D3 "list") (O3 "__getattribute__")=X3 (some (.builtin "list.__getattribute__")) from rfl];refine o0 (G0 ?_);show W0 _ _ (F9 (.ref l) (.str (O3 "keys") s.toks) (.type "list") (.builtin "list.__getattribute__") false false) _ _ _;unfold F9;refine o0 (show W0 _ _ (X3 none) _ _ _ from G0 ?_);refine o0 (j0e (Z1 ?_));show W0 _ _ (Y9 (.builtin "list.__getattribute__") (.ref l) (.str (O3 "keys") s.toks)) _ _ _;unfold Y9;rw [show bindSpecial (.builtin "list.__getattribute__") (.ref l)=X3 (Value.builtin "list.__getattribute__",[G1 l]) from rfl];refine o0 (G0 ?_);show W0 _ _ (call (.builtin "list.__getattribute__") [.ref l,.str (O3 "keys") s.toks]) _ _ _;refine z8 F.slot_list_getattribute c am_entry_list_getattribute (F.args_list_getattribute_2 _ _) (meets_getattribute_miss_list l items n sl (O3 "keys") s.toks rfl (by decide +kernel) (by decide +kernel)) ⟨h,hh,λ h' tk e a=>?_⟩;obtain ⟨t,u,f⟩:=a.there;have d:V6 { s with heap:=h',toks:=tk } (.ref e) "AttributeError":=⟨_,f,rfl⟩
 show W0 _ _ (y8 (.ref l) _ (.type "list") (.ref e) none false false) _ _ _;unfold y8;refine o0 (z6 d rfl ?_);show W0 _ _ (j3g (.type "list") none >>= _) _ _ _;rw [show j3g (.type "list") none=X3 none from rfl];refine o0 (G0 ?_);show W0 _ _ (throw (G1 e) >>= _) _ _ _;refine o0 (wpAny_throw ?_);show W0 _ _ (j3f (.ref e) (.type "AttributeError") >>= _) _ _ _;refine o0 (z6 d rfl ?_);exact G0 (q h' tk a.keeps)
theorem zdz {l:Addr} {items:Array Value} {n:Nat} {sl:Array (Option Value)} {Q:Option Value->B0->Prop} (h:s.heap.get? l=some { cls:=.type "tuple",data:=.seq items n,slots:=sl }) (hh:A.handled=none)
  (q :∀h' tk,(∀b o,s.heap.get? b=some o->h'.get? b=some o)->Q none { s with heap:=h',toks:=tk }):W0 (N1 prog w) A (j16 (.ref l) (O3 "keys")) Q E s:=by
 unfold j16;refine o0 (wpAny_mkText ?_);unfold getAttrBy? getAttrBy;have c:V6 { s with toks:=s.toks + 1 } (.ref l) "tuple":=⟨_,h,rfl⟩
 refine o0 (j0e (Z1 (o0 (Y7 c ?_))));rw [show j3d (D3 "tuple") (O3 "__getattribute__")=X3 (some (.builtin "tuple.__getattribute__")) from rfl];refine o0 (G0 ?_);show W0 _ _ (F9 (.ref l) (.str (O3 "keys") s.toks) (.type "tuple") (.builtin "tuple.__getattribute__") false false) _ _ _;unfold F9;refine o0 (show W0 _ _ (X3 none) _ _ _ from G0 ?_);refine o0 (j0e (Z1 ?_));show W0 _ _ (Y9 (.builtin "tuple.__getattribute__") (.ref l) (.str (O3 "keys") s.toks)) _ _ _;unfold Y9;rw [show bindSpecial (.builtin "tuple.__getattribute__") (.ref l)=X3 (Value.builtin "tuple.__getattribute__",[G1 l]) from rfl];refine o0 (G0 ?_);show W0 _ _ (call (.builtin "tuple.__getattribute__") [.ref l,.str (O3 "keys") s.toks]) _ _ _;refine z8 F.slot_tuple_getattribute c am_entry_tuple_getattribute (F.args_tuple_getattribute_2 _ _) (meets_getattribute_miss_tuple l items n sl (O3 "keys") s.toks rfl (by decide +kernel) (by decide +kernel)) ⟨h,hh,λ h' tk e a=>?_⟩;obtain ⟨t,u,f⟩:=a.there;have d:V6 { s with heap:=h',toks:=tk } (.ref e) "AttributeError":=⟨_,f,rfl⟩
 show W0 _ _ (y8 (.ref l) _ (.type "tuple") (.ref e) none false false) _ _ _;unfold y8;refine o0 (z6 d rfl ?_);show W0 _ _ (j3g (.type "tuple") none >>= _) _ _ _;rw [show j3g (.type "tuple") none=X3 none from rfl];refine o0 (G0 ?_);show W0 _ _ (throw (G1 e) >>= _) _ _ _;refine o0 (wpAny_throw ?_);show W0 _ _ (j3f (.ref e) (.type "AttributeError") >>= _) _ _ _;refine o0 (z6 d rfl ?_);exact G0 (q h' tk a.keeps)
theorem z5i (a:Args):(L7 "dict.update.loop" a).quiet=true:=J7 (by decide +kernel) _
def PairOf (prog:Program) (w:C1) (h:Heap) (p:Key×Value) (u:Value):Prop:=∃a kv,u=.ref a/\h.IsTuple a #[kv,p.2]/\(z0k prog w).is p.1 kv=true
theorem PairOf.kept {h h':Heap} {p:Key×Value} {u:Value} {L:List Addr} (k :∀b o,b∉L->h.get? b=some o->h'.get? b=some o) (nt :∀b∈L,∀o,h.get? b=some o->o.cls≠.type "tuple") (x:PairOf prog w h p u):PairOf prog w h' p u:=by obtain ⟨a,f,e,⟨o,c,d,n,g⟩,i⟩:=x;exact ⟨a,f,e,⟨o,k a o (λ z=>nt a z o c d) c,d,n,g⟩,i⟩
theorem z9e {a:Addr} {items:Array Value} {Q:List Value->B0->Prop} (h:s.heap.IsTuple a items) (q:Q items.toList s):W0 (N1 prog w) A (j0i (.ref a)) Q E s:=by obtain ⟨o,b,c,n,d⟩:=h;unfold j0i;refine o0 (Y7 (T:="tuple") ⟨o,b,c⟩ ?_);show W0 _ _ (seqItems? (.ref a) >>= _) _ _ _;exact o0 (W9 b d (G0 q))
theorem ze1 {d it l:Addr} {items:Array Value} (ndi:d≠it) (ndl:d≠l) (nil':it≠l) :∀(ps:List (Key×Value)) (i:Nat) (kvs:List (Key×Value)) (A:O2) (R:j20->B0->Prop) (s:B0),A.handled=none->s.heap.IsListIter it l i->s.heap.IsList l items->
  All2 (PairOf prog w s.heap) ps (items.toList.drop i)->b4 (z0k prog w) s.heap d kvs->kvs.length + ps.length<=sizeLine->
  (∀h' tk,b4 (z0k prog w) h' d (ps.foldl (λ acc p=>stored acc p.1 p.2) kvs)->(∀b o,b≠d->b≠it->s.heap.get? b=some o->h'.get? b=some o)->R (.ok (.ret .none)) { s with heap:=h',toks:=tk })->
  B5 (N1 prog w) A (L7 "dict.update.loop" { pos:=[.ref d,.ref it,.int (i:Nat) 0,.none],kw:=[] }) R s
 | [],i,kvs,A,R,s,hh,si,sl,al,r,hz,q=>by
  have hn:items[i]? = none:=by
   cases hd:items.toList.drop i with
   | nil=>have:=List.drop_eq_nil_iff.mp hd;rw [N2] at this;exact J4 this
   | cons u us=>rw [hd] at al;cases al
  refine F3 z5h ?_;show W0 _ _ (D7 (.ref it) >>= _) _ _ s;refine o0 (V4 (show (A.under _).handled=none from hh) si sl hn λ h' I=>?_);show W0 _ _ ((do j06 d [];ret .none):Sem j0a) _ _ _;refine o0 (show W0 _ _ (X3 ()) _ _ _ from G0 ?_);have D:b4 (z0k prog w) h' d kvs:=by obtain ⟨o,v,t,f,m⟩:=r;exact ⟨o,v,t,I d o ndi f,m⟩
  exact G0 (q h' s.toks D λ b o _ k e=>I b o k e)
 | p :: ps,i,kvs,A,R,s,hh,si,sl,al,r,hz,q=>by
  cases hd:items.toList.drop i with
  | nil=>rw [hd] at al;cases al
  | cons u us=>
   rw [hd] at al;cases al with
   | cons pu al=>
    have hi:items.toList[i]? = some u:=by have:=congrArg (λ l=>l[0]?) hd;simpa using this
    have V:items[i]? = some u:=by simpa using hi
    have Y:items.toList.drop (i + 1)=us:=by have:=congrArg j0g hd;simpa using this
    obtain ⟨a,F,rfl,N,M⟩:=pu;refine F3 z5h ?_;show W0 _ _ (D7 (.ref it) >>= _) _ _ s;refine o0 (u4 si sl V λ f X E=>?_);have H :∀o,s.heap.get? it=some o->o.cls≠.type "tuple":=λ o e z=>by obtain ⟨W,n,c,_⟩:=si;rw [e] at n;cases n;rw [z] at c;exact absurd c (by decide)
    have Q :∀(h:Heap) (kvs:List (Key×Value)),b4 (z0k prog w) h d kvs->∀o,h.get? d=some o->o.cls≠.type "tuple":=λ h kvs r o e z=>by obtain ⟨W,v,t,n,c,_⟩:=r;rw [e] at n;cases n;have:=c.1;rw [z] at this;exact absurd this (by decide)
    have C :∀b o,b∉[it]->s.heap.get? b=some o->f.get? b=some o:=λ b o k e=>(E.2 b (λ z=>k (by rw [z];exact List.mem_singleton.mpr rfl))).trans e;have T:f.IsTuple a #[F,p.2]:=by obtain ⟨o,j,g,e3⟩:=N;exact ⟨o,C a o (λ z=>H o (List.mem_singleton.mp z ▸ j) g) j,g,e3⟩
    have a0:All2 (PairOf prog w f) ps us:=z00 (λ x y z=>PairOf.kept C (λ b k o e=>H o (List.mem_singleton.mp k ▸ e)) z) al;have K:b4 (z0k prog w) f d kvs:=by obtain ⟨o,v,t,j,g⟩:=r;exact ⟨o,v,t,(E.2 d ndi).trans j,g⟩
    have P:f.IsList l items:=by obtain ⟨o,j,g⟩:=sl;exact ⟨o,(E.2 l (D2 nil')).trans j,g⟩
    refine o0 (Z1 (o0 (a7 (z9e (s:={ s with heap:=f }) T ?_))));show W0 _ _ (z9 [F,p.2] (j39 d F p.2)) _ _ _;refine Z1 (wpAny_dictSet_pairs M K (λ m S B=>?_) (O0 (j11 _ _) hz));refine G0 ⟨z5i _,?_⟩;have L :∀b o,b∉[d]->f.get? b=some o->m.get? b=some o:=λ b o k e=>(B.2 b (λ z=>k (by rw [z];exact List.mem_singleton.mpr rfl))).trans e;have a1:All2 (PairOf prog w m) ps us:=z00 (λ x y z=>PairOf.kept L (λ b k o e=>Q f kvs K o (List.mem_singleton.mp k ▸ e)) z) a0;have O:m.IsListIter it l (i + 1):=by obtain ⟨o,j,g⟩:=X;exact ⟨o,(B.2 it (D2 ndi)).trans j,g⟩
    have a2:m.IsList l items:=by obtain ⟨o,j,g⟩:=P;exact ⟨o,(B.2 l (D2 ndl)).trans j,g⟩
    have Z:(stored kvs p.1 p.2).length + ps.length<=sizeLine:=by
     have:(stored kvs p.1 p.2).length<=kvs.length + 1:=by
      unfold stored;split
      ·rw [C0];exact W2 _
      ·rw [F0];exact J0 _
     rw [A1] at hz;omega
    exact ze1 ndi ndl nil' ps (i + 1) (stored kvs p.1 p.2) A R { s with heap:=m,toks:=s.toks + 1 } hh O a2 (by rw [Y];exact a1) S Z λ h' tk D U=>q h' tk D λ b o J G e=>U b o J G (L b o (λ z=>J (List.mem_singleton.mp z)) (C b o (λ z=>G (List.mem_singleton.mp z)) e))
theorem zcb {d it l:Addr} {items:Array Value} (ndi:d≠it) (ndl:d≠l) (nil':it≠l) :∀(ps:List (Key×Value)) (i:Nat) (kvs:List (Key×Value)) (A:O2) (R:j20->B0->Prop) (s:B0),A.handled=none->s.heap.IsTupleIter it l i->s.heap.IsTuple l items->
  All2 (PairOf prog w s.heap) ps (items.toList.drop i)->b4 (z0k prog w) s.heap d kvs->kvs.length + ps.length<=sizeLine->
  (∀h' tk,b4 (z0k prog w) h' d (ps.foldl (λ acc p=>stored acc p.1 p.2) kvs)->(∀b o,b≠d->b≠it->s.heap.get? b=some o->h'.get? b=some o)->R (.ok (.ret .none)) { s with heap:=h',toks:=tk })->
  B5 (N1 prog w) A (L7 "dict.update.loop" { pos:=[.ref d,.ref it,.int (i:Nat) 0,.none],kw:=[] }) R s
 | [],i,kvs,A,R,s,hh,si,sl,al,r,hz,q=>by
  have hn:items[i]? = none:=by
   cases hd:items.toList.drop i with
   | nil=>have:=List.drop_eq_nil_iff.mp hd;rw [N2] at this;exact J4 this
   | cons u us=>rw [hd] at al;cases al
  refine F3 z5h ?_;show W0 _ _ (D7 (.ref it) >>= _) _ _ s;refine o0 (wpAny_pyNext_tuple_end (show (A.under _).handled=none from hh) si sl hn λ h' I=>?_);show W0 _ _ ((do j06 d [];ret .none):Sem j0a) _ _ _;refine o0 (show W0 _ _ (X3 ()) _ _ _ from G0 ?_);have D:b4 (z0k prog w) h' d kvs:=by obtain ⟨o,v,t,f,m⟩:=r;exact ⟨o,v,t,I d o ndi f,m⟩
  exact G0 (q h' s.toks D λ b o _ k e=>I b o k e)
 | p :: ps,i,kvs,A,R,s,hh,si,sl,al,r,hz,q=>by
  cases hd:items.toList.drop i with
  | nil=>rw [hd] at al;cases al
  | cons u us=>
   rw [hd] at al;cases al with
   | cons pu al=>
    have hi:items.toList[i]? = some u:=by have:=congrArg (λ l=>l[0]?) hd;simpa using this
    have V:items[i]? = some u:=by simpa using hi
    have Y:items.toList.drop (i + 1)=us:=by have:=congrArg j0g hd;simpa using this
    obtain ⟨a,F,rfl,N,M⟩:=pu;refine F3 z5h ?_;show W0 _ _ (D7 (.ref it) >>= _) _ _ s;refine o0 (wpAny_pyNext_tuple_item si sl V λ f X E=>?_);have H :∀o,s.heap.get? it=some o->o.cls≠.type "tuple":=λ o e z=>by obtain ⟨W,n,c,_⟩:=si;rw [e] at n;cases n;rw [z] at c;exact absurd c (by decide)
    have Q :∀(h:Heap) (kvs:List (Key×Value)),b4 (z0k prog w) h d kvs->∀o,h.get? d=some o->o.cls≠.type "tuple":=λ h kvs r o e z=>by obtain ⟨W,v,t,n,c,_⟩:=r;rw [e] at n;cases n;have:=c.1;rw [z] at this;exact absurd this (by decide)
    have C :∀b o,b∉[it]->s.heap.get? b=some o->f.get? b=some o:=λ b o k e=>(E.2 b (λ z=>k (by rw [z];exact List.mem_singleton.mpr rfl))).trans e;have T:f.IsTuple a #[F,p.2]:=by obtain ⟨o,j,g,e3⟩:=N;exact ⟨o,C a o (λ z=>H o (List.mem_singleton.mp z ▸ j) g) j,g,e3⟩
    have a0:All2 (PairOf prog w f) ps us:=z00 (λ x y z=>PairOf.kept C (λ b k o e=>H o (List.mem_singleton.mp k ▸ e)) z) al;have K:b4 (z0k prog w) f d kvs:=by obtain ⟨o,v,t,j,g⟩:=r;exact ⟨o,v,t,(E.2 d ndi).trans j,g⟩
    have P:f.IsTuple l items:=by obtain ⟨o,j,g⟩:=sl;exact ⟨o,(E.2 l (D2 nil')).trans j,g⟩
    refine o0 (Z1 (o0 (a7 (z9e (s:={ s with heap:=f }) T ?_))));show W0 _ _ (z9 [F,p.2] (j39 d F p.2)) _ _ _;refine Z1 (wpAny_dictSet_pairs M K (λ m S B=>?_) (O0 (j11 _ _) hz));refine G0 ⟨z5i _,?_⟩;have L :∀b o,b∉[d]->f.get? b=some o->m.get? b=some o:=λ b o k e=>(B.2 b (λ z=>k (by rw [z];exact List.mem_singleton.mpr rfl))).trans e;have a1:All2 (PairOf prog w m) ps us:=z00 (λ x y z=>PairOf.kept L (λ b k o e=>Q f kvs K o (List.mem_singleton.mp k ▸ e)) z) a0;have O:m.IsTupleIter it l (i + 1):=by obtain ⟨o,j,g⟩:=X;exact ⟨o,(B.2 it (D2 ndi)).trans j,g⟩
    have a2:m.IsTuple l items:=by obtain ⟨o,j,g⟩:=P;exact ⟨o,(B.2 l (D2 ndl)).trans j,g⟩
    have Z:(stored kvs p.1 p.2).length + ps.length<=sizeLine:=by
     have:(stored kvs p.1 p.2).length<=kvs.length + 1:=by
      unfold stored;split
      ·rw [C0];exact W2 _
      ·rw [F0];exact J0 _
     rw [A1] at hz;omega
    exact zcb ndi ndl nil' ps (i + 1) (stored kvs p.1 p.2) A R { s with heap:=m,toks:=s.toks + 1 } hh O a2 (by rw [Y];exact a1) S Z λ h' tk D U=>q h' tk D λ b o J G e=>U b o J G (L b o (λ z=>J (List.mem_singleton.mp z)) (C b o (λ z=>G (List.mem_singleton.mp z)) e))
theorem z5v {h:Heap} {D:Addr} (e:h.get? D=some { cls:=.type "dict",data:=.dict #[] }):b4 (z0k prog w) h D []:=by obtain ⟨o,c,b,a,r⟩:=j3a (knd:=z0k prog w) h;rw [D1 _ rfl] at a;cases a;exact ⟨_,c,b,e,r⟩
theorem z7o {D l:Addr} {items:Array Value} {n:Nat} {sl:Array (Option Value)} {ps:List (Key×Value)} {Q:B0->Prop} {A':O2} (hd:s.heap.get? D=some { cls:=.type "dict",data:=.dict #[] }) (hl:s.heap.get? l=some { cls:=.type "list",data:=.seq items n,slots:=sl }) (hh:A.handled=none) (hh':A'.handled=none)
  (al:All2 (PairOf prog w s.heap) ps items.toList) (hz:ps.length<=sizeLine)
  (q :∀h' tk,b4 (z0k prog w) h' D (merged [] ps)->(∀b o,b≠D->s.heap.get? b=some o->h'.get? b=some o)->Q { s with heap:=h',toks:=tk }) :
  W0 (N1 prog w) A (D9.«dict.__init__» { pos:=[.ref D,.ref l] }) (λ fin s'=>match fin with
   | .done f=>wants (λ r s₂=>r=K3/\Q s₂) E (.ok f) s'
   | .again c'=>c'.quiet=true/\B5 (N1 prog w) A' c' (wants (λ r s₂=>r=K3/\Q s₂) E) s') (λ e s'=>wants (λ r s₂=>r=K3/\Q s₂) E (.error e) s') s:=by
 have m:D≠l:=λ z=>by rw [z,hl] at hd;exact absurd (show D3 "list" = D3 "dict" from congrArg Obj.cls (X1 hd)) (by decide)
 unfold D9.«dict.__init__» j05;refine o0 (o0 (wpAny_notOrdered_dict ⟨_,hd,rfl⟩ ?_));refine o0 (show W0 _ _ (X3 D) _ _ _ from G0 (G0 ?_));show W0 _ _ (X5 "dict.__init__" D (.ref l) [] .none) _ _ _;unfold X5;refine o0 (Y7 (T:="list") ⟨_,hl,rfl⟩ ?_);show W0 _ _ (j16 (.ref l) (O3 "keys") >>= _) _ _ _;refine o0 (zh9 hl hh λ h tk a=>?_);show W0 _ _ (rule _ >>= _) _ _ _;refine o0 (C7 (o0 (Z4 (items:=items) ⟨_,a _ _ hl,rfl,_,rfl⟩ ?_)));refine G0 ⟨z5i _,?_⟩;have t:=S0 (a _ _ hd);have j:=S0 (a _ _ hl);have c :∀b o,s.heap.get? b=some o->(h.push { cls:=.type "list_iterator",data:=.fields #[.ref l,.int 0 0] }).get? b=some o:=λ b o e=>I0 _ (a b o e);refine ze1 (d:=D) (it:=h.objs.size) (l:=l) (items:=items) (B1 t) m (Y3 j) ps 0 [] A' _ _ hh' ⟨_,D1 _ rfl,rfl,rfl⟩ ⟨_,c _ _ hl,rfl,_,rfl⟩ ?_ ?_ (by simpa using hz) λ h' i p k=>⟨rfl,q h' i p λ b o g e=>k b o g (λ z=>?_) (c b o e)⟩
 ·rw [J6];exact z00 (λ x y z=>PairOf.kept (L:=[]) (λ b o _ e=>c b o e) (λ b g=>absurd g L0) z) al
 ·exact z5v (c _ _ hd)
 ·rw [z] at e;exact absurd (S0 (a _ _ e)) (z4 _)
theorem z6y {D l:Addr} {items:Array Value} {n:Nat} {sl:Array (Option Value)} {ps:List (Key×Value)} {Q:B0->Prop} {A':O2} (hd:s.heap.get? D=some { cls:=.type "dict",data:=.dict #[] }) (hl:s.heap.get? l=some { cls:=.type "tuple",data:=.seq items n,slots:=sl }) (hh:A.handled=none) (hh':A'.handled=none)
  (al:All2 (PairOf prog w s.heap) ps items.toList) (hz:ps.length<=sizeLine)
  (q :∀h' tk,b4 (z0k prog w) h' D (merged [] ps)->(∀b o,b≠D->s.heap.get? b=some o->h'.get? b=some o)->Q { s with heap:=h',toks:=tk }) :
  W0 (N1 prog w) A (D9.«dict.__init__» { pos:=[.ref D,.ref l] }) (λ fin s'=>match fin with
   | .done f=>wants (λ r s₂=>r=K3/\Q s₂) E (.ok f) s'
   | .again c'=>c'.quiet=true/\B5 (N1 prog w) A' c' (wants (λ r s₂=>r=K3/\Q s₂) E) s') (λ e s'=>wants (λ r s₂=>r=K3/\Q s₂) E (.error e) s') s:=by
 have m:D≠l:=λ z=>by rw [z,hl] at hd;exact absurd (show D3 "tuple" = D3 "dict" from congrArg Obj.cls (X1 hd)) (by decide)
 unfold D9.«dict.__init__» j05;refine o0 (o0 (wpAny_notOrdered_dict ⟨_,hd,rfl⟩ ?_));refine o0 (show W0 _ _ (X3 D) _ _ _ from G0 (G0 ?_));show W0 _ _ (X5 "dict.__init__" D (.ref l) [] .none) _ _ _;unfold X5;refine o0 (Y7 (T:="tuple") ⟨_,hl,rfl⟩ ?_);show W0 _ _ (j16 (.ref l) (O3 "keys") >>= _) _ _ _;refine o0 (zdz hl hh λ h tk a=>?_);show W0 _ _ (rule _ >>= _) _ _ _;refine o0 (C7 (o0 (wpAny_pyIter_tuple (items:=items) ⟨_,a _ _ hl,rfl,_,rfl⟩ ?_)));refine G0 ⟨z5i _,?_⟩;have t:=S0 (a _ _ hd);have j:=S0 (a _ _ hl);have c :∀b o,s.heap.get? b=some o->(h.push { cls:=.type "tuple_iterator",data:=.fields #[.ref l,.int 0 0] }).get? b=some o:=λ b o e=>I0 _ (a b o e);refine zcb (d:=D) (it:=h.objs.size) (l:=l) (items:=items) (B1 t) m (Y3 j) ps 0 [] A' _ _ hh' ⟨_,D1 _ rfl,rfl,rfl⟩ ⟨_,c _ _ hl,rfl,_,rfl⟩ ?_ ?_ (by simpa using hz) λ h' i p k=>⟨rfl,q h' i p λ b o g e=>k b o g (λ z=>?_) (c b o e)⟩
 ·rw [J6];exact z00 (λ x y z=>PairOf.kept (L:=[]) (λ b o _ e=>c b o e) (λ b g=>absurd g L0) z) al
 ·exact z5v (c _ _ hd)
 ·rw [z] at e;exact absurd (S0 (a _ _ e)) (z4 _)
end
section
variable {X:Cx}
def zk8 (K:j0):List V->Hp->VK->Prop:=λ xs H Q=>∃a ys kvs,xs=[.ref a]/\(H a=some (.lst ys)\/H a=some (.tup ys))/\All2 (λ (p:Key×V) y=>∃b,y=.ref b/\SqT K H b [kV p.1,p.2]) kvs ys/\∀p,H p=none->Q (.ref p) (upd H p (.dK (mergeK [] kvs)))
theorem zb6 {pins:List (Addr×Obj)} {σ:St} {H:Hp} {s:B0} (I:Inv X pins σ H s) :∀{kvs:List (Key×V)} {ys:List V} {its:List Value},All2 (λ (p:Key×V) y=>∃b,y=.ref b/\SqT X.K H b [kV p.1,p.2]) kvs ys->Vals ys its->
  ∃ps,KV kvs ps/\All2 (PairOf X.prog X.w s.heap) ps its
 | [],_,_,.nil,r=>by cases r;exact ⟨[],.nil,.nil⟩
 | p :: kvs,_,_,.cons ⟨b,e,sb⟩ al,r=>by
  cases r with
  | cons r1 r2=>
   subst e;obtain ⟨ps,f,c⟩:=zb6 I al r2;obtain ⟨its,a,d,_⟩:=I.tuple sb;cases a with
   | cons ra a=>
    cases a with
    | cons rb a=>cases a;rename_i u1 u2;exact ⟨(p.1,u2) :: ps,.cons ⟨rfl,rb⟩ f,.cons ⟨b,u1,r1,d,kV_is ra⟩ c⟩
theorem z43 (kvs:List (Key×V)) :∀more:List (Key×V),(mergeK kvs more).length<=kvs.length + more.length
 | []=>J0 _
 | p :: more=>by have b:=z43 (putK kvs p.1 p.2) more;have a:=z21 kvs p.1 p.2;show (mergeK (putK kvs p.1 p.2) more).length<=_;rw [A1];omega
theorem zcs (hc:X.calm=true):CallR X (.type "dict") (zk8 X.K):=by
 intro S s σ H xs V Q I r h;obtain ⟨a,R,g,rfl,l,B,q⟩:=h;obtain ⟨u,rfl,T⟩:=vals1 r;cases (show u=G1 a from T);have p:X.A.handled=none:=I.ok.hd hc;have O:H s.heap.objs.size=none:=I.hok.fresh (J0 _);have big:=I.big;have fin :∀(d:List (Key×Value)) (h':Heap) (c:Nat),KV g d->g.length<=sizeLine->b4 (z0k X.prog X.w) h' s.heap.objs.size (merged [] d)->(∀b o,b≠s.heap.objs.size->(s.heap.push { cls:=.type "dict",data:=.dict #[] }).get? b=some o->h'.get? b=some o)->
   EP X S σ Q (.ref s.heap.objs.size) { s with heap:=h',toks:=c }:=λ d h' c f P j k=>by
  refine ⟨.ref s.heap.objs.size,_,I.laid (a:=s.heap.objs.size) (o:=.dK (mergeK [] g)) (h':=h') (t':=c) (λ b o e=>k b o (B1 (S0 e)) (I0 _ e)) (J0 _) ?_,rfl,q _ O⟩;exact dk_new (O0 (z43 [] g) (by simpa using P)) (beq_eq_false_iff_ne.mpr (D2 (B1 big))) (KV.merge f .nil) j
 have len:R.length=g.length:=z04 B;rcases l with l|l
 ·obtain ⟨z,N,n,t,hl,e⟩:=I.lstM l;obtain ⟨d,f,C⟩:=zb6 I B t;refine callType_codes F.kt_called_dict (F.kt_typeCall_dict_1 _) F.entry_dict_init (kt_code_dict_new _ (Q₁:=λ i m=>i=.ref s.heap.objs.size/\m={ s with heap:=s.heap.push { cls:=.type "dict",data:=.dict #[] } }) ⟨rfl,rfl⟩) ?_;rintro i m ⟨rfl,rfl⟩;refine ⟨⟨_,D1 _ rfl,rfl⟩,F.args_dict_init_2 _ _,?_⟩;refine z7o (s:={ s with heap:=s.heap.push { cls:=.type "dict",data:=.dict #[] } }) (D1 _ rfl) (I0 _ e) p p (by simpa using z00 (λ x y z=>PairOf.kept (L:=[]) (λ b o _ e=>I0 _ e) (λ b v=>absurd v L0) z) C) (by rw [<-X7 f,<-len];exact z) λ h' c j k=>fin d h' c f (by rw [<-len];exact z) j k
 ·obtain ⟨z,N,t,⟨o,M,D,n,J⟩,U,G,E⟩:=I.hok a _ l;rw [M] at G;cases G;obtain ⟨d,f,C⟩:=zb6 I B t;obtain ⟨oc,W,Z,Y⟩:=o;dsimp only at D J E;subst D J E;refine callType_codes F.kt_called_dict (F.kt_typeCall_dict_1 _) F.entry_dict_init (kt_code_dict_new _ (Q₁:=λ i m=>i=.ref s.heap.objs.size/\m={ s with heap:=s.heap.push { cls:=.type "dict",data:=.dict #[] } }) ⟨rfl,rfl⟩) ?_;rintro i m ⟨rfl,rfl⟩;refine ⟨⟨_,D1 _ rfl,rfl⟩,F.args_dict_init_2 _ _,?_⟩;refine z6y (s:={ s with heap:=s.heap.push { cls:=.type "dict",data:=.dict #[] } }) (D1 _ rfl) (I0 _ M) p p (by simpa using z00 (λ x y z=>PairOf.kept (L:=[]) (λ b o _ e=>I0 _ e) (λ b v=>absurd v L0) z) C) (by rw [<-X7 f,<-len];exact z) λ h' c j k=>fin d h' c f (by rw [<-len];exact z) j k
end
end L2
set_option maxHeartbeats 400000
namespace L2
open PySem PySem.Spec PyProof.Rows
structure RunsR (S:Hp->Hp->Prop) (J:It) (H1:Hp) (n:Nat) (Item:Nat->V->Hp->Prop):Prop where
 go :∀i,i < n->∀H,S H1 H->J.go i H
 stop :∀H,S H1 H->J.stop n H
 item :∀i,i < n->∀H v H',S H1 H->J.yld i H v H'->S H H'/\Item i v H'
theorem z35 {S:Hp->Hp->Prop} {J:It} {H1:Hp} {n m:Nat} {Item:Nat->V->Hp->Prop} {fr:List (Nat×Str)} {g:TG} {tc:TT} {te:TE} {σ:St} {Q:VK} (s0:S H1 H1) (st :∀a b c,S a b->S b c->S a c) (p:Nat->Bool) (R:Nat->V->Hp->Prop) (hR :∀i y H H',S H H'->R i y H->R i y H') (r:RunsR S J H1 n Item) (hn:n<=sizeLine)
  (body :∀i,i < n->∀v H,S H1 H->Item i v H->∀(KT:VK) (KF:Hp->Prop),(p i=true->∀y H',S H H'->R i y H'->KT y H')->(p i=false->∀H',S H H'->KF H')->
   g v (cStG σ fr (P0 m none)) H λ σ6 H6=>∃us,us.length=m/\σ6=cStG σ fr us/\tc (cStG σ fr us) H6 λ b H2=>if b=true then te (cStG σ fr us) H2 KT else KF H2)
  (hQ :∀l H' ys,S H1 H'->H' l=none->All2 (λ i y=>R i y H') ((U0 n).filter p) ys->Q (.ref l) (upd H' l (.lst ys))) :
  ∃W:Nat->Nat->List V->Hp->Prop,(∃m,W 0 m [] H1)/\∀i k ys H,W i k ys H->
   (J.stop i H/\ys.length<=sizeLine/\∀p,H p=none->Q (.ref p) (upd H p (.lst ys)))\/
   (J.go i H/\ys.length<=sizeLine/\∀v H',J.yld i H v H'->g v (cStG σ fr (P0 m none)) H' λ σ6 H6=>∃us,us.length=m/\σ6=cStG σ fr us/\tc (cStG σ fr us) H6 λ b H2=>if b=true then te (cStG σ fr us) H2 λ y H3=>∃m',m' < k/\W (i + 1) m' (ys++[y]) H3 else∃m',m' < k/\W (i + 1) m' ys H2):=by
 refine ⟨λ i k ys H'=>k=n - i/\i<=n/\S H1 H'/\All2 (λ i y=>R i y H') ((U0 i).filter p) ys,⟨n,by simp,J2 _,s0,.nil⟩,?_⟩;rintro i k ys H' ⟨rfl,hi,sm,fa⟩;have j:ys.length<=sizeLine:=by rw [z04 fa];have:=L5 p (U0 i);rw [T2] at this;omega
 by_cases hlt:i < n
 ·refine .inr ⟨r.go i hlt H' sm,j,λ v H2 y=>?_⟩;obtain ⟨f,o⟩:=r.item i hlt H' v H2 sm y;refine body i hlt v H2 (st _ _ _ sm f) o _ _ (λ h y H3 d q=>⟨n - (i + 1),by omega,rfl,hlt,st _ _ _ (st _ _ _ sm f) d,?_⟩) (λ h H3 d=>⟨n - (i + 1),by omega,rfl,hlt,st _ _ _ (st _ _ _ sm f) d,?_⟩)
  ·rw [z2g,if_pos h];exact z5l (z00 (λ a b z=>hR a b _ _ (st _ _ _ f d) z) fa) q
  ·rw [z2g,if_neg (by rw [h];decide),F2];exact z00 (λ a b z=>hR a b _ _ (st _ _ _ f d) z) fa
 ·have e:i=n:=by omega
  subst e;exact .inl ⟨r.stop H' sm,j,λ l s=>hQ l H' ys sm s fa⟩
theorem z9b {S:Hp->Hp->Prop} {K:j0} {a:Addr} {xs:List V} {H1:Hp} (hs :∀H,S H1 H->S H H) (hq :∀H,S H1 H->SqL K H a xs):RunsR S (Itl K a) H1 xs.length (λ i v _=>xs[i]? = some v):=
 ⟨λ i b H s=>⟨xs,xs[i],hq H s,by simp [b]⟩,λ H s=>⟨xs,hq H s,J0 _⟩,λ i b H v c s y=>by obtain ⟨e,y⟩:=y;subst e;exact ⟨hs _ s,y xs (hq _ s)⟩⟩
theorem zgj {S:Hp->Hp->Prop} {K:j0} {a:Addr} {xs:List V} {H1:Hp} (hs :∀H,S H1 H->S H H) (hq :∀H,S H1 H->SqT K H a xs):RunsR S (Itt K a) H1 xs.length (λ i v _=>xs[i]? = some v):=
 ⟨λ i b H s=>⟨xs,xs[i],hq H s,by simp [b]⟩,λ H s=>⟨xs,hq H s,J0 _⟩,λ i b H v c s y=>by obtain ⟨e,y⟩:=y;subst e;exact ⟨hs _ s,y xs (hq _ s)⟩⟩
theorem zh7 {S:Hp->Hp->Prop} {n:Nat} {H1:Hp} (hs :∀H,S H1 H->S H H):RunsR S (Itr 0 n) H1 n (λ i v _=>v=.int (i:Nat)):=
 ⟨λ i a H s=>a,λ H s=>J0 _,λ i a H v b s y=>by obtain ⟨e,y⟩:=y;subst e;exact ⟨hs _ s,by rw [y,R7]⟩⟩
def Ris (xs:Array Nat):Prop:=xs.toList.Pairwise (· < ·)
theorem Ris.lt {xs:Array Nat} (r:Ris xs) {i k:Nat} (h:i < k) (hk:k < xs.size):xs[i]'(Q7 h hk) < xs[k]:=by have:=(List.pairwise_iff_getElem.mp r) i k (by simpa using Q7 h hk) (by simpa using hk) h;simpa using this
theorem zks {xs:Array Nat} {i d:Nat} (h:i < xs.size):xs.getD i d=xs[i]:=by simp [Array.getD,h]
theorem zaw {xs:Array Nat} {j:Nat} (r:Ris xs) :∀(f lo hi:Nat),lo<=hi->hi<=xs.size->hi - lo<=f->(∀i (h:i < xs.size),i < lo->xs[i] < j)->(∀i (h:i < xs.size),hi<=i->j<=xs[i])->
  f7 xs j f lo hi<=xs.size/\(∀i (h:i < xs.size),i < f7 xs j f lo hi->xs[i] < j)/\(∀i (h:i < xs.size),f7 xs j f lo hi<=i->j<=xs[i])
 | 0,lo,hi,h1,h2,h3,ha,hb=>by
  have:lo=hi:=by omega
  subst this;exact ⟨h2,ha,hb⟩
 | f + 1,lo,hi,h1,h2,h3,ha,hb=>by
  unfold f7;by_cases z:lo < hi
  ·rw [if_pos z];have a:(lo + hi) / 2 < xs.size:=by omega
   dsimp only;rw [zks a];by_cases y:xs[(lo + hi) / 2] < j
   ·rw [if_pos y];refine zaw r f _ _ (by omega) h2 (by omega) (λ i h b=>?_) hb;by_cases e:i=(lo + hi) / 2
    ·subst e;exact y
    ·exact Q7 (r.lt (by omega) a) y
   ·rw [if_neg y];refine zaw r f _ _ (by omega) (by omega) (by omega) ha λ i h b=>?_;by_cases e:i=(lo + hi) / 2
    ·subst e;omega
    ·exact O0 (Nat.not_lt.mp y) (T8 (r.lt (by omega) h))
  ·rw [if_neg z];have:lo=hi:=by omega
   subst this;exact ⟨h2,ha,hb⟩
theorem zeu {xs:Array Nat} (r:Ris xs) (j:Nat):V2 xs j<=xs.size/\(∀i (h:i < xs.size),i < V2 xs j->xs[i] < j)/\(∀i (h:i < xs.size),V2 xs j<=i->j<=xs[i]):=
 zaw r _ _ _ (J2 _) (J0 _) (J0 _) (λ i h z=>absurd z (j1c _)) (λ i h z=>absurd h (Nat.not_lt.mpr z))
theorem z6s {α:Type} (xs:Array α) (p:Nat) (x:α) (hp:p<=xs.size):(G9 xs p x).toList=xs.toList.take p++x :: xs.toList.drop p:=by unfold G9;simp [W3]
theorem Ris.insert {xs:Array Nat} (r:Ris xs) {j:Nat} (h:¬ xs[V2 xs j]? = some j):Ris (G9 xs (V2 xs j) j):=by
 obtain ⟨n,w,g⟩:=zeu r j;unfold Ris;rw [z6s _ _ _ n];refine List.pairwise_append.mpr ⟨r.sublist (List.take_sublist _ _),List.pairwise_cons.mpr ⟨λ y p=>?_,r.sublist (List.drop_sublist _ _)⟩,λ a s b d=>?_⟩
 ·obtain ⟨i,f,e⟩:=List.mem_drop_iff_getElem.mp p;have l:V2 xs j + i < xs.size:=by simpa [j0b] using f
  have c:xs[V2 xs j + i]=y:=by simpa using e
  have le:=g _ l (by omega);rw [c] at le;rcases Nat.lt_or_eq_of_le le with z|z
  ·exact z
  ·exfalso;have d:V2 xs j < xs.size:=by omega
   have x:=g _ d (J0 _);have:xs[V2 xs j]=j:=by
    by_cases i0:i=0
    ·subst i0;exact c.trans z.symm
    ·have:=r.lt (show V2 xs j < V2 xs j + i by omega) l;rw [c] at this;omega
   exact h (by rw [j1i d,this])
 ·obtain ⟨i,f,e⟩:=List.mem_take_iff_getElem.mp s;have u:i < xs.size:=by have:=f;simp at this;omega
  have q:i < V2 xs j:=by have:=f;simp at this;omega
  have lt:=w i u q;have c:xs[i]=a:=by simpa using e
  rw [c] at lt;rcases List.mem_cons.mp d with z|z
  ·rw [z];exact lt
  ·obtain ⟨k,t,o⟩:=List.mem_drop_iff_getElem.mp z;have m:V2 xs j + k < xs.size:=by simpa [j0b] using t
   have v:xs[V2 xs j + k]=b:=by simpa using o
   have:=g _ m (by omega);rw [v] at this;omega
theorem zgr (n:Nat):Ris (Array.range n):=by unfold Ris;rw [Array.toList_range];exact K8
def z95 (t:P7) (j:Nat):Prop:=¬ t.place[V2 t.place j]? = some j
theorem z8p {t:P7} {j:Nat} (h :∀i,t.slot j≠.live i):z95 t j:=λ e=>by refine h (V2 t.place j) ?_;unfold SetTable.slot;dsimp only;rw [if_pos (by rw [e];exact beq_self_eq_true _)]
theorem z6i {t:P7} {hs:Nat->Int} {h:Int} :∀(f:Nat) (p:SetTable.Probe) (j:Nat) (d:Option Nat),(∀k,p.dummy=some k->z95 t k)->j19 t hs h f p=some (.empty j d)->z95 t j/\∀k,d=some k->z95 t k
 | 0,p,j,d,hd,e=>by cases e
 | f + 1,p,j,d,hd,e=>by
  unfold j19 at e;cases q:t.slot p.j with
  | empty=>rw [q] at e;cases e;exact ⟨z8p (λ i z=>by rw [q] at z;cases z),hd⟩
  | dummy=>rw [q] at e;refine z6i f _ j d (λ k z=>?_) e;unfold j46 at z;dsimp only at z;split at z<;>(cases z;exact z8p λ i z=>by rw [q] at z;cases z)
  | live i=>
   rw [q] at e;dsimp only at e;split at e
   ·cases e
   ·refine z6i f _ j d (λ k z=>?_) e;unfold j46 at z;dsimp only at z;split at z<;>exact hd k z
theorem zd2 {t:P7} {h:Int} {s:Nat} {b:Bool} (e:t.freeSlot h=some (s,b)):z95 t s:=by
 unfold SetTable.freeSlot at e;cases q:t.probe (λ _=>h + 1) h (t.probeStart h) with
 | none=>rw [q] at e;cases e
 | some m=>
  rw [q] at e;cases m with
  | candidate a b c=>cases e
  | empty j d=>
   have:=z6i _ _ j d (λ k z=>by cases z) q;cases e;cases d with
   | none=>exact this.1
   | some k=>exact this.2 k rfl
def Tidy (l:Bool) (t:P7):Prop:=t.led=l/\Ris t.place
theorem Tidy.standIn {l:Bool} {t:P7} (h:Tidy l t) (n:Nat):Tidy l (t.standIn n):=⟨h.1,zgr n⟩
theorem Tidy.layNew {l:Bool} {t:P7} (h:Tidy l t) (es:Array (Int×Value)) (k:Int) (x:Value):Tidy l (layNew t es k x).2.1:=by
 unfold PySem.layNew;cases q:t.freeSlot k with
 | none=>exact h.standIn _
 | some s=>
  obtain ⟨s,b⟩:=s;dsimp only;have a:Tidy l (t.put s).1:=⟨h.1,Ris.insert h.2 (zd2 q)⟩
  unfold SetTable.orStandIn;split
  ·exact a
  ·exact a.standIn _
theorem Tidy.relayAll {l:Bool} {t:P7} (h:Tidy l t) (es:Array (Int×Value)) (n:Nat):Tidy l (j3e t es n).2.1:=by
 unfold PySem.relayAll;cases q:t.relaid (es.map (·.1)) n with
 | none=>exact h.standIn _
 | some p=>
  obtain ⟨r,o⟩:=p;dsimp only;split
  ·unfold SetTable.relaid SetTable.laid at q;cases q2:SetTable.layClean (SetTable.sizeAbove n - 1) (es.map (·.1)) with
   | none=>rw [q2] at q;cases q
   | some ow=>rw [q2] at q;cases q;refine ⟨h.1,?_⟩;show (List.map _ _).Pairwise _;rw [j01];refine List.Pairwise.filterMap _ (λ a b j c f d e=>?_) (K8);obtain ⟨m,_,g⟩:=Option.map_eq_some_iff.mp f;obtain ⟨k,_,i⟩:=Option.map_eq_some_iff.mp e;rw [<-g,<-i];exact j
  ·exact h.standIn _
end L2
set_option maxHeartbeats 1000000
namespace L2
open PySem PySem.Spec PyProof.Rows
def intOf:Value->Int
 | .int i _=>i
 | _=>0
theorem z8a {vs:List Value} {ns:List Int} (h:W4 vs ns):ns=vs.map intOf/\∀v∈vs,∃i t,v=.int i t:=by
 induction h with
 | nil=>exact ⟨rfl,λ v a=>by cases a⟩
 | cons n t r ih=>
  refine ⟨by rw [ih.1];rfl,λ v a=>?_⟩;rcases List.mem_cons.mp a with e|a
  ·exact ⟨n,t,e⟩
  ·exact ih.2 v a
theorem zev :∀vs:List Value,(∀v∈vs,∃i t,v=.int i t)->W4 vs (vs.map intOf)
 | [],_=>.nil
 | v :: vs,h=>by obtain ⟨i,t,e⟩:=h v (.head _);subst e;exact .cons i t (zev vs λ v a=>h v (.tail _ a))
theorem zbp {vs vs':List Value} {ns:List Int} (h:W4 vs ns) (p:vs'.Perm vs) :∃ns',W4 vs' ns'/\ns'.Perm ns:=by obtain ⟨e,k⟩:=z8a h;refine ⟨vs'.map intOf,zev vs' λ v a=>k v (p.mem_iff.mp a),?_⟩;rw [e];exact p.map _
theorem zdn {vs:List Value} {ns:List Int} (h:W4 vs ns):ns.length=vs.length:=by rw [(z8a h).1,C0]
theorem zgz {vs:List Value} {ns:List Int} (h:W4 vs ns) (n:Int) (t:Tok):W4 (vs++[.int n t]) (ns++[n]):=by
 induction h with
 | nil=>exact .cons n t .nil
 | cons m u r ih=>exact .cons m u ih
section
variable {prog:Program} {w:C1} {A:O2} {E:Value->B0->Prop} {s:B0}
def SetAt (prog:Program) (w:C1) (l:Bool) (h:Heap) (a:Addr) (ns:List Int):Prop:=
 ∃es ep t,h.get? a=some { cls:=.type "set",dict:=none,data:=.set es ep t,slots:=#[] }/\ElemsOf (a5 prog w) es.toList/\W4 (es.toList.map (·.2)) ns/\ns.Nodup/\es.size < scanBound/\t.fits es.size=true/\Tidy l t
theorem zbw {l:Bool} {h:Heap} {a:Addr} {es0 es:Array (Int×Value)} {ep:Nat} {t0 t:P7} {ns:List Int} (ho:h.get? a=some { cls:=.type "set",dict:=none,data:=.set es0 ep t0,slots:=#[] })
  (hel:ElemsOf (a5 prog w) es.toList) (hi:W4 (es.toList.map (·.2)) ns) (nd:ns.Nodup) (hb:es.size < scanBound) (hf:t.fits es.size=true) (ht:Tidy l t) :
  (h.update a (Z9 es t)).get? a=some { cls:=.type "set",dict:=none,data:=.set es (ep + 1) t,slots:=#[] }/\SetAt prog w l (h.update a (Z9 es t)) a ns:=by
 have g:(h.update a (Z9 es t)).get? a=some { cls:=.type "set",dict:=none,data:=.set es (ep + 1) t,slots:=#[] }:=X6 (Z9 es t) ho rfl;exact ⟨g,es,ep + 1,t,g,hel,hi,nd,hb,hf,ht⟩
theorem zj6 {es:List (Int×Value)} {ns:List Int} {v:Int} (hi:W4 (es.map (·.2)) ns) (h:es.findIdx? (λ e=>(a5 prog w).is v e.2)=none):¬ v∈ns:=λ a=>by
 obtain ⟨e,k⟩:=z8a hi;rw [e] at a;obtain ⟨y,b,j⟩:=List.mem_map.mp a;obtain ⟨p,g,f⟩:=List.mem_map.mp b;obtain ⟨i,t,c⟩:=k y b;have:=List.findIdx?_eq_none_iff.mp h p g;have d:v=i:=by rw [<-j,c];rfl
 have:(a5 prog w).is v p.2=false:=by simpa using this
 rw [f,c,d,Q6] at this;cases this
theorem zkk {es:List (Int×Value)} {ns:List Int} {v:Int} {j:Nat} (hi:W4 (es.map (·.2)) ns) (h:es.findIdx? (λ e=>(a5 prog w).is v e.2)=some j):v∈ns:=by obtain ⟨b,a,_⟩:=List.findIdx?_eq_some_iff_getElem.mp h;obtain ⟨t,e⟩:=Value.isInt_shape (show j3i v es[j].2=true from a);rw [(z8a hi).1];exact List.mem_map.mpr ⟨es[j].2,List.mem_map.mpr ⟨es[j],Z2 b,rfl⟩,by rw [e];rfl⟩
theorem zeb {ns:List Int} {v:Int} (h:ns.Nodup) (n:¬ v∈ns):(ns++[v]).Nodup:=by refine List.nodup_append.mpr ⟨h,by simp,λ a c b d e=>?_⟩;rw [List.mem_singleton.mp d] at e;exact n (e ▸ c)
def addI (ns:List Int) (v:Int):List Int:=if v∈ns then ns else ns++[v]
theorem zl3 {l:Bool} {a:Addr} {v:Int} {tk:Tok} {ns:List Int} {Q:Bool->B0->Prop} (hS:SetAt prog w l s.heap a ns) (hroom:ns.length + 1 < scanBound)
  (h :∀b h' ns',N6 a s.heap h'->SetAt prog w l h' a ns'->ns'.Perm (addI ns v)->Q b { s with heap:=h' }):W0 (N1 prog w) A (setAddHashed a (.int v tk) ((a5 prog w).hash v)) Q E s:=by
 obtain ⟨f,ep,t,i,p,o,S,M,I,W⟩:=hS;have Y:f.size=ns.length:=by rw [zdn o,C0,N2]
 have O:(a5 prog w).is v (.int v tk)=true:=Q6 prog w v tk;unfold setAddHashed setAddHashedIn;refine Z1 (o0 (wpAny_setState_of i rfl I ?_));dsimp only;rw [byScan_of rfl M p];simp only [↓reduceIte];unfold setAddByScan;refine o0 (o0 (C7 (o0 (wpAny_setScan_of O i rfl I p ?_))));cases hr:List.findIdx? (λ e=>(a5 prog w).is v e.2) f.toList with
 | some j=>refine G0 (G0 ?_);have:=h false s.heap ns (j29 a s.heap) ⟨f,ep,t,i,p,o,S,M,I,W⟩ (by unfold addI;rw [if_pos (zkk o hr)]);exact this
 | none=>
  dsimp only;have g:=layNew_perm t f ((a5 prog w).hash v) (.int v tk);have D:=layNew_fits t f ((a5 prog w).hash v) (.int v tk);have u:=W.layNew f ((a5 prog w).hash v) (.int v tk);generalize layNew t f ((a5 prog w).hash v) (.int v tk)=L at g D u⊢;obtain ⟨c,d,wd,a2⟩:=L;dsimp only at g D u⊢;rw [Array.toList_push] at g;have R:ElemsOf (a5 prog w) c.toList:=(p.push O rfl).perm g;have y :∃n,W4 (c.toList.map (·.2)) n/\n.Perm (ns++[v]):=zbp (zgz o v tk) (by have:=g.map (λ e:Int×Value=>e.2);rwa [P1] at this);obtain ⟨n,y,B⟩:=y;have U:=zj6 o hr;have T:n.Nodup:=B.nodup_iff.mpr (zeb S U);have X:addI ns v=ns++[v]:=if_neg U;have C:c.size < scanBound:=by rw [<-N2,g.length_eq,F0,N2,Y];exact hroom
  have V :∀(b:Bool) {F:B0} {Q':Unit->B0->Prop},Q' () F->W0 (N1 prog w) A (match b with|true=>rule "set.scan.the-table-gave-way" | false=>X3 ()) Q' E F:=λ b F Q' q=>by cases b with|false=>exact G0 q|true=>exact C7 q
  have a0:W0 (N1 prog w) A (do
    storeSet a c d
    if (!wd && d.tooFull)=true then do
      (match (j3e d c (K5 c.size)).2.2 with|true=>rule "set.scan.the-table-gave-way" | false=>X3 ())
      storeSet a (j3e d c (K5 c.size)).1 (j3e d c (K5 c.size)).2.1
      X3 (some true)
     else X3 (some true)) (λ r m=>∃b,r=some b/\Q b m) E s:=by
   obtain ⟨K,S1⟩:=zbw (prog:=prog) (w:=w) i R y T C D u;have N:=C8 s.heap a (Z9 c d);refine o0 (wpAny_storeSet_of i rfl ?_ (fits_of_scanBound C));split
   ·have k:=relayAll_perm d c (K5 c.size);have G:=relayAll_fits d c (K5 c.size);have H:=u.relayAll c (K5 c.size);generalize j3e d c (K5 c.size)=L2 at k G H⊢;obtain ⟨a4,t2,Z⟩:=L2;dsimp only at k G H⊢;obtain ⟨a3,a1,P⟩:=zbp y (k.map (λ e:Int×Value=>e.2));have J:a4.size < scanBound:=by rw [<-N2,k.length_eq,N2];exact C
    refine o0 (V Z (o0 (wpAny_storeSet_of K rfl ?_ (fits_of_scanBound J))));obtain ⟨_,S2⟩:=zbw (prog:=prog) (w:=w) K (R.perm k) a1 (P.nodup_iff.mpr T) J G H;exact G0 ⟨true,rfl,h true _ a3 (N.trans (C8 _ a _)) S2 (by rw [X];exact P.trans B)⟩
   ·exact G0 ⟨true,rfl,h true _ n N S1 (by rw [X];exact B)⟩
  refine o0 (V a2 ?_);have fin:=w4 a0 (Q':=λ r m=>W0 (N1 prog w) A (match r with|some added=>X3 added|none=>setAddHashedIn a (.int v tk) ((a5 prog w).hash v) 99999) Q E m) (E':=E) (λ r m x=>by obtain ⟨b,e,q⟩:=x;subst e;exact G0 q) (λ e m x=>x);by_cases z:d.plain=true
  ·rw [if_pos z];exact o0 (j2a (show hashByValue 8 (m9 v tk)=X3 true from rfl) fin)
  ·rw [if_neg z];exact o0 (G0 fin)
end
theorem zgy {ns ms:List Int} (p:ns.Perm ms) (v:Int):(addI ns v).Perm (addI ms v):=by
 unfold addI;by_cases z:v∈ns
 ·rw [if_pos z,if_pos (p.mem_iff.mp z)];exact p
 ·rw [if_neg z,if_neg (λ y=>z (p.mem_iff.mpr y))];exact p.append_right [v]
theorem z47 :∀(vs:List Int) {ns ms:List Int},ns.Perm ms->(vs.foldl addI ns).Perm (vs.foldl addI ms)
 | [],_,_,p=>p
 | v :: vs,_,_,p=>z47 vs (zgy p v)
theorem zdv (ns:List Int) (v:Int):(addI ns v).length<=ns.length + 1:=by
 unfold addI;split
 ·exact W2 _
 ·rw [F0];exact J0 _
section
variable {prog:Program} {w:C1} {A:O2} {E:Value->B0->Prop} {s:B0}
theorem SetAt.at' {l:Bool} {h h':Heap} {a:Addr} {ns:List Int} (k :∀o,h.get? a=some o->h'.get? a=some o) (x:SetAt prog w l h a ns):SetAt prog w l h' a ns:=by obtain ⟨c,b,t,e,r⟩:=x;exact ⟨c,b,t,k _ e,r⟩
theorem zc6 (a:Args):(L7 "set.update.loop" a).quiet=true:=J7 (by decide +kernel) _
def set0 (w:C1):Obj:={ cls:=.type "set",dict:=none,data:=.set #[] 0 (.fresh 0 0 (!w.params.followText "set-order")) }
theorem zi8 (a:Value) {Q₁:Value->B0->Prop} (h:Q₁ (.ref s.heap.objs.size) { s with heap:=s.heap.push (set0 w) }):B5 (N1 prog w) A (.call (.builtin "set.__new__") ⟨[.type "set",a],[]⟩) (wants Q₁ E) s:=by refine X9 F.plain_set_new F.entry_set_new (j2a (F.newCall_set_1 a) ?_);show W0 _ _ (Builtin.Frozenset.newClass "set" ⟨[.type "set",a],[]⟩ >>= _) _ _ _;refine o0 (o0 (show W0 _ _ (X3 true) _ _ _ from G0 ?_));show W0 _ _ (isSubtype (.type "set") (.type "set") >>= _) _ _ _;refine o0 (j2a sub_set_self ?_);refine G0 ?_;show W0 _ _ (newSet (.type "set") >>= _) _ _ _;unfold newSet setsByText;refine o0 (o0 (o0 (wpAny_askSetting (G0 ?_))));exact o0 (wpAny_alloc (G0 (G0 h)))
theorem zku {h:Heap} {a:Addr} (e:h.get? a=some (set0 w)):SetAt prog w (!w.params.followText "set-order") h a []:=
 ⟨#[],0,_,e,λ x b=>by simp at b,.nil,List.nodup_nil,by decide,by rfl,rfl,z7⟩
abbrev setO (es:Array (Int×Value)) (ep:Nat) (t:P7):Obj:={ cls:=.type "set",dict:=none,data:=.set es ep t,slots:=#[] }
end
section
variable {X:Cx}
theorem z50 :∀(vs ns:List Int),(vs.foldl addI ns).length<=ns.length + vs.length
 | [],ns=>J0 _
 | v :: vs,ns=>by have b:=z50 vs (addI ns v);have a:=zdv ns v;show (vs.foldl addI (addI ns v)).length<=_;rw [A1];omega
end
end L2
set_option maxHeartbeats 400000
namespace HT
open PySem PySem.Spec PyProof.Rows L2
variable {prog:Program} {w:C1} {A:O2} {E:Value->B0->Prop} {s:B0}
end HT
namespace L2
open PySem PySem.Spec PyProof.Rows
theorem zky {names:List (Str×w6)} {ns:List Str} {Q:Str×w6->Prop} (h:(names.all λ y=>y.2 != E2 || ns.contains y.1)=true) (q :∀n,n∈ns->∀k,Q (n,k)) :∀y∈names,y.2=E2->Q y:=λ y c e=>by
 have z:=List.all_eq_true.mp h y c;rw [e] at z;have z:ns.contains y.1=true:=by simpa using z
 obtain ⟨a,b⟩:=y;exact q a (by simpa using z) b
theorem z9h {S:Hp->Hp->Prop} {ta:TA} {te:TE} {tc:TT} {g:TG} {m n:Nat} {fr:List (Nat×Str)} {σ:St} {H H1:Hp} {Q:VK} (p:Nat->Bool) (R:Nat->V->Hp->Prop) (s0:S H1 H1) (st :∀a b c,S a b->S b c->S a c) (hs :∀H,S H1 H->S H H) (hR :∀i y H H',S H H'->R i y H->R i y H')
  (hta :∀T:List V->Hp->Prop,T [.int (n:Nat)] H1->ta σ H T) (hn:n<=sizeLine)
  (body :∀i,i < n->∀H,S H1 H->∀(KT:VK) (KF:Hp->Prop),(p i=true->∀y H',S H H'->R i y H'->KT y H')->(p i=false->∀H',S H H'->KF H')->
   g (.int (i:Nat)) (cStG σ fr (P0 m none)) H λ σ6 H6=>∃us,us.length=m/\σ6=cStG σ fr us/\tc (cStG σ fr us) H6 λ b H2=>if b=true then te (cStG σ fr us) H2 KT else KF H2)
  (hQ :∀l H' ys,S H1 H'->H' l=none->All2 (λ i y=>R i y H') ((U0 n).filter p) ys->Q (.ref l) (upd H' l (.lst ys))):tCompG (iRng1 ta) m fr g tc te σ H Q:=by
 have b:(n:Int) < 2 ^ 62:=Int.lt_of_le_of_lt (Int.ofNat_le.mpr hn) (by decide);refine hta _ ⟨n,rfl,by omega,b,?_⟩;exact z35 s0 st p R hR (zh7 hs) hn (λ i e v H s d KT KF f h=>by subst d;exact body i e H s KT KF f h) hQ
theorem ziy {f:List V->Hp->VK->Prop} {te tb:TE} {r:R2} {σ:St} {H:Hp} {Q:Bool->Hp->Prop} (h:te σ H λ x H1=>f [x] H1 λ y H2=>tb σ H2 λ z H3=>r y z H3 λ b H4=>∃k,b=.bl k/\Q k H4):tTest (tOp r (tCB f (tCons te tNil)) tb) σ H Q:=h
theorem z1j {c:TT} {a b:TS} {D:Ends} {σ:St} {H:Hp} (h:c σ H λ k H1=>if k=true then a D σ H1 else b D σ H1):tIfS c a b D σ H:=h
theorem zd8 {K:j0} {a:Addr} {xs:List V} {H1:Hp} (hq:SqL K H1 a xs):RunsR Same (IteL K a) H1 xs.length (λ i v H=>∃x p,xs[i]? = some x/\v=.ref p/\H p=some (.tup [.int (i:Nat),x])):=by refine ⟨λ i b H s=>⟨xs,xs[i],s.seq hq,by simp [b]⟩,λ H s=>⟨xs,s.seq hq,rfl⟩,λ i b H v e s y=>?_⟩;obtain ⟨p,c,rfl,f⟩:=y;obtain ⟨x,d,rfl⟩:=f xs (s.seq hq);exact ⟨Same.upd c,x,p,d,rfl,z03⟩
end L2
set_option maxHeartbeats 1000000
namespace L2
open PySem PySem.Spec PyProof.Rows
section
variable {prog:Program} {w:C1} {A:O2} {E:Value->B0->Prop} {s:B0}
theorem zfp {b:Bool} {S it l:Addr} {items:Array Value} (nsi:S≠it) (nsl:S≠l) (nil':it≠l) :∀(ms:List Int) (i:Nat) (ns:List Int) (A:O2) (R:j20->B0->Prop) (s:B0),A.handled=none->s.heap.IsListIter it l i->s.heap.IsList l items->
  W4 (items.toList.drop i) ms->SetAt prog w b s.heap S ns->ns.length + ms.length < scanBound->
  (∀h' tk ns',SetAt prog w b h' S ns'->ns'.Perm (ms.foldl addI ns)->(∀c o,c≠S->c≠it->s.heap.get? c=some o->h'.get? c=some o)->R (.ok (.ret .none)) { s with heap:=h',toks:=tk })->
  B5 (N1 prog w) A (L7 "set.update.loop" { pos:=[.ref S,.ref it],kw:=[] }) R s
 | [],i,ns,A,R,s,hh,si,sl,al,dd,hz,q=>by
  have K:items[i]? = none:=by
   cases hd:items.toList.drop i with
   | nil=>have:=List.drop_eq_nil_iff.mp hd;rw [N2] at this;exact J4 this
   | cons u us=>rw [hd] at al;cases al
  refine F3 O6 ?_;show W0 _ _ (D7 (.ref it) >>= _) _ _ s;refine o0 (V4 (show (A.under _).handled=none from hh) si sl K λ h' n=>?_);exact G0 (q h' s.toks ns (dd.at' λ o e=>n S o nsi e) (j0c _) λ c o _ z e=>n c o z e)
 | m :: ms,i,ns,A,R,s,hh,si,sl,al,dd,hz,q=>by
  cases hd:items.toList.drop i with
  | nil=>rw [hd] at al;cases al
  | cons u us=>
   rw [hd] at al;cases al with
   | cons _ tk al=>
    have L:items.toList[i]? = some (.int m tk):=by have:=congrArg (λ l=>l[0]?) hd;simpa using this
    have F:items[i]? = some (.int m tk):=by simpa using L
    have J:items.toList.drop (i + 1)=us:=by have:=congrArg j0g hd;simpa using this
    refine F3 O6 ?_;show W0 _ _ (D7 (.ref it) >>= _) _ _ s;refine o0 (u4 si sl F λ g H h=>?_);have y:g.IsList l items:=by obtain ⟨o,d,a⟩:=sl;exact ⟨o,(h.2 l (D2 nil')).trans d,a⟩
    have G:SetAt prog w b g S ns:=dd.at' λ o e=>(h.2 S nsi).trans e;rw [A1] at hz;refine o0 (Z1 (show W0 _ _ (setAdd S (.int m tk)) _ _ _ from ?_));unfold setAdd;refine Z1 (o0 ((a5 prog w).pyHash (k:=m) (Q6 prog w m tk) ?_));refine zl3 (s:={ s with heap:=g,toks:=s.toks + 1 }) G (V0 (by omega) hz) λ c j v f C r=>?_;refine G0 ⟨zc6 _,?_⟩;have x:j.IsListIter it l (i + 1):=by obtain ⟨o,d,a⟩:=H;exact ⟨o,(f.2 it (D2 nsi)).trans d,a⟩
    have M:j.IsList l items:=by obtain ⟨o,d,a⟩:=y;exact ⟨o,(f.2 l (D2 nsl)).trans d,a⟩
    have N:v.length<=ns.length + 1:=by rw [r.length_eq];exact zdv ns m
    refine zfp nsi nsl nil' ms (i + 1) v A R { s with heap:=j,toks:=s.toks + 1 } hh x M (by rw [J];exact al) C (by omega) λ h' B ns' I E D=>q h' B ns' I (E.trans (z47 ms r)) λ c o t p e=>D c o t p ((f.2 c t).trans ((h.2 c p).trans e))
theorem z9t:isSubtype (.type "list") (.type "set")=X3 false:=by rw [isSubtype_type];kernel_rfl
theorem z76:isSubtype (.type "list") (.type "frozenset")=X3 false:=by rw [isSubtype_type];kernel_rfl
theorem zab {l:Addr} {items:Array Value} {ns:List Int} {Q:Value->B0->Prop} (hh:A.handled=none) (ht:s.heap.IsList l items) (hi:W4 items.toList ns) (hb:ns.length < scanBound)
  (h :∀h' tk ns',SetAt prog w (!w.params.followText "set-order") h' s.heap.objs.size ns'->ns'.Perm (ns.foldl addI [])->(∀b o,s.heap.get? b=some o->h'.get? b=some o)->Q (.ref s.heap.objs.size) { s with heap:=h',toks:=tk }) :
  W0 (N1 prog w) A (call (.type "set") [.ref l]) Q E s:=by
 obtain ⟨c,Y,W⟩:=F.called_set.mro;have P:=F.called_set.made;have N:=F.called_set.sub;refine j3c (codeAny_of_tree (show W0 _ _ (callAny (.type "set") _) _ _ _ from G0 ⟨Code.quiet_builtin _ (by decide +kernel),F3 F.entry_type_call ?_⟩));rw [j4f (weight_type_call_type "set" [.ref l] []) rfl];have M:=F.called_set.notType;have Z:=F.called_set.canCreate;have T:=F.typeCall_set_1 (.ref l)
 (repeat (any_goals (first|assumption|wp_step)));refine A6 (zi8 (.ref l) (E:=E) (Q₁:=λ m p=>m=.ref s.heap.objs.size/\p={ s with heap:=s.heap.push (set0 w) }) ⟨rfl,rfl⟩) λ r p a=>?_
 cases r with
 | error e=>exact a
 | ok fl=>
  cases fl with
  | next=>exact a.elim
  | brk=>exact a.elim
  | cont=>exact a.elim
  | ret m=>
   obtain ⟨rfl,rfl⟩:=a;have i:(s.heap.push (set0 w)).get? s.heap.objs.size=some (set0 w):=D1 _ rfl;have G:V6 { s with heap:=s.heap.push (set0 w) } (.ref s.heap.objs.size) "set":=⟨_,i,rfl⟩
   have L:=F.called_set.init.lookup;have V:=F.called_set.init.bind (.ref s.heap.objs.size)
   (repeat (any_goals (first|assumption|wp_step)))
   have v:B5 (N1 prog w) A.in1 (.call (.builtin "set.__init__") ⟨[.ref s.heap.objs.size,.ref l],[]⟩) (wants (λ r q=>r=.none/\Q (.ref s.heap.objs.size) q) E) { s with heap:=s.heap.push (set0 w) }:=by
    refine X9 F.called_set.init.plain F.entry_set_init (check_set_init_1 G ?_);obtain ⟨o,f,k,n,t⟩:=ht;obtain ⟨U,I,X,J⟩:=o;dsimp only at k t;subst k t;have B:(s.heap.push (set0 w)).get? l=some { cls:=.type "list",dict:=I,data:=.seq items n,slots:=J }:=I0 _ f;have a0:=z9t;have O:=z76;have K:(D3 "list" == D3 "dict")=false:=by decide
    have R:(s.heap.push (set0 w)).get? s.heap.objs.size=some { cls:=.type "set",dict:=none,data:=.set #[] 0 (.fresh 0 0 (!w.params.followText "set-order")),slots:=#[] }:=i;have z:(s.heap.push (set0 w)).IsList l items:=⟨_,B,rfl,n,rfl⟩
    have j:l < s.heap.objs.size:=S0 f;unfold D9.«set.__init__» noKeywords U8;generalize hPI:pyIter=PI
    wp_walk
    subst hPI;refine Z4 z (o0 (wpAny_runValue ?_));have u :∀b o,s.heap.get? b=some o->((s.heap.push (set0 w)).push { cls:=.type "list_iterator",data:=.fields #[.ref l,.int 0 0] }).get? b=some o:=λ b o e=>I0 _ (I0 _ e);have g:(s.heap.push (set0 w)).objs.size=s.heap.objs.size + 1:=L6 _ _;refine zfp (S:=s.heap.objs.size) (it:=(s.heap.push (set0 w)).objs.size) (l:=l) (items:=items) (by rw [g];exact B1 (C3 _)) (Y3 j) (by rw [g];exact Y3 (K2 j)) ns 0 [] _ _ _ (by simp [hh]) ⟨_,D1 _ rfl,rfl,rfl⟩ ⟨_,u _ _ f,rfl,n,rfl⟩ (by rw [J6];exact hi) (zku (I0 _ i)) (by simpa using hb) λ h' tk ns' C H D=>?_;refine G0 (G0 ⟨rfl,h h' tk ns' C H λ b o e=>D b o (B1 (S0 e)) (by rw [g];exact B1 (K2 (S0 e))) (u b o e)⟩)
   refine A6 v λ x q d=>?_;cases x with
   | error e=>exact d
   | ok f2=>
    cases f2 with
    | next=>exact d.elim
    | brk=>exact d.elim
    | cont=>exact d.elim
    | ret r=>obtain ⟨rfl,y⟩:=d;exact G0 (G0 y)
end
section
variable {X:Cx}
def tLSet (K:j0) (te:TE):TE:=λ σ H Q=>te σ H λ x H1=>∃(a:Addr) (ns:List Int),x=.ref a/\SqL K H1 a (ns.map V.int)/\ns.length < 100/\Q (.int ((ns.foldl addI []).length:Nat)) H1
theorem zfy {e:Expr} {te:TE} {p1 p2 c1 c2:Pos} (hcalm:X.calm=true) (g1:Gl X "len") (m1:X.mg "len" = none) (g2:Gl X "set") (m2:X.mg "set" = none) (b1:b5 "len" = some (.builtin "len")) (b2:b5 "set" = some (.type "set")) (ha:PE X e te)
  (he:L1 [e] X.env=[(false,R3 e X.env)]:=by rfl):PE X (.Call (.Name "len" p1) [.Call (.Name "set" p2) [e] [] c2] [] c1) (tLSet X.K te):=by
 intro n s σ H Q I h;have j:X.A.handled=none:=I.ok.hd hcalm;refine C4 (ld_blt I g1 m1 b1 ?_ (by decide) (by decide));refine B6 ?_ rfl rfl;refine (show W0 _ _ (j38 ((false,R3 (.Call (.Name "set" p2) [e] [] c2) X.env) :: [])) _ _ s from Q4 ?_);refine C4 (ld_blt I g2 m2 b2 ?_ (by decide) (by decide));refine B4 ?_ he rfl;rw [he];refine (show W0 _ _ (j38 ((false,R3 e X.env) :: [])) _ _ s from Q4 (thn (ha n s σ H _ I h) λ u f ⟨x,H1,I1,r1,a,ns,ex,sq,hl,q⟩=>?_));subst ex;cases r1;refine M5 ?_;obtain ⟨w,c,d,B⟩:=I1.list sq;refine zab j d.isList (by simpa using zem c) (Q7 hl (by decide)) λ v b D p g m=>M5 ?_;obtain ⟨r,E,t,i,_,k,C,y,o,_⟩:=p;have l:r.size=(ns.foldl addI []).length:=by rw [<-g.length_eq,zdn k,C0,N2]
 have z:(ns.foldl addI []).length < 100:=by have:=z50 ns [];rw [Z3,O4] at this;omega
 refine call_len_set (s:={ f with heap:=v,toks:=b }) i ⟨rfl,rfl,rfl⟩ rfl o (by omega) ?_;rw [l];exact ⟨.int ((ns.foldl addI []).length:Nat),H1,(I1.kept (t':=b + 1 + 1) m),⟨_,rfl⟩,q⟩
end
section
variable {prog:Program} {w:C1} {A:O2} {E:Value->B0->Prop}
theorem drawL {I l:Addr} {xs:Array Value} (nl:l≠I) :∀(m k:Nat) (s:B0) (R:List Value->B0->Prop),s.heap.IsListIter I l k->s.heap.IsList l xs->k + m<=xs.size->
  (∀g,g.IsListIter I l (k + m)->N6 I s.heap g->R ((xs.toList.drop k).take m) { s with heap:=g })->W0 (N1 prog w) A (draw (.ref I) m) R E s
 | 0,k,s,R,hI,_,_,hR=>(show W0 (N1 prog w) A (X3 ([]:List Value)) R E s from G0 (by simpa using hR s.heap hI (j29 ..)))
 | m + 1,k,s,R,hI,hl,le,hR=>by
  have lt:k < xs.size:=by omega
  refine (show W0 (N1 prog w) A (D7 (.ref I) >>= _) R E s from o0 (u4 hI hl (x:=xs[k]) (by simp [lt]) λ b c a=>?_));refine o0 (Z1 (drawL nl m (k + 1) { s with heap:=b } _ c (hl.extBut a.extBut nl) (by omega) λ d f h=>G0 ?_));have e:xs.toList.drop k=xs[k] :: xs.toList.drop (k + 1):=by simp [j28,lt]
  have z:=hR d (by rw [show k + (m + 1)=k + 1 + m by omega];exact f) (a.trans h);rw [e,List.take_succ_cons] at z;exact z
theorem zkl {l:Addr} {xs:Array Value} {ts:List (Bool×(Value->Sem Unit))} {R:Unit->B0->Prop} {s:B0} (hh:A.handled=none) (hl:s.heap.IsList l xs) (hn:ts.length=xs.size) (hst:ts.findIdx? (·.1)=none)
  (q :∀g,Heap.ExtBut s.heap.objs.size s.heap g->W0 (N1 prog w) A (assignInOrder (ts.map (·.2)) xs.toList) R E { s with heap:=g }):W0 (N1 prog w) A (unpack (.ref l) ts) R E s:=by
 have d:l≠s.heap.objs.size:=hl.elim λ o z=>B1 (S0 z.1);unfold unpack;rw [hn,hst];refine o0 (Z1 ?_);unfold unpackItems;refine o0 ?_;unfold notIterableAtAll;refine o0 (wpAny_specialOf hl.typeIs slot_list_iter.lookup (G0 ?_));simp only [U2,if_false];refine o0 (Z1 (Z4 hl (o0 (Z1 (drawL d xs.size 0 _ _ ⟨_,D1 _ rfl,rfl,rfl⟩ (hl.push _) (by omega) λ f h a=>?_)))));have all:List.take xs.size (List.drop 0 xs.toList)=xs.toList:=by rw [J6,W3 (by simp)]
 rw [all,if_neg (by simp)];have i:f.IsList l xs:=(hl.push _).extBut a.extBut d;refine o0 (Z1 (V4 hh h i (by simp) λ j k=>?_));simp only [Option.isSome_none,U2,if_false];exact G0 (q j λ b o c e=>k b o c (a.extBut b o c (I0 _ e)))
end
section
variable {X:Cx} {pos:Pos}
def gLst (K:j0) (n:Nat) (t:TGs):TG:=λ v σ H Q=>∃a xs,v=.ref a/\SqL K H a xs/\xs.length=n/\t xs σ H Q
theorem pg_lst {es:List Expr} {k:Nat} {t:TGs} {n:Nat} (hc:X.calm=true) (h:PGs X es t) (hn:(E7 es X.env).length=n:=by rfl) (hst:(E7 es X.env).findIdx? (·.1)=none:=by rfl):PG X (.Tuple es k pos) (gLst X.K n t):=by intro f s σ H v u Q I r ⟨a,xs,e1,hq,hl,hw⟩;subst e1;cases r;obtain ⟨j,c,d,l⟩:=I.list hq;rw [assign_Tuple];refine o0 (j0d (zkl (I.ok.hd hc) d.isList (by simp [hn,<-hl,c.length]) hst λ g i=>?_));exact h f _ σ H xs _ Q (I.kept (t':=s.toks) λ b o e=>i b o (B1 (S0 e)) e) (by simpa using c) hw
end
theorem z2c {K:j0} {a:Addr} {xs:List V} {tl te:TE} {tc:TT} {g:TG} {m:Nat} {fr:List (Nat×Str)} {σ:L2.St} {H H1:Hp} {Q:VK} (p:Nat->Bool) (R:Nat->V->Hp->Prop) (hR :∀i y H H',Same H H'->R i y H->R i y H') (htl :∀R:VK,R (.ref a) H1->tl σ H R) (hq:SqL K H1 a xs) (hn:xs.length<=sizeLine)
  (body :∀i,i < xs.length->∀v H,Same H1 H->xs[i]? = some v->∀(KT:VK) (KF:Hp->Prop),(p i=true->∀y H',Same H H'->R i y H'->KT y H')->(p i=false->∀H',Same H H'->KF H')->
   g v (cStG σ fr (P0 m none)) H λ σ6 H6=>∃us,us.length=m/\σ6=cStG σ fr us/\tc (cStG σ fr us) H6 λ b H2=>if b=true then te (cStG σ fr us) H2 KT else KF H2)
  (hQ :∀l H' ys,Same H1 H'->H' l=none->All2 (λ i y=>R i y H') ((U0 xs.length).filter p) ys->Q (.ref l) (upd H' l (.lst ys))):tCompG (iList K tl) m fr g tc te σ H Q:=
 htl _ ⟨a,rfl,⟨xs,hq⟩,z35 (Same.refl _) (λ _ _ _ a b=>a.trans b) p R hR (z9b (S:=Same) (λ _ _=>Same.refl _) λ H s=>s.seq hq) hn body hQ⟩
theorem zh1 {K:j0} {a:Addr} {xs:List V} {ta:TA} {te:TE} {tc:TT} {g:TG} {m:Nat} {fr:List (Nat×Str)} {σ:L2.St} {H H1:Hp} {Q:VK} (p:Nat->Bool) (R:Nat->V->Hp->Prop) (hR :∀i y H H',Same H H'->R i y H->R i y H') (hta :∀T:List V->Hp->Prop,T [.ref a] H1->ta σ H T) (hq:SqL K H1 a xs) (hn:xs.length<=sizeLine)
  (body :∀i,i < xs.length->∀v H,Same H1 H->(∃x p,xs[i]? = some x/\v=.ref p/\H p=some (.tup [.int (i:Nat),x]))->∀(KT:VK) (KF:Hp->Prop),(p i=true->∀y H',Same H H'->R i y H'->KT y H')->(p i=false->∀H',Same H H'->KF H')->
   g v (cStG σ fr (P0 m none)) H λ σ6 H6=>∃us,us.length=m/\σ6=cStG σ fr us/\tc (cStG σ fr us) H6 λ b H2=>if b=true then te (cStG σ fr us) H2 KT else KF H2)
  (hQ :∀l H' ys,Same H1 H'->H' l=none->All2 (λ i y=>R i y H') ((U0 xs.length).filter p) ys->Q (.ref l) (upd H' l (.lst ys))):tCompG (ieL K ta) m fr g tc te σ H Q:=
 hta _ ⟨a,xs,rfl,hq,z35 (Same.refl _) (λ _ _ _ a b=>a.trans b) p R hR (zd8 hq) hn body hQ⟩
theorem zj8 {K:j0} {tl te:TE} {tc:TT} {g:TG} {m:Nat} {fr:List (Nat×Str)} {σ:L2.St} {H:Hp} {Q:VK} (Pr:Addr->List V->Hp->Prop) (htl :∀R:VK,(∀a xs H1,Pr a xs H1->R (.ref a) H1)->tl σ H R) (hq :∀a xs H1,Pr a xs H1->SqL K H1 a xs/\xs.length<=sizeLine)
  (p:Nat->Bool) (R:Nat->V->Hp->Prop) (hR :∀i y H H',Same H H'->R i y H->R i y H')
  (body :∀a xs H1,Pr a xs H1->∀i,i < xs.length->∀v H,Same H1 H->xs[i]? = some v->∀(KT:VK) (KF:Hp->Prop),(p i=true->∀y H',Same H H'->R i y H'->KT y H')->(p i=false->∀H',Same H H'->KF H')->
   g v (cStG σ fr (P0 m none)) H λ σ6 H6=>∃us,us.length=m/\σ6=cStG σ fr us/\tc (cStG σ fr us) H6 λ b H2=>if b=true then te (cStG σ fr us) H2 KT else KF H2)
  (hQ :∀a xs H1,Pr a xs H1->∀l H' ys,Same H1 H'->H' l=none->All2 (λ i y=>R i y H') ((U0 xs.length).filter p) ys->Q (.ref l) (upd H' l (.lst ys))):tCompG (iList K tl) m fr g tc te σ H Q:=
 htl _ λ a xs H1 pr=>⟨a,rfl,⟨xs,(hq a xs H1 pr).1⟩,z35 (Same.refl _) (λ _ _ _ a b=>a.trans b) p R hR (z9b (S:=Same) (λ _ _=>Same.refl _) λ H s=>s.seq (hq a xs H1 pr).1) (hq a xs H1 pr).2 (body a xs H1 pr) (hQ a xs H1 pr)⟩
theorem zh6 {K:j0} {a:Addr} {xs:List V} {tl te:TE} {tc:TT} {g:TG} {m:Nat} {fr:List (Nat×Str)} {σ:L2.St} {H H1:Hp} {Q:VK} (p:Nat->Bool) (R:Nat->V->Hp->Prop) (hR :∀i y H H',Same H H'->R i y H->R i y H') (htl :∀R:VK,R (.ref a) H1->tl σ H R) (hq:SqT K H1 a xs) (hn:xs.length<=sizeLine)
  (body :∀i,i < xs.length->∀v H,Same H1 H->xs[i]? = some v->∀(KT:VK) (KF:Hp->Prop),(p i=true->∀y H',Same H H'->R i y H'->KT y H')->(p i=false->∀H',Same H H'->KF H')->
   g v (cStG σ fr (P0 m none)) H λ σ6 H6=>∃us,us.length=m/\σ6=cStG σ fr us/\tc (cStG σ fr us) H6 λ b H2=>if b=true then te (cStG σ fr us) H2 KT else KF H2)
  (hQ :∀l H' ys,Same H1 H'->H' l=none->All2 (λ i y=>R i y H') ((U0 xs.length).filter p) ys->Q (.ref l) (upd H' l (.lst ys))):tCompG (iTup K tl) m fr g tc te σ H Q:=
 htl _ ⟨a,rfl,⟨xs,hq⟩,z35 (Same.refl _) (λ _ _ _ a b=>a.trans b) p R hR (zgj (S:=Same) (λ _ _=>Same.refl _) λ H s=>s.seqT hq) hn body hQ⟩
theorem e_cb1 {f:List V->Hp->VK->Prop} {te:TE} {σ:L2.St} {H:Hp} {Q:VK} (h:te σ H λ x H1=>f [x] H1 Q):tCB f (tCons te tNil) σ H Q:=h
theorem t_test {r:R2} {ta tb:TE} {σ:L2.St} {H:Hp} {Q:Bool->Hp->Prop} (h:ta σ H λ x H1=>tb σ H1 λ y H2=>r x y H2 λ x H3=>∃c,x=.bl c/\Q c H3):tTest (tOp r ta tb) σ H Q:=h
theorem t_or {t u:TT} {σ:L2.St} {H:Hp} {Q:Bool->Hp->Prop} (h:t σ H λ c H1=>if c=true then Q true H1 else u σ H1 Q):tOr t u σ H Q:=h
theorem sq_if {c:TT} {a b rest:TS} {D:Ends} {σ:L2.St} {H:Hp} (h:c σ H λ k H1=>if k=true then a { D with nx:=rest D } σ H1 else b { D with nx:=rest D } σ H1):tSeq (tIfS c a b) rest D σ H:=h
theorem sq_ret {te:TE} {D:Ends} {σ:L2.St} {H:Hp} (h:te σ H D.rt):tRet te D σ H:=h
def TupI (h:Heap) (v:Value) (x:Int×Int):Prop:=∃(p:Addr) (o:Obj) (n:Nat) (t u:Tok),v=.ref p/\h.get? p=some o/\o.cls=.type "tuple"/\o.data=.seq #[.int x.1 t,.int x.2 u] n
def gtI (x y:Int×Int):Bool:=if x.1=y.1 then decide (y.2 < x.2) else decide (y.1 < x.1)
section
variable {prog:Program} {w:C1} {A:O2} {E:Value->B0->Prop} {s:B0}
theorem tup_gt {v z:Value} {x y:Int×Int} {Q:Value->B0->Prop} (hx:TupI s.heap v x) (hy:TupI s.heap z y) (hu:A.units < cLine) (h:Q (.bool (gtI x y)) s):W0 (N1 prog w) A (G8 .Gt v z) Q E s:=by
 obtain ⟨p,o,n,t,u,rfl,d,f,l⟩:=hx;obtain ⟨m,k,B,D,C,rfl,c,e,r⟩:=hy;refine j36 (op:=.Gt) (T:="tuple") ⟨o,d,f⟩ ⟨k,c,e⟩ r9 (Z8 r9 ⟨o,d,f⟩ F.entry_tuple_gt ?_ (F.args_tuple_gt_2 _ _)) hu;refine (show W0 _ _ (j3f (.ref m) (.type "tuple") >>= _) _ _ s from o0 (z6 (T:="tuple") ⟨k,c,e⟩ isSubtype_tuple_tuple ?_));simp only [J5,U2,if_false];refine o0 (p8 d l (o0 (p8 c r (o0 ?_))));simp only [U9,List.zip_nil_left,A7,T7];refine o0 (o0 ((a5 prog w).eqBool (a:=x.1) (b:=y.1) (Q6 prog w _ _) (Q6 prog w _ _) ?_));have g :∀{i j:Int} {a b:Tok} {R:Value->B0->Prop},R (.bool (decide (j < i))) s->W0 (N1 prog w) A.in1 (G8 .Gt (.int i a) (.int j b)) R E s:=λ q=>(show W0 _ _ (X2 .Gt _ _) _ _ _ from gt_int q)
 by_cases e1:x.1=y.1
 ·rw [decide_eq_true e1];simp only [J5,U2,if_false];refine G0 (o0 (o0 ((a5 prog w).eqBool (a:=x.2) (b:=y.2) (Q6 prog w _ _) (Q6 prog w _ _) ?_)));unfold gtI at h;rw [if_pos e1] at h;by_cases e2:x.2=y.2
  ·rw [decide_eq_true e2];simp only [J5,U2,if_false];rw [decide_eq_false (by omega)] at h;exact G0 (G0 (G0 ⟨_,rfl,(λ z=>nomatch z),h⟩))
  ·rw [decide_eq_false e2];simp only [u9,if_true];exact o0 (C7 (o0 (g (o0 (G0 (G0 (G0 (G0 ⟨_,rfl,(λ z=>nomatch z),h⟩))))))))
 ·rw [decide_eq_false e1];simp only [u9,if_true];unfold gtI at h;rw [if_neg e1] at h;exact o0 (C7 (o0 (g (o0 (G0 (G0 (G0 (G0 ⟨_,rfl,(λ z=>nomatch z),h⟩))))))))
theorem TupI.kept {h h':Heap} {v:Value} {x:Int×Int} {c:Addr} {oc:Obj} (q:TupI h v x) (e:h.get? c=some oc) (nc:oc.cls≠.type "tuple") (k :∀b o,b≠c->h.get? b=some o->h'.get? b=some o):TupI h' v x:=by obtain ⟨p,o,n,t,u,rfl,a,d,f⟩:=q;exact ⟨p,o,n,t,u,rfl,k p o (λ z=>by rw [z,e] at a;cases a;exact nc d) a,d,f⟩
end
section
variable {X:Cx}
theorem gtI_iff {x y:Int×Int}:gtI x y=true↔y.1 < x.1\/(x.1=y.1/\y.2 < x.2):=by
 unfold gtI;by_cases e:x.1=y.1
 ·rw [if_pos e,decide_eq_true_iff];omega
 ·rw [if_neg e,decide_eq_true_iff];omega
end
def kasRun {α:Type} (c:Nat->Nat->Bool) (n:Nat):j23 α->Option α
 | .ret a=>some a
 | .ask i j k=>if i < n/\j < n/\i≠j then kasRun c n (k (c i j)) else none
theorem zbx {α:Type} {c:Nat->Nat->Bool} {n:Nat} {cmp:Nat->Nat->(Bool->B0->Prop)->B0->Prop} {s:B0} {Q:α->B0->Prop} (hc :∀i j C,i < n->j < n->i≠j->C (c i j) s->cmp i j C s) :∀(t:j23 α) (a:α),kasRun c n t=some a->Q a s->t.kasWp cmp Q s
 | .ret b,a,h,q=>by cases h;exact q
 | .ask i j k,a,h,q=>by
  unfold kasRun at h;by_cases z:i < n/\j < n/\i≠j
  ·rw [if_pos z] at h;exact hc i j _ z.1 z.2.1 z.2.2 (zbx hc (k (c i j)) a h q)
  ·rw [if_neg z] at h;cases h
theorem z6k {α:Type} {c d:Nat->Nat->Bool} {n:Nat} (h :∀i j,i < n->j < n->c i j=d i j) :∀t:j23 α,kasRun c n t=kasRun d n t
 | .ret _=>rfl
 | .ask i j k=>by
  unfold kasRun;by_cases z:i < n/\j < n/\i≠j
  ·rw [if_pos z,if_pos z,h i j z.1 z.2.1];exact z6k h _
  ·rw [if_neg z,if_neg z]
def z2f:Nat->List Nat->List (List Nat)
 | 0,_=>[[]]
 | n + 1,l=>l.flatMap λ x=>(z2f n (l.erase x)).map (x :: ·)
def z3p (n:Nat) (r:List Nat):Bool:=match kasRun (λ i j=>decide (r.getD i 0 < r.getD j 0)) n (U5 n) with
 | some p=>(p.toList.map (λ i=>r.getD i 0) == U0 n) && p.toList.isPerm (U0 n)
 | none=>false
theorem good2:(z2f 2 (U0 2)).all (z3p 2)=true:=by decide +kernel
theorem good3:(z2f 3 (U0 3)).all (z3p 3)=true:=by decide +kernel
theorem good4:(z2f 4 (U0 4)).all (z3p 4)=true:=by decide +kernel
theorem good5:(z2f 5 (U0 5)).all (z3p 5)=true:=by decide +kernel
theorem good6:(z2f 6 (U0 6)).all (z3p 6)=true:=by decide +kernel
theorem zl4 :∀n,2<=n->n<=6->(z2f n (U0 n)).all (z3p n)=true
 | 2,_,_=>good2
 | 3,_,_=>good3
 | 4,_,_=>good4
 | 5,_,_=>good5
 | 6,_,_=>good6
 | 0,h,_=>absurd h (by decide)
 | 1,h,_=>absurd h (by decide)
 | n + 7,_,h=>absurd h (by omega)
theorem zbu :∀(r l:List Nat),r.Nodup->(∀x∈r,x∈l)->r∈z2f r.length l
 | [],l,_,_=>List.mem_singleton.mpr rfl
 | x :: r,l,nd,h=>by rw [D5] at nd;refine List.mem_flatMap.mpr ⟨x,h x (.head _),List.mem_map.mpr ⟨r,zbu r (l.erase x) nd.2 λ y a=>?_,rfl⟩⟩;exact (q9 (show y≠x from λ e=>nd.1 (e ▸ a))).mpr (h y (.tail _ a))
def ltS (a b:Str):Bool:=decide (a.cps.toList < b.cps.toList)
theorem z6m (a:Str):ltS a a=false:=decide_eq_false (List.lt_irrefl _)
theorem zga {a b c:Str} (h:ltS a b=true) (k:ltS b c=true):ltS a c=true:=decide_eq_true (List.lt_trans (of_decide_eq_true h) (of_decide_eq_true k))
theorem zi7 {a b:Str} (h:ltS a b=false) (k:ltS b a=false):a=b:=by have e:a.cps.toList=b.cps.toList:=List.le_antisymm (List.not_lt.mp (of_decide_eq_false k)) (List.not_lt.mp (of_decide_eq_false h));cases a;cases b;congr;exact Array.toList_inj.mp e
def rkS (ks:List Str) (z:Str):Nat:=(ks.filter λ x=>ltS x z).length
theorem z4y {α:Type} {p q:α->Bool} :∀{l:List α},(∀x∈l,p x=true->q x=true)->(l.filter p).length<=(l.filter q).length
 | [],_=>J0 _
 | x :: l,h=>by
  have a:=z4y (l:=l) λ y b=>h y (.tail _ b);cases hp:p x with
  | true=>rw [A3 hp,A3 (h x (.head _) hp)];exact Nat.succ_le_succ a
  | false=>
   rw [T3 (by rw [hp];decide)];cases hq:q x with
   | true=>rw [A3 hq];exact Nat.le_succ_of_le a
   | false=>rw [T3 (by rw [hq];decide)];exact a
theorem z30 {α:Type} {p q:α->Bool} {y:α} :∀{l:List α},(∀x∈l,p x=true->q x=true)->y∈l->p y=false->q y=true->(l.filter p).length < (l.filter q).length
 | [],_,h,_,_=>absurd h L0
 | x :: l,h,hy,hp,hq=>by
  rcases List.mem_cons.mp hy with rfl|hy
  ·rw [T3 (by rw [hp];decide),A3 hq];exact Nat.lt_succ_of_le (z4y λ z b=>h z (.tail _ b))
  ·have a:=z30 (l:=l) (λ z b=>h z (.tail _ b)) hy hp hq;cases hpx:p x with
   | true=>rw [A3 hpx,A3 (h x (.head _) hpx)];exact Nat.succ_lt_succ a
   | false=>
    rw [T3 (by rw [hpx];decide)];cases hqx:q x with
    | true=>rw [A3 hqx];exact K2 a
    | false=>rw [T3 (by rw [hqx];decide)];exact a
theorem rk_lt {ks:List Str} {a b:Str} (ha:a∈ks) (h:ltS a b=true):rkS ks a < rkS ks b:=z30 (λ x _ z=>zga z h) ha (z6m a) h
theorem rk_iff {ks:List Str} {a b:Str} (ha:a∈ks) (hb:b∈ks):ltS a b=decide (rkS ks a < rkS ks b):=by
 cases h:ltS a b with
 | true=>exact (decide_eq_true (rk_lt ha h)).symm
 | false=>
  refine (decide_eq_false λ z=>?_).symm;cases k:ltS b a with
  | true=>have:=rk_lt hb k;omega
  | false=>rw [zi7 h k] at z;exact z4 _ z
theorem rk_inj {ks:List Str} {a b:Str} (ha:a∈ks) (hb:b∈ks) (e:rkS ks a=rkS ks b):a=b:=zi7 (by rw [rk_iff ha hb];exact decide_eq_false (by omega)) (by rw [rk_iff hb ha];exact decide_eq_false (by omega))
theorem zif {ks:List Str} {a:Str} (ha:a∈ks):rkS ks a < ks.length:=by have h:=z30 (l:=ks) (p:=λ x=>ltS x a) (q:=λ _=>true) (λ _ _ _=>rfl) ha (z6m a) rfl;rw [List.filter_eq_self.mpr (λ _ _=>rfl)] at h;exact h
theorem nodup_map_on {α β:Type} {f:α->β} :∀{l:List α},(∀a∈l,∀b∈l,f a=f b->a=b)->l.Nodup->(l.map f).Nodup
 | [],_,_=>.nil
 | x :: l,h,nd=>by rw [D5] at nd;rw [W1,D5];refine ⟨λ z=>?_,nodup_map_on (λ a d b g=>h a (.tail _ d) b (.tail _ g)) nd.2⟩;obtain ⟨y,c,e⟩:=List.mem_map.mp z;exact nd.1 (h x (.head _) y (.tail _ c) e.symm ▸ c)
theorem zhc {ks:List Str} (nd:ks.Nodup) (h2:2<=ks.length) (h6:ks.length<=6) :∃p:Array Nat,kasRun (λ i j=>ltS (ks.getD i "") (ks.getD j "")) ks.length (U5 ks.length)=some p/\p.toList.Perm (U0 ks.length)/\(p.toList.map λ i=>ks.getD i "").Pairwise λ x y=>ltS x y=true:=by
 have m :∀i,i < ks.length->ks.getD i ""∈ks:=λ i g=>by rw [O1,v0 g];exact Z2 g
 have t:(ks.map (rkS ks)).length=ks.length:=C0 ..;have o :∀i,i < ks.length->(ks.map (rkS ks)).getD i 0=rkS ks (ks.getD i ""):=λ i g=>by rw [O1,O1,N0,v0 g];rfl
 have v:ks.map (rkS ks)∈z2f ks.length (U0 ks.length):=by
  have:=zbu (ks.map (rkS ks)) (U0 ks.length) (nodup_map_on (λ a f b h e=>rk_inj f h e) nd) λ x w=>by obtain ⟨a,f,rfl⟩:=List.mem_map.mp w;exact List.mem_range.mpr (zif f)
  rwa [t] at this
 have l:=List.all_eq_true.mp (zl4 _ h2 h6) _ v;unfold z3p at l;have u:=z6k (c:=λ i j=>ltS (ks.getD i "") (ks.getD j "")) (d:=λ i j=>decide ((ks.map (rkS ks)).getD i 0 < (ks.map (rkS ks)).getD j 0)) (n:=ks.length) (λ i j g s=>by rw [o i g,o j s];exact rk_iff (m i g) (m j s)) (U5 ks.length);rw [u];cases hk:kasRun (λ i j=>decide ((ks.map (rkS ks)).getD i 0 < (ks.map (rkS ks)).getD j 0)) ks.length (U5 ks.length) with
 | none=>rw [hk] at l;cases l
 | some p=>
  rw [hk] at l;obtain ⟨q,k⟩:=Bool.and_eq_true_iff.mp l;have q:=eq_of_beq q;have k:=List.isPerm_iff.mp k;refine ⟨p,rfl,k,?_⟩;rw [j01];have r:(p.toList.map λ i=>(ks.map (rkS ks)).getD i 0).Pairwise (· < ·):=by rw [q];exact K8
  rw [j01] at r;refine r.imp_of_mem λ {a b} f h z=>?_;have f:=List.mem_range.mp (k.mem_iff.mp f);have h:=List.mem_range.mp (k.mem_iff.mp h);rw [o a f,o b h] at z;rw [rk_iff (m a f) (m b h)];exact decide_eq_true z
def TupS (h:Heap) (v:Value) (k:Str):Prop:=∃(p:Addr) (o:Obj) (xs:Array Value) (n:Nat) (t:Tok),v=.ref p/\h.get? p=some o/\o.cls=.type "tuple"/\o.data=.seq xs n/\xs[0]? = some (.str k t)
theorem TupS.kept {h h':Heap} {v:Value} {x:Str} {c:Addr} {oc:Obj} (q:TupS h v x) (e:h.get? c=some oc) (nc:oc.cls≠.type "tuple") (k :∀b o,b≠c->h.get? b=some o->h'.get? b=some o):TupS h' v x:=by obtain ⟨p,o,g,n,t,rfl,a,d,f⟩:=q;exact ⟨p,o,g,n,t,rfl,k p o (λ z=>by rw [z,e] at a;cases a;exact nc d) a,d,f⟩
section
variable {prog:Program} {w:C1} {A:O2} {E:Value->B0->Prop} {s:B0}
theorem zke {v z:Value} {x y:Str} {Q:Bool->B0->Prop} (hx:TupS s.heap v x) (hy:TupS s.heap z y) (ne:x≠y) (h:Q (ltS x y) s):W0 (N1 prog w) A (keyLt' (tuples' true) v z) Q E s:=by
  obtain ⟨p,o,f,n,t,rfl,q,G,B,i⟩:=hx;obtain ⟨J,H,d,D,c,rfl,l,I,u,g⟩:=hy;have ex :∃r,f.toList=.str x t :: r:=by
    cases hl:f.toList with
    | nil => have : f.toList[0]? = some (.str x t) := by simpa using i
             rw [hl] at this;cases this
    | cons a r => have : f.toList[0]? = some (.str x t) := by simpa using i
                  rw [hl] at this;cases this;exact ⟨r,rfl⟩
  have j :∃r,d.toList=.str y c :: r:=by
    cases hl:d.toList with
    | nil => have : d.toList[0]? = some (.str y c) := by simpa using g
             rw [hl] at this;cases this
    | cons a r => have : d.toList[0]? = some (.str y c) := by simpa using g
                  rw [hl] at this;cases this;exact ⟨r,rfl⟩
  obtain ⟨F,C⟩:=ex;obtain ⟨K,m⟩:=j;refine PySem.W.kat_lt q B l u ?_;rw [C,m,U9];refine PySem.W.kat_cons ((z0k prog w).eqBool (a:=.inr x) (b:=.inr y) (kV_is (k:=.inr x) (show RelV (kV (.inr x)) (.str x t) from ⟨t,rfl⟩)) (kV_is (k:=.inr y) (show RelV (kV (.inr y)) (.str y c) from ⟨c,rfl⟩)) ?_);rw [decide_eq_false (λ e=>ne (j31 e))];exact PySem.W.kat_no (oneLt_str h)
theorem z9r {h:Heap} :∀{vs:List Value} {ks:List Str},All2 (λ v k=>TupS h v k) vs ks->∃fs,PySem.W.KatTups h vs fs/\fs.length=vs.length/\∀f∈fs,∃k t,f=k9 k t
 | _,_,.nil=>⟨[],trivial,rfl,λ _ h=>absurd h L0⟩
 | _,_,.cons a r=>by obtain ⟨fs,j,c,l⟩:=z9r r;obtain ⟨p,o,q,n,t,rfl,i,d,b,m⟩:=a;exact ⟨_ :: fs,PySem.W.KatTups.cons i d b m j,by rw [A1,A1,c],λ f g=>(List.mem_cons.mp g).elim (λ e=>⟨_,_,e⟩) (l f)⟩
theorem zjm {a:Addr} {vs:List Value} {ks:List Str} {n0:Nat} {P:j0a->B0->Prop} (ho:s.heap.get? a=some (y9 "list" vs.toArray n0)) (l6:vs.length<=6) (al:All2 (λ v k=>TupS s.heap v k) vs ks) (nd:ks.Nodup)
  (h :∀(p:List Nat) (h':Heap) (e:Nat),p.Perm (U0 vs.length)->(p.map λ i=>ks.getD i "").Pairwise (λ x y=>ltS x y=true)->(∀b o,b≠a->s.heap.get? b=some o->h'.get? b=some o)->h'.get? a=some (y9 "list" (p.map λ i=>vs.getD i K3).toArray e)->P (.done (.ret .none)) { s with heap:=h' }) :
  W0 (N1 prog w) A (D9.«list.sort» ⟨[.ref a],[]⟩) P E s:=by
 have lk:ks.length=vs.length:=z04 al;have la:a < s.heap.objs.size:=S0 ho;have sz:vs.length<=sizeLine:=O0 l6 (by decide);obtain ⟨K,O⟩ :∃K,(s.heap.update a (y4 λ _=>(#[]:Array Value))).get? a=some (y9 "list" #[] K):=⟨_,get?_update_seq ho λ _=>#[]⟩
 rw [list_sort_plain];refine o0 (listItems_at ho rfl (o0 (listUpdate_at ho rfl (o0 (seqEpoch_at O rfl (o0 (wpAny_newTuple (o0 (wpAny_newList (Z1 ?_) (J2 _))) (by simpa using sz))))) (by simpa using sz) (J2 _))));dsimp only;generalize hh3:((s.heap.update a (y4 λ _=>(#[]:Array Value))).push (y9 "tuple" vs.toArray 0)).push (y9 "list" #[] 0)=h3;have s1:=C8 s.heap a (y4 λ _=>(#[]:Array Value));have N :∀b o,b≠a->s.heap.get? b=some o->h3.get? b=some o:=λ b o n e=>by rw [<-hh3];exact I0 _ (I0 _ ((s1.2 b n).trans e))
 have u:h3.get? a=some (y9 "list" #[] K):=by rw [<-hh3];exact I0 _ (I0 _ O)
 have S:All2 (λ v k=>TupS h3 v k) vs ks:=z00 (λ _ _ z=>z.kept ho (show D3 "list"≠.type "tuple" by decide) N) al;have fin :∀(m:Array Value) (p:List Nat),m=(p.map λ i=>vs.getD i K3).toArray->p.Perm (U0 vs.length)->(p.map λ i=>ks.getD i "").Pairwise (λ x y=>ltS x y=true)->P (.done (.ret .none)) { s with heap:=h3.update a (y4 λ _=>m) }:=λ m p g l B=>by
  obtain ⟨I,V⟩ :∃I,(h3.update a (y4 λ _=>m)).get? a=some (y9 "list" m I):=⟨_,get?_update_seq u λ _=>m⟩
  rw [g] at V⊢;exact h p _ I l B (λ b o n e=>(L4 _ _ (D2 n)).trans (N b o n e)) V
 have R :∀(p:List Nat),p.Perm (U0 vs.length)->(p.map λ i=>vs.getD i K3).toArray.size<=sizeLine + 1:=λ p l=>by rw [X0,C0,l.length_eq,T2];exact O0 sz (W2 _)
 by_cases d:vs.toArray.size < 2
 ·rw [if_pos d];have J:vs.length < 2:=by simpa using d
  have D:(U0 vs.length).map (λ i=>vs.getD i K3)=vs:=by
   apply Z6
   ·simp
   ·intro i H d;simp [O1,v0 d]
  have B:((U0 vs.length).map λ i=>ks.getD i "").Pairwise (λ x y=>ltS x y=true):=by
   match L:vs.length,J with
   | 0,_=>exact z7
   | 1,_=>exact List.pairwise_singleton _ _
  refine o0 (G0 ?_);rw [if_pos d];refine (show W0 _ _ (X3 ((),SortSt.mk' general' (vs.toArray.zip vs.toArray) #[] 7 none) >>= _) _ _ _ from o0 (G0 ?_));dsimp only;have g:Array.map (λ x=>x.snd) (arrOf (SortSt.mk' general' (vs.toArray.zip vs.toArray) #[] 7 none))=((U0 vs.length).map λ i=>vs.getD i K3).toArray:=by
   rw [D];show Array.map (λ x=>x.snd) (vs.toArray.zip vs.toArray)=vs.toArray;apply Array.ext
   ·simp
   ·intro i H d;simp
  refine o0 (seqEpoch_at u rfl (o0 (listUpdate_at u rfl ?_ (J2 _) ?_)))
  ·simp only [bne_self_eq_false,U2,if_false];exact G0 (fin _ _ g (j0c _) B)
  ·rw [g];exact R _ (j0c _)
 ·rw [if_neg d];have J:2<=vs.length:=by simpa using Nat.not_lt.mp d
  obtain ⟨fs,kt,lf,a0⟩:=z9r S;refine o0 (PySem.W.kat_kind (T:=.type "str") kt (by omega) (λ f G=>?_) (by decide) ?_)
  ·obtain ⟨k,t,rfl⟩:=a0 f G;exact PySem.W.Looks.now
  ·rw [if_neg d];obtain ⟨p,D,l,B⟩:=zhc nd (by omega) (by omega);rw [lk] at D l;rw [show (D3 "str" != D3 "tuple")=true by decide];have Z :∀i,i < vs.length->TupS h3 (vs.getD i K3) (ks.getD i ""):=λ i Y=>by have X:ks[i]? = some (ks[i]'(by omega)):=v0 (by omega);obtain ⟨v,L,z⟩:=z0m S X;rw [O1,O1,L,X];exact z
   have ask:(U5 vs.length).kasWp (PySem.W.kas_ask prog w A (tuples' true) vs) (λ U r=>r={ s with heap:=h3 }/\U=p) { s with heap:=h3 }:=zbx (c:=λ i j=>ltS (ks.getD i "") (ks.getD j "")) (n:=vs.length) (λ i j C Y hj ne q=>zke (s:={ s with heap:=h3 }) (Z i Y) (Z j hj) (λ e=>ne ?_) q) (U5 vs.length) p D ⟨rfl,rfl⟩
   ·refine o0 (w4 (PySem.W.kat_run (κ:=tuples' true) (ks:=vs) (vs:=vs) (Q:=λ F r=>r={ s with heap:=h3 }/\failedOf F=none/\Array.map (λ x=>x.snd) (arrOf F)=(p.toList.map λ i=>vs.getD i K3).toArray) rfl J (by omega) (λ U F r a1 a2 a3 M=>⟨M.1,a3,by rw [<-M.2];exact PySem.W.kat_snds rfl a2⟩) ask) ?_ λ _ _ z=>z);rintro ⟨⟨⟩,F⟩ r ⟨rfl,G,g⟩;dsimp only at G g⊢;refine o0 (seqEpoch_at u rfl (o0 (listUpdate_at u rfl ?_ (J2 _) ?_)))
    ·rw [G];simp only [bne_self_eq_false,U2,if_false];exact G0 (fin _ _ g l B)
    ·rw [g];exact R _ l
   ·have H:i < ks.length:=by omega
    have d:j < ks.length:=by omega
    rw [O1,O1,v0 H,v0 d] at e;exact (List.getElem_inj nd).mp e
end
section
variable {X:Cx}
theorem z9z:CallR X (.builtin "sorted") (λ xs H Q=>∃(a:Addr) (ys:List V) (ks:List Str),xs=[.ref a]/\SqL X.K H a ys/\All2 (λ y k=>∃(p:Addr) (r:List V),y=V.ref p/\SqT X.K H p (.str k :: r)) ys ks/\ys.length<=6/\ks.Nodup/\
  ∀(l:Addr) (p:List Nat),H l=none->p.Perm (U0 ys.length)->(p.map λ i=>ks.getD i "").Pairwise (λ x y=>ltS x y=true)->Q (.ref l) (upd H l (.lst (p.map λ i=>ys.getD i .non)))):=by
 intro a1 s σ H xs us Q I P h;obtain ⟨a,ys,ks,rfl,sq,al,l6,nd,q⟩:=h;obtain ⟨u,rfl,O⟩:=vals1 P;cases O;obtain ⟨d,w,R,G⟩:=I.list sq;have U:d.length=ys.length:=w.length.symm;refine Calls.call_function_entry kind_sorted plain_sorted entry_sorted (args_sorted1 _) ?_;unfold D9.«sorted»;obtain ⟨o,f,C,n,D⟩:=R.isList;refine o0 (m:=checkCount "sorted" 1 1 _) (G0 (o0 (wpAny_collect_seq a (.inl rfl) f C D (λ c J=>?_) (by rw [X0,<-w.length];exact G))));have ht :∀{A:List Value} {ys:List V} {ks:List Str},Vals ys A->All2 (λ y k=>∃(p:Addr) (r:List V),y=V.ref p/\SqT X.K H p (.str k :: r)) ys ks->All2 (λ v k=>TupS s.heap v k) A ks:=by
  intro A ys;induction ys generalizing A with
  | nil=>intro ks c E;cases c;cases E;exact .nil
  | cons y ys ih=>
   intro ks c E;cases c with
   | cons ra rb=>
    cases E with
    | cons a b=>
     refine .cons ?_ (ih rb b);obtain ⟨p,r,rfl,T⟩:=a;obtain ⟨js,rj,⟨o,f,C,n,D⟩,_⟩:=I.tuple T;cases rj with
     | cons r0 _=>obtain ⟨t,rfl⟩:=r0;cases (show _=G1 p from ra);exact ⟨p,o,_,n,t,rfl,f,C,D,by simp⟩
 have S :∀p:List Nat,(∀i∈p,i < ys.length)->Vals (p.map λ i=>ys.getD i .non) (p.map λ i=>d.getD i K3):=by
  intro p;induction p with
  | nil=>intro _;exact .nil
  | cons i p ih=>intro F;refine .cons ?_ (ih λ j Y=>F j (.tail _ Y));have B:=F i (.head _);obtain ⟨u,hu,ru⟩:=w.get (v0 B);show RelV (ys.getD i .non) (d.getD i K3);rw [O1,O1,v0 B,hu];exact ru
 have L:d.length<=6:=by omega
 have N:(c.push (y9 "list" d.toArray 0)).get? c.objs.size=some (y9 "list" d.toArray 0):=D1 _ rfl;have a0:All2 (λ v k=>TupS (c.push (y9 "list" d.toArray 0)) v k) d ks:=z00 (λ _ _ z=>by obtain ⟨p,o,xs,n,t,e,f,r⟩:=z;exact ⟨p,o,xs,n,t,e,I0 _ (J _ _ f),r⟩) (ht w al);have M:Inv X a1 σ H { s with heap:=c }:=I.kept (t':=s.toks) J;refine o0 (wpAny_newList (o0 (Z1 (Z8 slot_list_sort ⟨_,N,rfl⟩ entry_list_sort (zjm (s:={ s with heap:=c.push (y9 "list" d.toArray 0) }) N L a0 nd λ p h' e g pw Z hl=>⟨_,rfl,?_⟩) (args_list_sort _)))) (by simpa using O0 L (by decide)));rw [U] at g;have W :∀i∈p,i < ys.length:=λ i B=>List.mem_range.mp (g.mem_iff.mp B);have k2 :∀b o,c.get? b=some o->h'.get? b=some o:=λ b o z=>Z b o (B1 (S0 z)) (I0 _ z);refine G0 ⟨_,rfl,.ref c.objs.size,_,M.laid (t':=s.toks) (o:=.lst (p.map λ i=>ys.getD i .non)) k2 (J0 _) ⟨?_,_,e,S p W,hl⟩,rfl,q _ p (M.hok.fresh (J0 _)) g pw⟩;rw [C0,g.length_eq,T2];exact G
end
def addT (ns:List Str) (v:Str):List Str:=if v∈ns then ns else ns++[v]
theorem zal (ns:List Str) (v:Str):(addT ns v).length=if v∈ns then ns.length else ns.length + 1:=by
 unfold addT;by_cases z:v∈ns
 ·rw [if_pos z,if_pos z]
 ·rw [if_neg z,if_neg z,F0];rfl
theorem zim (ns:List Str) (v k:Str):(decide (k∈ns) || decide (k=v))=decide (k∈addT ns v):=by
 unfold addT;by_cases z:v∈ns
 ·rw [if_pos z];by_cases y:k=v
  ·rw [y,decide_eq_true z];rfl
  ·rw [decide_eq_false y,S9]
 ·rw [if_neg z];by_cases y:k=v
  ·rw [decide_eq_true y,Bool.or_true,decide_eq_true (by rw [y];exact List.mem_append.mpr (.inr (List.mem_singleton.mpr rfl)))]
  ·rw [decide_eq_false y,S9];by_cases x:k∈ns
   ·rw [decide_eq_true x,decide_eq_true (List.mem_append.mpr (.inl x))]
   ·rw [decide_eq_false x,decide_eq_false (λ w=>(List.mem_append.mp w).elim x λ u=>y (List.mem_singleton.mp u))]
section
variable {prog:Program} {w:C1} {A:O2} {E:Value->B0->Prop} {s:B0}
theorem z9c {h h':Heap} {a:Addr} {M:Str->Bool} {n:Nat} (k :∀o,h.get? a=some o->h'.get? a=some o) (x:U7 (X4 prog w) h a M n):U7 (X4 prog w) h' a M n:=by obtain ⟨o,c,b,t,e,r⟩:=x;exact ⟨o,c,b,t,k _ e,r⟩
theorem ziq {h:Heap} {a:Addr} (e:h.get? a=some (set0 w)):U7 (X4 prog w) h a (λ k=>decide (k∈([]:List Str))) ([]:List Str).length:=
 ⟨_,#[],0,_,e,⟨rfl,rfl,rfl⟩,rfl,λ x b=>by simp at b,λ k=>⟨λ z=>absurd (of_decide_eq_true z) L0,λ ⟨e,he,_⟩=>by simp at he⟩,by decide,by rfl,rfl⟩
theorem zeg {S it l:Addr} {items:Array Value} (nsi:S≠it) (nsl:S≠l) (nil':it≠l) :∀(ms:List Str) (i:Nat) (ns:List Str) (A:O2) (R:j20->B0->Prop) (s:B0),A.handled=none->s.heap.IsListIter it l i->s.heap.IsList l items->
  StrsAre (items.toList.drop i) ms->U7 (X4 prog w) s.heap S (λ k=>decide (k∈ns)) ns.length->ns.length + ms.length < scanBound->
  (∀h' tk ns',U7 (X4 prog w) h' S (λ k=>decide (k∈ns')) ns'.length->ns'=ms.foldl addT ns->(∀c o,c≠S->c≠it->s.heap.get? c=some o->h'.get? c=some o)->R (.ok (.ret .none)) { s with heap:=h',toks:=tk })->
  B5 (N1 prog w) A (L7 "set.update.loop" { pos:=[.ref S,.ref it],kw:=[] }) R s
 | [],i,ns,A,R,s,hh,si,sl,al,dd,hz,q=>by
  have L:items[i]? = none:=by
   cases hd:items.toList.drop i with
   | nil=>have:=List.drop_eq_nil_iff.mp hd;rw [N2] at this;exact J4 this
   | cons u us=>rw [hd] at al;cases al
  refine F3 O6 ?_;show W0 _ _ (D7 (.ref it) >>= _) _ _ s;refine o0 (V4 (show (A.under _).handled=none from hh) si sl L λ h' p=>?_);exact G0 (q h' s.toks ns (z9c (λ o e=>p S o nsi e) dd) rfl λ c o _ C e=>p c o C e)
 | m :: ms,i,ns,A,R,s,hh,si,sl,al,dd,hz,q=>by
  cases hd:items.toList.drop i with
  | nil=>rw [hd] at al;cases al
  | cons u us=>
   rw [hd] at al;cases al with
   | cons _ tk al=>
    have M:items.toList[i]? = some (.str m tk):=by have:=congrArg (λ l=>l[0]?) hd;simpa using this
    have G:items[i]? = some (.str m tk):=by simpa using M
    have K:items.toList.drop (i + 1)=us:=by have:=congrArg j0g hd;simpa using this
    refine F3 O6 ?_;show W0 _ _ (D7 (.ref it) >>= _) _ _ s;refine o0 (u4 si sl G λ j I h=>?_);have B:j.IsList l items:=by obtain ⟨o,a,b⟩:=sl;exact ⟨o,(h.2 l (D2 nil')).trans a,b⟩
    have H:=z9c (prog:=prog) (w:=w) (λ o e=>(h.2 S nsi).trans e) dd;rw [A1] at hz;refine o0 (Z1 (show W0 _ _ (setAdd S (.str m tk)) _ _ _ from ?_));unfold setAdd;have t:(X4 prog w).is m (.str m tk)=true:=PySem.strKind_is prog w m tk;refine Z1 (o0 ((X4 prog w).pyHash (k:=m) t ?_));refine wpAny_setAddHashed_of (s:={ s with heap:=j,toks:=s.toks + 1 }) t rfl H (V0 (by omega) hz) λ f g d=>?_;refine G0 ⟨zc6 _,?_⟩;have x:U7 (X4 prog w) f S (λ k=>decide (k∈addT ns m)) (addT ns m).length:=by
     rw [zal];have a:(λ n=>decide (n∈ns) || decide (n=m))=λ k=>decide (k∈addT ns m):=funext λ k=>zim ns m k;rw [a] at d;by_cases z:m∈ns
     ·rw [if_pos z];rw [if_pos (decide_eq_true z)] at d;exact d
     ·rw [if_neg z];rw [if_neg (by rw [decide_eq_false z];decide)] at d;exact d
    have y:f.IsListIter it l (i + 1):=by obtain ⟨o,a,b⟩:=I;exact ⟨o,(g.2 it (D2 nsi)).trans a,b⟩
    have N:f.IsList l items:=by obtain ⟨o,a,b⟩:=B;exact ⟨o,(g.2 l (D2 nsl)).trans a,b⟩
    have O:(addT ns m).length<=ns.length + 1:=by rw [zal];split<;>omega
    refine zeg nsi nsl nil' ms (i + 1) (addT ns m) A R { s with heap:=f,toks:=s.toks + 1 } hh y N (by rw [K];exact al) x (by omega) λ h' D ns' J F E=>q h' D ns' J F λ c o v r e=>E c o v r ((g.2 c v).trans ((h.2 c r).trans e))
theorem z9d {l:Addr} {items:Array Value} {ns:List Str} {Q:Value->B0->Prop} (hh:A.handled=none) (ht:s.heap.IsList l items) (hi:StrsAre items.toList ns) (hb:ns.length < scanBound)
  (h :∀h' tk ns',U7 (X4 prog w) h' s.heap.objs.size (λ k=>decide (k∈ns')) ns'.length->ns'=ns.foldl addT []->(∀b o,s.heap.get? b=some o->h'.get? b=some o)->Q (.ref s.heap.objs.size) { s with heap:=h',toks:=tk }) :
  W0 (N1 prog w) A (call (.type "set") [.ref l]) Q E s:=by
 obtain ⟨c,Z,X⟩:=F.called_set.mro;have R:=F.called_set.made;have O:=F.called_set.sub;refine j3c (codeAny_of_tree (show W0 _ _ (callAny (.type "set") _) _ _ _ from G0 ⟨Code.quiet_builtin _ (by decide +kernel),F3 F.entry_type_call ?_⟩));rw [j4f (weight_type_call_type "set" [.ref l] []) rfl];have N:=F.called_set.notType;have h2:=F.called_set.canCreate;have U:=F.typeCall_set_1 (.ref l)
 (repeat (any_goals (first|assumption|wp_step)));refine A6 (zi8 (.ref l) (E:=E) (Q₁:=λ p q=>p=.ref s.heap.objs.size/\q={ s with heap:=s.heap.push (set0 w) }) ⟨rfl,rfl⟩) λ r q a=>?_
 cases r with
 | error e=>exact a
 | ok fl=>
  cases fl with
  | next=>exact a.elim
  | brk=>exact a.elim
  | cont=>exact a.elim
  | ret p=>
   obtain ⟨rfl,rfl⟩:=a;have i:(s.heap.push (set0 w)).get? s.heap.objs.size=some (set0 w):=D1 _ rfl;have H:V6 { s with heap:=s.heap.push (set0 w) } (.ref s.heap.objs.size) "set":=⟨_,i,rfl⟩
   have M:=F.called_set.init.lookup;have W:=F.called_set.init.bind (.ref s.heap.objs.size)
   (repeat (any_goals (first|assumption|wp_step)))
   have x:B5 (N1 prog w) A.in1 (.call (.builtin "set.__init__") ⟨[.ref s.heap.objs.size,.ref l],[]⟩) (wants (λ r t=>r=.none/\Q (.ref s.heap.objs.size) t) E) { s with heap:=s.heap.push (set0 w) }:=by
    refine X9 F.called_set.init.plain F.entry_set_init (check_set_init_1 H ?_);obtain ⟨o,f,m,n,u⟩:=ht;obtain ⟨V,J,Y,K⟩:=o;dsimp only at m u;subst m u;have C:(s.heap.push (set0 w)).get? l=some { cls:=.type "list",dict:=J,data:=.seq items n,slots:=K }:=I0 _ f;have a0:=z9t;have P:=z76;have L:(D3 "list" == D3 "dict")=false:=by decide
    have T:(s.heap.push (set0 w)).get? s.heap.objs.size=some { cls:=.type "set",dict:=none,data:=.set #[] 0 (.fresh 0 0 (!w.params.followText "set-order")),slots:=#[] }:=i;have B:(s.heap.push (set0 w)).IsList l items:=⟨_,C,rfl,n,rfl⟩
    have j:l < s.heap.objs.size:=S0 f;unfold D9.«set.__init__» noKeywords U8;generalize hPI:pyIter=PI
    wp_walk
    subst hPI;refine Z4 B (o0 (wpAny_runValue ?_));have v :∀b o,s.heap.get? b=some o->((s.heap.push (set0 w)).push { cls:=.type "list_iterator",data:=.fields #[.ref l,.int 0 0] }).get? b=some o:=λ b o e=>I0 _ (I0 _ e);have g:(s.heap.push (set0 w)).objs.size=s.heap.objs.size + 1:=L6 _ _;refine zeg (S:=s.heap.objs.size) (it:=(s.heap.push (set0 w)).objs.size) (l:=l) (items:=items) (by rw [g];exact B1 (C3 _)) (Y3 j) (by rw [g];exact Y3 (K2 j)) ns 0 [] _ _ _ (by simp [hh]) ⟨_,D1 _ rfl,rfl,rfl⟩ ⟨_,v _ _ f,rfl,n,rfl⟩ (by rw [J6];exact hi) (ziq (I0 _ i)) (by simpa using hb) λ h' tk ns' D I G=>?_;refine G0 (G0 ⟨rfl,h h' tk ns' D I λ b o e=>G b o (B1 (S0 e)) (by rw [g];exact B1 (K2 (S0 e))) (v b o e)⟩)
   refine A6 x λ y t d=>?_;cases y with
   | error e=>exact d
   | ok f2=>
    cases f2 with
    | next=>exact d.elim
    | brk=>exact d.elim
    | cont=>exact d.elim
    | ret r=>obtain ⟨rfl,z⟩:=d;exact G0 (G0 z)
end
section
variable {X:Cx}
def tLSetS (K:j0) (te:TE):TE:=λ σ H Q=>te σ H λ x H1=>∃(a:Addr) (ns:List Str),x=.ref a/\SqL K H1 a (ns.map V.str)/\ns.length < 100/\Q (.int ((ns.foldl addT []).length:Nat)) H1
theorem z57 :∀(vs ns:List Str),(vs.foldl addT ns).length<=ns.length + vs.length
 | [],ns=>J0 _
 | v :: vs,ns=>by
  have b:=z57 vs (addT ns v);have a:(addT ns v).length<=ns.length + 1:=by rw [zal];split<;>omega
  show (vs.foldl addT (addT ns v)).length<=_;rw [A1];omega
theorem z8v :∀{ns:List Str} {us:List Value},Vals (ns.map V.str) us->StrsAre us ns
 | [],_,.nil=>.nil
 | n :: ns,_,.cons a r=>by obtain ⟨t,rfl⟩:=a;exact .cons n t (z8v r)
theorem zep {e:Expr} {te:TE} {p1 p2 c1 c2:Pos} (hcalm:X.calm=true) (g1:Gl X "len") (m1:X.mg "len" = none) (g2:Gl X "set") (m2:X.mg "set" = none) (b1:b5 "len" = some (.builtin "len")) (b2:b5 "set" = some (.type "set")) (ha:PE X e te)
  (he:L1 [e] X.env=[(false,R3 e X.env)]:=by rfl):PE X (.Call (.Name "len" p1) [.Call (.Name "set" p2) [e] [] c2] [] c1) (tLSetS X.K te):=by
 intro p s σ H Q I h;have k:X.A.handled=none:=I.ok.hd hcalm;refine C4 (ld_blt I g1 m1 b1 ?_ (by decide) (by decide));refine B6 ?_ rfl rfl;refine (show W0 _ _ (j38 ((false,R3 (.Call (.Name "set" p2) [e] [] c2) X.env) :: [])) _ _ s from Q4 ?_);refine C4 (ld_blt I g2 m2 b2 ?_ (by decide) (by decide));refine B4 ?_ he rfl;rw [he];refine (show W0 _ _ (j38 ((false,R3 e X.env) :: [])) _ _ s from Q4 (thn (ha p s σ H _ I h) λ u f ⟨x,H1,I1,r1,a,ns,ex,sq,hl,q⟩=>?_));subst ex;cases r1;refine M5 ?_;obtain ⟨y,c,d,C⟩:=I1.list sq;refine z9d k d.isList (by simpa using z8v c) (Q7 hl (by decide)) λ w b D v i n=>M5 ?_;subst i;obtain ⟨o,F,E,t,j,g,l,_,_,z,r,m⟩:=v;have B:(ns.foldl addT []).length < 100:=by have:=z57 ns [];rw [Z3,O4] at this;omega
 refine call_len_set (s:={ f with heap:=w,toks:=b }) j g l r (by omega) ?_;rw [m];exact ⟨.int ((ns.foldl addT []).length:Nat),H1,(I1.kept (t':=b + 1 + 1) n),⟨_,rfl⟩,q⟩
end
def Itc (x:Str):It:=⟨λ i _=>i < x.cps.size,λ i H v H'=>H'=H/\∃c,x.cps[i]? = some c/\v=.str ⟨#[c]⟩,λ i _=>x.cps.size<=i⟩
theorem zii {P:Program} {w:C1} {K:j0} {tg:Expr} {x:Str} {it:Addr} {t:Tok}:Turn P w K tg (Itc x) [it] it (λ i h=>h.IsStrIter it "str_ascii_iterator" x t i) where
 mem:=by simp
 obj:=λ i h a b f=>by
  obtain rfl:b=it:=by simpa using f
  obtain ⟨o,e,c,d⟩:=a;exact ⟨o,e,λ v z=>by rw [d] at z;cases z⟩
 keep:=λ i h g a k=>by obtain ⟨o,e,r⟩:=a;exact ⟨o,k it (by simp) o e,r⟩
 item:=by intro X p A l C i G s σ H E I j a m;subst p A l;obtain ⟨y,B,L,u,n,q⟩:=j it (by simp);have F:x.cps[i]? = some x.cps[i]:=j1i m;refine wpAny_pyNext_ascii_item a F λ g D J=>?_;have N:Inv X G σ H { s with heap:=g,toks:=s.toks + 1 }:=I.turned (t':=s.toks + 1) (λ b o f e=>(J.2 b f).trans e) y B u n q;obtain ⟨o,e,c,d⟩:=id D;exact ⟨_,rfl,go_of (s:={ s with heap:=g,toks:=s.toks + 1 }) e c d (by decide) ⟨.str ⟨#[x.cps[i]]⟩,H,N,⟨_,rfl⟩,⟨rfl,_,F,rfl⟩,D,λ b f=>(j b f).1⟩⟩
 done:=by intro X p A l C i G s σ H E I j a m;subst p A l;obtain ⟨y,B,L,u,n,q⟩:=j it (by simp);exact wpAny_pyNext_ascii_end (I.ok.hd C) a (J4 m) λ g M=>⟨rfl,I.turned (t':=s.toks) (λ b o f e=>M b o f e) y B u n q⟩
 self:=λ _ _ _ _ _ a h=>wpAny_pyIter_striter_ascii a h
def iStr (tl:TE):TI:=λ σ H R=>tl σ H λ v H1=>∃x:Str,v=.str x/\x.cps.all (· < 128)=true/\R (Itc x) H1
theorem pi_str {X:Cx} {tg l:Expr} {tl:TE} (hl:PE X l tl):PI X tg l (iStr tl):=by
 intro d s σ H R I h;refine thn (hl d s σ H _ I h) λ v a ⟨y,H1,I1,r1,x,e,ha,q⟩=>?_;subst e;obtain ⟨t,rfl⟩:=r1;refine wpAny_pyIter_ascii ha ?_;refine ⟨a.heap.objs.size,[a.heap.objs.size],_,_,H1,rfl,I1.kept (t':=a.toks) λ b o e=>I0 _ e,zii,⟨_,D1 _ rfl,rfl,rfl⟩,λ b c=>?_,q⟩;obtain rfl:b=a.heap.objs.size:=by simpa using c
 exact I1.fpOk (J0 _) (I1.hok.fresh (J0 _))
theorem zhg {x:Str} {H1:Hp}:RunsR Same (Itc x) H1 x.cps.size (λ i v _=>∃c,x.cps[i]? = some c/\v=.str ⟨#[c]⟩):=
 ⟨λ i a H s=>a,λ H s=>J0 _,λ i a H v b s y=>by obtain ⟨e,y⟩:=y;subst e;exact ⟨Same.refl _,y⟩⟩
theorem tcompS {x:Str} {tl te:TE} {tc:TT} {g:TG} {m:Nat} {fr:List (Nat×Str)} {σ:L2.St} {H H1:Hp} {Q:VK} (p:Nat->Bool) (R:Nat->V->Hp->Prop) (hR :∀i y H H',Same H H'->R i y H->R i y H') (htl :∀R:VK,R (.str x) H1->tl σ H R) (ha:x.cps.all (· < 128)=true) (hn:x.cps.size<=sizeLine)
  (body :∀i,i < x.cps.size->∀v H,Same H1 H->(∃c,x.cps[i]? = some c/\v=.str ⟨#[c]⟩)->∀(KT:VK) (KF:Hp->Prop),(p i=true->∀y H',Same H H'->R i y H'->KT y H')->(p i=false->∀H',Same H H'->KF H')->
   g v (cStG σ fr (P0 m none)) H λ σ6 H6=>∃us,us.length=m/\σ6=cStG σ fr us/\tc (cStG σ fr us) H6 λ b H2=>if b=true then te (cStG σ fr us) H2 KT else KF H2)
  (hQ :∀l H' ys,Same H1 H'->H' l=none->All2 (λ i y=>R i y H') ((U0 x.cps.size).filter p) ys->Q (.ref l) (upd H' l (.lst ys))):tCompG (iStr tl) m fr g tc te σ H Q:=
 htl _ ⟨x,rfl,ha,z35 (Same.refl _) (λ _ _ _ a b=>a.trans b) p R hR zhg hn body hQ⟩
theorem zjt {K:j0} {te:TE} {σ:L2.St} {H:Hp} {Q:VK} (h:te σ H λ x H1=>∃(a:Addr) (ns:List Str),x=.ref a/\SqL K H1 a (ns.map V.str)/\ns.length < 100/\Q (.int ((ns.foldl addT []).length:Nat)) H1):tLSetS K te σ H Q:=h
theorem tB_not {te:TE} {σ:L2.St} {H:Hp} {Q:Bool->Hp->Prop} (h:te σ H λ x H1=>∃c,x=.bl c/\Q (!c) H1):tNot (tB te) σ H Q:=h
end L2
set_option maxHeartbeats 400000
namespace L2
open PySem PySem.Spec PyProof.Rows
end L2
set_option maxHeartbeats 1000000
namespace L2
open PySem PySem.Spec PyProof.Rows
section
variable {X:Cx}
def rNeL0 (K:j0):R2:=λ x y H Q=>∃a b xs,x=.ref a/\y=.ref b/\SqL K H a xs/\SqL K H b []/\Q (.bl (decide (xs≠[]))) H
theorem zl2 {k:Nat} (hr:Room k X.A):OpR X (X2 .NotEq) (rNeL0 X.K):=by
 intro C s σ H x y v u Q I i n h;obtain ⟨a,b,p,rfl,rfl,o,l,q⟩:=h;cases i;cases n;obtain ⟨B,d,g,_⟩:=I.list o;obtain ⟨t,rb,c,_⟩:=I.list l;cases rb;have f:X.A.units < cLine:=Nat.lt_of_succ_lt (hu_of hr);have r:=d.length;cases p with
 | nil=>cases d;exact SeqAt.RcNeAt.lists (e:=λ _=>true) g.isList c.isList rfl f (λ j m _=>absurd m (j1c _)) X.prog X.w _ _ ⟨.bl _,H,I,rfl,q⟩
 | cons z zs=>refine SeqAt.RcNeAt.lists_lengths g.isList c.isList ?_ f X.prog X.w _ _ ⟨.bl _,H,I,rfl,q⟩;rw [X0,<-r];rfl
end
structure ZLAt (h:Heap) (z T U i j a b:Addr) (n:Nat) (f:Value):Prop where
 z:IsZip h z T U f
 t:IsPair h T (.ref i) (.ref j)
 u :∃p q,IsPair h U p q
 i:h.IsListIter i a n
 j:h.IsListIter j b n
def jl (c:Nat):List (List Nat)->List Nat
 | []=>[]
 | [a]=>a
 | a :: b :: r=>a++c :: jl c (b :: r)
end L2
namespace L2
open PySem PySem.Spec PyProof.Rows PySem.NumText
end L2
namespace L2
open PySem PySem.Spec PyProof.Rows
def TupN (h:Heap) (v:Value) (x:(Int×Int)×Int):Prop:=∃(p:Addr) (o:Obj) (n:Nat) (q:Value) (u:Tok),v=.ref p/\h.get? p=some o/\o.cls=.type "tuple"/\o.data=.seq #[q,.int x.2 u] n/\TupI h q x.1
def gtN (x y:(Int×Int)×Int):Bool:=if x.1=y.1 then decide (y.2 < x.2) else gtI x.1 y.1
theorem gtN_iff {x y:(Int×Int)×Int}:gtN x y=true↔gtI x.1 y.1=true\/(x.1=y.1/\y.2 < x.2):=by
 unfold gtN;by_cases e:x.1=y.1
 ·rw [if_pos e,decide_eq_true_iff,e];constructor
  ·exact λ h=>.inr ⟨rfl,h⟩
  ·rintro (h|h)
   ·have:=gtI_iff.mp h;omega
   ·exact h.2
 ·rw [if_neg e];exact ⟨.inl,λ h=>h.elim id λ z=>absurd z.1 e⟩
theorem zk0 {x y:Int×Int} (h1:gtI x y=false) (h2:gtI y x=false):x=y:=by
 have h1:¬ _:=λ z=>Bool.eq_false_iff.mp h1 (gtI_iff.mpr z);have h2:¬ _:=λ z=>Bool.eq_false_iff.mp h2 (gtI_iff.mpr z);obtain ⟨a,b⟩:=x;obtain ⟨c,d⟩:=y;simp only at h1 h2;have e:a=c:=by omega
 have f:b=d:=by omega
 rw [e,f]
theorem zjv {x y:(Int×Int)×Int} (h1:gtN x y=false) (h2:gtN y x=false):x=y:=by
 have h1:¬ _:=λ z=>Bool.eq_false_iff.mp h1 (gtN_iff.mpr z);have h2:¬ _:=λ z=>Bool.eq_false_iff.mp h2 (gtN_iff.mpr z);have e:x.1=y.1:=zk0 (Bool.eq_false_iff.mpr λ z=>h1 (.inl z)) (Bool.eq_false_iff.mpr λ z=>h2 (.inl z));have a:x.2=y.2:=by have c:¬ y.2 < x.2:=λ z=>h1 (.inr ⟨e,z⟩);have b:¬ x.2 < y.2:=λ z=>h2 (.inr ⟨e.symm,z⟩);omega
 exact j1h e a
theorem gtN_tr {x y z:(Int×Int)×Int} (h:gtN x y=false) (k:gtN y z=false):gtN x z=false:=by have h:¬ _:=λ q=>Bool.eq_false_iff.mp h (gtN_iff.mpr q);have k:¬ _:=λ q=>Bool.eq_false_iff.mp k (gtN_iff.mpr q);refine Bool.eq_false_iff.mpr λ q=>?_;obtain ⟨⟨b,c⟩,i⟩:=x;obtain ⟨⟨e,f⟩,a⟩:=y;obtain ⟨⟨d,j⟩,g⟩:=z;have q:=gtN_iff.mp q;rw [gtI_iff,o9] at h k q;simp only at h k q;omega
theorem TupI.kept2 {h h':Heap} {v:Value} {x:Int×Int} (q:TupI h v x) (k :∀b o,h.get? b=some o->o.cls=.type "tuple"->h'.get? b=some o):TupI h' v x:=by obtain ⟨p,o,n,t,u,rfl,d,a,c⟩:=q;exact ⟨p,o,n,t,u,rfl,k p o d a,a,c⟩
theorem TupN.kept {h h':Heap} {v:Value} {x:(Int×Int)×Int} {c:Addr} {oc:Obj} (q:TupN h v x) (e:h.get? c=some oc) (nc:oc.cls≠.type "tuple") (k :∀b o,b≠c->h.get? b=some o->h'.get? b=some o):TupN h' v x:=by obtain ⟨p,o,n,q,u,rfl,a,d,f,g⟩:=q;exact ⟨p,o,n,q,u,rfl,k p o (λ z=>by rw [z,e] at a;cases a;exact nc d) a,d,f,g.kept e nc k⟩
section
variable {prog:Program} {w:C1} {A:O2} {E:Value->B0->Prop} {s:B0}
theorem zkh {v z:Value} {x y:Int×Int} {Q:Bool->B0->Prop} (hx:TupI s.heap v x) (hy:TupI s.heap z y) (hu:A.units + 1 < cLine) (h:Q (decide (x=y)) s):W0 (N1 prog w) A (eqBool v z) Q E s:=by
 obtain ⟨p,o,n,t,u,rfl,f,c,a⟩:=hx;obtain ⟨d,m,k,q,l,rfl,i,b,g⟩:=hy;have j:Reads s.heap (.ref p) (.tuple [.int x.1,.int x.2]) _:=.tuple f c a (.cons (.int _ _) (.cons (.int _ _) .nil));have rb:Reads s.heap (.ref d) (.tuple [.int y.1,.int y.2]) _:=.tuple i b g (.cons (.int _ _) (.cons (.int _ _) .nil));have e:PyData.eqv (.tuple [.int x.1,.int x.2]) (.tuple [.int y.1,.int y.2])=decide (x=y):=by show ((x.1 == y.1) && ((x.2 == y.2) && true))=_;rw [Bool.eq_iff_iff];simp [Prod.ext_iff]
 exact SeqAt.eqAt_reads _ _ A s _ _ _ _ j rb rfl rfl (V0 (Nat.add_le_add_left (Nat.min_le_left _ _) _) hu) prog w E Q (by rw [e];exact h)
theorem zk7 {v z:Value} {x y:(Int×Int)×Int} {Q:Value->B0->Prop} (hx:TupN s.heap v x) (hy:TupN s.heap z y) (hu:A.units + 3 < cLine) (h:Q (.bool (gtN x y)) s):W0 (N1 prog w) A (G8 .Gt v z) Q E s:=by
 obtain ⟨p,o,n,q,u,rfl,d,g,t,f⟩:=hx;obtain ⟨m,k,C,G,D,rfl,c,l,r,e⟩:=hy;refine j36 (op:=.Gt) (T:="tuple") ⟨o,d,g⟩ ⟨k,c,l⟩ r9 (Z8 r9 ⟨o,d,g⟩ F.entry_tuple_gt ?_ (F.args_tuple_gt_2 _ _)) (by omega);refine (show W0 _ _ (j3f (.ref m) (.type "tuple") >>= _) _ _ s from o0 (z6 (T:="tuple") ⟨k,c,l⟩ isSubtype_tuple_tuple ?_));simp only [J5,U2,if_false];refine o0 (p8 d t (o0 (p8 c r (o0 ?_))));simp only [U9,List.zip_nil_left,A7,T7];refine o0 (o0 (zkh f e (show A.units + 1 + 1 < cLine by omega) ?_));have B :∀{i j:Int} {a b:Tok} {R:Value->B0->Prop},R (.bool (decide (j < i))) s->W0 (N1 prog w) A.in1 (G8 .Gt (.int i a) (.int j b)) R E s:=λ q=>(show W0 _ _ (X2 .Gt _ _) _ _ _ from gt_int q)
 unfold gtN at h;by_cases e1:x.1=y.1
 ·rw [decide_eq_true e1];simp only [J5,U2,if_false];refine G0 (o0 (o0 ((a5 prog w).eqBool (a:=x.2) (b:=y.2) (Q6 prog w _ _) (Q6 prog w _ _) ?_)));rw [if_pos e1] at h;by_cases e2:x.2=y.2
  ·rw [decide_eq_true e2];simp only [J5,U2,if_false];rw [decide_eq_false (by omega)] at h;exact G0 (G0 (G0 ⟨_,rfl,(λ z=>nomatch z),h⟩))
  ·rw [decide_eq_false e2];simp only [u9,if_true];exact o0 (C7 (o0 (B (o0 (G0 (G0 (G0 (G0 ⟨_,rfl,(λ z=>nomatch z),h⟩))))))))
 ·rw [decide_eq_false e1];simp only [u9,if_true];rw [if_neg e1] at h;exact o0 (C7 (o0 (tup_gt f e (show A.units + 1 < cLine by omega) (o0 (G0 (G0 (G0 (G0 ⟨_,rfl,(λ z=>nomatch z),h⟩))))))))
def bestN (m:Value×((Int×Int)×Int)):List (Value×((Int×Int)×Int))->Value×((Int×Int)×Int)
 | []=>m
 | x :: r=>bestN (if gtN x.2 m.2=true then x else m) r
theorem z8i {I l S:Addr} {its:Array Value} (nl:l≠I) (ns:S≠I) (nsl:l≠S) :∀(xs:List (Value×((Int×Int)×Int))) (k c:Nat) (m:Value×((Int×Int)×Int)) (A:O2) (R:j20->B0->Prop) (s:B0),A.handled=none->A.units + 9 < cLine->s.heap.IsListIter I l k->s.heap.IsList l its->its.toList.drop k=xs.map (·.1)->
  s.heap.get? S=some { cls:=.type "list",dict:=none,data:=.seq #[m.1,m.1] c,slots:=#[] }->TupN s.heap m.1 m.2->(∀x∈xs,TupN s.heap x.1 x.2)->
  (∀h' tk,(∀b o,b≠I->b≠S->s.heap.get? b=some o->h'.get? b=some o)->R (.ok (.ret (bestN m xs).1)) { s with heap:=h',toks:=tk })->
  B5 (N1 prog w) A (.builtin "max.loop" ⟨[.ref I,.none,.ref S],[]⟩) R s
 | [],k,c,m,A,R,s,hh,hu,hI,hl,hd,hS,hm,hx,q=>by
  have L:its[k]? = none:=by have:=List.drop_eq_nil_iff.mp hd;rw [N2] at this;exact J4 this
  refine F3 j1d ?_;rw [Y8 A5 _];refine (show W0 _ A.in1 (seqItems? (.ref S) >>= _) _ _ s from o0 (W9 hS rfl ?_));refine (show W0 _ A.in1 (tryCatch (D7 (.ref I)) _ >>= _) _ _ s from o0 (a7 (V4 (show A.in1.handled=none from hh) hI hl L λ h' f=>?_)));have d:=f S _ ns hS;refine (show W0 _ A.in1 (updateSeq S (λ _=>#[]) >>= _) _ _ _ from o0 (j2j d rfl (o0 (j2b (G0 ?_)))));exact q _ _ λ b o a g e=>(L4 _ _ (D2 g)).trans (f b o a e)
 | x :: xs,k,c,m,A,R,s,hh,hu,hI,hl,hd,hS,hm,hx,q=>by
  have t:its.toList[k]? = some x.1:=by have:=congrArg (λ z=>z[0]?) hd;simpa using this
  have t:its[k]? = some x.1:=by simpa using t
  have F:its.toList.drop (k + 1)=xs.map (·.1):=by have:=congrArg j0g hd;simpa using this
  have v:(toString "max"++toString ".loop" : String) = "max.loop":=by decide
  obtain ⟨K,E,J,_⟩:=id hI;have D:K.cls≠.type "tuple":=by rw [J];decide
  refine F3 j1d ?_;rw [Y8 A5 _];refine (show W0 _ A.in1 (seqItems? (.ref S) >>= _) _ _ s from o0 (W9 hS rfl ?_));refine (show W0 _ A.in1 (tryCatch (D7 (.ref I)) _ >>= _) _ _ s from o0 (a7 (u4 hI hl t λ h' C H=>?_)));have h :∀b o,b≠I->s.heap.get? b=some o->h'.get? b=some o:=λ b o n e=>(H.2 b n).trans e;have d:=h S _ ns hS;have G:h'.IsList l its:=hl.elim λ o z=>⟨o,h l o nl z.1,z.2⟩
  have B:TupN h' m.1 m.2:=hm.kept E D h;have p :∀y∈x :: xs,TupN h' y.1 y.2:=λ y i=>(hx y i).kept E D h;refine (show W0 _ A.in1 (tryCatch (z9 [x.1,x.1] (G8 .Gt x.1 m.1 >>= _)) _ >>= _) _ _ _ from o0 (a7 (Z1 (o0 (zk7 (s:={ s with heap:=h' }) (p x (.head _)) B (show A.units + 1 + 3 < cLine by omega) (o0 (Z1 (J3 (o0 (j2b (G0 ?_)))))))))));have f:bestN m (x :: xs)=bestN (if gtN x.2 m.2=true then x else m) xs:=rfl;cases hg:gtN x.2 m.2 with
  | true=>rw [hg,if_pos rfl] at f;simp only [if_true];refine o0 (j2j d rfl (o0 (j2b ?_)));rw [v];have j :∀b o,b≠S->h'.get? b=some o->(h'.update S (y4 λ _=>#[x.1,x.1])).get? b=some o:=λ b o n e=>(L4 _ _ (D2 n)).trans e;refine G0 ⟨J7 A5 _,z8i nl ns nsl xs (k + 1) _ x A R { s with heap:=h'.update S (y4 λ _=>#[x.1,x.1]) } hh hu (C.elim λ o z=>⟨o,j I o (D2 ns) z.1,z.2⟩) (G.elim λ o z=>⟨o,j l o nsl z.1,z.2⟩) F (X6 _ d rfl) ((p x (.head _)).kept d (show D3 "list"≠.type "tuple" by decide) j) (λ y i=>(p y (.tail _ i)).kept d (show D3 "list"≠.type "tuple" by decide) j) λ u tk r=>?_⟩;rw [<-f];exact q u tk λ b o a g e=>r b o a g (j b o g (h b o a e))
  | false=>rw [hg,if_neg (by decide)] at f;simp only [U2,if_false];refine o0 (j2b ?_);rw [v];refine G0 ⟨J7 A5 _,z8i nl ns nsl xs (k + 1) c m A R { s with heap:=h' } hh hu C G F d B (λ y i=>p y (.tail _ i)) λ u tk r=>?_⟩;rw [<-f];exact q u tk λ b o a g e=>r b o a g (h b o a e)
theorem zg0 {l:Addr} {its:Array Value} {m:Value×((Int×Int)×Int)} {xs:List (Value×((Int×Int)×Int))} {Q:Value->B0->Prop} (hh:A.handled=none) (hu:A.units + 9 < cLine) (hl:s.heap.IsList l its) (hi:its.toList=(m :: xs).map (·.1)) (ht :∀x∈m :: xs,TupN s.heap x.1 x.2)
  (q :∀h' tk,(∀b o,s.heap.get? b=some o->h'.get? b=some o)->Q (bestN m xs).1 { s with heap:=h',toks:=tk }):W0 (N1 prog w) A (call (.builtin "max") [.ref l]) Q E s:=by
 have D:(toString "max"++toString ".loop" : String) = "max.loop":=by decide
 refine call_function_tree F.kind_max F.plain_max F.entry_max (F.args_max1 _) ?_;refine (show W0 _ A.in1 (j9 "max" ["key","default"] 0 ⟨[],[]⟩ >>= _) _ _ s from o0 (j2a (show j9 "max" ["key","default"] 0 ⟨[],[]⟩=X3 [none,none] from rfl) (o0 (G0 ?_))));refine o0 (Z4 hl ?_);refine o0 (Y5 ?_);rw [D];dsimp only;generalize hI0:s.heap.push { cls:=.type "list_iterator",data:=.fields #[.ref l,.int 0 0] }=h1;have y:h1.get? s.heap.objs.size=some { cls:=.type "list_iterator",data:=.fields #[.ref l,.int 0 0] }:=by rw [<-hI0];exact D1 _ rfl
 have h:h1.objs.size=s.heap.objs.size + 1:=by rw [<-hI0];exact L6 _ _
 have d :∀b o,s.heap.get? b=some o->h1.get? b=some o:=λ b o e=>by rw [<-hI0];exact I0 _ e
 generalize hS0:h1.push { cls:=.type "list",data:=.seq #[] }=h2;have j:h2.get? h1.objs.size=some { cls:=.type "list",data:=.seq #[] }:=by rw [<-hS0];exact D1 _ rfl
 have a :∀b o,h1.get? b=some o->h2.get? b=some o:=λ b o e=>by rw [<-hS0];exact I0 _ e
 have k:l < s.heap.objs.size:=hl.elim λ o z=>S0 z.1;generalize hI:s.heap.objs.size=I at y h k;generalize hSS:h1.objs.size=S at j h;have r:S≠I:=by omega
 have K:l≠I:=B1 k;have H:l≠S:=B1 (by rw [h];exact K2 k);have V :∀x∈m :: xs,TupN h2 x.1 x.2:=λ x f=>by obtain ⟨p,o,n,t,u,e,O,N,U,M⟩:=ht x f;exact ⟨p,o,n,t,u,e,a _ _ (d _ _ O),N,U,M.kept2 λ b o e _=>a _ _ (d _ _ e)⟩
 refine G0 ⟨J7 A5 _,F3 j1d ?_⟩;rw [Y8 A5 _];refine (show W0 _ A.in1 (seqItems? (.ref S) >>= _) _ _ _ from o0 (W9 j rfl ?_));have R:its[0]? = some m.1:=by have:=congrArg (λ z=>z[0]?) hi;simpa using this
 refine (show W0 _ A.in1 (tryCatch (D7 (.ref I)) _ >>= _) _ _ _ from o0 (a7 (u4 (l:=l) ⟨_,a _ _ y,rfl,rfl⟩ (hl.elim λ o z=>⟨o,a _ _ (d _ _ z.1),z.2⟩) R λ c T L=>?_)));have g :∀b o,b≠I->h2.get? b=some o->c.get? b=some o:=λ b o n e=>(L.2 b n).trans e;have v:=g S _ r j;refine (show W0 _ A.in1 (updateSeq S (λ _=>#[m.1,m.1]) >>= _) _ _ _ from o0 (j2j v rfl ?_));rw [D];have i :∀b o,b≠S->c.get? b=some o->(c.update S (y4 λ _=>#[m.1,m.1])).get? b=some o:=λ b o n e=>(L4 _ _ (D2 n)).trans e;have J :∀x∈m :: xs,TupN (c.update S (y4 λ _=>#[m.1,m.1])) x.1 x.2:=λ x f=>((V x f).kept (a _ _ y) (show D3 "list_iterator"≠.type "tuple" by decide) g).kept v (show D3 "list"≠.type "tuple" by decide) i;refine G0 ⟨J7 A5 _,z8i K r H xs 1 _ m A _ { s with heap:=c.update S (y4 λ _=>#[m.1,m.1]) } hh hu (T.elim λ o z=>⟨o,i I o (D2 r) z.1,z.2⟩) (hl.elim λ o z=>⟨o,i l o H (g _ _ K (a _ _ (d _ _ z.1))),z.2⟩) ?_ (X6 _ v rfl) (J m (.head _)) (λ x f=>J x (.tail _ f)) λ h' tk P=>?_⟩
 ·rw [hi];rfl
 ·refine q h' tk λ b o e=>?_;have G:b < I:=by rw [<-hI];exact S0 e
  have C:b≠I:=B1 G;have B:b≠S:=B1 (by rw [h];exact K2 G);exact P b o C B (i _ _ B (g _ _ C (a _ _ (d _ _ e))))
end
section
variable {X:Cx}
theorem zi9 (x:(Int×Int)×Int):gtN x x=false:=Bool.eq_false_iff.mpr λ z=>by
 rcases gtN_iff.mp z with z|z
 ·have:=gtI_iff.mp z;omega
 ·omega
theorem zhs {x y:(Int×Int)×Int} (h:gtN x y=true):gtN y x=false:=Bool.eq_false_iff.mpr λ z=>by obtain ⟨⟨b,c⟩,f⟩:=x;obtain ⟨⟨d,e⟩,a⟩:=y;have h:=gtN_iff.mp h;have z:=gtN_iff.mp z;rw [gtI_iff,o9] at h z;simp only at h z;omega
theorem zac :∀(xs:List (Value×((Int×Int)×Int))) (m:Value×((Int×Int)×Int)),bestN m xs∈m :: xs/\∀x∈m :: xs,gtN x.2 (bestN m xs).2=false
 | [],m=>⟨.head _,λ x a=>by rw [List.mem_singleton.mp a];exact zi9 _⟩
 | y :: xs,m=>by
  show bestN (if gtN y.2 m.2=true then y else m) xs∈m :: y :: xs/\∀x∈m :: y :: xs,gtN x.2 (bestN (if gtN y.2 m.2=true then y else m) xs).2=false;by_cases z:gtN y.2 m.2=true
  ·rw [if_pos z];obtain ⟨c,b⟩:=zac xs y;refine ⟨.tail _ c,λ x a=>?_⟩;rcases List.mem_cons.mp a with e|a
   ·rw [e];exact gtN_tr (zhs z) (b y (.head _))
   ·exact b x a
  ·rw [if_neg z];obtain ⟨c,b⟩:=zac xs m;refine ⟨?_,λ x a=>?_⟩
   ·rcases List.mem_cons.mp c with e|e
    ·rw [e];exact .head _
    ·exact .tail _ (.tail _ e)
   ·rcases List.mem_cons.mp a with e|a
    ·rw [e];exact b m (.head _)
    ·rcases List.mem_cons.mp a with e|a
     ·rw [e];exact gtN_tr (Bool.eq_false_iff.mpr z) (b m (.head _))
     ·exact b x (.tail _ a)
theorem zfq {pins:List (Addr×Obj)} {σ:St} {H:Hp} {s:B0} (I:Inv X pins σ H s) {q:Addr} {i j:Int} (st:SqT X.K H q [.int i,.int j]):TupI s.heap (.ref q) (i,j):=by obtain ⟨m,f,⟨o,h,d,n,a⟩,_⟩:=I.tuple st;obtain ⟨k,l,rfl,b,e⟩:=vals2 f;obtain ⟨c,rfl⟩:=b;obtain ⟨g,rfl⟩:=e;exact ⟨q,o,n,c,g,rfl,h,d,a⟩
def rGtT (K:j0):R2:=λ x y H Q=>∃(p q:Addr) (a b:Int×Int),x=.ref p/\y=.ref q/\SqT K H p [.int a.1,.int a.2]/\SqT K H q [.int b.1,.int b.2]/\Q (.bl (gtI a b)) H
theorem op_gtT {k:Nat} (hr:Room k X.A):OpR X (X2 .Gt) (rGtT X.K):=by intro i s σ H x y v u Q I c e h;obtain ⟨p,q,a,b,rfl,rfl,d,f,g⟩:=h;cases c;cases e;exact (show W0 _ _ (G8 .Gt _ _) _ _ _ from tup_gt (zfq I d) (zfq I f) (by have:=hr.units;omega) ⟨.bl _,H,I,rfl,g⟩)
theorem zbg (hcalm:X.calm=true) {k:Nat} (hr:Room k X.A):CallR X (.builtin "max") (λ xs H Q=>∃(l:Addr) (m:Addr×((Int×Int)×Int)) (r:List (Addr×((Int×Int)×Int))),xs=[.ref l]/\SqL X.K H l ((m :: r).map λ x=>V.ref x.1)/\(∀x∈m :: r,∃q,SqT X.K H x.1 [.ref q,.int x.2.2]/\SqT X.K H q [.int x.2.1.1,.int x.2.1.2])/\
  ∀b,(b∈m :: r)->(∀x∈m :: r,gtN x.2 b.2=false)->Q (.ref b.1) H):=by
 intro a0 s σ H xs g Q I v h;obtain ⟨l,m,r,rfl,O,G,q⟩:=h;obtain ⟨u,rfl,p⟩:=vals1 v;cases p;obtain ⟨j,M,w,W⟩:=I.list O;have U:j.toArray.toList=(((G1 m.1,m.2) :: r.map λ x=>(G1 x.1,x.2)):List (Value×((Int×Int)×Int))).map (·.1):=by
  have go :∀(f:List (Addr×((Int×Int)×Int))) (g:List Value),Vals (f.map λ x=>V.ref x.1) g->g=(f.map λ x=>(G1 x.1,x.2)).map (·.1):=by
   intro f;induction f with
   | nil=>intro g h;cases h;rfl
   | cons y f ih=>
    intro g h;cases h with
    | cons a b=>cases (show _=G1 y.1 from a);rw [W1,W1,<-ih _ b]
  simpa using go (m :: r) j M
 have T :∀x∈(((G1 m.1,m.2) :: r.map λ x=>(G1 x.1,x.2)):List (Value×((Int×Int)×Int))),TupN s.heap x.1 x.2:=λ x c=>by
  obtain ⟨y,d,rfl⟩ :∃y∈m :: r,x=(G1 y.1,y.2):=by
   rcases List.mem_cons.mp c with e|c
   ·exact ⟨m,.head _,e⟩
   ·obtain ⟨y,d,e⟩:=List.mem_map.mp c;exact ⟨y,.tail _ d,e.symm⟩
  obtain ⟨q,C,B⟩:=G y d;obtain ⟨Z,N,⟨o,J,F,n,P⟩,_⟩:=I.tuple C;obtain ⟨L,Y,rfl,E,S⟩:=vals2 N;cases (show L=.ref q from E);obtain ⟨D,rfl⟩:=S;exact ⟨y.1,o,n,.ref q,D,rfl,J,F,P,zfq I B⟩
 refine zg0 (I.ok.hd hcalm) (by have:=hr.units;omega) w.isList U T λ h' z k=>?_;obtain ⟨R,i⟩:=zac (r.map λ x=>(G1 x.1,x.2)) (G1 m.1,m.2);obtain ⟨y,d,t⟩ :∃y∈m :: r,bestN (G1 m.1,m.2) (r.map λ x=>(G1 x.1,x.2))=(G1 y.1,y.2):=by
  rcases List.mem_cons.mp R with e|c
  ·exact ⟨m,.head _,e⟩
  ·obtain ⟨y,d,e⟩:=List.mem_map.mp c;exact ⟨y,.tail _ d,e.symm⟩
 rw [t] at i⊢;refine ⟨.ref y.1,H,I.kept (t':=z) k,rfl,q y d λ x c=>?_⟩;rcases List.mem_cons.mp c with e|c
 ·rw [e];exact i _ (.head _)
 ·exact i (G1 x.1,x.2) (.tail _ (List.mem_map.mpr ⟨x,c,rfl⟩))
end
end L2
open PySem PySem.W PyProof.Rows
set_option maxHeartbeats 4000000
namespace TJ
section
variable (p:Program) (w:C1) (n₀:Nat) (ann:Option Value) (code:Code) (q:Pos)
theorem zgn {n m:Nat} :∀{s s' s'':B0} {t t' t'':j40},segGo S3 p w n₀ ann 1 n s t=some (s',t')->segGo S3 p w n₀ ann 1 m s' t'=some (s'',t'')->
  segGo S3 p w n₀ ann 1 (n + m) s t=some (s'',t''):=by
 induction n with
 | zero=>
  intro s s' s'' t t' t'' h k;obtain ⟨rfl,rfl⟩:s=s'/\t=t':=by simpa [segGo] using h
  rw [O4];exact k
 | succ n ih=>
  intro s s' s'' t t' t'' h k;rw [show n + 1 + m=n + m + 1 by omega];unfold segGo at h⊢;cases he:endAt 1 t with
  | some f=>rw [he] at h;cases h
  | none=>
   rw [he] at h;cases hk:stepOk n₀ ann t with
   | false=>rw [hk] at h;cases h
   | true=>
    rw [hk] at h;cases hs:step (denote S3) p w s t with
    | halt o s₂=>rw [hs] at h;cases h
    | go s₂ t₂=>rw [hs] at h;exact ih h k
def Steps (c:Nat) (s:B0) (t:j40) (s':B0) (t':j40):Prop:=∃n,n<=c/\segGo S3 p w n₀ ann 1 n s t=some (s',t')
def Goes {α:Type} (c:Nat) (x:Sem α) (s:B0) (pos:Pos) (a:α) (s':B0) (pos':Pos):Prop:=
 ∀(K:α->Sem Fin) (H:Value->Sem Fin) (gd:Bool->Bool) (lv:List Value->List Value),
  Steps p w n₀ ann c s ⟨x.wrap K H gd lv,code,pos,[topFrame q]⟩ s' ⟨K a,code,pos',[topFrame q]⟩
end
section
variable {p:Program} {w:C1} {n₀:Nat} {ann:Option Value} {code:Code} {q:Pos}
theorem Steps.trans {c d:Nat} {s s' s'':B0} {t t' t'':j40} (h:Steps p w n₀ ann c s t s' t') (k:Steps p w n₀ ann d s' t' s'' t''):Steps p w n₀ ann (c + d) s t s'' t'':=by obtain ⟨n,b,h⟩:=h;obtain ⟨m,a,k⟩:=k;exact ⟨n + m,by omega,zgn p w n₀ ann h k⟩
theorem Steps.refl {s:B0} {t:j40}:Steps p w n₀ ann 0 s t s t:=⟨0,J0 _,rfl⟩
theorem Steps.le {c d:Nat} {s s':B0} {t t':j40} (h:Steps p w n₀ ann c s t s' t') (l:c<=d):Steps p w n₀ ann d s t s' t':=let ⟨n,a,b⟩:=h;⟨n,O0 a l,b⟩
theorem Steps.one {s s':B0} {t t':j40} (he:endAt 1 t=none) (hk:stepOk n₀ ann t=true) (hs:step (denote S3) p w s t=.go s' t'):Steps p w n₀ ann 1 s t s' t':=by refine ⟨1,J0 _,?_⟩;unfold segGo;rw [he,hk,hs];rfl
variable {α β:Type} {s s' s'':B0} {pos pos' pos'':Pos} {a:α} {b:β} {c d:Nat}
theorem Goes.pure:Goes p w n₀ ann code q 0 (j34 a:Sem α) s pos a s pos:=λ _ _ _ _=>.refl
theorem Goes.le {x:Sem α} (h:Goes p w n₀ ann code q c x s pos a s' pos') (l:c<=d):Goes p w n₀ ann code q d x s pos a s' pos':=λ K H b e=>(h K H b e).le l
theorem Goes.bind {x:Sem α} {f:α->Sem β} (h:Goes p w n₀ ann code q c x s pos a s' pos') (k:Goes p w n₀ ann code q d (f a) s' pos' b s'' pos''):Goes p w n₀ ann code q (c + d) (x >>= f) s pos b s'' pos'':=by
 intro K H g i;have e:(x >>= f).wrap K H g i=x.wrap (λ a=>(f a).wrap K H g i) H g i:=by rw [Sem.bind_eq_wrap',Sem.wrap_wrap];rfl
 rw [e];exact (h _ H g i).trans (k K H g i)
theorem Goes.keep {x:Sem α} {vs:List Value} (h:Goes p w n₀ ann code q c x s pos a s' pos'):Goes p w n₀ ann code q c (x.keep vs) s pos a s' pos':=by intro K H b d;rw [Sem.keep_eq_wrap,Sem.wrap_wrap];exact h K H _ _
theorem Goes.holding {x:Sem α} {vs:List Value} (h:Goes p w n₀ ann code q c x s pos a s' pos'):Goes p w n₀ ann code q c (z9 vs x) s pos a s' pos':=by rw [holding_eq_keep];exact h.keep
theorem Goes.rule {tag:String}:Goes p w n₀ ann code q 1 (PySem.rule tag) s pos () s pos:=λ _ _ _ _=>.one rfl rfl rfl
theorem Goes.at' {pos₁:Pos}:Goes p w n₀ ann code q 1 (j37 pos₁) s pos () s pos₁:=λ _ _ _ _=>.one rfl rfl rfl
theorem Goes.loadPart {A:Addr} {o:Obj} {part:Option Value} (ho:s.heap.get? A=some o):Goes p w n₀ ann code q 1 (loadPart A part) s pos o s pos:=λ K H b e=>.one rfl rfl (by obtain ⟨heap,d,c,f,a⟩:=s;show (match heap.get? A with|some o=>Step.go _ _|none=>_)=_;have ho:heap.get? A=some o:=ho;rw [ho];rfl)
theorem Goes.updatePart {A:Addr} {o:Obj} {f:Obj->Obj} {part:Option Value} (ho:s.heap.get? A=some o) (hn:Nat.ble n₀ A=true):Goes p w n₀ ann code q 1 (updatePart A part f) s pos () { s with heap:=s.heap.update A f } pos:=λ K H b e=>
 .one rfl (by
  show (_ && (Nat.ble n₀ A || _ || _ || _))=true;rw [hn];rfl) (by
  obtain ⟨heap,d,c,g,a⟩:=s;have ho:heap.get? A=some o:=ho;show (if (heap.get? A).isSome=true then Step.go _ _ else _)=_;rw [ho];rfl)
theorem Goes.leaf {x:Sem α} {sT sT':SharedT} (n:Nat) (h :∀K H gd lv,segGoT S3 p w n₀ ann 1 n sT ⟨x.wrap K H gd lv,code,pos,[topFrame q]⟩=some (sT',⟨K a,code,pos',[topFrame q]⟩)) :
  Goes p w n₀ ann code q n x sT.abs pos a sT'.abs pos':=λ K H gd lv=>⟨n,J0 _,segGo_of (h K H gd lv)⟩
end
end TJ
open PySem PySem.W PyProof.Rows
namespace TJ
section
variable {p:Program} {w:C1} {n₀:Nat} {ann:Option Value} {code:Code} {q:Pos} {s:B0} {pos:Pos}
theorem Goes.forIn {γ β:Type} {c:Nat} {f:γ->β->Sem (ForInStep β)} {b:β} :∀{l:List γ},(∀x∈l,Goes p w n₀ ann code q c (f x b) s pos (.yield b) s pos)->Goes p w n₀ ann code q (l.length * c) (ForIn.forIn l b f) s pos b s pos
 | [],_=>by rw [T7];exact Goes.pure.le (J2 _)
 | x :: l,h=>by rw [A7];have k:=Goes.forIn (l:=l) λ y a=>h y (Q1 _ a);have e:=Goes.bind (f:=λ r=>match r with | .done b=>(j34 b:Sem β) | .yield b=>ForIn.forIn l b f) (h x V1) k;exact e.le (by rw [A1,Nat.add_mul];omega)
theorem Goes.entries {d:Addr} {o:Obj} {es:Array DictEntry} {ep:Nat} {part:Option Value} (ho:s.heap.get? d=some o) (hd:o.data=.dict es ep):Goes p w n₀ ann code q 1 (dictEntries d part) s pos es s pos:=by unfold dictEntries;refine (Goes.bind (d:=0) (Goes.loadPart ho) ?_);rw [hd];exact Goes.pure
theorem Goes.epoch {d:Addr} {o:Obj} {es:Array DictEntry} {ep:Nat} {part:Option Value} (ho:s.heap.get? d=some o) (hd:o.data=.dict es ep):Goes p w n₀ ann code q 1 (dictEpoch d part) s pos ep s pos:=by unfold dictEpoch;refine (Goes.bind (d:=0) (Goes.loadPart ho) ?_);rw [hd];exact Goes.pure
theorem Goes.mayTell {a:Addr} {stored:List Value} {cq:Nat} (hq:Goes p w n₀ ann code q cq (U6 8 (.ref a)) s pos true s pos) (hs :∀v∈stored,Goes p w n₀ ann code q cq (U6 8 v) s pos true s pos) :
  Goes p w n₀ ann code q (cq + stored.length * cq) (tableMayTell (.ref a) stored) s pos false s pos:=by
 unfold tableMayTell;split
 ·exact Goes.pure.le (J2 _)
 ·refine Goes.bind hq ?_;simp only [J5,U2,if_false];refine (Goes.bind (a:=(none,())) (d:=0) (Goes.forIn λ v b=>?_) ?_).le (J0 _)
  ·refine (Goes.bind (d:=0) (hs v b) ?_).le (J0 _);simp only [J5,U2,if_false];exact Goes.pure
  ·exact Goes.pure
theorem Goes.find_none {d a:Addr} {o:Obj} {es:Array DictEntry} {ep:Nat} {h:Int} {cq ce:Nat} (ho:s.heap.get? d=some o) (hd:o.data=.dict es ep)
  (hq:Goes p w n₀ ann code q cq (U6 8 (.ref a)) s pos true s pos)
  (hk :∀e∈es.toList,∃b,e.key=.ref b/\b≠a/\Goes p w n₀ ann code q cq (U6 8 (.ref b)) s pos true s pos/\Goes p w n₀ ann code q ce (eqBool (.ref b) (.ref a)) s pos false s pos) :
  Goes p w n₀ ann code q (2 + cq + es.size * (cq + ce + 10)) (dictFind d (.ref a) h) s pos none s pos:=by
 have l :∀(i:Nat) (e:DictEntry),es[i]? = some e->e∈es.toList:=λ i e x=>Array.mem_toList_iff.mpr (j3b x);have y:¬ (es.any λ e=>e.key == G1 a && e.hash != h)=true:=by rw [<-Array.any_toList,List.any_eq_true];rintro ⟨e,hin,hc⟩;obtain ⟨b,f,g,_⟩:=hk e hin;simp only [f,P4,beq_iff_eq,Value.ref.injEq] at hc;exact g hc.1
 have m :∀v∈(b7 es.size (λ i=>es[i]?.map (·.hash)) h).filterMap (λ i=>es[i]?.map (·.key)),∃b,v=.ref b/\b≠a/\Goes p w n₀ ann code q cq (U6 8 v) s pos true s pos:=by
  intro v k;obtain ⟨i,_,j⟩:=List.mem_filterMap.mp k;cases hei:es[i]? with
  | none=>rw [hei] at j;cases j
  | some e=>
   rw [hei] at j;obtain rfl:e.key=v:=by simpa using j
   obtain ⟨b,f,g,r,_⟩:=hk e (l i e hei);exact ⟨b,f,g,f ▸ r⟩
 have n:(b7 es.size (λ i=>es[i]?.map (·.hash)) h).length<=es.size:=by unfold b7;exact O0 (L5 _ _) (by rw [T2];exact J0 _)
 have t:((b7 es.size (λ i=>es[i]?.map (·.hash)) h).filterMap (λ i=>es[i]?.map (·.key))).length<=es.size:=O0 (j2h _ _) n;unfold dictFind;refine Goes.holding ?_;refine (Goes.bind (d:=1 + cq + es.size * (cq + ce + 10)) (Goes.entries ho hd) ?_).le (by omega);dsimp only;rw [if_neg (show ¬ ((G1 a :: (b7 es.size (λ i=>es[i]?.map (·.hash)) h).filterMap (λ i=>es[i]?.map (·.key))).all carriedByValue)=true by simp [carriedByValue])];rw [if_neg y];have A:¬ (((b7 es.size (λ i=>es[i]?.map (·.hash)) h).filterMap (λ i=>es[i]?.map (·.key))) == [G1 a])=true:=by intro e;have e:=eq_of_beq e;obtain ⟨b,f,g,_⟩:=m (.ref a) (by rw [e];exact List.mem_singleton.mpr rfl);exact g (by injection f with f;exact f.symm)
 rw [if_neg A];refine (Goes.bind (d:=1 + es.size * (ce + 10)) (Goes.mayTell hq λ v k=>(let ⟨_,_,_,z⟩:=m v k;z)) ?_).le ?_
 ·rw [if_neg (by simp)];refine (Goes.bind (a:=(none,none)) (d:=0) (Goes.forIn (c:=ce + 10) λ i j=>?_) ?_).le ?_
  ·cases hei:es[i]? with
   | none=>exact Goes.pure.le (J2 _)
   | some e=>
    dsimp only;split
    ·obtain ⟨b,f,g,_,u⟩:=hk e (l i e hei);rw [f];refine (Goes.bind (d:=ce + 2) (Goes.epoch ho hd) (Goes.bind (d:=2) u (Goes.bind (d:=1) (Goes.epoch ho hd) ?_))).le (by omega);rw [if_neg (by simp)];rw [if_neg (by simp)];refine Goes.bind (d:=0) Goes.rule ?_;rw [if_neg (by simp)];exact Goes.pure
    ·exact Goes.pure.le (J2 _)
  ·exact Goes.pure
  ·have:=C9 (ce + 10) n;omega
 ·have:=C9 cq t;have B:es.size * (cq + ce + 10)=es.size * cq + es.size * (ce + 10):=by rw [<-Nat.mul_add,Nat.add_assoc]
  rw [B];omega
end
end TJ
open PySem PySem.W PyProof.Rows
namespace TJ
abbrev dObj (es:Array DictEntry) (ep:Nat):Obj:={ cls:=.type "dict",data:=.dict es ep }
abbrev KV3:=Addr×Value×Int
def ent (x:KV3):DictEntry:=⟨x.2.2,.ref x.1,x.2.1⟩
def unh (a:Addr):Sem Value:=do rule "hash.unhashable";raiseError "TypeError" s!"unhashable type: '{← typeNameOf (.ref a)}'"
def zc7 (d:Addr) (vs:List (Value×Value)):Sem PUnit:=forIn vs N9 λ (x:Value×Value) (_:PUnit)=>(do j39 d x.1 x.2;X3 (A4 N9):Sem (ForInStep PUnit))
section
variable {p:Program} {w:C1} {n₀:Nat} {ann:Option Value} {code:Code} {q:Pos} {pos:Pos} {F:Obj->Nat->SharedT} {d:Addr}
structure Fam (n₀:Nat) (d:Addr) (F:Obj->Nat->SharedT):Prop where
 le:Nat.ble n₀ d=true
 get :∀es ep tk,(F (dObj es ep) tk).abs.heap.get? d=some (dObj es ep)
 upd :∀es ep tk (e:DictEntry),({ (F (dObj es ep) tk).abs with heap:=(F (dObj es ep) tk).abs.heap.update d (W8 (·.push e)) }:B0)=(F (dObj (es.push e) (ep + 1)) tk).abs
theorem Goes.updKeys (Z:Fam n₀ d F) {es:Array DictEntry} {ep tk:Nat} {e:DictEntry} {part:Option Value} (hsz:es.size < sizeLine) :
  Goes p w n₀ ann code q 3 (updateDictKeys d (·.push e) part) (F (dObj es ep) tk).abs pos () (F (dObj (es.push e) (ep + 1)) tk).abs pos:=by
 unfold updateDictKeys;refine (Goes.bind (d:=2) (Goes.loadPart (Z.get es ep tk)) ?_);dsimp only;have u:=Goes.updatePart (p:=p) (w:=w) (ann:=ann) (code:=code) (q:=q) (pos:=pos) (part:=part) (f:=W8 (·.push e)) (Z.get es ep tk) Z.le;rw [Z.upd es ep tk e] at u;refine Goes.bind (d:=1) u ?_;unfold lookBehind;refine Goes.bind (d:=0) (Goes.loadPart (Z.get _ _ tk)) ?_;have a:(dObj (es.push e) (ep + 1)).data.pastItsLine=none:=by unfold Data.pastItsLine;dsimp only;rw [if_neg (by rw [Array.size_push];omega)]
 rw [a];exact Goes.pure
theorem Goes.set (Z:Fam n₀ d F) {a:Addr} {v:Value} {es:Array DictEntry} {ep tk k cp cq ce:Nat} {hsh:Int} (hsz:es.size < sizeLine)
  (hpy:Goes p w n₀ ann code q cp (pyHash (.ref a)) (F (dObj es ep) tk).abs pos hsh (F (dObj es ep) (tk + k)).abs pos)
  (hq:Goes p w n₀ ann code q cq (U6 8 (.ref a)) (F (dObj es ep) (tk + k)).abs pos true (F (dObj es ep) (tk + k)).abs pos)
  (hk :∀e∈es.toList,∃b,e.key=.ref b/\b≠a/\Goes p w n₀ ann code q cq (U6 8 (.ref b)) (F (dObj es ep) (tk + k)).abs pos true (F (dObj es ep) (tk + k)).abs pos/\
   Goes p w n₀ ann code q ce (eqBool (.ref b) (.ref a)) (F (dObj es ep) (tk + k)).abs pos false (F (dObj es ep) (tk + k)).abs pos) :
  Goes p w n₀ ann code q (cp + (2 + cq + es.size * (cq + ce + 10)) + 4) (j39 d (.ref a) v) (F (dObj es ep) tk).abs pos () (F (dObj (es.push ⟨hsh,.ref a,v⟩) (ep + 1)) (tk + k)).abs pos:=by
 unfold j39;refine Goes.holding ?_;refine (Goes.bind (d:=(2 + cq + es.size * (cq + ce + 10)) + 4) hpy ?_).le (by omega);unfold dictSetHashed;refine Goes.holding ?_;refine Goes.bind (d:=4) (Goes.find_none (h:=hsh) (Z.get es ep (tk + k)) rfl hq hk) ?_;exact Goes.bind (d:=3) Goes.rule (Goes.updKeys Z hsz)
theorem zki {γ β:Type} {f:γ->β->Sem (ForInStep β)} {x:γ} {xs:List γ} {b b' b'':β} {c c':Nat} {s s' s'':B0} (h:Goes p w n₀ ann code q c (f x b) s pos (.yield b') s' pos) (k:Goes p w n₀ ann code q c' (forIn xs b' f) s' pos b'' s'' pos) :
  Goes p w n₀ ann code q (c + c') (forIn (x :: xs) b f) s pos b'' s'' pos:=by
 rw [A7];exact Goes.bind (f:=λ r=>match r with | .done b=>(j34 b:Sem β) | .yield b=>forIn xs b f) h k
theorem Goes.loop (Z:Fam n₀ d F) {cp cq ce N:Nat} (all:List KV3) (hN:all.length<=N) (hN':N < sizeLine) (hnd:(all.map (·.1)).Nodup)
  (hQ :∀x∈all,∀oD tk,Goes p w n₀ ann code q cq (U6 8 (.ref x.1)) (F oD tk).abs pos true (F oD tk).abs pos)
  (hE:all.Pairwise λ x y=>∀oD tk,Goes p w n₀ ann code q ce (eqBool (.ref x.1) (.ref y.1)) (F oD tk).abs pos false (F oD tk).abs pos)
  (hH :∀x∈all,∀oD tk,Goes p w n₀ ann code q cp (pyHash (.ref x.1)) (F oD tk).abs pos x.2.2 (F oD (tk + 3)).abs pos) :
  ∀(todo done:List KV3) (tk:Nat),all=done++todo->
   Goes p w n₀ ann code q (todo.length * (cp + (2 + cq + N * (cq + ce + 10)) + 4)) (zc7 d (todo.map λ x=>(G1 x.1,x.2.1)))
    (F (dObj (done.map ent).toArray done.length) tk).abs pos () (F (dObj (all.map ent).toArray all.length) (tk + 3 * todo.length)).abs pos:=by
 intro todo;induction todo with
 | nil=>intro done tk e;rw [F2] at e;subst e;unfold zc7;rw [K7,T7];exact Goes.pure.le (J2 _)
 | cons x todo ih=>
  intro done tk e;have h:x∈all:=by rw [e];exact R1 _ V1
  have f:=ih (done++[x]) (tk + 3) (by rw [e,A2];rfl);unfold zc7 at f⊢;rw [W1];have c:(done.map ent).toArray.size<=N:=by rw [X0,C0];rw [e,F0] at hN;omega
  have g:=Goes.set (p:=p) (w:=w) (ann:=ann) (code:=code) (q:=q) (pos:=pos) (v:=x.2.1) (ep:=done.length) Z (V0 c hN') (hH x h _ tk) (hQ x h _ _) (es:=(done.map ent).toArray) (ce:=ce) (by
   intro s i;obtain ⟨y,a,rfl⟩:=List.mem_map.mp i;have j:y∈all:=by rw [e];exact v7 _ a
   have k:y.1≠x.1:=by rw [e,P1,W1] at hnd;intro q;exact (List.nodup_append.mp hnd).2.2 y.1 (List.mem_map.mpr ⟨y,a,rfl⟩) x.1 V1 q
   rw [e] at hE;exact ⟨y.1,rfl,k,hQ y j _ _,(List.pairwise_append.mp hE).2.2 y a x V1 _ _⟩)
  have l:((done.map ent).toArray.push ⟨x.2.2,.ref x.1,x.2.1⟩)=((done++[x]).map ent).toArray:=by rw [List.push_toArray,P1];rfl
  have n:done.length + 1=(done++[x]).length:=by rw [F0];rfl
  rw [l,n] at g;have m:tk + 3 * (x :: todo).length=(tk + 3) + 3 * todo.length:=by rw [A1];omega
  rw [m];have o:Goes p w n₀ ann code q (_ + 0) (do j39 d (G1 x.1,x.2.1).1 (G1 x.1,x.2.1).2;j34 (A4 N9):Sem (ForInStep PUnit)) _ pos (A4 N9) _ pos:=Goes.bind g Goes.pure;have r:=zki (b:=N9) (xs:=todo.map λ x=>(G1 x.1,x.2.1)) o f;refine r.le ?_;rw [A1,Nat.add_mul];have:=C9 (cq + ce + 10) c;omega
def zar (acc:Nat):Int:=if acc == 2 ^ 64 - 1 then 1546275796 else if acc < 2 ^ 63 then acc else (acc:Int) - (2 ^ 64:Nat)
theorem z7x (acc:Nat) (h:acc < 2 ^ 64):-(2:Int) ^ 63<=zar acc/\zar acc < 2 ^ 63:=by
 unfold zar;split
 ·constructor<;>decide
 ·split
  ·constructor<;>omega
  ·constructor<;>omega
theorem z6z (hs:List Int):-(2:Int) ^ 63<=A0 hs/\A0 hs < 2 ^ 63:=
 z7x _ (j26 _ (by decide))
theorem Goes.pyHashT {a:Addr} {s s':B0} {hs:List Int} {tok:Tok} (h1:Goes p w n₀ ann code q 1 (cRoomFor "hash" [.ref a]) s pos () s pos)
  (h2:Goes p w n₀ ann code q 1 (specialOf (.ref a) "__hash__") s pos (some (.builtin "tuple.__hash__")) s pos)
  (h3:Goes p w n₀ ann code q 22 (O7 (.ref a) "__hash__" (unh a)) s pos (some (.int (A0 hs) tok)) s' pos) :
  Goes p w n₀ ann code q 25 (pyHash (.ref a)) s pos (U1 (A0 hs)) s' pos:=by
 have e:pyHash (.ref a)=pyHashByItsType (.ref a):=rfl;rw [e];unfold pyHashByItsType;refine Goes.bind (d:=24) h1 ?_;refine Goes.bind (d:=23) h2 ?_;rw [if_neg (by rw [beq_builtin_none];exact E1)];refine Goes.bind (d:=22) h2 ?_;show Goes p w n₀ ann code q 22 (O7 (.ref a) "__hash__" (unh a) >>= _) s pos _ s' pos;refine Goes.bind (d:=0) h3 ?_;have r:(decide (-(2:Int) ^ 63<=A0 hs) && decide (A0 hs < 2 ^ 63))=true:=by have r:=z6z hs;rw [decide_eq_true r.1,decide_eq_true r.2];rfl
 show Goes p w n₀ ann code q 0 (if (decide (-(2:Int) ^ 63<=A0 hs) && decide (A0 hs < 2 ^ 63))=true then _ else _) s' pos _ s' pos;have b:U1 (A0 hs)=(if (A0 hs == -1)=true then -2 else A0 hs):=by unfold U1;rw [if_pos r]
 rw [if_pos r,b];exact Goes.pure
theorem Goes.subDict {pairs:List (Sem Value×Sem Value)} {s s₁ s':B0} {vs:List (Value×Value)} {c c':Nat} {d:Addr} (hlen:pairs.length<=15) (hd:s.heap.objs.size=d)
  (h1:Goes p w n₀ ann code q c (evalPairs pairs) { s with heap:=s.heap.push { cls:=.type "dict",data:=.dict #[] } } pos vs s₁ pos)
  (h2:Goes p w n₀ ann code q c' (zc7 d vs) s₁ pos () s' pos):Goes p w n₀ ann code q (1 + (c + c')) (subDict pairs) s pos d s' pos:=by
 subst hd;unfold PySem.subDict;refine Goes.bind (a:=s.heap.objs.size) (λ _ _ _ _=>.one rfl rfl rfl) ?_;refine (Goes.bind (d:=0) (a:=()) (Goes.holding ?_) Goes.pure);rw [if_pos hlen];refine Goes.bind h1 ?_;exact Goes.holding (Goes.bind (d:=0) h2 Goes.pure)
theorem Goes.execs1 {st:Stmt} {env:Env} {s s':B0} {pos':Pos} {c:Nat} (h:Goes p w n₀ ann code q c (exec st env) s pos .next s' pos'):Goes p w n₀ ann code q c (execs [st] env) s pos .next s' pos':=by rw [execs_cons];exact Goes.bind (d:=0) h Goes.pure
theorem Goes.seg {l:List Stmt} {env:Env} {s s':B0} {pos':Pos} {c:Nat} (h:Goes p w n₀ ann code q c (execs l env) s pos .next s' pos') :∃n,n<=c + 1/\segRun S3 p w n₀ ann 1 n s (piecesOf l env code pos [topFrame q])=some (.next,s',code,pos'):=by obtain ⟨n,a,h⟩:=h doneF deadEnd id id;exact ⟨n + 1,by omega,seg_go h rfl⟩
end
theorem zj4 {p q:Program} {loose:List Str} {Xt:B0->Bool} {α:Type} {Yf:B0->α} {Ya:C1->α} {N:Nat} {H₀:R0->Heap} {gs₀:Array GenState} {d₀:Drawn} {k₀ m₀:Nat} {ann:Option Value} {S:C1->G3->B0}
  (opens :∀w:C1,(fencedOpening S3 p w N).map (λ s=>(s.heap,s.gens,s.drawn,s.toks))=some (H₀ w.params,gs₀,d₀,k₀))
  (sizes :∀w:C1,(((H₀ w.params).isNs Q2 && gs₀.size == 0),(H₀ w.params).objs.size,(H₀ w.params).nsMap Q2 "__annotations__")=(true,m₀,ann))
  (runs :∀(w:C1) (os:G3),∃M,M<=N/\topRun S3 p w m₀ ann M ⟨H₀ w.params,gs₀,d₀,k₀,os⟩ (topStub p)=some (S w os))
  (looks1 :∀(w:C1) (os:G3),(staticsOk (W7 p.main.body) (H₀ w.params) (S w os).heap && namesBound p (S w os).heap && gensDone (S w os) && laidKept (H₀ w.params) (S w os).heap)=true)
  (looks2 :∀(w:C1) (os:G3),openSeen q loose (W7 p.main.body) Xt true (S w os)=openGood q loose) (looks3 :∀(w:C1) (os:G3),Yf (S w os)=Ya w):LeftO p q loose Xt Yf Ya N:=by
 intro w;obtain ⟨⟨h,d,i,k,os⟩,e,a⟩:=Option.map_eq_some_iff.mp (opens w);simp only [o9] at a;obtain ⟨rfl,rfl,rfl,rfl⟩:=a;have z:=sizes w;simp only [o9] at z;obtain ⟨c,g,f⟩:=z;obtain ⟨M,b,r⟩:=runs w os;have r:=topRun_mono (N - M) _ _ _ _ r;rw [Nat.add_sub_cancel' b] at r;have t:topFrom S3 p w N ⟨H₀ w.params,d,i,k,os⟩=some (S w os):=by unfold topFrom;dsimp only;rw [c,g,f,r];show (match (staticsOk (W7 p.main.body) (H₀ w.params) (S w os).heap && namesBound p (S w os).heap && gensDone (S w os) && laidKept (H₀ w.params) (S w os).heap) with|true=>some (S w os)|false=>none)=_;rw [looks1 w os]
 unfold openEnds;rw [e];show (topFrom S3 p w N _).map _=_;rw [t];show some (_,_)=some (_,_);rw [looks2 w os,looks3 w os]
theorem zdf {p:Program} {w:C1} {n₀:Nat} {ann:Option Value} {env:Env} {q:Pos} {c N:Nat} {s s' r:B0} {l rest:List Stmt} {b:Code} {pos pos':Pos} (h:Goes p w n₀ ann b q c (execs l env) s pos .next s' pos')
  (k:topRun S3 p w n₀ ann N s' (restOf rest env b pos' [topFrame q])=some r) :∃M,M<=c + 1 + N/\topRun S3 p w n₀ ann M s (restOf (l++rest) env b pos [topFrame q])=some r:=by
 obtain ⟨n,a,g⟩:=Goes.seg h;exact ⟨n + N,by omega,piece_app g k⟩
end TJ
open PySem PySem.Spec PyProof.Rows
namespace L2
noncomputable abbrev fnX (x q:Str) (s:Stmt) (m:Str) (k c:Nat):FuncData:=E6 x q (z98 s) (z6h s) (z06 s) .none .none .none (.str m k) none (.ref c) .none
noncomputable abbrev fY (x q:Str) (s:Stmt):=fnX x q s "law_talejudge_k32_whole_regular_without_back" 778
noncomputable abbrev fO (x q:Str) (s:Stmt) (m:Str) (k c:Nat):Obj:=⟨.type "function",none,.func (fnX x q s m k c),#[]⟩
noncomputable abbrev fL (x q:Str) (s:Stmt):=fO x q s "law_talejudge_k32_whole_regular_without_back" 778
noncomputable abbrev cO (x q:Str) (i l n a j:Nat):Obj:=
 ⟨.type "code",none,.fields #[.str x i,.str q (i + 1),.str "/claim/cut.py" (i + 2),.int l 0,.int n 0,.int 0 0,.int 0 0,.int 3 0,.ref a,.bool true,.int 181 0,.ref (a + 1),.none,.ref (a + 2),.ref (a + 3),.ref (a + 4),.int j 0,.int l 0,.str "/claim/cut.py" (j + 1)],#[]⟩
noncomputable abbrev cP (x q:Str) (i l n a j:Nat):Obj:=
 ⟨.type "code",none,.fields #[.str x i,.str q (i + 1),.str "/claim/cut.py" (i + 2),.int l 0,.int n 0,.int 0 0,.int 0 0,.int 3 0,.ref a,.bool true,.int 181 0,.ref (a + 1),.none,.none,.none,.ref (a + 2),.int j 0,.int l 0,.str "/claim/cut.py" (j + 1)],#[]⟩
abbrev kR (P:R0) (x:Str) (i a:Nat):DictEntry:=⟨g0 P x,.str x i,.ref a⟩
section
variable {P:Program} {w:C1} {K:j0} {mg:Str->Option Value} {base:Heap} {x q:Str} {st:Stmt} {f:Addr} {fd:FuncData} {k:Nat} {ps:List Str} {sp:Sp}
theorem z0c {m:Str} {i c:Nat} (l:K.lookup f=some (fO x q st m i c):=by kernel_rfl) (hc:S8 K (.ref c) q=true:=by kernel_rfl) (hk:Y4 K (.ref f)=true:=by kernel_rfl):Fun K x q st f (fnX x q st m i c):=fun_mk l hc hk
theorem cal_mk (T:TX K mg) (F:Fun K x q st f fd) (g:M3 K Q2 x=some (some (.ref f))) (b:Binds K fd ps []) (G:FnOk P w K mg base CX0 k f fd ps sp):Cal P w K mg base x ps k sp:=⟨⟨f,fd,G,T.of g,F.kp,b⟩⟩
theorem zkx (T:TX K mg) (F:Fun K x q st f fd) (g:M3 K Q2 x=some (some (.ref f))) (b:Binds K fd ps []) (G:FnOk P w K mg base (CXE P w base) k f fd ps sp):CalE P w K mg base x ps k sp:=⟨⟨f,fd,G,T.of g,F.kp,b⟩⟩
end
section
variable {p:List Value->Prop}
theorem us1 (h :∀a,p [a]) :∀us:List Value,us.length=1->p us | [a],_=>h a
theorem us2 (h :∀a b,p [a,b]) :∀us:List Value,us.length=2->p us | [a,b],_=>h a b
theorem us3 (h :∀a b c,p [a,b,c]) :∀us:List Value,us.length=3->p us | [a,b,c],_=>h a b c
theorem us4 (h :∀a b c d,p [a,b,c,d]) :∀us:List Value,us.length=4->p us | [a,b,c,d],_=>h a b c d
theorem us5 (h :∀a b c d e,p [a,b,c,d,e]) :∀us:List Value,us.length=5->p us | [a,b,c,d,e],_=>h a b c d e
end
end L2
set_option maxHeartbeats 0
namespace K32
open PySem PySem.W PyProof.Rows TJ L2
abbrev PX:Program:=PySem.Challenge.pw_talejudge_k32_whole_regular_without_back
noncomputable abbrev annX:Option Value:=some (.ref 6)
def tp (a b:Str) (t:Nat):Obj:={ cls:=.type "tuple",data:=.seq #[.str a t,.str b (t + 1)] 0 }
def tups:List Obj:=[tp "register" "read" 394,tp "register" "write" 396,tp "counter" "read" 398,tp "counter" "add" 400,tp "queue" "put" 402,tp "queue" "take" 404,tp "set" "put" 406,tp "set" "cut" 408,tp "set" "has" 410,tp "cell" "read" 412,tp "cell" "write" 414,tp "cell" "swap" 416]
def insAll:List Obj->Nat->BT->BT
 | [],_,t=>t
 | x :: r,n,t=>insAll r (n + 1) (t.ins n x)
noncomputable def treeD (P:R0) (oD:Obj):BT:=insAll tups 151 ((K32.pre.tree_167 P).ins 150 oD)
noncomputable def FX (w:C1) (os:G3) (oD:Obj) (tk:Nat):SharedT:=⟨treeD w.params oD,163,{},⟨[]⟩,{},tk,os⟩
noncomputable abbrev cdX:Code:=.body (behindTheImports PX) K32.pre.env_1
noncomputable abbrev qX:Pos:=⟨0,0,0,0⟩
noncomputable abbrev BX:List Frame:=[topFrame qX]
noncomputable abbrev GX {α:Type} (w:C1) (c:Nat) (x:Sem α) (s:B0) (pos:Pos) (a:α) (s':B0) (pos':Pos):Prop:=Goes PX w 11 annX cdX qX c x s pos a s' pos'
def LX (n:Nat) {α:Type} (x:Sem α) (w:C1) (pos:Pos) (s:G3->Obj->Nat->SharedT) (a:Nat->α) (s':G3->Obj->Nat->SharedT) (pos':Pos):Prop:=
 ∀(os:G3) (oD:Obj) (tk:Nat) (K:α->Sem j0a) (H:Value->Sem j0a) (gd:Bool->Bool) (lv:List Value->List Value),
  PySem.W.Fast.tw10295753902157049106 D8 PX w 11 annX 1 n (s os oD tk) ⟨x.wrap K H gd lv,cdX,pos,BX⟩=some (s' os oD tk,⟨K (a tk),cdX,pos',BX⟩)
theorem LX.goes {n:Nat} {α:Type} {x:Sem α} {w:C1} {pos pos':Pos} {s s':G3->Obj->Nat->SharedT} {a:Nat->α} (h:LX n x w pos s a s' pos') (os:G3) (oD:Obj) (tk:Nat):GX w n x (s os oD tk).abs pos (a tk) (s' os oD tk).abs pos':=by refine Goes.leaf n λ K H b c=>?_;have e:=h os oD tk K H b c;rw [<-PySem.W.Fast.te10295753902157049106,<-R5] at e;exact e
noncomputable abbrev stay (w:C1):G3->Obj->Nat->SharedT:=FX w
noncomputable abbrev plus3 (w:C1):G3->Obj->Nat->SharedT:=λ os oD tk=>FX w os oD (tk + 3)
theorem qtH (a:Addr) (h :∀(w:C1) (pos:Pos),LX 3 (PySem.W.Fast.tw13066428366354244818 8 (.ref a)) w pos (stay w) (λ _=>true) (stay w) pos:=by intro w pos os oD tk K H gd lv;kernel_rfl) (w:C1) (pos:Pos):LX 3 (U6 8 (.ref a)) w pos (stay w) (λ _=>true) (stay w) pos:=by rw [PySem.W.Fast.te13066428366354244818];exact h w pos
def qt0:=qtH 151
def qt1:=qtH 152
def qt2:=qtH 153
def qt3:=qtH 154
def qt4:=qtH 155
def qt5:=qtH 156
def qt6:=qtH 157
def qt7:=qtH 158
def qt8:=qtH 159
def qt9:=qtH 160
def qt10:=qtH 161
def qt11:=qtH 162
theorem eqH (n:Nat) (a b:Addr) (hf :∀(w:C1) (pos:Pos),LX n (P5 (.ref a) (.ref b)) (w.withFollow "special-get-raises" false) pos (stay (w.withFollow "special-get-raises" false)) (λ _=>false) (stay (w.withFollow "special-get-raises" false)) pos:=by intro w pos os oD tk K H gd lv;kernel_rfl) (ht :∀(w:C1) (pos:Pos),LX n (P5 (.ref a) (.ref b)) (w.withFollow "special-get-raises" true) pos (stay (w.withFollow "special-get-raises" true)) (λ _=>false) (stay (w.withFollow "special-get-raises" true)) pos:=by intro w pos os oD tk K H gd lv;kernel_rfl) (w:C1) (pos:Pos):LX n (eqBool (.ref a) (.ref b)) w pos (stay w) (λ _=>false) (stay w) pos:=by rw [PySem.W.Fast.te13926502685295537346];exact byRow2 "special-get-raises" (P:=λ w=>LX n (P5 (.ref a) (.ref b)) w pos (stay w) (λ _=>false) (stay w) pos) (λ w=>hf w pos) (λ w=>ht w pos) w
def eq0_1:=eqH 20 151 152
def eq0_2:=eqH 16 151 153
def eq0_3:=eqH 16 151 154
def eq0_4:=eqH 16 151 155
def eq0_5:=eqH 16 151 156
def eq0_6:=eqH 16 151 157
def eq0_7:=eqH 16 151 158
def eq0_8:=eqH 16 151 159
def eq0_9:=eqH 16 151 160
def eq0_10:=eqH 16 151 161
def eq0_11:=eqH 16 151 162
def eq1_2:=eqH 16 152 153
def eq1_3:=eqH 16 152 154
def eq1_4:=eqH 16 152 155
def eq1_5:=eqH 16 152 156
def eq1_6:=eqH 16 152 157
def eq1_7:=eqH 16 152 158
def eq1_8:=eqH 16 152 159
def eq1_9:=eqH 16 152 160
def eq1_10:=eqH 16 152 161
def eq1_11:=eqH 16 152 162
def eq2_3:=eqH 20 153 154
def eq2_4:=eqH 16 153 155
def eq2_5:=eqH 16 153 156
def eq2_6:=eqH 16 153 157
def eq2_7:=eqH 16 153 158
def eq2_8:=eqH 16 153 159
def eq2_9:=eqH 16 153 160
def eq2_10:=eqH 16 153 161
def eq2_11:=eqH 16 153 162
def eq3_4:=eqH 16 154 155
def eq3_5:=eqH 16 154 156
def eq3_6:=eqH 16 154 157
def eq3_7:=eqH 16 154 158
def eq3_8:=eqH 16 154 159
def eq3_9:=eqH 16 154 160
def eq3_10:=eqH 16 154 161
def eq3_11:=eqH 16 154 162
def eq4_5:=eqH 20 155 156
def eq4_6:=eqH 16 155 157
def eq4_7:=eqH 16 155 158
def eq4_8:=eqH 16 155 159
def eq4_9:=eqH 16 155 160
def eq4_10:=eqH 16 155 161
def eq4_11:=eqH 16 155 162
def eq5_6:=eqH 16 156 157
def eq5_7:=eqH 16 156 158
def eq5_8:=eqH 16 156 159
def eq5_9:=eqH 16 156 160
def eq5_10:=eqH 16 156 161
def eq5_11:=eqH 16 156 162
def eq6_7:=eqH 20 157 158
def eq6_8:=eqH 20 157 159
def eq6_9:=eqH 16 157 160
def eq6_10:=eqH 16 157 161
def eq6_11:=eqH 16 157 162
def eq7_8:=eqH 20 158 159
def eq7_9:=eqH 16 158 160
def eq7_10:=eqH 16 158 161
def eq7_11:=eqH 16 158 162
def eq8_9:=eqH 16 159 160
def eq8_10:=eqH 16 159 161
def eq8_11:=eqH 16 159 162
def eq9_10:=eqH 20 160 161
def eq9_11:=eqH 20 160 162
def zju:=eqH 20 161 162
theorem crH (a:Addr) (hf :∀(w:C1) (pos:Pos),LX 1 (Q5 "hash" [.ref a]) (w.withFollow "special-get-raises" false) pos (stay (w.withFollow "special-get-raises" false)) (λ _=>()) (stay (w.withFollow "special-get-raises" false)) pos:=by intro w pos os oD tk K H gd lv;kernel_rfl) (ht :∀(w:C1) (pos:Pos),LX 1 (Q5 "hash" [.ref a]) (w.withFollow "special-get-raises" true) pos (stay (w.withFollow "special-get-raises" true)) (λ _=>()) (stay (w.withFollow "special-get-raises" true)) pos:=by intro w pos os oD tk K H gd lv;kernel_rfl) (w:C1) (pos:Pos):LX 1 (cRoomFor "hash" [.ref a]) w pos (stay w) (λ _=>()) (stay w) pos:=by rw [PySem.W.Fast.te13383273872528276517];exact byRow2 "special-get-raises" (P:=λ w=>LX 1 (Q5 "hash" [.ref a]) w pos (stay w) (λ _=>()) (stay w) pos) (λ w=>hf w pos) (λ w=>ht w pos) w
theorem soH (a:Addr) (hf :∀(w:C1) (pos:Pos),LX 1 (V5 (.ref a) "__hash__") (w.withFollow "special-get-raises" false) pos (stay (w.withFollow "special-get-raises" false)) (λ _=>some (.builtin "tuple.__hash__")) (stay (w.withFollow "special-get-raises" false)) pos:=by intro w pos os oD tk K H gd lv;kernel_rfl) (ht :∀(w:C1) (pos:Pos),LX 1 (V5 (.ref a) "__hash__") (w.withFollow "special-get-raises" true) pos (stay (w.withFollow "special-get-raises" true)) (λ _=>some (.builtin "tuple.__hash__")) (stay (w.withFollow "special-get-raises" true)) pos:=by intro w pos os oD tk K H gd lv;kernel_rfl) (w:C1) (pos:Pos):LX 1 (specialOf (.ref a) "__hash__") w pos (stay w) (λ _=>some (.builtin "tuple.__hash__")) (stay w) pos:=by rw [PySem.W.Fast.te4214721358667687652];exact byRow2 "special-get-raises" (P:=λ w=>LX 1 (V5 (.ref a) "__hash__") w pos (stay w) (λ _=>some (.builtin "tuple.__hash__")) (stay w) pos) (λ w=>hf w pos) (λ w=>ht w pos) w
theorem csH (a:Addr) (k l:Str) (hf :∀(w:C1) (pos:Pos),LX 22 (O5 (.ref a) "__hash__" (unh a)) (w.withFollow "special-get-raises" false) pos (stay (w.withFollow "special-get-raises" false)) (λ tk=>some (.int (A0 [g0 (w.withFollow "special-get-raises" false).params k,g0 (w.withFollow "special-get-raises" false).params l]) (tk + 2))) (plus3 (w.withFollow "special-get-raises" false)) pos:=by intro w pos os oD tk K H gd lv;kernel_rfl) (ht :∀(w:C1) (pos:Pos),LX 22 (O5 (.ref a) "__hash__" (unh a)) (w.withFollow "special-get-raises" true) pos (stay (w.withFollow "special-get-raises" true)) (λ tk=>some (.int (A0 [g0 (w.withFollow "special-get-raises" true).params k,g0 (w.withFollow "special-get-raises" true).params l]) (tk + 2))) (plus3 (w.withFollow "special-get-raises" true)) pos:=by intro w pos os oD tk K H gd lv;kernel_rfl) (w:C1) (pos:Pos):LX 22 (O7 (.ref a) "__hash__" (unh a)) w pos (stay w) (λ tk=>some (.int (A0 [g0 w.params k,g0 w.params l]) (tk + 2))) (plus3 w) pos:=by rw [PySem.W.Fast.te16697807410369149715];exact byRow2 "special-get-raises" (P:=λ w=>LX 22 (O5 (.ref a) "__hash__" (unh a)) w pos (stay w) (λ tk=>some (.int (A0 [g0 w.params k,g0 w.params l]) (tk + 2))) (plus3 w) pos) (λ w=>hf w pos) (λ w=>ht w pos) w
def cr0:=crH 151
def so0:=soH 151
def cs0:=csH 151 "register" "read"
def cr1:=crH 152
def so1:=soH 152
def cs1:=csH 152 "register" "write"
def cr2:=crH 153
def so2:=soH 153
def cs2:=csH 153 "counter" "read"
def cr3:=crH 154
def so3:=soH 154
def cs3:=csH 154 "counter" "add"
def cr4:=crH 155
def so4:=soH 155
def cs4:=csH 155 "queue" "put"
def cr5:=crH 156
def so5:=soH 156
def cs5:=csH 156 "queue" "take"
def cr6:=crH 157
def so6:=soH 157
def cs6:=csH 157 "set" "put"
def cr7:=crH 158
def so7:=soH 158
def cs7:=csH 158 "set" "cut"
def cr8:=crH 159
def so8:=soH 159
def cs8:=csH 159 "set" "has"
def cr9:=crH 160
def so9:=soH 160
def cs9:=csH 160 "cell" "read"
def cr10:=crH 161
def so10:=soH 161
def cs10:=csH 161 "cell" "write"
def cr11:=crH 162
def so11:=soH 162
def cs11:=csH 162 "cell" "swap"
noncomputable def allX (P:R0):List KV3:=[(151,(.ref 95),(U1 (A0 [g0 P "register",g0 P "read"]))),(152,(.ref 102),(U1 (A0 [g0 P "register",g0 P "write"]))),(153,(.ref 95),(U1 (A0 [g0 P "counter",g0 P "read"]))),(154,(.ref 109),(U1 (A0 [g0 P "counter",g0 P "add"]))),(155,(.ref 116),(U1 (A0 [g0 P "queue",g0 P "put"]))),(156,(.ref 123),(U1 (A0 [g0 P "queue",g0 P "take"]))),(157,(.ref 130),(U1 (A0 [g0 P "set",g0 P "put"]))),(158,(.ref 135),(U1 (A0 [g0 P "set",g0 P "cut"]))),(159,(.ref 142),(U1 (A0 [g0 P "set",g0 P "has"]))),(160,(.ref 95),(U1 (A0 [g0 P "cell",g0 P "read"]))),(161,(.ref 102),(U1 (A0 [g0 P "cell",g0 P "write"]))),(162,(.ref 149),(U1 (A0 [g0 P "cell",g0 P "swap"])))]
theorem zkw (w:C1) (os:G3) (pos:Pos):(allX w.params).Pairwise λ x y=>∀oD tk,GX w 20 (eqBool (.ref x.1) (.ref y.1)) (FX w os oD tk).abs pos false (FX w os oD tk).abs pos:=by
 unfold allX;refine
 .cons (λ y a oD tk=>(by
  revert y;simp only [P2,L0,false_implies,implies_true,and_true];exact ⟨(eq0_1 w pos).goes os oD tk |>.le (by decide),(eq0_2 w pos).goes os oD tk |>.le (by decide),(eq0_3 w pos).goes os oD tk |>.le (by decide),(eq0_4 w pos).goes os oD tk |>.le (by decide),(eq0_5 w pos).goes os oD tk |>.le (by decide),(eq0_6 w pos).goes os oD tk |>.le (by decide),(eq0_7 w pos).goes os oD tk |>.le (by decide),(eq0_8 w pos).goes os oD tk |>.le (by decide),(eq0_9 w pos).goes os oD tk |>.le (by decide),(eq0_10 w pos).goes os oD tk |>.le (by decide),(eq0_11 w pos).goes os oD tk |>.le (by decide)⟩))
  (.cons (λ y a oD tk=>(by
  revert y;simp only [P2,L0,false_implies,implies_true,and_true];exact ⟨(eq1_2 w pos).goes os oD tk |>.le (by decide),(eq1_3 w pos).goes os oD tk |>.le (by decide),(eq1_4 w pos).goes os oD tk |>.le (by decide),(eq1_5 w pos).goes os oD tk |>.le (by decide),(eq1_6 w pos).goes os oD tk |>.le (by decide),(eq1_7 w pos).goes os oD tk |>.le (by decide),(eq1_8 w pos).goes os oD tk |>.le (by decide),(eq1_9 w pos).goes os oD tk |>.le (by decide),(eq1_10 w pos).goes os oD tk |>.le (by decide),(eq1_11 w pos).goes os oD tk |>.le (by decide)⟩))
  (.cons (λ y a oD tk=>(by
  revert y;simp only [P2,L0,false_implies,implies_true,and_true];exact ⟨(eq2_3 w pos).goes os oD tk |>.le (by decide),(eq2_4 w pos).goes os oD tk |>.le (by decide),(eq2_5 w pos).goes os oD tk |>.le (by decide),(eq2_6 w pos).goes os oD tk |>.le (by decide),(eq2_7 w pos).goes os oD tk |>.le (by decide),(eq2_8 w pos).goes os oD tk |>.le (by decide),(eq2_9 w pos).goes os oD tk |>.le (by decide),(eq2_10 w pos).goes os oD tk |>.le (by decide),(eq2_11 w pos).goes os oD tk |>.le (by decide)⟩))
  (.cons (λ y a oD tk=>(by
  revert y;simp only [P2,L0,false_implies,implies_true,and_true];exact ⟨(eq3_4 w pos).goes os oD tk |>.le (by decide),(eq3_5 w pos).goes os oD tk |>.le (by decide),(eq3_6 w pos).goes os oD tk |>.le (by decide),(eq3_7 w pos).goes os oD tk |>.le (by decide),(eq3_8 w pos).goes os oD tk |>.le (by decide),(eq3_9 w pos).goes os oD tk |>.le (by decide),(eq3_10 w pos).goes os oD tk |>.le (by decide),(eq3_11 w pos).goes os oD tk |>.le (by decide)⟩))
  (.cons (λ y a oD tk=>(by
  revert y;simp only [P2,L0,false_implies,implies_true,and_true];exact ⟨(eq4_5 w pos).goes os oD tk |>.le (by decide),(eq4_6 w pos).goes os oD tk |>.le (by decide),(eq4_7 w pos).goes os oD tk |>.le (by decide),(eq4_8 w pos).goes os oD tk |>.le (by decide),(eq4_9 w pos).goes os oD tk |>.le (by decide),(eq4_10 w pos).goes os oD tk |>.le (by decide),(eq4_11 w pos).goes os oD tk |>.le (by decide)⟩))
  (.cons (λ y a oD tk=>(by
  revert y;simp only [P2,L0,false_implies,implies_true,and_true];exact ⟨(eq5_6 w pos).goes os oD tk |>.le (by decide),(eq5_7 w pos).goes os oD tk |>.le (by decide),(eq5_8 w pos).goes os oD tk |>.le (by decide),(eq5_9 w pos).goes os oD tk |>.le (by decide),(eq5_10 w pos).goes os oD tk |>.le (by decide),(eq5_11 w pos).goes os oD tk |>.le (by decide)⟩))
  (.cons (λ y a oD tk=>(by
  revert y;simp only [P2,L0,false_implies,implies_true,and_true];exact ⟨(eq6_7 w pos).goes os oD tk |>.le (by decide),(eq6_8 w pos).goes os oD tk |>.le (by decide),(eq6_9 w pos).goes os oD tk |>.le (by decide),(eq6_10 w pos).goes os oD tk |>.le (by decide),(eq6_11 w pos).goes os oD tk |>.le (by decide)⟩))
  (.cons (λ y a oD tk=>(by
  revert y;simp only [P2,L0,false_implies,implies_true,and_true];exact ⟨(eq7_8 w pos).goes os oD tk |>.le (by decide),(eq7_9 w pos).goes os oD tk |>.le (by decide),(eq7_10 w pos).goes os oD tk |>.le (by decide),(eq7_11 w pos).goes os oD tk |>.le (by decide)⟩))
  (.cons (λ y a oD tk=>(by
  revert y;simp only [P2,L0,false_implies,implies_true,and_true];exact ⟨(eq8_9 w pos).goes os oD tk |>.le (by decide),(eq8_10 w pos).goes os oD tk |>.le (by decide),(eq8_11 w pos).goes os oD tk |>.le (by decide)⟩))
  (.cons (λ y a oD tk=>(by
  revert y;simp only [P2,L0,false_implies,implies_true,and_true];exact ⟨(eq9_10 w pos).goes os oD tk |>.le (by decide),(eq9_11 w pos).goes os oD tk |>.le (by decide)⟩))
  (.cons (λ y a oD tk=>(by
  revert y;simp only [P2,L0,false_implies,implies_true,and_true];exact (zju w pos).goes os oD tk |>.le (by decide)))
  (.cons (λ y a=>nomatch a)
  (z7))))))))))))
theorem allX_q (w:C1) (os:G3) (pos:Pos) :∀x∈allX w.params,∀oD tk,GX w 3 (U6 8 (.ref x.1)) (FX w os oD tk).abs pos true (FX w os oD tk).abs pos:=by unfold allX;simp only [P2,L0,false_implies,implies_true,and_true];exact ⟨λ oD tk=>(qt0 w pos).goes os oD tk,λ oD tk=>(qt1 w pos).goes os oD tk,λ oD tk=>(qt2 w pos).goes os oD tk,λ oD tk=>(qt3 w pos).goes os oD tk,λ oD tk=>(qt4 w pos).goes os oD tk,λ oD tk=>(qt5 w pos).goes os oD tk,λ oD tk=>(qt6 w pos).goes os oD tk,λ oD tk=>(qt7 w pos).goes os oD tk,λ oD tk=>(qt8 w pos).goes os oD tk,λ oD tk=>(qt9 w pos).goes os oD tk,λ oD tk=>(qt10 w pos).goes os oD tk,λ oD tk=>(qt11 w pos).goes os oD tk⟩
theorem allX_h (w:C1) (os:G3) (pos:Pos) :∀x∈allX w.params,∀oD tk,GX w 25 (pyHash (.ref x.1)) (FX w os oD tk).abs pos x.2.2 (FX w os oD (tk + 3)).abs pos:=by unfold allX;simp only [P2,L0,false_implies,implies_true,and_true];exact ⟨λ oD tk=>Goes.pyHashT ((cr0 w pos).goes os oD tk) ((so0 w pos).goes os oD tk) ((cs0 w pos).goes os oD tk),λ oD tk=>Goes.pyHashT ((cr1 w pos).goes os oD tk) ((so1 w pos).goes os oD tk) ((cs1 w pos).goes os oD tk),λ oD tk=>Goes.pyHashT ((cr2 w pos).goes os oD tk) ((so2 w pos).goes os oD tk) ((cs2 w pos).goes os oD tk),λ oD tk=>Goes.pyHashT ((cr3 w pos).goes os oD tk) ((so3 w pos).goes os oD tk) ((cs3 w pos).goes os oD tk),λ oD tk=>Goes.pyHashT ((cr4 w pos).goes os oD tk) ((so4 w pos).goes os oD tk) ((cs4 w pos).goes os oD tk),λ oD tk=>Goes.pyHashT ((cr5 w pos).goes os oD tk) ((so5 w pos).goes os oD tk) ((cs5 w pos).goes os oD tk),λ oD tk=>Goes.pyHashT ((cr6 w pos).goes os oD tk) ((so6 w pos).goes os oD tk) ((cs6 w pos).goes os oD tk),λ oD tk=>Goes.pyHashT ((cr7 w pos).goes os oD tk) ((so7 w pos).goes os oD tk) ((cs7 w pos).goes os oD tk),λ oD tk=>Goes.pyHashT ((cr8 w pos).goes os oD tk) ((so8 w pos).goes os oD tk) ((cs8 w pos).goes os oD tk),λ oD tk=>Goes.pyHashT ((cr9 w pos).goes os oD tk) ((so9 w pos).goes os oD tk) ((cs9 w pos).goes os oD tk),λ oD tk=>Goes.pyHashT ((cr10 w pos).goes os oD tk) ((so10 w pos).goes os oD tk) ((cs10 w pos).goes os oD tk),λ oD tk=>Goes.pyHashT ((cr11 w pos).goes os oD tk) ((so11 w pos).goes os oD tk) ((cs11 w pos).goes os oD tk)⟩
theorem famX (w:C1) (os:G3):Fam 11 150 (FX w os):=by
 have g :∀c,(treeD w.params c).get 150=some c:=λ c=>by kernel_rfl
 refine ⟨by decide,λ b a d=>abs_get (show 150 < 163 by decide) (g _),λ b a d e=>?_⟩;have u:(absHeap (treeD w.params (dObj b a)) 163 {}).update 150 (W8 (·.push e))=absHeap (treeD w.params (dObj (b.push e) (a + 1))) 163 {}:=by
  rw [<-absHeap_set (g _)];have v:(treeD w.params (dObj b a)).set 150 (W8 (·.push e))=treeD w.params (dObj (b.push e) (a + 1)):=by kernel_rfl
  rw [v]
 exact congrArg (λ h=>(⟨h,⟨[]⟩,{},d,os⟩:B0)) u
noncomputable def stD:Stmt:=(behindTheImports PX).getD 25 (.Pass ⟨0,0,0,0⟩)
noncomputable def sufX:List Stmt:=(behindTheImports PX).drop 26
theorem bodyX:behindTheImports PX=K32.pre.sts_7++(K32.pre.sts_59++(K32.pre.sts_78++(K32.pre.sts_102++([stD]++sufX)))):=by kernel_rfl
def dKeys:Stmt->List (Option Expr)
 | .Assign _ (.Dict ks _ _) _=>ks
 | _=>[]
def dVals:Stmt->List Expr
 | .Assign _ (.Dict _ vs _) _=>vs
 | _=>[]
def dPos:Stmt->Pos
 | .Assign _ (.Dict _ _ p) _=>p
 | _=>⟨0,0,0,0⟩
def sPos:Stmt->Pos
 | .Assign _ _ p=>p
 | _=>⟨0,0,0,0⟩
noncomputable abbrev p1X:Pos:=sPos stD
noncomputable abbrev p2X:Pos:=dPos stD
noncomputable abbrev p3X:Pos:=⟨53,0,53,5⟩
noncomputable def runX:List (Sem Value×Sem Value):=(((evalEachOpt (dKeys stD) K32.pre.env_1).zip ((evalEach (dVals stD) K32.pre.env_1).map λ v=>do let x <-v;j37 p2X;X3 x))).filterMap λ x=>x.1.map (·,x.2)
theorem stD_eq:stD=.Assign [.Name "DOERS" p3X] (.Dict (dKeys stD) (dVals stD) p2X) p1X:=by kernel_rfl
theorem evD:R3 (.Dict (dKeys stD) (dVals stD) p2X) K32.pre.env_1=(do j37 p2X;let r <-(do let x <-subDict runX;X3 (some x));match r with|some x=>X3 (G1 x)|none=>newDict):=by kernel_rfl
theorem swD:a9 (.Dict (dKeys stD) (dVals stD) p2X) (some (.Name "DOERS" p3X)) p1X.line K32.pre.env_1=X3 false:=by kernel_rfl
noncomputable def F0X (w:C1) (os:G3):SharedT:=⟨K32.pre.tree_167 w.params,150,{},⟨[]⟩,{},394,os⟩
noncomputable def F1X (w:C1) (os:G3):SharedT:=⟨(K32.pre.tree_167 w.params).ins 150 (dObj #[] 0),151,{},⟨[]⟩,{},394,os⟩
noncomputable def vsX:List (Value×Value):=[(.ref 151,(.ref 95)),(.ref 152,(.ref 102)),(.ref 153,(.ref 95)),(.ref 154,(.ref 109)),(.ref 155,(.ref 116)),(.ref 156,(.ref 123)),(.ref 157,(.ref 130)),(.ref 158,(.ref 135)),(.ref 159,(.ref 142)),(.ref 160,(.ref 95)),(.ref 161,(.ref 102)),(.ref 162,(.ref 149))]
theorem zdg (w:C1):LX 84 (evalPairs runX) w p2X (λ os _ _=>F1X w os) (λ _=>vsX) (λ os _ _=>FX w os (dObj #[] 0) 418) p2X:=by rw [PySem.W.Fast.te1788576489739465902];exact λ os d b K H a c=>by kernel_rfl
noncomputable def F2X (w:C1) (os:G3) (oD:Obj) (tk:Nat):SharedT:=⟨(treeD w.params oD).set 3 (Obj.putName "DOERS" (g0 w.params "DOERS") (.str "DOERS" tk) (.ref 150)),163,{},⟨[]⟩,{},tk + 1,os⟩
theorem zgi (w:C1) (pos:Pos):LX 6 (bindName K32.pre.env_1 "DOERS" (.ref 150)) w pos (stay w) (λ _=>()) (λ os oD tk=>F2X w os oD tk) pos:=by
 rw [PySem.W.Fast.te7536695828754713326];exact byRow2 "special-get-raises" (P:=λ w=>LX 6 (PySem.W.Fast.tw7536695828754713326 K32.pre.env_1 "DOERS" (.ref 150)) w pos (stay w) (λ _=>()) (λ os oD tk=>F2X w os oD tk) pos)
  (λ w os oD tk K H a b=>by kernel_rfl) (λ w os oD tk K H a b=>by kernel_rfl) w
noncomputable abbrev oDX (P:R0):Obj:=dObj ((allX P).map ent).toArray 12
noncomputable abbrev S2X (w:C1) (os:G3):SharedT:=F2X w os (oDX w.params) 454
theorem stD_go (w:C1) (os:G3) (pos:Pos):GX w 100000 (exec stD K32.pre.env_1) (F0X w os).abs pos .next (S2X w os).abs p3X:=by
 rw [stD_eq,exec_Assign_Name _ _ _ _ _ swD];have l:=Goes.loop (p:=PX) (w:=w) (ann:=annX) (code:=cdX) (q:=qX) (pos:=p2X) (famX w os) (N:=12) (allX w.params) (show 12<=12 by decide) (by decide) (show ([151,152,153,154,155,156,157,158,159,160,161,162]:List Nat).Nodup by decide) (allX_q w os p2X) (zkw w os p2X) (allX_h w os p2X) (allX w.params) [] 418 rfl;have d:=(zdg w).goes os (dObj #[] 0) 0;have b:GX w _ (subDict runX) (F0X w os).abs p2X 150 (FX w os (oDX w.params) 454).abs p2X:=
  Goes.subDict (by decide +kernel) (absHeap_size _ _ _) (show GX w _ (evalPairs runX) _ p2X vsX _ p2X from by
   have e:({ (F0X w os).abs with heap:=(F0X w os).abs.heap.push { cls:=.type "dict",data:=.dict #[] } }:B0)=(F1X w os).abs:=by have i:=absHeap_ins (t:=K32.pre.tree_167 w.params) (n:=150) (life:={}) (o:=dObj #[] 0) (by kernel_rfl);exact congrArg (λ h=>(⟨h,⟨[]⟩,{},394,os⟩:B0)) i.symm
   rw [e];exact d) l
 refine (Goes.bind Goes.at' (Goes.bind (a:=G1 150) (pos':=p2X) ?_ (Goes.bind Goes.at' (Goes.bind (f:=λ _=>X3 Flow.next) ((zgi w p3X).goes os (oDX w.params) 454) Goes.pure)))).le (c:=1 + (((1 + ((1 + (84 + 12 * (25 + (2 + 3 + 12 * (3 + 20 + 10)) + 4))) + 0 + 0)) + (1 + (6 + 0))))) (by decide);rw [evD];exact Goes.bind Goes.at' (Goes.bind (Goes.bind b Goes.pure) Goes.pure)
noncomputable abbrev pLX:Pos:=⟨363,0,378,41⟩
noncomputable def R3X (w:C1) (os:G3):Option (Flow×SharedT×Code×Pos):=PySem.W.Fast.tw10110043849684766642 D8 PX w 11 annX 1 2162 (S2X w os) ⟨(PySem.W.Fast.tw12563942051412417395 sufX K32.pre.env_1).wrap doneF deadEnd id id,cdX,p3X,BX⟩
noncomputable def S3X (w:C1) (os:G3):SharedT:=match R3X w os with|some r=>r.2.1|none=>S2X w os
theorem R3X_eq (w:C1) (os:G3):R3X w os=some (.next,S3X w os,cdX,pLX):=by kernel_rfl
theorem zjy (w:C1) (os:G3):segRun S3 PX w 11 annX 1 2162 (S2X w os).abs (piecesOf sufX K32.pre.env_1 cdX p3X BX)=some (.next,(S3X w os).abs,cdX,pLX):=by have e:=R3X_eq w os;unfold R3X at e;rw [<-PySem.W.Fast.te10110043849684766642,<-R5,<-PySem.W.Fast.te12563942051412417395] at e;exact segRun_of e
noncomputable def S0X (w:C1) (os:G3):SharedT:=⟨K32.pre.tree_6 w.params,15,{},⟨[]⟩,{},187,os⟩
theorem pre_go (w:C1) (os:G3):topGo S3 PX w 11 annX 12 ⟨boot_heap w.params,Array.mk [],boot_drawn,boot_toks,os⟩ (topStub PX)=some ((S0X w os).abs,⟨denote S3 cdX,cdX,qX,BX⟩):=by rw [PySem.W.Fast.te15667345088766844465,R5,PySem.W.Fast.te11892475500146522536];kernel_rfl
theorem zih (w:C1) (os:G3) :∃M,M<=200000/\topRun S3 PX w 11 annX M ⟨boot_heap w.params,Array.mk [],boot_drawn,boot_toks,os⟩ (topStub PX)=some (S3X w os).abs:=by have f:topRun S3 PX w 11 annX 2 (S3X w os).abs (restOf [] K32.pre.env_1 cdX pLX BX)=some (S3X w os).abs:=rfl;have a:=piece_app (zjy w os) f;rw [F2] at a;obtain ⟨M,h,g⟩:=zdf (Goes.execs1 (stD_go w os ⟨49,0,52,21⟩)) a;have b:=K32.pre.chain PX (behindTheImports PX) w os _ M _ g;rw [<-bodyX] at b;have c:segRun S3 PX w 11 annX 1 1 (S0X w os).abs (blockOf (behindTheImports PX) K32.pre.env_1 cdX qX BX)=some (.next,(S0X w os).abs,cdX,qX):=rfl;have d:=piece_block c b;have e:=go_top (pre_go w os) d;refine ⟨_,?_,e⟩;simp only [Nat.add_eq];omega
noncomputable def looseX:List Str:=[("GREATEST_WORTH" : Str),("LONGEST_NAME" : Str),("SMALL_LETTERS" : Str),("is_whole" : Str),("is_within" : Str),("is_worth" : Str),("is_name" : Str),("is_tuple_of" : Str),("TaleError" : Str),("NoTale" : Str),("NoPlan" : Str),("FIRST_STATES" : Str),("WORTHS_OF_VERBS" : Str),("read_state" : Str),("write_state" : Str),("add_to_number" : Str),("put_behind" : Str),("take_first" : Str),("put_into_set" : Str),("cut_from_set" : Str),("has_in_set" : Str),("swap_state" : Str),("DOERS" : Str),("is_kind" : Str),("is_deed" : Str),("planned" : Str),("is_plan" : Str),("is_planned" : Str),("MOST_THINGS" : Str),("MOST_BEGINS" : Str),("LAST_HAND" : Str),("GREATEST_ANSWER" : Str),("ANSWER_WORDS" : Str),("make_tale" : Str),("make_things" : Str),("is_thing" : Str),("make_events" : Str),("is_begin" : Str),("is_end" : Str),("is_event" : Str),("is_hand" : Str),("is_answer" : Str),("go_by_turns" : Str),("MOST_HANDS" : Str),("MOST_DEEDS" : Str),("FIRST_HELD" : Str),("Errand" : Str),("Letter" : Str),("Copies" : Str),("check_plan" : Str),("run_copies" : Str),("_law_cell_at" : Str),("_law_mix" : Str),("_law_parts" : Str),("_law_plan" : Str),("_law_copied" : Str),("_law_begun" : Str),("_law_free" : Str),("_law_sent" : Str),("_law_ended" : Str),("_law_gone_on" : Str),("_law_come" : Str),("_law_moved" : Str),("_law_choice" : Str),("_law_guided" : Str),("_law_raw" : Str),("_law_deeds" : Str),("_law_lets" : Str)]
noncomputable def viewX:Program:={ PX with main:={ PX.main with body:=(PX.main.body[75]?).toList } }
noncomputable def top (i:Nat):Stmt:=PX.main.body.getD i (.Pass ⟨0,0,0,0⟩)
def subS (s:Stmt) (j:Nat):Stmt:=match s with
 | .ClassDef _ _ _ b _ _ _ _ _ _ _=>b.getD j s
 | _=>s
noncomputable def asX:List Addr:=[3,20,21,27,28,34,35,39,40,46,47,48,50,55,56,57,61,63,68,69,70,73,75,80,81,82,85,86,87,88,150,151,152,153,154,155,156,157,158,159,160,161,162,168,169,173,174,180,181,185,186,192,193,194,200,201,205,206,212,213,217,218,224,225,231,232,238,239,245,246,252,253,259,260,261,262,263,265,275,276,277,278,279,284,286,296,297,298,299,300,305,307,315,316,320,321,327,328,334,335,341,342,348,349,355,356,362,363,369,370,371,372,373,381,382,388,389,395,396,402,403,409,410,414,415,419,420,424,425,429,430,436,437,443,444,450,451,457,458,464,465,471,472,478,479,485,486,492,493,499,500,506,507]
noncomputable def KX (P:R0):Frag:=[
 (3,⟨(.type "dict"),none,(.dict #[⟨(g0 P "__name__"),(.str "__name__" 165),(.str "law_talejudge_k32_whole_regular_without_back" 778)⟩,⟨(g0 P "__doc__"),(.str "__doc__" 166),.none⟩,⟨(g0 P "__package__"),(.str "__package__" 167),.none⟩,⟨(g0 P "__loader__"),(.str "__loader__" 168),(.builtin "__main__.__loader__#opaque")⟩,⟨(g0 P "__spec__"),(.str "__spec__" 169),.none⟩,kR P "__annotations__" 170 6,kR P "__builtins__" 171 4,⟨(g0 P "__file__"),(.str "__file__" 173),(.str "/claim/cut.py" 172)⟩,⟨(g0 P "__cached__"),(.str "__cached__" 174),.none⟩,⟨(g0 P "GREATEST_WORTH"),(.str "GREATEST_WORTH" 190),(.int (1000000000) 189)⟩,⟨(g0 P "LONGEST_NAME"),(.str "LONGEST_NAME" 192),(.int (8) 191)⟩,⟨(g0 P "SMALL_LETTERS"),(.str "SMALL_LETTERS" 194),(.str "abcdefghijklmnopqrstuvwxyz" 193)⟩,kR P "is_whole" 201 21,kR P "is_within" 209 28,kR P "is_worth" 216 35,kR P "is_name" 222 40,kR P "is_tuple_of" 230 47,kR P "TaleError" 250 57,kR P "NoTale" 266 70,kR P "NoPlan" 282 82,kR P "FIRST_STATES" 298 85,kR P "WORTHS_OF_VERBS" 323 88,kR P "read_state" 331 95,kR P "write_state" 339 102,kR P "add_to_number" 347 109,kR P "put_behind" 355 116,kR P "take_first" 363 123,kR P "put_into_set" 371 130,kR P "cut_from_set" 377 135,kR P "has_in_set" 385 142,kR P "swap_state" 393 149,kR P "DOERS" 454 150,kR P "is_kind" 461 169,kR P "is_deed" 467 174,kR P "planned" 478 181,kR P "is_plan" 484 186,kR P "is_planned" 492 193,⟨(g0 P "MOST_THINGS"),(.str "MOST_THINGS" 496),(.int (6) 495)⟩,⟨(g0 P "MOST_BEGINS"),(.str "MOST_BEGINS" 498),(.int (24) 497)⟩,⟨(g0 P "LAST_HAND"),(.str "LAST_HAND" 500),(.int (5) 499)⟩,⟨(g0 P "GREATEST_ANSWER"),(.str "GREATEST_ANSWER" 502),(.int (1000000000000) 501)⟩,kR P "ANSWER_WORDS" 505 194,kR P "make_tale" 514 201,kR P "make_things" 520 206,kR P "is_thing" 527 213,kR P "make_events" 533 218,kR P "is_begin" 541 225,kR P "is_end" 548 232,kR P "is_event" 557 239,kR P "is_hand" 564 246,kR P "is_answer" 571 253,kR P "go_by_turns" 581 260,⟨(g0 P "MOST_HANDS"),(.str "MOST_HANDS" 585),(.int (6) 584)⟩,⟨(g0 P "MOST_DEEDS"),(.str "MOST_DEEDS" 587),(.int (24) 586)⟩,kR P "FIRST_HELD" 592 262,kR P "Errand" 626 279,kR P "Letter" 659 300,kR P "Copies" 759 373,kR P "check_plan" 765 382,kR P "run_copies" 777 389,kR P "_law_cell_at" 787 396,kR P "_law_mix" 796 403,kR P "_law_parts" 807 410,kR P "_law_plan" 813 415,kR P "_law_copied" 819 420,kR P "_law_begun" 825 425,kR P "_law_free" 831 430,kR P "_law_sent" 842 437,kR P "_law_ended" 851 444,kR P "_law_gone_on" 863 451,kR P "_law_come" 879 458,kR P "_law_moved" 895 465,kR P "_law_choice" 908 472,kR P "_law_guided" 925 479,kR P "_law_raw" 935 486,kR P "_law_deeds" 946 493,kR P "_law_lets" 962 500,kR P "law" 983 507] 78),#[]⟩),
 (20,cO "is_whole" "is_whole" 195 5 1 15 199),
 (21,fO "is_whole" "is_whole" (top 4) "talejudge.basics" 187 20),
 (27,cO "is_within" "is_within" 202 7 2 22 207),
 (28,fO "is_within" "is_within" (top 5) "talejudge.basics" 187 27),
 (34,cO "is_worth" "is_worth" 210 9 1 29 214),
 (35,fO "is_worth" "is_worth" (top 6) "talejudge.basics" 187 34),
 (39,cP "is_name" "is_name" 217 11 1 36 220),
 (40,fO "is_name" "is_name" (top 7) "talejudge.basics" 187 39),
 (46,cO "is_tuple_of" "is_tuple_of" 223 15 2 41 228),
 (47,fO "is_tuple_of" "is_tuple_of" (top 8) "talejudge.basics" 187 46),
 (48,⟨(.type "tuple"),none,(.seq #[(.type "ValueError")] 0),#[]⟩),
 (50,⟨(.type "dict"),none,(.dict #[⟨(g0 P "__module__"),(.str "__module__" 240),(.str "talejudge.errors" 231)⟩,⟨(g0 P "__qualname__"),(.str "__qualname__" 242),(.str "TaleError" 241)⟩,⟨(g0 P "__firstlineno__"),(.str "__firstlineno__" 244),(.int (18) 243)⟩,kR P "__static_attributes__" 245 55] 4),#[]⟩),
 (55,⟨(.type "tuple"),none,(.seq #[] 0),#[]⟩),
 (56,⟨(.type "dict"),none,(.dict #[⟨(g0 P "__module__"),(.str "__module__" 240),(.str "talejudge.errors" 231)⟩,⟨(g0 P "__firstlineno__"),(.str "__firstlineno__" 244),(.int (18) 243)⟩,kR P "__static_attributes__" 245 55,kR P "__weakref__" 247 58,⟨(g0 P "__doc__"),(.str "__doc__" 248),.none⟩] 3),#[]⟩),
 (57,⟨(.type "type"),none,(.cls ⟨"TaleError",[(.type "ValueError")],[(.ref 57),(.type "ValueError"),(.type "Exception"),(.type "BaseException"),(.type "object")],56,"TaleError",true,[],[(.ref 70),(.ref 82)],false,none,false⟩),#[some (.ref 48),none,some (.str "TaleError" 233),some (.str "TaleError" 241),some (.builtin "ValueError.__new__"),some (.bool true)]⟩),
 (61,⟨(.type "tuple"),none,(.seq #[(.ref 57)] 0),#[]⟩),
 (63,⟨(.type "dict"),none,(.dict #[⟨(g0 P "__module__"),(.str "__module__" 258),(.str "talejudge.errors" 231)⟩,⟨(g0 P "__qualname__"),(.str "__qualname__" 260),(.str "NoTale" 259)⟩,⟨(g0 P "__firstlineno__"),(.str "__firstlineno__" 262),(.int (20) 261)⟩,kR P "__static_attributes__" 263 68] 4),#[]⟩),
 (68,⟨(.type "tuple"),none,(.seq #[] 0),#[]⟩),
 (69,⟨(.type "dict"),none,(.dict #[⟨(g0 P "__module__"),(.str "__module__" 258),(.str "talejudge.errors" 231)⟩,⟨(g0 P "__firstlineno__"),(.str "__firstlineno__" 262),(.int (20) 261)⟩,kR P "__static_attributes__" 263 68,⟨(g0 P "__doc__"),(.str "__doc__" 264),.none⟩] 2),#[]⟩),
 (70,⟨(.type "type"),none,(.cls ⟨"NoTale",[(.ref 57)],[(.ref 70),(.ref 57),(.type "ValueError"),(.type "Exception"),(.type "BaseException"),(.type "object")],69,"NoTale",true,[],[],false,none,false⟩),#[some (.ref 61),none,some (.str "NoTale" 251),some (.str "NoTale" 259),some (.builtin "ValueError.__new__"),some (.bool true)]⟩),
 (73,⟨(.type "tuple"),none,(.seq #[(.ref 57)] 0),#[]⟩),
 (75,⟨(.type "dict"),none,(.dict #[⟨(g0 P "__module__"),(.str "__module__" 274),(.str "talejudge.errors" 231)⟩,⟨(g0 P "__qualname__"),(.str "__qualname__" 276),(.str "NoPlan" 275)⟩,⟨(g0 P "__firstlineno__"),(.str "__firstlineno__" 278),(.int (22) 277)⟩,kR P "__static_attributes__" 279 80] 4),#[]⟩),
 (80,⟨(.type "tuple"),none,(.seq #[] 0),#[]⟩),
 (81,⟨(.type "dict"),none,(.dict #[⟨(g0 P "__module__"),(.str "__module__" 274),(.str "talejudge.errors" 231)⟩,⟨(g0 P "__firstlineno__"),(.str "__firstlineno__" 278),(.int (22) 277)⟩,kR P "__static_attributes__" 279 80,⟨(g0 P "__doc__"),(.str "__doc__" 280),.none⟩] 2),#[]⟩),
 (82,⟨(.type "type"),none,(.cls ⟨"NoPlan",[(.ref 57)],[(.ref 82),(.ref 57),(.type "ValueError"),(.type "Exception"),(.type "BaseException"),(.type "object")],81,"NoPlan",true,[],[],false,none,false⟩),#[some (.ref 73),none,some (.str "NoPlan" 267),some (.str "NoPlan" 275),some (.builtin "ValueError.__new__"),some (.bool true)]⟩),
 (85,⟨(.type "dict"),none,(.dict #[⟨(g0 P "register"),(.str "register" 285),(.int (0) 286)⟩,⟨(g0 P "counter"),(.str "counter" 287),(.int (0) 288)⟩,kR P "queue" 289 86,kR P "set" 290 87,⟨(g0 P "cell"),(.str "cell" 291),(.int (0) 292)⟩] 5),#[]⟩),
 (86,⟨(.type "tuple"),none,(.seq #[] 0),#[]⟩),
 (87,⟨(.type "tuple"),none,(.seq #[] 0),#[]⟩),
 (88,⟨(.type "dict"),none,(.dict #[⟨(g0 P "read"),(.str "read" 299),(.int (0) 300)⟩,⟨(g0 P "take"),(.str "take" 301),(.int (0) 302)⟩,⟨(g0 P "write"),(.str "write" 303),(.int (1) 304)⟩,⟨(g0 P "add"),(.str "add" 305),(.int (1) 306)⟩,⟨(g0 P "put"),(.str "put" 307),(.int (1) 308)⟩,⟨(g0 P "cut"),(.str "cut" 309),(.int (1) 310)⟩,⟨(g0 P "has"),(.str "has" 311),(.int (1) 312)⟩,⟨(g0 P "swap"),(.str "swap" 313),(.int (2) 314)⟩] 8),#[]⟩),
 (150,⟨(.type "dict"),none,(.dict #[⟨(U1 (A0 [g0 P "register",g0 P "read"])),(.ref 151),(.ref 95)⟩,⟨(U1 (A0 [g0 P "register",g0 P "write"])),(.ref 152),(.ref 102)⟩,⟨(U1 (A0 [g0 P "counter",g0 P "read"])),(.ref 153),(.ref 95)⟩,⟨(U1 (A0 [g0 P "counter",g0 P "add"])),(.ref 154),(.ref 109)⟩,⟨(U1 (A0 [g0 P "queue",g0 P "put"])),(.ref 155),(.ref 116)⟩,⟨(U1 (A0 [g0 P "queue",g0 P "take"])),(.ref 156),(.ref 123)⟩,⟨(U1 (A0 [g0 P "set",g0 P "put"])),(.ref 157),(.ref 130)⟩,⟨(U1 (A0 [g0 P "set",g0 P "cut"])),(.ref 158),(.ref 135)⟩,⟨(U1 (A0 [g0 P "set",g0 P "has"])),(.ref 159),(.ref 142)⟩,⟨(U1 (A0 [g0 P "cell",g0 P "read"])),(.ref 160),(.ref 95)⟩,⟨(U1 (A0 [g0 P "cell",g0 P "write"])),(.ref 161),(.ref 102)⟩,⟨(U1 (A0 [g0 P "cell",g0 P "swap"])),(.ref 162),(.ref 149)⟩] 12),#[]⟩),
 (151,⟨(.type "tuple"),none,(.seq #[(.str "register" 394),(.str "read" 395)] 0),#[]⟩),
 (152,⟨(.type "tuple"),none,(.seq #[(.str "register" 396),(.str "write" 397)] 0),#[]⟩),
 (153,⟨(.type "tuple"),none,(.seq #[(.str "counter" 398),(.str "read" 399)] 0),#[]⟩),
 (154,⟨(.type "tuple"),none,(.seq #[(.str "counter" 400),(.str "add" 401)] 0),#[]⟩),
 (155,⟨(.type "tuple"),none,(.seq #[(.str "queue" 402),(.str "put" 403)] 0),#[]⟩),
 (156,⟨(.type "tuple"),none,(.seq #[(.str "queue" 404),(.str "take" 405)] 0),#[]⟩),
 (157,⟨(.type "tuple"),none,(.seq #[(.str "set" 406),(.str "put" 407)] 0),#[]⟩),
 (158,⟨(.type "tuple"),none,(.seq #[(.str "set" 408),(.str "cut" 409)] 0),#[]⟩),
 (159,⟨(.type "tuple"),none,(.seq #[(.str "set" 410),(.str "has" 411)] 0),#[]⟩),
 (160,⟨(.type "tuple"),none,(.seq #[(.str "cell" 412),(.str "read" 413)] 0),#[]⟩),
 (161,⟨(.type "tuple"),none,(.seq #[(.str "cell" 414),(.str "write" 415)] 0),#[]⟩),
 (162,⟨(.type "tuple"),none,(.seq #[(.str "cell" 416),(.str "swap" 417)] 0),#[]⟩),
 (168,cO "is_kind" "is_kind" 455 54 1 163 459),
 (169,fO "is_kind" "is_kind" (top 26) "talejudge.store" 283 168),
 (173,cP "is_deed" "is_deed" 462 56 3 170 465),
 (174,fO "is_deed" "is_deed" (top 27) "talejudge.store" 283 173),
 (180,cO "planned" "planned" 470 66 1 175 476),
 (181,fO "planned" "planned" (top 29) "talejudge.plans" 468 180),
 (185,cP "is_plan" "is_plan" 479 71 4 182 482),
 (186,fO "is_plan" "is_plan" (top 30) "talejudge.plans" 468 185),
 (192,cO "is_planned" "is_planned" 485 76 2 187 490),
 (193,fO "is_planned" "is_planned" (top 31) "talejudge.plans" 468 192),
 (194,⟨(.type "tuple"),none,(.seq #[(.str "ok" 503),(.str "none" 504)] 0),#[]⟩),
 (200,cO "make_tale" "make_tale" 506 84 2 195 512),
 (201,fO "make_tale" "make_tale" (top 38) "talejudge.tales" 493 200),
 (205,cP "make_things" "make_things" 515 87 1 202 518),
 (206,fO "make_things" "make_things" (top 39) "talejudge.tales" 493 205),
 (212,cO "is_thing" "is_thing" 521 95 1 207 525),
 (213,fO "is_thing" "is_thing" (top 40) "talejudge.tales" 493 212),
 (217,cP "make_events" "make_events" 528 97 2 214 531),
 (218,fO "make_events" "make_events" (top 41) "talejudge.tales" 493 217),
 (224,cO "is_begin" "is_begin" 534 105 2 219 539),
 (225,fO "is_begin" "is_begin" (top 42) "talejudge.tales" 493 224),
 (231,cO "is_end" "is_end" 542 109 1 226 546),
 (232,fO "is_end" "is_end" (top 43) "talejudge.tales" 493 231),
 (238,cO "is_event" "is_event" 549 111 3 233 555),
 (239,fO "is_event" "is_event" (top 44) "talejudge.tales" 493 238),
 (245,cO "is_hand" "is_hand" 558 113 1 240 562),
 (246,fO "is_hand" "is_hand" (top 45) "talejudge.tales" 493 245),
 (252,cO "is_answer" "is_answer" 565 115 1 247 569),
 (253,fO "is_answer" "is_answer" (top 46) "talejudge.tales" 493 252),
 (259,cO "go_by_turns" "go_by_turns" 572 119 1 254 579),
 (260,fO "go_by_turns" "go_by_turns" (top 47) "talejudge.tales" 493 259),
 (261,⟨(.type "tuple"),none,(.seq #[(.int (0) 588),(.int (-1) 590)] 0),#[]⟩),
 (262,⟨(.type "tuple"),none,(.seq #[(.ref 261),(.int (0) 591)] 0),#[]⟩),
 (263,⟨(.type "tuple"),none,(.seq #[] 0),#[]⟩),
 (265,⟨(.type "dict"),none,(.dict #[⟨(g0 P "__module__"),(.str "__module__" 600),(.str "talejudge.copies" 582)⟩,⟨(g0 P "__qualname__"),(.str "__qualname__" 602),(.str "Errand" 601)⟩,⟨(g0 P "__firstlineno__"),(.str "__firstlineno__" 604),(.int (131) 603)⟩,kR P "__init__" 614 276,kR P "__static_attributes__" 619 277] 5),#[]⟩),
 (275,cO "__init__" "Errand.__init__" 605 133 4 270 612),
 (276,fO "__init__" "Errand.__init__" (subS (top 52) 0) "talejudge.copies" 582 275),
 (277,⟨(.type "tuple"),none,(.seq #[(.str "deed" 615),(.str "hand" 616),(.str "heard" 617),(.str "kept" 618)] 0),#[]⟩),
 (278,⟨(.type "dict"),none,(.dict #[⟨(g0 P "__module__"),(.str "__module__" 600),(.str "talejudge.copies" 582)⟩,⟨(g0 P "__firstlineno__"),(.str "__firstlineno__" 604),(.int (131) 603)⟩,kR P "__init__" 614 276,kR P "__static_attributes__" 619 277,kR P "__dict__" 621 280,kR P "__weakref__" 623 281,⟨(g0 P "__doc__"),(.str "__doc__" 624),.none⟩] 4),#[]⟩),
 (279,⟨(.type "type"),none,(.cls ⟨"Errand",[(.type "object")],[(.ref 279),(.type "object")],278,"Errand",true,[],[],false,none,false⟩),#[none,none,some (.str "Errand" 593),some (.str "Errand" 601),some (.builtin "object.__new__"),some (.bool true)]⟩),
 (284,⟨(.type "tuple"),none,(.seq #[] 0),#[]⟩),
 (286,⟨(.type "dict"),none,(.dict #[⟨(g0 P "__module__"),(.str "__module__" 634),(.str "talejudge.copies" 582)⟩,⟨(g0 P "__qualname__"),(.str "__qualname__" 636),(.str "Letter" 635)⟩,⟨(g0 P "__firstlineno__"),(.str "__firstlineno__" 638),(.int (138) 637)⟩,kR P "__init__" 648 297,kR P "__static_attributes__" 652 298] 5),#[]⟩),
 (296,cO "__init__" "Letter.__init__" 639 140 4 291 646),
 (297,fO "__init__" "Letter.__init__" (subS (top 53) 0) "talejudge.copies" 582 296),
 (298,⟨(.type "tuple"),none,(.seq #[(.str "errand" 649),(.str "held" 650),(.str "number" 651)] 0),#[]⟩),
 (299,⟨(.type "dict"),none,(.dict #[⟨(g0 P "__module__"),(.str "__module__" 634),(.str "talejudge.copies" 582)⟩,⟨(g0 P "__firstlineno__"),(.str "__firstlineno__" 638),(.int (138) 637)⟩,kR P "__init__" 648 297,kR P "__static_attributes__" 652 298,kR P "__dict__" 654 301,kR P "__weakref__" 656 302,⟨(g0 P "__doc__"),(.str "__doc__" 657),.none⟩] 4),#[]⟩),
 (300,⟨(.type "type"),none,(.cls ⟨"Letter",[(.type "object")],[(.ref 300),(.type "object")],299,"Letter",true,[],[],false,none,false⟩),#[none,none,some (.str "Letter" 627),some (.str "Letter" 635),some (.builtin "object.__new__"),some (.bool true)]⟩),
 (305,⟨(.type "tuple"),none,(.seq #[] 0),#[]⟩),
 (307,⟨(.type "dict"),none,(.dict #[⟨(g0 P "__module__"),(.str "__module__" 667),(.str "talejudge.copies" 582)⟩,⟨(g0 P "__qualname__"),(.str "__qualname__" 669),(.str "Copies" 668)⟩,⟨(g0 P "__firstlineno__"),(.str "__firstlineno__" 671),(.int (144) 670)⟩,kR P "__init__" 677 316,kR P "go_on" 683 321,kR P "begin_deed" 692 328,kR P "send" 701 335,kR P "bring" 709 342,kR P "bring_to_copy" 718 349,kR P "bring_back" 727 356,kR P "go_on_from_asking" 736 363,kR P "end_deed" 745 370,kR P "__static_attributes__" 752 371] 13),#[]⟩),
 (315,cP "__init__" "Copies.__init__" 672 146 4 312 675),
 (316,fO "__init__" "Copies.__init__" (subS (top 54) 0) "talejudge.copies" 582 315),
 (320,cP "go_on" "Copies.go_on" 678 154 2 317 681),
 (321,fO "go_on" "Copies.go_on" (subS (top 54) 1) "talejudge.copies" 582 320),
 (327,cO "begin_deed" "Copies.begin_deed" 684 167 2 322 690),
 (328,fO "begin_deed" "Copies.begin_deed" (subS (top 54) 2) "talejudge.copies" 582 327),
 (334,cO "send" "Copies.send" 693 173 2 329 699),
 (335,fO "send" "Copies.send" (subS (top 54) 3) "talejudge.copies" 582 334),
 (341,cO "bring" "Copies.bring" 702 177 2 336 707),
 (342,fO "bring" "Copies.bring" (subS (top 54) 4) "talejudge.copies" 582 341),
 (348,cO "bring_to_copy" "Copies.bring_to_copy" 710 183 3 343 716),
 (349,fO "bring_to_copy" "Copies.bring_to_copy" (subS (top 54) 5) "talejudge.copies" 582 348),
 (355,cO "bring_back" "Copies.bring_back" 719 188 3 350 725),
 (356,fO "bring_back" "Copies.bring_back" (subS (top 54) 6) "talejudge.copies" 582 355),
 (362,cO "go_on_from_asking" "Copies.go_on_from_asking" 728 197 2 357 734),
 (363,fO "go_on_from_asking" "Copies.go_on_from_asking" (subS (top 54) 7) "talejudge.copies" 582 362),
 (369,cO "end_deed" "Copies.end_deed" 737 206 3 364 743),
 (370,fO "end_deed" "Copies.end_deed" (subS (top 54) 8) "talejudge.copies" 582 369),
 (371,⟨(.type "tuple"),none,(.seq #[(.str "back" 746),(.str "events" 747),(.str "idle" 748),(.str "left" 749),(.str "letters" 750),(.str "stock" 751)] 0),#[]⟩),
 (372,⟨(.type "dict"),none,(.dict #[⟨(g0 P "__module__"),(.str "__module__" 667),(.str "talejudge.copies" 582)⟩,⟨(g0 P "__firstlineno__"),(.str "__firstlineno__" 671),(.int (144) 670)⟩,kR P "__init__" 677 316,kR P "go_on" 683 321,kR P "begin_deed" 692 328,kR P "send" 701 335,kR P "bring" 709 342,kR P "bring_to_copy" 718 349,kR P "bring_back" 727 356,kR P "go_on_from_asking" 736 363,kR P "end_deed" 745 370,kR P "__static_attributes__" 752 371,kR P "__dict__" 754 374,kR P "__weakref__" 756 375,⟨(g0 P "__doc__"),(.str "__doc__" 757),.none⟩] 4),#[]⟩),
 (373,⟨(.type "type"),none,(.cls ⟨"Copies",[(.type "object")],[(.ref 373),(.type "object")],372,"Copies",true,[],[],false,none,false⟩),#[none,none,some (.str "Copies" 660),some (.str "Copies" 668),some (.builtin "object.__new__"),some (.bool true)]⟩),
 (381,cP "check_plan" "check_plan" 760 209 2 378 763),
 (382,fO "check_plan" "check_plan" (top 55) "talejudge.copies" 582 381),
 (388,cO "run_copies" "run_copies" 766 217 4 383 775),
 (389,fO "run_copies" "run_copies" (top 56) "talejudge.copies" 582 388),
 (395,cO "_law_cell_at" "_law_cell_at" 780 224 2 390 785),
 (396,fL "_law_cell_at" "_law_cell_at" (top 58) 395),
 (402,cO "_law_mix" "_law_mix" 788 228 2 397 794),
 (403,fL "_law_mix" "_law_mix" (top 59) 402),
 (409,cO "_law_parts" "_law_parts" 797 232 2 404 805),
 (410,fL "_law_parts" "_law_parts" (top 60) 409),
 (414,cP "_law_plan" "_law_plan" 808 242 4 411 811),
 (415,fL "_law_plan" "_law_plan" (top 61) 414),
 (419,cP "_law_copied" "_law_copied" 814 253 1 416 817),
 (420,fL "_law_copied" "_law_copied" (top 62) 419),
 (424,cP "_law_begun" "_law_begun" 820 255 2 421 823),
 (425,fL "_law_begun" "_law_begun" (top 63) 424),
 (429,cP "_law_free" "_law_free" 826 260 2 426 829),
 (430,fL "_law_free" "_law_free" (top 64) 429),
 (436,cO "_law_sent" "_law_sent" 832 262 4 431 840),
 (437,fL "_law_sent" "_law_sent" (top 65) 436),
 (443,cO "_law_ended" "_law_ended" 843 269 3 438 849),
 (444,fL "_law_ended" "_law_ended" (top 66) 443),
 (450,cO "_law_gone_on" "_law_gone_on" 852 272 3 445 861),
 (451,fL "_law_gone_on" "_law_gone_on" (top 67) 450),
 (457,cO "_law_come" "_law_come" 864 286 3 452 877),
 (458,fL "_law_come" "_law_come" (top 68) 457),
 (464,cO "_law_moved" "_law_moved" 880 298 4 459 893),
 (465,fL "_law_moved" "_law_moved" (top 69) 464),
 (471,cO "_law_choice" "_law_choice" 896 312 4 466 906),
 (472,fL "_law_choice" "_law_choice" (top 70) 471),
 (478,cO "_law_guided" "_law_guided" 909 321 5 473 923),
 (479,fL "_law_guided" "_law_guided" (top 71) 478),
 (485,cO "_law_raw" "_law_raw" 926 333 1 480 933),
 (486,fL "_law_raw" "_law_raw" (top 72) 485),
 (492,cO "_law_deeds" "_law_deeds" 936 340 1 487 944),
 (493,fL "_law_deeds" "_law_deeds" (top 73) 492),
 (499,cO "_law_lets" "_law_lets" 947 353 3 494 960),
 (500,fL "_law_lets" "_law_lets" (top 74) 499),
 (506,cO "law" "law" 963 363 1 501 981),
 (507,fL "law" "law" (top 75) 506)]
noncomputable def HX:Hook:=kHook KX asX (λ _=>by kernel_rfl)
noncomputable abbrev XtX:B0->Bool:=λ s=>xlAt viewX [] s && recOk (RowW.records (OpenRow.toRowW PySem.Challenge.rw_talejudge_k32_whole_regular_without_back.row)) s
theorem look1 (w:C1) (os:G3):(staticsOk (W7 PX.main.body) (boot_heap w.params) (S3X w os).abs.heap && namesBound PX (S3X w os).abs.heap && gensDone (S3X w os).abs && laidKept (boot_heap w.params) (S3X w os).abs.heap)=true:=by kernel_rfl
theorem look2 (w:C1) (os:G3):openSeen viewX looseX (W7 PX.main.body) XtX true (S3X w os).abs=openGood viewX looseX:=by rw [PySem.W.Fast.te4187177175401517315];kernel_rfl
theorem look3 (w:C1) (os:G3):Hook.obs HX (S3X w os).abs=Hook.val HX w:=by kernel_rfl
theorem leftX:LeftO PX viewX looseX XtX (Hook.obs HX) (Hook.val HX) 200000:=
 zj4 (H₀:=boot_heap) (gs₀:=Array.mk []) (boot_open (by kernel_rfl) (by decide) (λ s=>rfl)) (λ w=>by kernel_rfl) zih look1 look2 look3
end K32
set_option maxHeartbeats 4000000
namespace L2
open PySem PySem.Spec PyProof.Rows
theorem FnScope.k {N P:List Str} {sc:Scope} (a:sc.kind=.function:=by exact rfl) (b:sc.isCoroutine=false:=by exact rfl) (c:sc.isGenerator=false:=by exact rfl) (d:N.Nodup:=by decide +kernel) (e:N.take P.length=P:=by exact rfl) (f :∀x∈P,sc.names.lookup x=some .local\/sc.names.lookup x=some .cell:=by decide +kernel) (g :∀y∈sc.names,y.2≠.free:=by decide +kernel):FnScope N P sc:=⟨a,b,c,d,e,f,g⟩
theorem newA {H:Hp} {p:Addr} (o:HO) (h:H p=none) :∃H',H'=upd H p o/\Same H H'/\H' p=some o:=⟨_,rfl,Same.upd h,z03⟩
theorem iteK {c A B:Prop} [Decidable c] (h:B) (hc:¬ c:=by decide +kernel):if c then A else B:=iteN hc h
theorem pg_cn {X:Cx} {scope:Scope} {cl:List (Str×Addr)} {N:List Str} {C:Addr} {s₂:B0} {H₂:Hp} {fp:List Addr} {x:Str} {px:Pos} (i:Nat) (hN:N.Nodup:=by decide +kernel) (hi:N[i]? = some x:=by exact rfl) (hx:scope.names.lookup x=some .local:=by exact rfl):PG (cxComp X scope cl N C s₂ H₂ fp) (.Name x px) (gName i):=zjr i hN hi hx
theorem pe_cg {X:Cx} {xs:List Str} {tg:Expr} {g:TG} {pos:Pos} {elt iter:Expr} {ifs:List Expr} {scope:Scope} {fr:List (Nat×Str)} {wi:TI} {tc:TT} {te:TE} (hi:PI X tg iter wi)
  (hg :∀cl C s₂ H₂ fp,PG (cxComp X scope cl (xs++fr.map (·.2)) C s₂ H₂ fp) tg g)
  (ht :∀cl C s₂ H₂ fp,PF (cxComp X scope cl (xs++fr.map (·.2)) C s₂ H₂ fp) ifs tc) (he :∀cl C s₂ H₂ fp,PE (cxComp X scope cl (xs++fr.map (·.2)) C s₂ H₂ fp) elt te) (hcalm:X.calm=true:=by exact rfl)
  (hfr :∀p∈fr,X.N[p.1]? = some p.2/\(X.env.kindOf p.2=some .cell\/X.env.kindOf p.2=some .free):=by first|exact λ _ z=>absurd z L0|(intro p hp;obtain rfl:=List.mem_singleton.mp hp;first|exact ⟨rfl,.inl rfl⟩|exact ⟨rfl,.inr rfl⟩))
  (hin:(scope.names.all λ y=>y.2 != E2 || fr.any λ p=>p.2 == y.1)=true:=by decide +kernel)
  (hfs :∀p∈fr,(p.2,E2)∈scope.names/\((J8 scope X.env).names.lookup p.2=some .cell\/(J8 scope X.env).names.lookup p.2=some .free):=by first|exact λ _ z=>absurd z L0|(intro p hp;obtain rfl:=List.mem_singleton.mp hp;exact ⟨by decide +kernel,by first|exact .inl rfl|exact .inr rfl⟩))
  (hcell :∀y∈scope.names,y.2≠NameKind.cell:=by decide +kernel) (hkind:scope.kind=.function:=by exact rfl) (hnames :∀y∈scope.names,y.2=NameKind.local->scope.names.lookup y.1=some .local:=by decide +kernel)
  (hs :∀x,Z5 iter X.env x=X3 x:=by intro _;rfl):PE X (.ListComp elt [⟨tg,iter,ifs,0⟩] scope pos) (tCompG wi xs.length fr g tc te):=
 zft hcalm hi hfr (λ y a e=>by
  have h:=List.all_eq_true.mp hin y a;rw [e] at h;obtain ⟨p,hp,z⟩:=List.any_eq_true.mp (show fr.any (λ p=>p.2 == y.1)=true from h);have:=(hfr p hp).2
  rwa [eq_of_beq z] at this) hfs hcell hkind hnames hg ht he hs
end L2
namespace K32
open PySem PySem.Spec PyProof.Rows TJ L2
abbrev Gg (n:Str) (a:Addr):Prop:=∀P,M3 (KX P) Q2 n=some (some (.ref a))
abbrev Gn (n:Str):Prop:=∀P,M3 (KX P) Q2 n=some none
noncomputable abbrev kx (w:C1):=KX w.params
abbrev Ca (P:Program) (w:C1) (mg:Str->Option Value) (base:Heap):=Cal P w (KX w.params) mg base
abbrev CaE (P:Program) (w:C1) (mg:Str->Option Value) (base:Heap):=CalE P w (KX w.params) mg base
abbrev Fo (P:Program) (w:C1) (mg:Str->Option Value) (base:Heap):=FnOk P w (KX w.params) mg base
theorem z0l:Gn "isinstance":=λ _=>by kernel_rfl
theorem n_len:Gn "len":=λ _=>by kernel_rfl
theorem n_all:Gn "all":=λ _=>by kernel_rfl
theorem n_max:Gn "max":=λ _=>by kernel_rfl
theorem n_int:Gn "int":=λ _=>by kernel_rfl
theorem n_str:Gn "str":=λ _=>by kernel_rfl
theorem n_bool:Gn "bool":=λ _=>by kernel_rfl
theorem zdt:Gn "tuple":=λ _=>by kernel_rfl
theorem n_list:Gn "list":=λ _=>by kernel_rfl
theorem z2s:Gn "range":=λ _=>by kernel_rfl
theorem zje:Gn "sorted":=λ _=>by kernel_rfl
theorem n_dict:Gn "dict":=λ _=>by kernel_rfl
theorem n_set:Gn "set":=λ _=>by kernel_rfl
theorem zce:Gn "enumerate":=λ _=>by kernel_rfl
theorem z6j (P:R0):M3 (KX P) Q2 "GREATEST_WORTH" = some (some (.int (1000000000) 189)):=by kernel_rfl
theorem z7g (P:R0):M3 (KX P) Q2 "LONGEST_NAME" = some (some (.int (8) 191)):=by kernel_rfl
theorem z6w (P:R0):M3 (KX P) Q2 "SMALL_LETTERS" = some (some (.str "abcdefghijklmnopqrstuvwxyz" 193)):=by kernel_rfl
theorem ze3:Gg "is_whole" 21:=λ _=>by kernel_rfl
theorem zco:Gg "is_within" 28:=λ _=>by kernel_rfl
theorem ze6:Gg "is_worth" 35:=λ _=>by kernel_rfl
theorem zhn:Gg "is_name" 40:=λ _=>by kernel_rfl
theorem z99:Gg "is_tuple_of" 47:=λ _=>by kernel_rfl
theorem zas:Gg "NoPlan" 82:=λ _=>by kernel_rfl
theorem z8e:Gg "FIRST_STATES" 85:=λ _=>by kernel_rfl
theorem z5c:Gg "WORTHS_OF_VERBS" 88:=λ _=>by kernel_rfl
theorem zk9:Gg "DOERS" 150:=λ _=>by kernel_rfl
theorem zh0:Gg "is_kind" 169:=λ _=>by kernel_rfl
theorem zha:Gg "is_deed" 174:=λ _=>by kernel_rfl
theorem zgd:Gg "planned" 181:=λ _=>by kernel_rfl
theorem zhd:Gg "is_plan" 186:=λ _=>by kernel_rfl
theorem zb0:Gg "is_planned" 193:=λ _=>by kernel_rfl
theorem z8o (P:R0):M3 (KX P) Q2 "MOST_THINGS" = some (some (.int (6) 495)):=by kernel_rfl
theorem z9g (P:R0):M3 (KX P) Q2 "MOST_BEGINS" = some (some (.int (24) 497)):=by kernel_rfl
theorem zcw (P:R0):M3 (KX P) Q2 "LAST_HAND" = some (some (.int (5) 499)):=by kernel_rfl
theorem z5d (P:R0):M3 (KX P) Q2 "GREATEST_ANSWER" = some (some (.int (1000000000000) 501)):=by kernel_rfl
theorem z7k:Gg "ANSWER_WORDS" 194:=λ _=>by kernel_rfl
theorem zci:Gg "make_tale" 201:=λ _=>by kernel_rfl
theorem z8r:Gg "make_things" 206:=λ _=>by kernel_rfl
theorem ze0:Gg "is_thing" 213:=λ _=>by kernel_rfl
theorem z9n:Gg "make_events" 218:=λ _=>by kernel_rfl
theorem zdx:Gg "is_begin" 225:=λ _=>by kernel_rfl
theorem zjd:Gg "is_end" 232:=λ _=>by kernel_rfl
theorem zf1:Gg "is_event" 239:=λ _=>by kernel_rfl
theorem zgp:Gg "is_hand" 246:=λ _=>by kernel_rfl
theorem zcz:Gg "is_answer" 253:=λ _=>by kernel_rfl
theorem z8z:Gg "go_by_turns" 260:=λ _=>by kernel_rfl
theorem za3 (P:R0):M3 (KX P) Q2 "MOST_HANDS" = some (some (.int (6) 584)):=by kernel_rfl
theorem za0 (P:R0):M3 (KX P) Q2 "MOST_DEEDS" = some (some (.int (24) 586)):=by kernel_rfl
theorem zan:Gg "FIRST_HELD" 262:=λ _=>by kernel_rfl
theorem zb9:Gg "Errand" 279:=λ _=>by kernel_rfl
theorem zee:Gg "Letter" 300:=λ _=>by kernel_rfl
theorem zjh:Gg "Copies" 373:=λ _=>by kernel_rfl
theorem zai:Gg "check_plan" 382:=λ _=>by kernel_rfl
theorem za5:Gg "run_copies" 389:=λ _=>by kernel_rfl
theorem z80:Gg "_law_cell_at" 396:=λ _=>by kernel_rfl
theorem zes:Gg "_law_mix" 403:=λ _=>by kernel_rfl
theorem zae:Gg "_law_parts" 410:=λ _=>by kernel_rfl
theorem zcn:Gg "_law_plan" 415:=λ _=>by kernel_rfl
theorem zax:Gg "_law_begun" 425:=λ _=>by kernel_rfl
theorem zd5:Gg "_law_free" 430:=λ _=>by kernel_rfl
theorem zcc:Gg "_law_sent" 437:=λ _=>by kernel_rfl
theorem za4:Gg "_law_ended" 444:=λ _=>by kernel_rfl
theorem z7s:Gg "_law_gone_on" 451:=λ _=>by kernel_rfl
theorem zd7:Gg "_law_come" 458:=λ _=>by kernel_rfl
theorem zbc:Gg "_law_moved" 465:=λ _=>by kernel_rfl
theorem z9m:Gg "_law_choice" 472:=λ _=>by kernel_rfl
theorem z9l:Gg "_law_guided" 479:=λ _=>by kernel_rfl
theorem zet:Gg "_law_raw" 486:=λ _=>by kernel_rfl
theorem za6:Gg "_law_deeds" 493:=λ _=>by kernel_rfl
theorem zdb:Gg "_law_lets" 500:=λ _=>by kernel_rfl
theorem g_law:Gg "law" 507:=λ _=>by kernel_rfl
theorem za9 (P:R0):n9 (KX P) 82 [.type "ValueError",.type "Exception",.type "BaseException",.type "object"] "ValueError.__new__" = true:=by kernel_rfl
def kl_FIRST_STATES:List (Str×V):=[("register",.int (0)),("counter",.int (0)),("queue",.ref 86),("set",.ref 87),("cell",.int (0))]
theorem z6x (P:R0):KDict (KX P) P 85 kl_FIRST_STATES:=⟨⟨#[⟨(g0 P "register"),(.str "register" 285),(.int (0) 286)⟩,⟨(g0 P "counter"),(.str "counter" 287),(.int (0) 288)⟩,⟨(g0 P "queue"),(.str "queue" 289),(.ref 86)⟩,⟨(g0 P "set"),(.str "set" 290),(.ref 87)⟩,⟨(g0 P "cell"),(.str "cell" 291),(.int (0) 292)⟩],5,by kernel_rfl,(.cons ⟨⟨_,rfl⟩,rfl,⟨_,rfl⟩⟩ (.cons ⟨⟨_,rfl⟩,rfl,⟨_,rfl⟩⟩ (.cons ⟨⟨_,rfl⟩,rfl,rfl⟩ (.cons ⟨⟨_,rfl⟩,rfl,rfl⟩ (.cons ⟨⟨_,rfl⟩,rfl,⟨_,rfl⟩⟩ .nil)))))⟩,by decide⟩
def kl_WORTHS_OF_VERBS:List (Str×V):=[("read",.int (0)),("take",.int (0)),("write",.int (1)),("add",.int (1)),("put",.int (1)),("cut",.int (1)),("has",.int (1)),("swap",.int (2))]
theorem z4l (P:R0):KDict (KX P) P 88 kl_WORTHS_OF_VERBS:=⟨⟨#[⟨(g0 P "read"),(.str "read" 299),(.int (0) 300)⟩,⟨(g0 P "take"),(.str "take" 301),(.int (0) 302)⟩,⟨(g0 P "write"),(.str "write" 303),(.int (1) 304)⟩,⟨(g0 P "add"),(.str "add" 305),(.int (1) 306)⟩,⟨(g0 P "put"),(.str "put" 307),(.int (1) 308)⟩,⟨(g0 P "cut"),(.str "cut" 309),(.int (1) 310)⟩,⟨(g0 P "has"),(.str "has" 311),(.int (1) 312)⟩,⟨(g0 P "swap"),(.str "swap" 313),(.int (2) 314)⟩],8,by kernel_rfl,(.cons ⟨⟨_,rfl⟩,rfl,⟨_,rfl⟩⟩ (.cons ⟨⟨_,rfl⟩,rfl,⟨_,rfl⟩⟩ (.cons ⟨⟨_,rfl⟩,rfl,⟨_,rfl⟩⟩ (.cons ⟨⟨_,rfl⟩,rfl,⟨_,rfl⟩⟩ (.cons ⟨⟨_,rfl⟩,rfl,⟨_,rfl⟩⟩ (.cons ⟨⟨_,rfl⟩,rfl,⟨_,rfl⟩⟩ (.cons ⟨⟨_,rfl⟩,rfl,⟨_,rfl⟩⟩ (.cons ⟨⟨_,rfl⟩,rfl,⟨_,rfl⟩⟩ .nil))))))))⟩,by decide⟩
def kl_DOERS:List ((Str×Str)×V):=[(("register","read"),.ref 95),(("register","write"),.ref 102),(("counter","read"),.ref 95),(("counter","add"),.ref 109),(("queue","put"),.ref 116),(("queue","take"),.ref 123),(("set","put"),.ref 130),(("set","cut"),.ref 135),(("set","has"),.ref 142),(("cell","read"),.ref 95),(("cell","write"),.ref 102),(("cell","swap"),.ref 149)]
theorem zjc (P:R0):KDictT (KX P) P 150 kl_DOERS:=⟨⟨#[⟨(U1 (A0 [g0 P "register",g0 P "read"])),(.ref 151),(.ref 95)⟩,⟨(U1 (A0 [g0 P "register",g0 P "write"])),(.ref 152),(.ref 102)⟩,⟨(U1 (A0 [g0 P "counter",g0 P "read"])),(.ref 153),(.ref 95)⟩,⟨(U1 (A0 [g0 P "counter",g0 P "add"])),(.ref 154),(.ref 109)⟩,⟨(U1 (A0 [g0 P "queue",g0 P "put"])),(.ref 155),(.ref 116)⟩,⟨(U1 (A0 [g0 P "queue",g0 P "take"])),(.ref 156),(.ref 123)⟩,⟨(U1 (A0 [g0 P "set",g0 P "put"])),(.ref 157),(.ref 130)⟩,⟨(U1 (A0 [g0 P "set",g0 P "cut"])),(.ref 158),(.ref 135)⟩,⟨(U1 (A0 [g0 P "set",g0 P "has"])),(.ref 159),(.ref 142)⟩,⟨(U1 (A0 [g0 P "cell",g0 P "read"])),(.ref 160),(.ref 95)⟩,⟨(U1 (A0 [g0 P "cell",g0 P "write"])),(.ref 161),(.ref 102)⟩,⟨(U1 (A0 [g0 P "cell",g0 P "swap"])),(.ref 162),(.ref 149)⟩],12,by kernel_rfl,(.cons ⟨⟨151,394,395,0,rfl,by kernel_rfl⟩,rfl,rfl⟩ (.cons ⟨⟨152,396,397,0,rfl,by kernel_rfl⟩,rfl,rfl⟩ (.cons ⟨⟨153,398,399,0,rfl,by kernel_rfl⟩,rfl,rfl⟩ (.cons ⟨⟨154,400,401,0,rfl,by kernel_rfl⟩,rfl,rfl⟩ (.cons ⟨⟨155,402,403,0,rfl,by kernel_rfl⟩,rfl,rfl⟩ (.cons ⟨⟨156,404,405,0,rfl,by kernel_rfl⟩,rfl,rfl⟩ (.cons ⟨⟨157,406,407,0,rfl,by kernel_rfl⟩,rfl,rfl⟩ (.cons ⟨⟨158,408,409,0,rfl,by kernel_rfl⟩,rfl,rfl⟩ (.cons ⟨⟨159,410,411,0,rfl,by kernel_rfl⟩,rfl,rfl⟩ (.cons ⟨⟨160,412,413,0,rfl,by kernel_rfl⟩,rfl,rfl⟩ (.cons ⟨⟨161,414,415,0,rfl,by kernel_rfl⟩,rfl,rfl⟩ (.cons ⟨⟨162,416,417,0,rfl,by kernel_rfl⟩,rfl,rfl⟩ .nil))))))))))))⟩,by decide +kernel,by decide⟩
noncomputable abbrev y2c:Stmt:=top 4
noncomputable abbrev y1b:FuncData:=fnX "is_whole" "is_whole" (top 4) "talejudge.basics" 187 20
theorem z6e (P:R0):Fun (KX P) "is_whole" "is_whole" y2c 21 y1b:=z0c
theorem zdo (P:R0):Binds (KX P) y1b ["value"] []:=(z6e P).binds λ _ _ _ _ _ _=>us1 λ _=>rfl
theorem zcm:FnScope ["value"] ["value"] (z06 y2c):=.k
noncomputable abbrev y23:Stmt:=top 5
noncomputable abbrev y0z:FuncData:=fnX "is_within" "is_within" (top 5) "talejudge.basics" 187 27
theorem z4e (P:R0):Fun (KX P) "is_within" "is_within" y23 28 y0z:=z0c
theorem zcv (P:R0):Binds (KX P) y0z ["value","greatest"] []:=(z4e P).binds λ _ _ _ _ _ _=>us2 λ _ _=>rfl
theorem zam:FnScope ["value","greatest"] ["value","greatest"] (z06 y23):=.k
noncomputable abbrev y2d:Stmt:=top 6
noncomputable abbrev y1c:FuncData:=fnX "is_worth" "is_worth" (top 6) "talejudge.basics" 187 34
theorem z64 (P:R0):Fun (KX P) "is_worth" "is_worth" y2d 35 y1c:=z0c
theorem zds (P:R0):Binds (KX P) y1c ["value"] []:=(z64 P).binds λ _ _ _ _ _ _=>us1 λ _=>rfl
theorem zd4:FnScope ["value"] ["value"] (z06 y2d):=.k
noncomputable abbrev y2j:Stmt:=top 7
noncomputable abbrev y1p:FuncData:=fnX "is_name" "is_name" (top 7) "talejudge.basics" 187 39
theorem z7j (P:R0):Fun (KX P) "is_name" "is_name" y2j 40 y1p:=z0c
theorem zfz (P:R0):Binds (KX P) y1p ["value"] []:=(z7j P).binds λ _ _ _ _ _ _=>us1 λ _=>rfl
theorem zel:FnScope ["value"] ["value"] (z06 y2j):=.k
noncomputable abbrev y1i:Stmt:=top 8
noncomputable abbrev y0h:FuncData:=fnX "is_tuple_of" "is_tuple_of" (top 8) "talejudge.basics" 187 46
theorem z31 (P:R0):Fun (KX P) "is_tuple_of" "is_tuple_of" y1i 47 y0h:=z0c
theorem z8j (P:R0):Binds (KX P) y0h ["value","many"] []:=(z31 P).binds λ _ _ _ _ _ _=>us2 λ _ _=>rfl
theorem z7w:FnScope ["value","many"] ["value","many"] (z06 y1i):=.k
noncomputable abbrev y2k:Stmt:=top 26
noncomputable abbrev y1q:FuncData:=fnX "is_kind" "is_kind" (top 26) "talejudge.store" 283 168
theorem z7r (P:R0):Fun (KX P) "is_kind" "is_kind" y2k 169 y1q:=z0c
theorem zhh (P:R0):Binds (KX P) y1q ["kind"] []:=(z7r P).binds λ _ _ _ _ _ _=>us1 λ _=>rfl
theorem zfe:FnScope ["kind"] ["kind"] (z06 y2k):=.k
noncomputable abbrev y2l:Stmt:=top 27
noncomputable abbrev y1r:FuncData:=fnX "is_deed" "is_deed" (top 27) "talejudge.store" 283 173
theorem z7v (P:R0):Fun (KX P) "is_deed" "is_deed" y2l 174 y1r:=z0c
theorem zhk (P:R0):Binds (KX P) y1r ["kind","verb","worth"] []:=(z7v P).binds λ _ _ _ _ _ _=>us3 λ _ _ _=>rfl
theorem sc_is_deed:FnScope ["kind","verb","worth","many"] ["kind","verb","worth"] (z06 y2l):=.k
noncomputable abbrev y2m:Stmt:=top 29
noncomputable abbrev y1s:FuncData:=fnX "planned" "planned" (top 29) "talejudge.plans" 468 180
theorem z83 (P:R0):Fun (KX P) "planned" "planned" y2m 181 y1s:=z0c
theorem zhl (P:R0):Binds (KX P) y1s ["plan"] []:=(z83 P).binds λ _ _ _ _ _ _=>us1 λ _=>rfl
theorem sc_planned:FnScope ["plan","told","own"] ["plan"] (z06 y2m):=.k
noncomputable abbrev y2n:Stmt:=top 30
noncomputable abbrev y1t:FuncData:=fnX "is_plan" "is_plan" (top 30) "talejudge.plans" 468 185
theorem z89 (P:R0):Fun (KX P) "is_plan" "is_plan" y2n 186 y1t:=z0c
theorem zhi (P:R0):Binds (KX P) y1t ["kind","plan","most_hands","most_deeds"] []:=(z89 P).binds λ _ _ _ _ _ _=>us4 λ _ _ _ _=>rfl
theorem sc_is_plan:FnScope ["kind","plan","most_hands","most_deeds","told"] ["kind","plan","most_hands","most_deeds"] (z06 y2n):=.k
noncomputable abbrev y1v:Stmt:=top 31
noncomputable abbrev y0r:FuncData:=fnX "is_planned" "is_planned" (top 31) "talejudge.plans" 468 192
theorem z3h (P:R0):Fun (KX P) "is_planned" "is_planned" y1v 193 y0r:=z0c
theorem zay (P:R0):Binds (KX P) y0r ["kind","deed"] []:=(z3h P).binds λ _ _ _ _ _ _=>us2 λ _ _=>rfl
theorem z9a:FnScope ["kind","deed"] ["kind","deed"] (z06 y1v):=.k
noncomputable abbrev y24:Stmt:=top 38
noncomputable abbrev y10:FuncData:=fnX "make_tale" "make_tale" (top 38) "talejudge.tales" 493 200
theorem z4m (P:R0):Fun (KX P) "make_tale" "make_tale" y24 201 y10:=z0c
theorem zcd (P:R0):Binds (KX P) y10 ["things","events"] []:=(z4m P).binds λ _ _ _ _ _ _=>us2 λ _ _=>rfl
theorem sc_make_tale:FnScope ["things","events","own_things"] ["things","events"] (z06 y24):=.k
noncomputable abbrev y1j:Stmt:=top 39
noncomputable abbrev y0i:FuncData:=fnX "make_things" "make_things" (top 39) "talejudge.tales" 493 205
theorem z2x (P:R0):Fun (KX P) "make_things" "make_things" y1j 206 y0i:=z0c
theorem z8n (P:R0):Binds (KX P) y0i ["things"] []:=(z2x P).binds λ _ _ _ _ _ _=>us1 λ _=>rfl
theorem z7l:FnScope ["things"] ["things"] (z06 y1j):=.k
noncomputable abbrev y2e:Stmt:=top 40
noncomputable abbrev y1d:FuncData:=fnX "is_thing" "is_thing" (top 40) "talejudge.tales" 493 212
theorem z5j (P:R0):Fun (KX P) "is_thing" "is_thing" y2e 213 y1d:=z0c
theorem zez (P:R0):Binds (KX P) y1d ["thing"] []:=(z5j P).binds λ _ _ _ _ _ _=>us1 λ _=>rfl
theorem zd0:FnScope ["thing"] ["thing"] (z06 y2e):=.k
noncomputable abbrev y1k:Stmt:=top 41
noncomputable abbrev y0j:FuncData:=fnX "make_events" "make_events" (top 41) "talejudge.tales" 493 217
theorem z2u (P:R0):Fun (KX P) "make_events" "make_events" y1k 218 y0j:=z0c
theorem z8s (P:R0):Binds (KX P) y0j ["events","kinds"] []:=(z2u P).binds λ _ _ _ _ _ _=>us2 λ _ _=>rfl
theorem z8f:FnScope ["events","kinds"] ["events","kinds"] (z06 y1k):=.k
noncomputable abbrev y2f:Stmt:=top 42
noncomputable abbrev y1e:FuncData:=fnX "is_begin" "is_begin" (top 42) "talejudge.tales" 493 224
theorem z66 (P:R0):Fun (KX P) "is_begin" "is_begin" y2f 225 y1e:=z0c
theorem zfj (P:R0):Binds (KX P) y1e ["event","kinds"] []:=(z66 P).binds λ _ _ _ _ _ _=>us2 λ _ _=>rfl
theorem zcx:FnScope ["event","kinds"] ["event","kinds"] (z06 y2f):=.k
noncomputable abbrev y2p:Stmt:=top 43
noncomputable abbrev y25:FuncData:=fnX "is_end" "is_end" (top 43) "talejudge.tales" 493 231
theorem zb7 (P:R0):Fun (KX P) "is_end" "is_end" y2p 232 y25:=z0c
theorem zj2 (P:R0):Binds (KX P) y25 ["event"] []:=(zb7 P).binds λ _ _ _ _ _ _=>us1 λ _=>rfl
theorem zgg:FnScope ["event"] ["event"] (z06 y2p):=.k
noncomputable abbrev y2g:Stmt:=top 44
noncomputable abbrev y1f:FuncData:=fnX "is_event" "is_event" (top 44) "talejudge.tales" 493 238
theorem z5w (P:R0):Fun (KX P) "is_event" "is_event" y2g 239 y1f:=z0c
theorem zfo (P:R0):Binds (KX P) y1f ["event","word","many"] []:=(z5w P).binds λ _ _ _ _ _ _=>us3 λ _ _ _=>rfl
theorem zcp:FnScope ["event","word","many"] ["event","word","many"] (z06 y2g):=.k
noncomputable abbrev y2o:Stmt:=top 45
noncomputable abbrev y1u:FuncData:=fnX "is_hand" "is_hand" (top 45) "talejudge.tales" 493 245
theorem z8h (P:R0):Fun (KX P) "is_hand" "is_hand" y2o 246 y1u:=z0c
theorem zgf (P:R0):Binds (KX P) y1u ["hand"] []:=(z8h P).binds λ _ _ _ _ _ _=>us1 λ _=>rfl
theorem zfv:FnScope ["hand"] ["hand"] (z06 y2o):=.k
noncomputable abbrev y26:Stmt:=top 46
noncomputable abbrev y11:FuncData:=fnX "is_answer" "is_answer" (top 46) "talejudge.tales" 493 252
theorem z4p (P:R0):Fun (KX P) "is_answer" "is_answer" y26 253 y11:=z0c
theorem zcy (P:R0):Binds (KX P) y11 ["answer"] []:=(z4p P).binds λ _ _ _ _ _ _=>us1 λ _=>rfl
theorem z9w:FnScope ["answer"] ["answer"] (z06 y26):=.k
noncomputable abbrev y1l:Stmt:=top 47
noncomputable abbrev y0k:FuncData:=fnX "go_by_turns" "go_by_turns" (top 47) "talejudge.tales" 493 259
theorem z2v (P:R0):Fun (KX P) "go_by_turns" "go_by_turns" y1l 260 y0k:=z0c
theorem z92 (P:R0):Binds (KX P) y0k ["events"] []:=(z2v P).binds λ _ _ _ _ _ _=>us1 λ _=>rfl
theorem sc_go_by_turns:FnScope ["events","busy","event","begins"] ["events"] (z06 y1l):=.k
noncomputable abbrev y1w:Stmt:=top 55
noncomputable abbrev y0s:FuncData:=fnX "check_plan" "check_plan" (top 55) "talejudge.copies" 582 381
theorem z3k (P:R0):Fun (KX P) "check_plan" "check_plan" y1w 382 y0s:=z0c
theorem zb5 (P:R0):Binds (KX P) y0s ["many","plan"] []:=(z3k P).binds λ _ _ _ _ _ _=>us2 λ _ _=>rfl
theorem sc_check_plan:FnScope ["many","plan","worths"] ["many","plan"] (z06 y1w):=.k
noncomputable abbrev y1x:Stmt:=top 56
noncomputable abbrev y0t:FuncData:=fnX "run_copies" "run_copies" (top 56) "talejudge.copies" 582 388
theorem z3f (P:R0):Fun (KX P) "run_copies" "run_copies" y1x 389 y0t:=z0c
theorem zaj (P:R0):Binds (KX P) y0t ["many","plan","choices","back"] []:=(z3f P).binds λ _ _ _ _ _ _=>us4 λ _ _ _ _=>rfl
theorem sc_run_copies:FnScope ["many","plan","choices","back","copies","choice"] ["many","plan","choices","back"] (z06 y1x):=.k
noncomputable abbrev y17:Stmt:=top 58
noncomputable abbrev y0d:FuncData:=fY "_law_cell_at" "_law_cell_at" (top 58) 395
theorem z26 (P:R0):Fun (KX P) "_law_cell_at" "_law_cell_at" y17 396 y0d:=z0c
theorem z7h (P:R0):Binds (KX P) y0d ["script","k"] []:=(z26 P).binds λ _ _ _ _ _ _=>us2 λ _ _=>rfl
theorem z6o:FnScope ["script","k"] ["script","k"] (z06 y17):=.k
noncomputable abbrev y2h:Stmt:=top 59
noncomputable abbrev y1g:FuncData:=fY "_law_mix" "_law_mix" (top 59) 402
theorem z5u (P:R0):Fun (KX P) "_law_mix" "_law_mix" y2h 403 y1g:=z0c
theorem ze7 (P:R0):Binds (KX P) y1g ["cell","k"] []:=(z5u P).binds λ _ _ _ _ _ _=>us2 λ _ _=>rfl
theorem sc__law_mix:FnScope ["cell","k","one"] ["cell","k"] (z06 y2h):=.k
noncomputable abbrev y1y:Stmt:=top 60
noncomputable abbrev y0u:FuncData:=fY "_law_parts" "_law_parts" (top 60) 409
theorem z3l (P:R0):Fun (KX P) "_law_parts" "_law_parts" y1y 410 y0u:=z0c
theorem zb8 (P:R0):Binds (KX P) y0u ["cell","least"] []:=(z3l P).binds λ _ _ _ _ _ _=>us2 λ _ _=>rfl
theorem sc__law_parts:FnScope ["cell","least","xs","rest","k"] ["cell","least"] (z06 y1y):=.k
noncomputable abbrev y27:Stmt:=top 61
noncomputable abbrev y12:FuncData:=fY "_law_plan" "_law_plan" (top 61) 414
theorem z4g (P:R0):Fun (KX P) "_law_plan" "_law_plan" y27 415 y12:=z0c
theorem zcl (P:R0):Binds (KX P) y12 ["script","hands","most","writers"] []:=(z4g P).binds λ _ _ _ _ _ _=>us4 λ _ _ _ _=>rfl
theorem sc__law_plan:FnScope ["script","hands","most","writers","start","step","sign","plan","xs","k","hand","deed"] ["script","hands","most","writers"] (z06 y27):=.k
noncomputable abbrev y1z:Stmt:=top 63
noncomputable abbrev y0v:FuncData:=fY "_law_begun" "_law_begun" (top 63) 424
theorem z3g (P:R0):Fun (KX P) "_law_begun" "_law_begun" y1z 425 y0v:=z0c
theorem za8 (P:R0):Binds (KX P) y0v ["many","plan"] []:=(z3g P).binds λ _ _ _ _ _ _=>us2 λ _ _=>rfl
theorem sc__law_begun:FnScope ["many","plan","state"] ["many","plan"] (z06 y1z):=.k
noncomputable abbrev y28:Stmt:=top 64
noncomputable abbrev y13:FuncData:=fY "_law_free" "_law_free" (top 64) 429
theorem z4d (P:R0):Fun (KX P) "_law_free" "_law_free" y28 430 y13:=z0c
theorem zdc (P:R0):Binds (KX P) y13 ["state","plan"] []:=(z4d P).binds λ _ _ _ _ _ _=>us2 λ _ _=>rfl
theorem z9x:FnScope ["state","plan"] ["state","plan"] (z06 y28):=.k
noncomputable abbrev y29:Stmt:=top 65
noncomputable abbrev y14:FuncData:=fY "_law_sent" "_law_sent" (top 65) 436
theorem z4t (P:R0):Fun (KX P) "_law_sent" "_law_sent" y29 437 y14:=z0c
theorem zch (P:R0):Binds (KX P) y14 ["state","hand","stamp","worth"] []:=(z4t P).binds λ _ _ _ _ _ _=>us4 λ _ _ _ _=>rfl
theorem sc__law_sent:FnScope ["state","hand","stamp","worth","copy"] ["state","hand","stamp","worth"] (z06 y29):=.k
noncomputable abbrev y20:Stmt:=top 66
noncomputable abbrev y0w:FuncData:=fY "_law_ended" "_law_ended" (top 66) 443
theorem z3j (P:R0):Fun (KX P) "_law_ended" "_law_ended" y20 444 y0w:=z0c
theorem zaf (P:R0):Binds (KX P) y0w ["state","hand","answer"] []:=(z3j P).binds λ _ _ _ _ _ _=>us3 λ _ _ _=>rfl
theorem z9j:FnScope ["state","hand","answer"] ["state","hand","answer"] (z06 y20):=.k
noncomputable abbrev y18:Stmt:=top 67
noncomputable abbrev y0e:FuncData:=fY "_law_gone_on" "_law_gone_on" (top 67) 450
theorem z28 (P:R0):Fun (KX P) "_law_gone_on" "_law_gone_on" y18 451 y0e:=z0c
theorem z8c (P:R0):Binds (KX P) y0e ["state","hand","back"] []:=(z28 P).binds λ _ _ _ _ _ _=>us3 λ _ _ _=>rfl
theorem sc__law_gone_on:FnScope ["state","hand","back","deed","stamp","worth"] ["state","hand","back"] (z06 y18):=.k
noncomputable abbrev y2a:Stmt:=top 68
noncomputable abbrev y15:FuncData:=fY "_law_come" "_law_come" (top 68) 457
theorem z4u (P:R0):Fun (KX P) "_law_come" "_law_come" y2a 458 y15:=z0c
theorem zck (P:R0):Binds (KX P) y15 ["state","letter","back"] []:=(z4u P).binds λ _ _ _ _ _ _=>us3 λ _ _ _=>rfl
theorem sc__law_come:FnScope ["state","letter","back","copy","hand","turn","side","stamp","worth","deed"] ["state","letter","back"] (z06 y2a):=.k
noncomputable abbrev y21:Stmt:=top 69
noncomputable abbrev y0x:FuncData:=fY "_law_moved" "_law_moved" (top 69) 464
theorem z3x (P:R0):Fun (KX P) "_law_moved" "_law_moved" y21 465 y0x:=z0c
theorem zad (P:R0):Binds (KX P) y0x ["state","plan","number","back"] []:=(z3x P).binds λ _ _ _ _ _ _=>us4 λ _ _ _ _=>rfl
theorem sc__law_moved:FnScope ["state","plan","number","back","free","hand","verb","worth","at","letter"] ["state","plan","number","back"] (z06 y21):=.k
noncomputable abbrev y1m:Stmt:=top 70
noncomputable abbrev y0l:FuncData:=fY "_law_choice" "_law_choice" (top 70) 471
theorem z34 (P:R0):Fun (KX P) "_law_choice" "_law_choice" y1m 472 y0l:=z0c
theorem z8l (P:R0):Binds (KX P) y0l ["state","plan","x","sure"] []:=(z34 P).binds λ _ _ _ _ _ _=>us4 λ _ _ _ _=>rfl
theorem sc__law_choice:FnScope ["state","plan","x","sure","come","every","number"] ["state","plan","x","sure"] (z06 y1m):=.k
noncomputable abbrev y1n:Stmt:=top 71
noncomputable abbrev y0m:FuncData:=fY "_law_guided" "_law_guided" (top 71) 478
theorem z2z (P:R0):Fun (KX P) "_law_guided" "_law_guided" y1n 479 y0m:=z0c
theorem z90 (P:R0):Binds (KX P) y0m ["script","many","plan","back","sure"] []:=(z2z P).binds λ _ _ _ _ _ _=>us5 λ _ _ _ _ _=>rfl
theorem sc__law_guided:FnScope ["script","many","plan","back","sure","state","choices","cell","k","choice","every"] ["script","many","plan","back","sure"] (z06 y1n):=.k
noncomputable abbrev y2i:Stmt:=top 72
noncomputable abbrev y1h:FuncData:=fY "_law_raw" "_law_raw" (top 72) 485
theorem z5r (P:R0):Fun (KX P) "_law_raw" "_law_raw" y2i 486 y1h:=z0c
theorem zff (P:R0):Binds (KX P) y1h ["script"] []:=(z5r P).binds λ _ _ _ _ _ _=>us1 λ _=>rfl
theorem sc__law_raw:FnScope ["script","choices","cell","k"] ["script"] (z06 y2i):=.k
noncomputable abbrev y22:Stmt:=top 73
noncomputable abbrev y0y:FuncData:=fY "_law_deeds" "_law_deeds" (top 73) 492
theorem z3u (P:R0):Fun (KX P) "_law_deeds" "_law_deeds" y22 493 y0y:=z0c
theorem zat (P:R0):Binds (KX P) y0y ["events"] []:=(z3u P).binds λ _ _ _ _ _ _=>us1 λ _=>rfl
theorem sc__law_deeds:FnScope ["events","acts","now","k","deed"] ["events"] (z06 y22):=.k
noncomputable abbrev y2b:Stmt:=top 74
noncomputable abbrev y16:FuncData:=fY "_law_lets" "_law_lets" (top 74) 499
theorem z4q (P:R0):Fun (KX P) "_law_lets" "_law_lets" y2b 500 y16:=z0c
theorem zcq (P:R0):Binds (KX P) y16 ["acts","begin","end"] []:=(z4q P).binds λ _ _ _ _ _ _=>us3 λ _ _ _=>rfl
theorem sc__law_lets:FnScope ["acts","begin","end","last","let","verb","worth","start","stop","hand"] ["acts","begin","end"] (z06 y2b):=.k
noncomputable abbrev y2q:Stmt:=top 75
noncomputable abbrev fd_law:FuncData:=fY "law" "law" (top 75) 506
theorem F_law (P:R0):Fun (KX P) "law" "law" y2q 507 fd_law:=z0c
theorem sc_law:FnScope ["script","hands","plan","many","kind","choices","things","events","acts","verb","worth","begin","end","hand","let"] ["script"] (z06 y2q):=.k
noncomputable abbrev y0n:Stmt:=subS (top 52) 0
noncomputable abbrev y02:FuncData:=fnX "__init__" "Errand.__init__" (subS (top 52) 0) "talejudge.copies" 582 275
theorem z2l (P:R0):Fun (KX P) "__init__" "Errand.__init__" y0n 276 y02:=z0c
theorem z1i (P:R0):Binds (KX P) y02 ["self","hand","deed","kept"] []:=(z2l P).binds λ _ _ _ _ _ _=>us4 λ _ _ _ _=>rfl
theorem z4k:FnScope ["self","hand","deed","kept"] ["self","hand","deed","kept"] (z06 y0n):=.k
theorem z7p (P:R0):Mk (KX P) 279 276:=⟨by kernel_rfl,by kernel_rfl,by kernel_rfl,by kernel_rfl⟩
theorem z0i (P:R0):Cls (KX P) 279:=⟨by kernel_rfl,by kernel_rfl,by kernel_rfl,by kernel_rfl⟩
theorem z0y (P:R0):NoAttr (KX P) 279 "hand":=by unfold NoAttr;kernel_rfl
theorem z0w (P:R0):NoAttr (KX P) 279 "deed":=by unfold NoAttr;kernel_rfl
theorem z0x (P:R0):NoAttr (KX P) 279 "kept":=by unfold NoAttr;kernel_rfl
theorem z1f (P:R0):NoAttr (KX P) 279 "heard":=by unfold NoAttr;kernel_rfl
noncomputable abbrev y0o:Stmt:=subS (top 53) 0
noncomputable abbrev y03:FuncData:=fnX "__init__" "Letter.__init__" (subS (top 53) 0) "talejudge.copies" 582 296
theorem z2j (P:R0):Fun (KX P) "__init__" "Letter.__init__" y0o 297 y03:=z0c
theorem z2h (P:R0):Binds (KX P) y03 ["self","errand","number","held"] []:=(z2j P).binds λ _ _ _ _ _ _=>us4 λ _ _ _ _=>rfl
theorem z4w:FnScope ["self","errand","number","held"] ["self","errand","number","held"] (z06 y0o):=.k
theorem zbh (P:R0):Mk (KX P) 300 297:=⟨by kernel_rfl,by kernel_rfl,by kernel_rfl,by kernel_rfl⟩
theorem z1w (P:R0):Cls (KX P) 300:=⟨by kernel_rfl,by kernel_rfl,by kernel_rfl,by kernel_rfl⟩
theorem z1o (P:R0):NoAttr (KX P) 300 "errand":=by unfold NoAttr;kernel_rfl
theorem z2t (P:R0):NoAttr (KX P) 300 "number":=by unfold NoAttr;kernel_rfl
theorem z29 (P:R0):NoAttr (KX P) 300 "held":=by unfold NoAttr;kernel_rfl
noncomputable abbrev y0p:Stmt:=subS (top 54) 0
noncomputable abbrev y07:FuncData:=fnX "__init__" "Copies.__init__" (subS (top 54) 0) "talejudge.copies" 582 315
theorem z2m (P:R0):Fun (KX P) "__init__" "Copies.__init__" y0p 316 y07:=z0c
theorem z5e (P:R0):Binds (KX P) y07 ["self","many","plan","back"] []:=(z2m P).binds λ _ _ _ _ _ _=>us4 λ _ _ _ _=>rfl
theorem z4i:FnScope ["self","many","plan","back"] ["self","many","plan","back"] (z06 y0p):=.k
theorem zg5 (P:R0):Mk (KX P) 373 316:=⟨by kernel_rfl,by kernel_rfl,by kernel_rfl,by kernel_rfl⟩
theorem z09 (P:R0):Cls (KX P) 373:=⟨by kernel_rfl,by kernel_rfl,by kernel_rfl,by kernel_rfl⟩
theorem z0u (P:R0):NoAttr (KX P) 373 "stock":=by unfold NoAttr;kernel_rfl
theorem z4c (P:R0):NoAttr (KX P) 373 "back":=by unfold NoAttr;kernel_rfl
theorem z2b (P:R0):NoAttr (KX P) 373 "left":=by unfold NoAttr;kernel_rfl
theorem z1l (P:R0):NoAttr (KX P) 373 "idle":=by unfold NoAttr;kernel_rfl
theorem z0t (P:R0):NoAttr (KX P) 373 "letters":=by unfold NoAttr;kernel_rfl
theorem z14 (P:R0):NoAttr (KX P) 373 "events":=by unfold NoAttr;kernel_rfl
noncomputable abbrev y19:Stmt:=subS (top 54) 1
noncomputable abbrev y0a:FuncData:=fnX "go_on" "Copies.go_on" (subS (top 54) 1) "talejudge.copies" 582 320
theorem z44 (P:R0):Fun (KX P) "go_on" "Copies.go_on" y19 321 y0a:=z0c
theorem z87 (P:R0):Binds (KX P) y0a ["self","choice"] []:=(z44 P).binds λ _ _ _ _ _ _=>us2 λ _ _=>rfl
theorem sc_Copies_go_on:FnScope ["self","choice","ready","many","chosen","letter"] ["self","choice"] (z06 y19):=.k
theorem z6q (P:R0):Meth (KX P) 373 "go_on" 321:=⟨by kernel_rfl,by kernel_rfl,by kernel_rfl⟩
noncomputable abbrev y0f:Stmt:=subS (top 54) 2
noncomputable abbrev y05:FuncData:=fnX "begin_deed" "Copies.begin_deed" (subS (top 54) 2) "talejudge.copies" 582 327
theorem z1v (P:R0):Fun (KX P) "begin_deed" "Copies.begin_deed" y0f 328 y05:=z0c
theorem z40 (P:R0):Binds (KX P) y05 ["self","hand"] []:=(z1v P).binds λ _ _ _ _ _ _=>us2 λ _ _=>rfl
theorem sc_Copies_begin_deed:FnScope ["self","hand","deed"] ["self","hand"] (z06 y0f):=.k
theorem z3t (P:R0):Meth (KX P) 373 "begin_deed" 328:=⟨by kernel_rfl,by kernel_rfl,by kernel_rfl⟩
noncomputable abbrev y1o:Stmt:=subS (top 54) 3
noncomputable abbrev y08:FuncData:=fnX "send" "Copies.send" (subS (top 54) 3) "talejudge.copies" 582 334
theorem z51 (P:R0):Fun (KX P) "send" "Copies.send" y1o 335 y08:=z0c
theorem z2y (P:R0):Binds (KX P) y08 ["self","errand"] []:=(z51 P).binds λ _ _ _ _ _ _=>us2 λ _ _=>rfl
theorem sc_Copies_send:FnScope ["self","errand","number"] ["self","errand"] (z06 y1o):=.k
theorem z27 (P:R0):Meth (KX P) 373 "send" 335:=⟨by kernel_rfl,by kernel_rfl,by kernel_rfl⟩
noncomputable abbrev y1a:Stmt:=subS (top 54) 4
noncomputable abbrev y0b:FuncData:=fnX "bring" "Copies.bring" (subS (top 54) 4) "talejudge.copies" 582 341
theorem z4a (P:R0):Fun (KX P) "bring" "Copies.bring" y1a 342 y0b:=z0c
theorem z7i (P:R0):Binds (KX P) y0b ["self","letter"] []:=(z4a P).binds λ _ _ _ _ _ _=>us2 λ _ _=>rfl
theorem z6p:FnScope ["self","letter"] ["self","letter"] (z06 y1a):=.k
theorem z6r (P:R0):Meth (KX P) 373 "bring" 342:=⟨by kernel_rfl,by kernel_rfl,by kernel_rfl⟩
noncomputable abbrev y0c:Stmt:=subS (top 54) 5
noncomputable abbrev y01:FuncData:=fnX "bring_to_copy" "Copies.bring_to_copy" (subS (top 54) 5) "talejudge.copies" 582 348
theorem z1h (P:R0):Fun (KX P) "bring_to_copy" "Copies.bring_to_copy" y0c 349 y01:=z0c
theorem z32 (P:R0):Binds (KX P) y01 ["self","errand","number"] []:=(z1h P).binds λ _ _ _ _ _ _=>us3 λ _ _ _=>rfl
theorem z2o:FnScope ["self","errand","number"] ["self","errand","number"] (z06 y0c):=.k
theorem z2q (P:R0):Meth (KX P) 373 "bring_to_copy" 349:=⟨by kernel_rfl,by kernel_rfl,by kernel_rfl⟩
noncomputable abbrev y0g:Stmt:=subS (top 54) 6
noncomputable abbrev y06:FuncData:=fnX "bring_back" "Copies.bring_back" (subS (top 54) 6) "talejudge.copies" 582 355
theorem z1x (P:R0):Fun (KX P) "bring_back" "Copies.bring_back" y0g 356 y06:=z0c
theorem z45 (P:R0):Binds (KX P) y06 ["self","errand","held"] []:=(z1x P).binds λ _ _ _ _ _ _=>us3 λ _ _ _=>rfl
theorem z3m:FnScope ["self","errand","held"] ["self","errand","held"] (z06 y0g):=.k
theorem z3o (P:R0):Meth (KX P) 373 "bring_back" 356:=⟨by kernel_rfl,by kernel_rfl,by kernel_rfl⟩
noncomputable abbrev y09:Stmt:=subS (top 54) 7
noncomputable abbrev y00:FuncData:=fnX "go_on_from_asking" "Copies.go_on_from_asking" (subS (top 54) 7) "talejudge.copies" 582 362
theorem z11 (P:R0):Fun (KX P) "go_on_from_asking" "Copies.go_on_from_asking" y09 363 y00:=z0c
theorem z1z (P:R0):Binds (KX P) y00 ["self","errand"] []:=(z11 P).binds λ _ _ _ _ _ _=>us2 λ _ _=>rfl
theorem sc_Copies_go_on_from_asking:FnScope ["self","errand","greatest"] ["self","errand"] (z06 y09):=.k
theorem z1u (P:R0):Meth (KX P) 373 "go_on_from_asking" 363:=⟨by kernel_rfl,by kernel_rfl,by kernel_rfl⟩
noncomputable abbrev y0q:Stmt:=subS (top 54) 8
noncomputable abbrev y04:FuncData:=fnX "end_deed" "Copies.end_deed" (subS (top 54) 8) "talejudge.copies" 582 369
theorem z2i (P:R0):Fun (KX P) "end_deed" "Copies.end_deed" y0q 370 y04:=z0c
theorem z2n (P:R0):Binds (KX P) y04 ["self","errand","worth"] []:=(z2i P).binds λ _ _ _ _ _ _=>us3 λ _ _ _=>rfl
theorem z4f:FnScope ["self","errand","worth"] ["self","errand","worth"] (z06 y0q):=.k
theorem z23 (P:R0):Meth (KX P) 373 "end_deed" 370:=⟨by kernel_rfl,by kernel_rfl,by kernel_rfl⟩
section
variable {P:Program} {w:C1} {mg:Str->Option Value} {base:Heap}
def z36:Sp:=λ vs H Q _=>∃x T,vs=[x]/\TagOf H x T/\Q (.bl (decide (T = "int"))) H
theorem zcf (T:TX (kx w) mg):Fo P w mg base CX0 1 21 y1b ["value"] z36:=by
 refine (z6e w.params).ok zcm (λ b H Q E h=>?_) (λ c A d s H b Q E e h=>?_)
 ·obtain ⟨x,t,rfl,_⟩:=h;rfl
 ·obtain ⟨x,t,rfl,a,q⟩:=h;refine ⟨_,(z05 (ps_ret (pe_and (z07 z0o rfl (T.no (z0l _)) P3 (z01 (pv 0) (z01 (z2k (v:=.ty "int") rfl (T.no (n_int _)) boot_int rfl) pa_nil))) (pe_one (pe_not (z07 z0o rfl (T.no (z0l _)) P3 (z01 (pv 0) (z01 (z2k (v:=.ty "bool") rfl (T.no (n_bool _)) boot_bool rfl) pa_nil)))))))),?_⟩;refine ⟨_,rfl,_,_,_,rfl,a,by decide,_,rfl,?_⟩;by_cases h1:instB t "int" = true
  ·rw [if_pos h1];refine ⟨_,rfl,_,_,_,rfl,a,by decide,_,rfl,?_⟩;rw [z6d a (by decide)];have:(!decide (t = "bool"))=decide (t = "int"):=by rcases a.one with rfl|rfl|rfl|rfl|rfl|rfl|rfl<;>revert h1<;>decide
   rw [this];exact q
  ·rw [if_neg h1];have:decide (t = "int")=false:=by rcases a.one with rfl|rfl|rfl|rfl|rfl|rfl|rfl<;>revert h1<;>decide
   rw [this] at q;exact q
def z3n:Sp:=λ vs H Q _=>∃x T g,vs=[x,.int g]/\TagOf H x T/\Q (.bl (z0j x g)) H
theorem zau (T:TX (kx w) mg) (c0:Ca P w mg base "is_whole" ["value"] 1 z36):Fo P w mg base CX0 2 28 y0z ["value","greatest"] z3n:=by
 refine (z4e w.params).ok zam (λ b H Q E h=>?_) (λ d A e s H b Q E c h=>?_)
 ·obtain ⟨x,t,g,rfl,_⟩:=h;rfl
 ·obtain ⟨x,t,g,rfl,a,q⟩:=h;refine ⟨_,(z05 (ps_ret (pe_and (pe_cal c0 (c.mono (by decide)) rfl (z01 (pv 0) pa_nil)) (pe_one (ze2 op_le op_le (pe_un un_neg (pv 1)) (pv 0) (pv 1)))))),?_⟩;refine ⟨_,rfl,x,t,rfl,a,_,rfl,?_⟩;by_cases h1:t = "int"
  ·subst h1;obtain ⟨i,rfl⟩:=a.int;refine iteT ?_;refine ⟨_,rfl,_,rfl,_,rfl,_,_,rfl,rfl,_,rfl,?_⟩;unfold z0j at q;dsimp only at q;by_cases h2:-g<=i
   ·rw [decide_eq_true h2] at q⊢;refine iteT ⟨_,rfl,_,_,rfl,rfl,?_⟩;rw [y6] at q;exact q
   ·rw [decide_eq_false h2] at q⊢;refine iteF ?_;rw [P6] at q;exact q
  ·rw [decide_eq_false h1];refine iteF ?_;rw [noInt a h1] at q;exact q
def z73:Sp:=λ vs H Q _=>∃x T,vs=[x]/\TagOf H x T/\Q (.bl (z0j x 1000000000)) H
theorem zcg (T:TX (kx w) mg) (c0:Ca P w mg base "is_within" ["value","greatest"] 2 z3n):Fo P w mg base CX0 3 35 y1c ["value"] z73:=by
 refine (z64 w.params).ok zd4 (λ a H Q E h=>?_) (λ d A e s H a Q E c h=>?_)
 ·obtain ⟨x,t,rfl,_⟩:=h;rfl
 ·obtain ⟨x,t,rfl,b,q⟩:=h;refine ⟨_,(z05 (ps_ret (pe_cal c0 (c.mono (by decide)) rfl (z01 (pv 0) (z01 (z1y (v:=.int (1000000000)) rfl (T.of (z6j _)) ⟨_,rfl⟩) pa_nil))))),?_⟩;exact ⟨_,rfl,x,t,1000000000,rfl,b,q⟩
def z13:Sp:=λ vs H Q _=>∃x T m,vs=[x,.int m]/\TagOf H x T/\Q (.bl (match tupOf H x with|some xs=>decide ((xs.length:Int)=m)|none=>false)) H
theorem z82 (T:TX (kx w) mg):Fo P w mg base CX0 1 47 y0h ["value","many"] z13:=by
 refine (z31 w.params).ok z7w (λ i H Q E h=>?_) (λ l A k s H i Q E j h=>?_)
 ·obtain ⟨x,t,g,rfl,_⟩:=h;rfl
 ·obtain ⟨x,t,g,rfl,c,q⟩:=h;refine ⟨_,(z05 (ps_ret (pe_and (z07 z0o rfl (T.no (z0l _)) P3 (z01 (pv 0) (z01 (z2k (v:=.ty "tuple") rfl (T.no (zdt _)) boot_tuple rfl) pa_nil))) (pe_one (z39 opEq (z07 z0n rfl (T.no (n_len _)) G2 (z01 (pv 0) pa_nil)) (pv 1) (nomark _)))))),?_⟩;refine ⟨_,rfl,_,_,_,rfl,c,by decide,_,rfl,?_⟩;rw [z6d c (by decide)];by_cases h1:t = "tuple"
  ·subst h1;obtain ⟨a,b,rfl,d⟩:=c.tuple;refine iteT ⟨_,rfl,.inl ⟨a,b,rfl,.inr (SqT.of d),_,rfl,rfl,?_⟩⟩;have e:tupOf H (.ref a)=some b:=by unfold tupOf;dsimp only;rw [d]
   rw [e] at q;have f:decide (V.int (b.length:Int)=V.int g)=decide ((b.length:Int)=g):=by simp
   rw [f];exact q
  ·rw [decide_eq_false h1];refine iteF ?_;rw [noTup c h1] at q;exact q
def kindB (x:V):Bool:=match x with
 | .str z=>(kl_FIRST_STATES.lookup z).isSome
 | _=>false
def z5x:Sp:=λ vs H Q _=>∃x T,vs=[x]/\TagOf H x T/\Q (.bl (kindB x)) H
theorem zea (T:TX (kx w) mg):Fo P w mg base CX0 1 169 y1q ["kind"] z5x:=by
 refine (z7r w.params).ok zfe (λ b H Q E h=>?_) (λ c A d s H b Q E e h=>?_)
 ·obtain ⟨x,t,rfl,_⟩:=h;rfl
 ·obtain ⟨x,t,rfl,a,q⟩:=h;refine ⟨_,(z05 (ps_ret (pe_and (z07 z0o rfl (T.no (z0l _)) P3 (z01 (pv 0) (z01 (z2k (v:=.ty "str") rfl (T.no (n_str _)) j3h rfl) pa_nil))) (pe_one (z39 (ziz (z6x _)) (pv 0) (z1y (v:=.ref 85) rfl (T.of (z8e _)) rfl) (by with_unfolding_all rfl)))))),?_⟩;refine ⟨_,rfl,_,_,_,rfl,a,by decide,_,rfl,?_⟩;rw [z6d a (by decide)];by_cases h1:t = "str"
  ·subst h1;obtain ⟨z,rfl⟩:=a.str;exact iteT ⟨_,rfl,z,rfl,rfl,q⟩
  ·rw [decide_eq_false h1];refine iteF ?_;cases x with
   | str z=>exact absurd a h1
   | _=>exact q
def formOf (k v:Str):Int:=match kl_DOERS.lookup (k,v) with
 | none=>-1
 | some _=>(match kl_WORTHS_OF_VERBS.lookup v with|some (.int i)=>i|_=>-1)
def deedB (H:Hp) (k v x:V):Bool:=match k,v with
 | .str a,.str b=>if formOf a b=0 then decide (x=.non) else if formOf a b=1 then z0j x 1000000000 else if formOf a b=2 then
   (match tupOf H x with|some xs=>decide (xs.length=2) && xs.all λ y=>z0j y 1000000000|none=>false) else false
 | _,_=>false
theorem z8t {a b:Str} {v:V} (h:kl_DOERS.lookup (a,b)=some v):(kl_FIRST_STATES.lookup a).isSome=true/\∃i,kl_WORTHS_OF_VERBS.lookup b=some (.int i)/\(i=0\/i=1\/i=2):=by
 have m:=z69 h;have all :∀p∈kl_DOERS,(kl_FIRST_STATES.lookup p.1.1).isSome=true/\(kl_WORTHS_OF_VERBS.lookup p.1.2=some (.int 0)\/kl_WORTHS_OF_VERBS.lookup p.1.2=some (.int 1)\/kl_WORTHS_OF_VERBS.lookup p.1.2=some (.int 2)):=by decide +kernel
 obtain ⟨d,c⟩:=all _ m;refine ⟨d,?_⟩;rcases c with c|c|c
 ·exact ⟨0,c,.inl rfl⟩
 ·exact ⟨1,c,.inr (.inl rfl)⟩
 ·exact ⟨2,c,.inr (.inr rfl)⟩
def z5s:Sp:=λ vs H Q _=>∃k v x Tk Tv Tx,vs=[k,v,x]/\TagOf H k Tk/\TagOf H v Tv/\TagOf H x Tx/\Flat H x/\∀H',Same H H'->Q (.bl (deedB H k v x)) H'
theorem zfu (T:TX (kx w) mg) (c0:Ca P w mg base "is_kind" ["kind"] 1 z5x) (c1:Ca P w mg base "is_worth" ["value"] 3 z73) (c2:Ca P w mg base "is_tuple_of" ["value","many"] 1 z13):Fo P w mg base CX0 4 174 y1r ["kind","verb","worth"] z5s:=by
 refine (z7v w.params).ok sc_is_deed (λ vs H Q E h=>?_) (λ a2 A a1 s H vs Q E m h=>?_)
 ·obtain ⟨k,v,x,L,O,t,rfl,_⟩:=h;rfl
 ·obtain ⟨k,v,x,L,O,t,rfl,hk,o,D,hf,q⟩:=h;refine ⟨_,(z02 (ps_if (PW.pt (pw_or (pt_not (pt_val (pe_cal c0 (m.mono (by decide)) rfl (z01 (pv 0) pa_nil)) (λ _=>rfl))) (pw_or (pt_not (pt_val (z07 z0o rfl (T.no (z0l _)) P3 (z01 (pv 1) (z01 (z2k (v:=.ty "str") rfl (T.no (n_str _)) j3h rfl) pa_nil))) (λ _=>rfl))) (pw_or1 (z0a (zb2 (hu_of m) (zjc _)) (pe_tup (z01 (pv 0) (z01 (pv 1) pa_nil))) (z1y (v:=.ref 150) rfl (T.of (zk9 _)) rfl) (by with_unfolding_all rfl))))))
   (z05 (ps_ret pe_bl))
   z0e)
   (z02 (ps_set (i:=3) sc_is_deed.nd rfl (K1 rfl) (pe_ix (ix_kd (z4l _)) (z1y (v:=.ref 88) rfl (T.of (z5c _)) rfl) (pv 1) (λ _ _=>rfl)))
   (z02 (ps_if (z0a opEq (pv 3) pe_int (nomark _))
   (z05 (ps_ret (z39 op_isN (pv 2) pe_non (nomark _))))
   z0e)
   (z02 (ps_if (z0a opEq (pv 3) pe_int (nomark _))
   (z05 (ps_ret (pe_cal c1 (m.mono (by decide)) rfl (z01 (pv 2) pa_nil))))
   z0e)
   (z05 (ps_ret (pe_and (pe_cal c2 (m.mono (by decide)) rfl (z01 (pv 2) (z01 (pv 3) pa_nil))) (pe_one (z07 (z38 rfl) rfl (T.no (n_all _)) j18 (z01 (pe_cg (xs:=["part"]) (g:=gName 0) (fr:=[]) (pi_tup (pv 2)) (λ _ _ _ _ _=>(pg_cn (N:=["part"]) 0)) (λ _ _ _ _ _=>pf_nil) (λ _ _ _ _ _=>(pe_cal c1 (m.mono (by decide)) rfl (z01 (pv 0) pa_nil)))) pa_nil)))))))))),?_⟩
  refine ⟨_,rfl,k,L,rfl,hk,_,rfl,?_⟩;have no:deedB H k v x=false->Q (.bl false) H:=λ e=>by have:=q H (Same.refl H);rw [e] at this;exact this
  by_cases j :∃a,k=.str a/\(kl_FIRST_STATES.lookup a).isSome=true
  ·obtain ⟨a,rfl,j⟩:=j;have U:kindB (.str a)=true:=j;rw [U];refine iteF ?_;refine ⟨_,rfl,_,_,_,rfl,o,by decide,_,rfl,?_⟩;rw [z6d o (by decide)];by_cases r:O = "str"
   ·subst r;obtain ⟨b,rfl⟩:=o.str;refine iteF ?_;refine ⟨_,rfl,_,rfl,?_⟩;refine ⟨w_2,λ p X=>⟨p,a,b,rfl,z03,rfl,_,rfl,?_⟩⟩;have d:Same H (upd H p (.tup [.str a,.str b])):=Same.upd X;cases h3:kl_DOERS.lookup (a,b) with
    | none=>
     refine iteT ?_;have:=q _ d;have e:deedB H (.str a) (.str b) x=false:=by unfold deedB formOf;dsimp only;rw [h3];rfl
     rw [e] at this;exact this
    | some z=>
     refine iteF ?_;obtain ⟨_,i,I,h5⟩:=z8t h3;have u:formOf a b=i:=by unfold formOf;rw [h3];dsimp only;rw [I]
     refine ⟨_,rfl,b,.int i,rfl,rfl,I,?_⟩;refine ⟨_,rfl,rfl,_,rfl,?_⟩;rcases h5 with rfl|rfl|rfl
     ·refine iteT ⟨_,rfl,rfl,?_⟩;have:=q _ d;have e:deedB H (.str a) (.str b) x=decide (x=.non):=by unfold deedB;dsimp only;rw [u];rfl
      rw [e] at this;exact this
     ·refine iteF ⟨_,rfl,rfl,_,rfl,?_⟩;refine iteT ⟨_,rfl,x,t,rfl,D.same d,?_⟩;have:=q _ d;have e:deedB H (.str a) (.str b) x=z0j x 1000000000:=by unfold deedB;dsimp only;rw [u];rfl
      rw [e] at this;exact this
     ·refine iteF ⟨_,rfl,rfl,_,rfl,?_⟩;refine iteF ⟨_,rfl,_,rfl,x,t,2,rfl,D.same d,_,rfl,?_⟩;rw [zfw D d];have e:deedB H (.str a) (.str b) x=(match tupOf H x with|some xs=>decide (xs.length=2) && xs.all λ y=>z0j y 1000000000|none=>false):=by unfold deedB;dsimp only;rw [u];rfl
      rw [e] at q;cases ht:tupOf H x with
      | none=>rw [ht] at q;exact iteF (q _ d)
      | some xs=>
       rw [ht] at q;dsimp only at q⊢;by_cases n:xs.length=2
       ·have F:((xs.length:Nat):Int)=2:=by omega
        rw [if_pos (decide_eq_true F)];rw [decide_eq_true n,y6] at q;obtain ⟨c,rfl,hc⟩:=zdu ht;have a0:xs.length<=sizeLine:=by rw [n];decide
        refine e_cb1 ?_;refine zh6 (K:=KX w.params) (a:=c) (xs:=xs) (H1:=upd H p (.tup [.str a,.str b])) (λ _=>true) (λ i y _=>y=.bl (z0j (xs[i]?.getD .non) 1000000000)) (λ _ _ _ _ _ z=>z) (λ R h=>⟨_,rfl,h⟩) (SqT.of (d _ _ hc)) a0 ?_ ?_
        ·intro i M C H' B G KT KF k1 k2;obtain ⟨Ty,ty⟩:=(hf xs ht).2 C (T0 G);refine ⟨[some C],rfl,rfl,iteT ?_⟩;exact ⟨_,rfl,C,Ty,rfl,(ty.same d).same B,k1 rfl _ _ (Same.refl _) (by rw [G];rfl)⟩
        ·intro l H' Y B n J;rw [List.filter_eq_self.mpr (λ _ _=>rfl)] at J;have S:Y=xs.map λ y=>V.bl (z0j y 1000000000):=by
          rw [z1m (f:=λ i=>V.bl (z0j (xs[i]?.getD .non) 1000000000)) J];apply Z6
          ·simp
          ·intro i j r;have M:i < xs.length:=by simpa using j
           simp [v0 M]
         subst S;refine ⟨l,_,rfl,SqL.of z03,λ y Z=>?_,?_⟩
         ·obtain ⟨z,_,rfl⟩:=List.mem_map.mp Z;exact ⟨_,rfl⟩
         ·have W:((xs.map λ y=>V.bl (z0j y 1000000000)).all λ y=>decide (y=V.bl true))=xs.all λ y=>z0j y 1000000000:=by rw [O8];congr 1;funext y;simp
          rw [W];exact q _ ((d.trans B).trans (Same.upd n))
       ·have F:¬ ((xs.length:Nat):Int)=2:=by omega
        rw [if_neg (by rw [decide_eq_false F];exact E1)];rw [decide_eq_false n,P6] at q;exact q _ d
   ·rw [decide_eq_false r];refine iteT ?_;exact no (by unfold deedB;cases v with|str z=>exact absurd o r|_=>rfl)
  ·have e1:kindB k=false:=by
    cases k with
    | str z=>exact Bool.eq_false_iff.mpr λ e=>j ⟨z,rfl,e⟩
    | _=>rfl
   rw [e1];refine iteT ?_;refine no ?_;cases k with
   | str a=>
    cases v with
    | str b=>
     unfold deedB formOf;dsimp only;cases h3:kl_DOERS.lookup (a,b) with
     | none=>rfl
     | some z=>exact absurd ⟨a,rfl,(z8t h3).1⟩ j
    | _=>rfl
   | _=>rfl
inductive Ev
 | beg (h:Int) (n v x:V)
 | fin (h:Int) (a:V)
structure Rc where
 h:Int
 n:V
 v:V
 x:V
 a:V
 b:Nat
 e:Option Nat
def endV:Option Nat->V
 | none=>.non
 | some i=>.int i
def RcAt (K:j0) (H:Hp) (r:Rc) (y:V):Prop:=∃p,y=.ref p/\SqT K H p [.int r.h,r.n,r.v,r.x,r.a,.int r.b,endV r.e]
theorem z6n {n j:Nat} (h:j < n):ixN n (j:Nat)=some j:=by unfold ixN;rw [if_pos (by omega),if_pos (by omega)];rfl
theorem Same.keep {H H':Hp} {l:Addr} {o:HO} (s:Same H H') (n:H l=none):Same H (upd H' l o):=λ a x e=>by rw [upd_ne (z0q e n)];exact s a x e
theorem z1g {α β:Type} {R:α->β->Prop} {x:α} {y:β} :∀{xs:List α} {ys:List β},All2 R xs ys->R x y->All2 R (xs++[x]) (ys++[y])
 | _,_,.nil,h=>.cons h .nil
 | _,_,.cons a r,h=>.cons a (z1g r h)
theorem zir {κ:Type} [DecidableEq κ] {kvs:List (κ×V)} {k:κ} {v:V}:(putK kvs k v).length<=kvs.length + 1:=by
 unfold putK;by_cases z:(kvs.any λ a=>decide (a.1=k))=true
 ·rw [if_pos z,C0];omega
 ·rw [if_neg z,F0];exact J0 _
theorem z0r {α β:Type} {R:α->β->Prop} :∀{xs:List α} {ys:List β} {i:Nat} {x:α},All2 R xs ys->xs[i]? = some x->∃y,ys[i]? = some y/\R x y
 | _,_,i,x,.nil,e=>by simp at e
 | _,_,0,x,.cons a _,e=>by rw [D4] at e;cases e;exact ⟨_,D4,a⟩
 | _,_,i + 1,x,.cons _ r,e=>by rw [u3] at e;obtain ⟨y,c,b⟩:=z0r r e;exact ⟨y,by rw [u3];exact c,b⟩
end
section
def oStep (os:List Int):Ev->List Int
 | .beg h _ _ _=>os++[h]
 | .fin h _=>os.filter λ k=>decide (k≠h)
def oOk (os:List Int):Ev->Prop
 | .beg h _ _ _=>h∉os
 | .fin h _=>h∈os
def EWf:List Int->List Ev->Prop
 | _,[]=>True
 | os,e :: es=>oOk os e/\EWf (oStep os e) es
theorem EWf.snoc :∀{es:List Ev} {os:List Int} {e:Ev},EWf os es->oOk (es.foldl oStep os) e->EWf os (es++[e])
 | [],os,e,_,h=>⟨h,trivial⟩
 | x :: es,os,e,w,h=>⟨w.1,EWf.snoc w.2 h⟩
structure DInv (i:Nat) (rs:List Rc) (os:List Int):Prop where
 b :∀r∈rs,r.b < i
 e :∀r∈rs,∀e,r.e=some e->e < i
 p :∀(x y:Nat) (r q:Rc),x < y->rs[x]? = some r->rs[y]? = some q->r.b < q.b/\(r.h=q.h->∃e,r.e=some e/\e < q.b)
 o :∀r∈rs,r.h∉os->r.e.isSome=true
 m :∀h∈os,h∈rs.map Rc.h
theorem zd3 {kvs:List (Key×V)} {k:Key}:(valV kvs k).isSome=true↔k∈kvs.map (·.1):=by
 induction kvs with
 | nil=>simp [valV]
 | cons p r ih=>
  obtain ⟨a,pv⟩:=p;by_cases y:a=k
  ·subst y;rw [z1e rfl];simp
  ·rw [z18 y,ih,W1,V3];exact ⟨λ z=>.inr z,λ z=>z.resolve_left λ x=>y x.symm⟩
theorem ze4 {kvs:List (Key×V)} {k:Key} {v:V} (h:k∉kvs.map (·.1)):putK kvs k v=kvs++[(k,v)]:=by unfold putK;rw [if_neg];intro z;obtain ⟨p,a,e⟩:=List.any_eq_true.mp z;exact h (List.mem_map.mpr ⟨p,a,of_decide_eq_true e⟩)
theorem z74 {α β:Type} {R S:α->β->Prop} :∀{xs:List α} {ys:List β},(∀a b,b∈ys->R a b->S a b)->All2 R xs ys->All2 S xs ys
 | _,_,_,.nil=>.nil
 | _,_,h,.cons a r=>.cons (h _ _ V1 a) (z74 (λ x y c z=>h x y (Q1 _ c) z) r)
theorem z1n {α β:Type} {R:α->β->Prop} :∀{xs:List α} {ys:List β},ys.length=xs.length->(∀(k:Nat) a b,xs[k]? = some a->ys[k]? = some b->R a b)->All2 R xs ys
 | [],[],_,_=>.nil
 | [],y :: ys,h,_=>by cases h
 | x :: xs,[],h,_=>by cases h
 | x :: xs,y :: ys,h,f=>.cons (f 0 x y rfl rfl) (z1n (by simpa using h) λ k a b c d=>f (k + 1) a b (by rw [u3];exact c) (by rw [u3];exact d))
end
section
variable {P:Program} {w:C1} {mg:Str->Option Value} {base:Heap}
structure NameOk (z:Str):Prop where
 l1:1<=z.length
 l8:z.length<=8
 s :∀c∈z.cps.toList,97<=c/\c<=122
theorem NameOk.ascii {z:Str} (h:NameOk z):z.cps.all (· < 128)=true:=by rw [Array.all_eq_true_iff_forall_mem];intro c a;have:=h.s c (Array.mem_toList_iff.mpr a);exact decide_eq_true (by omega)
theorem zgq :∀k:Fin 26,(S7 ("abcdefghijklmnopqrstuvwxyz" : Str) ⟨#[97 + k.val]⟩ 0 ("abcdefghijklmnopqrstuvwxyz" : Str).length 1).isEmpty=false:=by decide +kernel
theorem zgo {c:Nat} (h:97<=c/\c<=122):(S7 ("abcdefghijklmnopqrstuvwxyz" : Str) ⟨#[c]⟩ 0 ("abcdefghijklmnopqrstuvwxyz" : Str).length 1).isEmpty=false:=by have:=zgq ⟨c - 97,by omega⟩;rw [show 97 + (c - 97)=c by omega] at this;exact this
def z60:Sp:=λ vs H Q _=>∃z:Str,vs=[.str z]/\NameOk z/\∀H',Same H H'->Q (.bl true) H'
theorem zfi (T:TX (kx w) mg):Fo P w mg base CX0 1 40 y1p ["value"] z60:=by
 refine (z7j w.params).ok zel (λ t H Q E h=>?_) (λ G A F s H t Q E D h=>?_)
 ·obtain ⟨z,rfl,_⟩:=h;rfl
 ·obtain ⟨z,rfl,b,q⟩:=h;refine ⟨_,(z02 (ps_if (PW.pt (pw_or (pt_not (pt_val (z07 z0o rfl (T.no (z0l _)) P3 (z01 (pv 0) (z01 (z2k (v:=.ty "str") rfl (T.no (n_str _)) j3h rfl) pa_nil))) (λ _=>rfl))) (pw_or1 (pt_not (zjn op_le op_le pe_int (z07 z0n rfl (T.no (n_len _)) G2 (z01 (pv 0) pa_nil)) (z1y (v:=.int (8)) rfl (T.of (z7g _)) ⟨_,rfl⟩))))))
   (z05 (ps_ret pe_bl))
   z0e)
   (z05 (ps_ret (z07 (z38 rfl) rfl (T.no (n_all _)) j18 (z01 (pe_cg (xs:=["sign"]) (g:=gName 0) (fr:=[]) (pi_str (pv 0)) (λ _ _ _ _ _=>(pg_cn (N:=["sign"]) 0)) (λ _ _ _ _ _=>pf_nil) (λ _ _ _ _ _=>(z39 zh5 (pv 0) (z1y (v:=.str "abcdefghijklmnopqrstuvwxyz") rfl (T.of (z6w _)) ⟨_,rfl⟩) (by with_unfolding_all rfl)))) pa_nil))))),?_⟩
  have B:=b.l1;have e:=b.l8;refine sq_if (t_or ?_);refine ⟨_,rfl,_,_,"str",rfl,rfl,by decide,_,rfl,iteN (by decide) ?_⟩;refine ⟨_,rfl,.inr ⟨z,rfl,O0 e (by decide),_,_,rfl,rfl,_,rfl,?_⟩⟩;refine iteP (decide_eq_true (by omega)) ?_;refine ⟨_,_,rfl,rfl,_,rfl,iteN (by rw [decide_eq_true (show (z.length:Int)<=8 by omega)];decide) ?_⟩;refine t_nx (sq_ret (e_cb1 ?_));refine tcompS (x:=z) (H1:=H) (λ _=>true) (λ _ y _=>y=.bl true) (λ _ _ _ _ _ z=>z) (λ R h=>⟨_,rfl,h⟩) b.ascii (O0 (m:=8) e (by decide)) ?_ ?_
  ·intro i J v H1 f j KT C n I;obtain ⟨c,l,rfl⟩:=j;have r:c∈z.cps.toList:=Array.mem_toList_iff.mpr (j3b l);refine ⟨[some (.str ⟨#[c]⟩)],rfl,rfl,iteT ?_⟩;refine ⟨_,rfl,_,_,rfl,rfl,?_⟩;rw [zgo (b.s c r)];exact n rfl _ _ (Same.refl _) rfl
  intro k H1 bs f o u;have d :∀y∈bs,y=.bl true:=λ y a=>by obtain ⟨m,p⟩:=List.mem_iff_getElem?.mp a;obtain ⟨_,_,z⟩:=z0m u p;exact z
  refine ⟨k,bs,rfl,SqL.of z03,λ y a=>⟨true,d y a⟩,?_⟩;rw [List.all_eq_true.mpr (λ y a=>decide_eq_true (d y a))];exact q _ (f.trans (Same.upd o))
structure ThingOk (t:Str×Str):Prop where
 n:NameOk t.1
 k:kindB (.str t.2)=true
def ThV (H:Hp) (t:Str×Str) (y:V):Prop:=∃p,y=.ref p/\H p=some (.tup [.str t.1,.str t.2])
theorem ThV.same {H H':Hp} {t:Str×Str} {y:V} (s:Same H H') (h:ThV H t y):ThV H' t y:=h.elim λ p z=>⟨p,z.1,s _ _ z.2⟩
theorem z4n {H:Hp} {p:Addr} {xs:List V} (e:H p=some (.tup xs)):tupOf H (.ref p)=some xs:=by unfold tupOf;dsimp only;rw [e]
def z79:Sp:=λ vs H Q _=>∃t y,vs=[y]/\ThV H t y/\ThingOk t/\∀H',Same H H'->Q (.bl true) H'
theorem zda (T:TX (kx w) mg) (c0:Ca P w mg base "is_tuple_of" ["value","many"] 1 z13) (c1:Ca P w mg base "is_name" ["value"] 1 z60) (c2:Ca P w mg base "is_kind" ["kind"] 1 z5x):Fo P w mg base CX0 2 213 y1d ["thing"] z79:=by
 refine (z5j w.params).ok zd0 (λ d H Q E h=>?_) (λ e A g s H d Q E b h=>?_)
 ·obtain ⟨t,y,rfl,_⟩:=h;rfl
 ·obtain ⟨t,y,rfl,⟨p,rfl,a⟩,ok,q⟩:=h;refine ⟨_,(z05 (ps_ret (pe_and (pe_cal c0 (b.mono (by decide)) rfl (z01 (pv 0) (z01 pe_int pa_nil))) (pe_and (pe_cal c1 (b.mono (by decide)) rfl (z01 (pe_ix ix_seq (pv 0) pe_int (λ _ _=>rfl)) pa_nil)) (pe_one (pe_cal c2 (b.mono (by decide)) rfl (z01 (pe_ix ix_seq (pv 0) pe_int (λ _ _=>rfl)) pa_nil))))))),?_⟩;refine ⟨_,rfl,_,"tuple",2,rfl,.inr (.inl ⟨⟨_,a⟩,rfl⟩),?_⟩;rw [z4n a];refine ⟨_,rfl,iteP (by simp) ?_⟩;refine ⟨_,rfl,.inr (.inl ⟨p,_,0,.str t.1,rfl,rfl,SqT.of a,z08 (j:=0) rfl,t.1,rfl,ok.n,λ f c=>⟨true,rfl,iteP rfl ?_⟩⟩)⟩;refine ⟨_,rfl,.inr (.inl ⟨p,_,1,.str t.2,rfl,rfl,SqT.of (c _ _ a),z08 (j:=1) rfl,_,"str",rfl,rfl,?_⟩)⟩;rw [ok.k];exact q _ c
theorem zg2 {H:Hp} {ts:List (Str×Str)} {ys zs:List V}:All2 (ThV H) ts ys->(All2 (λ (i:Nat) z=>z=V.str ((ts[i]?.getD ("","")).1)) (U0 ys.length) zs)->zs=(ts.map (·.1)).map V.str:=λ e f=>by
 have c:ys.length=ts.length:=z04 e;rw [z1m f,c];apply Z6
 ·simp
 ·intro i a b;have d:i < ts.length:=by simpa using a
  simp [v0 d]
theorem z9f :∀(us ns:List Str),us.Nodup->(∀u∈us,u∉ns)->(us.foldl addT ns).length=ns.length + us.length
 | [],ns,_,_=>rfl
 | u :: us,ns,nd,h=>by
  rw [D5] at nd;have e:addT ns u=ns++[u]:=by unfold addT;rw [if_neg (h u (.head _))]
  rw [N3,e,z9f us (ns++[u]) nd.2 λ v a z=>?_]
  ·simp only [F0,A1,Z3];omega
  ·rcases List.mem_append.mp z with z|z
   ·exact h v (.tail _ a) z
   ·rw [List.mem_singleton.mp z] at a;exact nd.1 a
theorem zi0 {K:j0} {H:Hp} :∀{ts:List (Str×Str)} {ys:List V},All2 (ThV H) ts ys->All2 (λ y k=>∃(p:Addr) (r:List V),y=V.ref p/\SqT K H p (.str k :: r)) ys (ts.map (·.1))
 | _,_,.nil=>.nil
 | _,_,.cons a r=>.cons (a.elim λ p z=>⟨p,_,z.1,SqT.of z.2⟩) (zi0 r)
def z41 (K:j0):Sp:=λ vs H Q _=>∃a ys ts,vs=[.ref a]/\H a=some (.lst ys)/\All2 (ThV H) ts ys/\ts.length<=6/\(ts.map (·.1)).Nodup/\(∀t∈ts,ThingOk t)/\∀(p:List Nat) c H',Same H H'->H' c=some (.tup (p.map λ i=>ys.getD i .non))->p.Perm (U0 ys.length)->(p.map λ i=>(ts.map (·.1)).getD i ("" : Str)).Pairwise (λ x y=>ltS x y=true)->Q (.ref c) H'
theorem z81 (T:TX (kx w) mg) (c0:Ca P w mg base "is_thing" ["thing"] 2 z79):Fo P w mg base CX0 3 206 y0i ["things"] (z41 (kx w)):=by
 refine (z2x w.params).ok z7l (λ vs H Q E h=>?_) (λ a6 A a5 s H vs Q E Z h=>?_)
 ·obtain ⟨a,f,b,rfl,_⟩:=h;rfl
 ·obtain ⟨a,f,b,rfl,I,F,l6,X,ok,q⟩:=h;refine ⟨_,(z02 (ps_if (PW.pt (pw_or (pt_not (pt_val (z07 z0o rfl (T.no (z0l _)) P3 (z01 (pv 0) (z01 (z2k (v:=.ty "list") rfl (T.no (n_list _)) j1j rfl) pa_nil))) (λ _=>rfl))) (pw_or1 (pt_not (pt_val (z07 (z38 rfl) rfl (T.no (n_all _)) j18 (z01 (pe_cg (xs:=["thing"]) (g:=gName 0) (fr:=[]) (z17 (pv 0)) (λ _ _ _ _ _=>(pg_cn (N:=["thing"]) 0)) (λ _ _ _ _ _=>pf_nil) (λ _ _ _ _ _=>(pe_cal c0 (Z.mono (by decide)) rfl (z01 (pv 0) pa_nil)))) pa_nil)) (λ _=>rfl))))))
   (z05 z4h)
   z0e)
   (z02 (ps_if (z0a op_gt (z07 z0n rfl (T.no (n_len _)) G2 (z01 (pv 0) pa_nil)) (z1y (v:=.int (6)) rfl (T.of (z8o _)) ⟨_,rfl⟩) (nomark _))
   (z05 z4h)
   z0e)
   (z02 (ps_if (z0a op_lt (zep rfl rfl (T.no (n_len _)) rfl (T.no (n_set _)) G2 boot_set (pe_cg (xs:=["thing"]) (g:=gName 0) (fr:=[]) (z17 (pv 0)) (λ _ _ _ _ _=>(pg_cn (N:=["thing"]) 0)) (λ _ _ _ _ _=>pf_nil) (λ _ _ _ _ _=>(pe_ix (z7e (K:=KX w.params) rfl) (pv 0) pe_int (λ _ _=>rfl))))) (z07 z0n rfl (T.no (n_len _)) G2 (z01 (pv 0) pa_nil)) (nomark _))
   (z05 z4h)
   z0e)
   (z05 (ps_ret (z5f z5a rfl (T.no (zdt _)) boot_tuple (z01 (z07 z9z rfl (T.no (zje _)) boot_sorted (z01 (pv 0) pa_nil)) pa_nil))))))),?_⟩
  have ly:f.length=b.length:=z04 F;refine sq_if (t_or ?_);refine ⟨_,rfl,_,_,"list",rfl,.inl ⟨⟨_,I⟩,rfl⟩,by decide,_,rfl,iteN (by decide) ?_⟩;refine tB_not (e_cb1 ?_);refine z2c (K:=KX w.params) (a:=a) (xs:=f) (H1:=H) (λ _=>true) (λ _ y _=>y=.bl true) (λ _ _ _ _ _ z=>z) (λ R h=>⟨_,rfl,h⟩) (SqL.of I) (O0 (m:=6) (by omega) (by decide)) ?_ ?_
  ·intro i hi v H1 B r KT Y D k2;obtain ⟨t,G,tv⟩:=z0m F r;refine ⟨[some v],rfl,rfl,iteT ?_⟩;exact ⟨_,rfl,t,v,rfl,tv.same B,ok t (T0 G),λ S d=>D rfl _ _ d rfl⟩
  intro M H1 bs B a0 a3;have L :∀y∈bs,y=.bl true:=λ y k=>by obtain ⟨m,hm⟩:=List.mem_iff_getElem?.mp k;obtain ⟨_,_,z⟩:=z0m a3 hm;exact z
  refine ⟨M,bs,rfl,SqL.of z03,λ y k=>⟨true,L y k⟩,?_⟩;rw [List.all_eq_true.mpr (λ y k=>decide_eq_true (L y k))];refine ⟨_,rfl,iteN (by decide) ?_⟩;have d:=B.trans (Same.upd (o:=.lst bs) a0);generalize upd H1 M (.lst bs)=S at d⊢;have x:=d _ _ I;have J:=z00 (λ _ _ z=>ThV.same d z) F;refine t_nx (sq_if ?_);refine ⟨_,rfl,.inl ⟨a,_,rfl,.inl (SqL.of x),_,_,rfl,rfl,_,rfl,iteN (λ e=>absurd (of_decide_eq_true e) (by omega)) ?_⟩⟩;refine t_nx (sq_if (t_test (zjt ?_)));refine z2c (K:=KX w.params) (a:=a) (xs:=f) (H1:=S) (λ _=>true) (λ i y _=>y=.str ((b[i]?.getD ("","")).1)) (λ _ _ _ _ _ z=>z) (λ R h=>⟨_,rfl,h⟩) (SqL.of x) (O0 (m:=6) (by omega) (by decide)) ?_ ?_
  ·intro i hi v C u r KT Y D k2;obtain ⟨t,G,p,rfl,ep⟩:=z0m J r;refine ⟨[some (.ref p)],rfl,rfl,iteT ?_⟩;exact ⟨_,rfl,.inr (.inl ⟨p,_,0,.str t.1,rfl,rfl,SqT.of (u _ _ ep),z08 (j:=0) rfl,D rfl _ _ (Same.refl _) (by rw [G];rfl)⟩)⟩
  intro n C zs u a1 O;rw [List.filter_eq_self.mpr (λ _ _=>rfl)] at O;have ez:=zg2 J O;subst ez;have l:=u.trans (Same.upd (o:=.lst ((b.map (·.1)).map V.str)) a1);have W:upd C n (.lst ((b.map (·.1)).map V.str)) n=some (.lst ((b.map (·.1)).map V.str)):=z03;generalize upd C n (.lst ((b.map (·.1)).map V.str))=H4 at l W⊢;have U:=l _ _ x;have a2:=z00 (λ _ _ z=>ThV.same l z) J;refine ⟨n,b.map (·.1),rfl,SqL.of W,by rw [C0];omega,_,rfl,.inl ⟨a,_,rfl,.inl (SqL.of U),_,_,rfl,rfl,_,rfl,iteN (λ e=>absurd (of_decide_eq_true e) ?_) ?_⟩⟩
  ·rw [z9f _ [] X (λ _ _=>L0),Z3,C0];omega
  refine t_nx (sq_ret ?_);refine ⟨_,rfl,a,f,b.map (·.1),rfl,SqL.of U,zi0 a2,by omega,X,λ l5 p a4 pp pw=>?_⟩;have s5:=l.trans (Same.upd (o:=.lst (p.map λ i=>f.getD i .non)) a4);refine ⟨l5,_,rfl,.inl ⟨SqL.of z03,λ c hc=>?_⟩⟩;exact q p c _ (d.trans (s5.trans (Same.upd hc))) z03 pp pw
def z9u:Sp:=λ vs H Q _=>∃h:Int,vs=[.int h]/\0<=h/\h<=5/\Q (.bl true) H
theorem zek (T:TX (kx w) mg) (c0:Ca P w mg base "is_whole" ["value"] 1 z36):Fo P w mg base CX0 2 246 y1u ["hand"] z9u:=by
 refine (z8h w.params).ok zfv (λ a H Q E h=>?_) (λ f A g s H a Q E e h=>?_)
 ·obtain ⟨h,rfl,_⟩:=h;rfl
 ·obtain ⟨h,rfl,c,b,q⟩:=h;refine ⟨_,(z05 (ps_ret (pe_and (pe_cal c0 (e.mono (by decide)) rfl (z01 (pv 0) pa_nil)) (pe_one (ze2 op_le op_le pe_int (pv 0) (z1y (v:=.int (5)) rfl (T.of (zcw _)) ⟨_,rfl⟩)))))),?_⟩;refine ⟨_,rfl,_,"int",rfl,rfl,_,rfl,iteP (by decide) ?_⟩;refine ⟨_,rfl,_,_,rfl,rfl,_,rfl,?_⟩;rw [decide_eq_true c];refine iteT ⟨_,_,rfl,rfl,?_⟩;have d:decide (h<=5)=true:=decide_eq_true b;show Q (.bl (decide (h<=5))) H;rw [d];exact q
def z4s:Sp:=λ vs H Q _=>∃(p:Addr) (xs:List V) (z wd:Str) (h m:Int),vs=[.ref p,.str wd,.int m]/\H p=some (.tup (.str z :: .int h :: xs))/\0<=h/\h<=5/\Q (.bl (decide (((xs.length + 2:Nat):Int)=m) && decide (z=wd))) H
theorem zct (T:TX (kx w) mg) (c0:Ca P w mg base "is_tuple_of" ["value","many"] 1 z13) (c1:Ca P w mg base "is_hand" ["hand"] 2 z9u):Fo P w mg base CX0 3 239 y1f ["event","word","many"] z4s:=by
 refine (z5w w.params).ok zcp (λ g H Q E h=>?_) (λ l A k s H g Q E c h=>?_)
 ·obtain ⟨p,d,z,b,h,m,rfl,_⟩:=h;rfl
 ·obtain ⟨p,d,z,b,h,m,rfl,a,f,i,q⟩:=h;refine ⟨_,(z05 (ps_ret (pe_and (pe_cal c0 (c.mono (by decide)) rfl (z01 (pv 0) (z01 (pv 2) pa_nil))) (pe_and (z07 z0o rfl (T.no (z0l _)) P3 (z01 (pe_ix ix_seq (pv 0) pe_int (λ _ _=>rfl)) (z01 (z2k (v:=.ty "str") rfl (T.no (n_str _)) j3h rfl) pa_nil))) (pe_and (z39 opEq (pe_ix ix_seq (pv 0) pe_int (λ _ _=>rfl)) (pv 1) (nomark _)) (pe_one (pe_cal c1 (c.mono (by decide)) rfl (z01 (pe_ix ix_seq (pv 0) pe_int (λ _ _=>rfl)) pa_nil)))))))),?_⟩;refine ⟨_,rfl,_,rfl,_,"tuple",m,rfl,.inr (.inl ⟨⟨_,a⟩,rfl⟩),?_⟩;rw [z4n a];refine ⟨_,rfl,?_⟩;by_cases hm:((d.length + 2:Nat):Int)=m;rotate_left
  ·rw [decide_eq_false hm,P6] at q;exact iteN (λ e=>hm (of_decide_eq_true e)) q
  rw [decide_eq_true hm,y6] at q;refine iteP (decide_eq_true hm) ?_;refine ⟨_,rfl,.inr (.inl ⟨p,_,0,.str z,rfl,rfl,SqT.of a,z08 (j:=0) rfl,_,_,"str",rfl,rfl,by decide,_,rfl,iteP (by decide) ?_⟩)⟩;refine ⟨_,rfl,.inr (.inl ⟨p,_,0,.str z,rfl,rfl,SqT.of a,z08 (j:=0) rfl,_,rfl,rfl,_,rfl,?_⟩)⟩;by_cases hz:z=b
  ·subst hz;refine iteP (decide_eq_true rfl) ?_;rw [decide_eq_true rfl] at q;exact ⟨_,rfl,.inr (.inl ⟨p,_,1,.int h,rfl,rfl,SqT.of a,z08 (j:=1) rfl,h,rfl,f,i,q⟩)⟩
  ·refine iteN (λ e=>hz (by have:=of_decide_eq_true e;injection this)) ?_;rw [decide_eq_false hz] at q;exact q
def AnsOk (a:V):Prop:=a=.str "ok"\/a=.str "none"\/∃i,a=.int i/\z0j (.int i) 1000000000000=true
theorem zdh {H:Hp}:SqT (kx w) H 194 [.str "ok",.str "none"]:=
 .inr ⟨⟨(.type "tuple"),none,(.seq #[(.str "ok" 503),(.str "none" 504)] 0),#[]⟩,#[(.str "ok" 503),(.str "none" 504)],0,by kernel_rfl,rfl,rfl,w_2,.cons ⟨_,rfl⟩ (.cons ⟨_,rfl⟩ .nil)⟩
def z5p:Sp:=λ vs H Q _=>∃a,vs=[a]/\AnsOk a/\Q (.bl true) H
theorem zap (T:TX (kx w) mg) (c0:Ca P w mg base "is_within" ["value","greatest"] 2 z3n):Fo P w mg base CX0 3 253 y11 ["answer"] z5p:=by
 refine (z4p w.params).ok z9w (λ b H Q E h=>?_) (λ d A e s H b Q E c h=>?_)
 ·obtain ⟨a,rfl,_⟩:=h;rfl
 ·obtain ⟨a,rfl,ok,q⟩:=h;refine ⟨_,(z02 (ps_if (pt_val (z07 z0o rfl (T.no (z0l _)) P3 (z01 (pv 0) (z01 (z2k (v:=.ty "str") rfl (T.no (n_str _)) j3h rfl) pa_nil))) (λ _=>rfl))
   (z05 (ps_ret (z39 zbf (pv 0) (z1y (v:=.ref 194) rfl (T.of (z7k _)) rfl) (by with_unfolding_all rfl))))
   z0e)
   (z05 (ps_ret (pe_cal c0 (c.mono (by decide)) rfl (z01 (pv 0) (z01 (z1y (v:=.int (1000000000000)) rfl (T.of (z5d _)) ⟨_,rfl⟩) pa_nil)))))),?_⟩
  refine sq_if ?_;rcases ok with rfl|rfl|⟨i,rfl,hi⟩
  ·refine ⟨_,rfl,_,_,"str",rfl,rfl,by decide,_,rfl,iteP (by decide) ?_⟩;exact ⟨_,rfl,194,_,rfl,.inr zdh,rfl,rfl,q⟩
  ·refine ⟨_,rfl,_,_,"str",rfl,rfl,by decide,_,rfl,iteP (by decide) ?_⟩;exact ⟨_,rfl,194,_,rfl,.inr zdh,rfl,rfl,q⟩
  ·refine ⟨_,rfl,_,_,"int",rfl,rfl,by decide,_,rfl,iteN (by decide) ?_⟩;refine t_nx (sq_ret ?_);refine ⟨_,rfl,_,"int",_,rfl,rfl,?_⟩;rw [hi];exact q
inductive XOk (H:Hp):Str->Str->V->Prop
 | none {k v:Str}:formOf k v=0->XOk H k v .non
 | one {k v:Str} {i:Int}:formOf k v=1->z0j (.int i) 1000000000=true->XOk H k v (.int i)
 | two {k v:Str} {i j:Int} {p:Addr}:formOf k v=2->H p=some (.tup [.int i,.int j])->z0j (.int i) 1000000000=true->z0j (.int j) 1000000000=true->XOk H k v (.ref p)
theorem XOk.same {H H':Hp} {k v:Str} {x:V} (s:Same H H') (h:XOk H k v x):XOk H' k v x:=by
 cases h with
 | none e=>exact .none e
 | one e h=>exact .one e h
 | two e h1 h2 h3=>exact .two e (s _ _ h1) h2 h3
theorem XOk.deed {H:Hp} {k v:Str} {x:V} (h:XOk H k v x):deedB H (.str k) (.str v) x=true/\(∃T,TagOf H x T)/\Flat H x:=by
 cases h with
 | none e=>refine ⟨?_,⟨"NoneType",rfl⟩,λ a z=>by cases z⟩;unfold deedB;dsimp only;rw [e,if_pos rfl];rfl
 | one e h=>refine ⟨?_,⟨"int",rfl⟩,λ a z=>by cases z⟩;unfold deedB;dsimp only;rw [e,if_neg (by decide),if_pos rfl];exact h
 | two e h1 h2 h3=>
  rename_i i j p;refine ⟨?_,⟨"tuple",.inr (.inl ⟨⟨_,h1⟩,rfl⟩)⟩,λ a z=>?_⟩
  ·unfold deedB;dsimp only;rw [e,if_neg (by decide),if_neg (by decide),if_pos rfl,z4n h1];show (decide ([V.int i,V.int j].length=2) && (z0j (.int i) 1000000000 && (z0j (.int j) 1000000000 && true)))=true;rw [h2,h3];rfl
  ·rw [z4n h1] at z;cases z;refine ⟨(show (2:Nat)<=1000 by decide),λ y b=>?_⟩;simp only [V3,L0,or_false] at b;rcases b with rfl|rfl<;>exact ⟨"int",rfl⟩
def EvT (H:Hp) (ts:List (Str×Str)):Ev->V->Prop
 | .beg h n v x,y=>∃p nm k vb,y=.ref p/\H p=some (.tup [.str "begin",.int h,n,v,x])/\0<=h/\h<=5/\n=.str nm/\v=.str vb/\(nm,k)∈ts/\NameOk nm/\XOk H k vb x
 | .fin h a,y=>∃p,y=.ref p/\H p=some (.tup [.str "end",.int h,a])/\0<=h/\h<=5/\AnsOk a
theorem EvT.same {H H':Hp} {ts:List (Str×Str)} (s:Same H H') :∀{e:Ev} {y:V},EvT H ts e y->EvT H' ts e y
 | .beg h n v x,_,⟨p,nm,k,vb,h1,h2,h3,h4,h5,h6,h7,h8,h9⟩=>⟨p,nm,k,vb,h1,s _ _ h2,h3,h4,h5,h6,h7,h8,h9.same s⟩
 | .fin h a,_,⟨p,h1,h2,h3⟩=>⟨p,h1,s _ _ h2,h3⟩
def KdAt (H:Hp) (d:Addr) (ts:List (Str×Str)):Prop:=∃kvs:List (Key×V),H d=some (.dK kvs)/\∀nm k,(nm,k)∈ts->valV kvs (.inr nm)=some (.str k)
theorem KdAt.same {H H':Hp} {d:Addr} {ts:List (Str×Str)} (s:Same H H') (h:KdAt H d ts):KdAt H' d ts:=h.elim λ a z=>⟨a,s _ _ z.1,z.2⟩
def isBeg:Ev->Bool
 | .beg _ _ _ _=>true
 | .fin _ _=>false
def z7b:Sp:=λ vs H Q _=>∃e y d ts,vs=[y,.ref d]/\EvT H ts e y/\KdAt H d ts/\∀H',Same H H'->Q (.bl (isBeg e)) H'
theorem zd1 (T:TX (kx w) mg) (c0:Ca P w mg base "is_event" ["event","word","many"] 3 z4s) (c1:Ca P w mg base "is_name" ["value"] 1 z60) (c2:Ca P w mg base "is_deed" ["kind","verb","worth"] 4 z5s):Fo P w mg base CX0 5 225 y1e ["event","kinds"] z7b:=by
 refine (z66 w.params).ok zcx (λ I H Q E h=>?_) (λ U A R s H I Q E c h=>?_)
 ·obtain ⟨e,y,d,D,rfl,_⟩:=h;rfl
 ·obtain ⟨e,y,d,D,rfl,o,⟨O,C,B⟩,q⟩:=h;refine ⟨_,(z02 (ps_if (PW.pt (pw_or (pt_not (pt_val (pe_cal c0 (c.mono (by decide)) rfl (z01 (pv 0) (z01 pe_str (z01 pe_int pa_nil)))) (λ _=>rfl))) (pw_or (pt_not (pt_val (pe_cal c1 (c.mono (by decide)) rfl (z01 (pe_ix ix_seq (pv 0) pe_int (λ _ _=>rfl)) pa_nil)) (λ _=>rfl))) (pw_or1 (pt_cmp (zgu (hu_of c) (pe_ix ix_seq (pv 0) pe_int (λ _ _=>rfl)) (pv 1)) (by with_unfolding_all rfl))))))
   (z05 (ps_ret pe_bl))
   z0e)
   (z05 (ps_ret (pe_cal c2 (c.mono (by decide)) rfl (z01 (z0d (hu_of c) (pv 1) (pe_ix ix_seq (pv 0) pe_int (λ _ _=>rfl)) (λ _ _=>rfl)) (z01 (pe_ix ix_seq (pv 0) pe_int (λ _ _=>rfl)) (z01 (pe_ix ix_seq (pv 0) pe_int (λ _ _=>rfl)) pa_nil))))))),?_⟩
  refine sq_if ?_;cases e with
  | fin h a=>obtain ⟨p,rfl,f,l,m,_⟩:=o;refine ⟨_,rfl,p,[a],"end","begin",h,5,rfl,f,l,m,_,rfl,iteP (by rw [show decide (("end" : Str) = "begin")=false by decide +kernel,v9];rfl) ?_⟩;exact iteP rfl (q _ (Same.refl _))
  | beg h n v x=>obtain ⟨p,b,k,N,rfl,f,l,m,rfl,rfl,F,J,G⟩:=o;refine ⟨_,rfl,p,_,"begin","begin",h,5,rfl,f,l,m,_,rfl,iteN (by rw [show decide (("begin" : Str) = "begin")=true by decide +kernel];show ¬ (!(decide (((3 + 2:Nat):Int)=5) && true))=true;decide) ?_⟩;refine ⟨_,rfl,.inr (.inl ⟨p,_,2,.str b,rfl,rfl,SqT.of f,z08 (j:=2) rfl,b,rfl,J,λ t g=>⟨true,rfl,iteN (by decide) ?_⟩⟩)⟩;have K:=g _ _ C;have i:=g _ _ f;have dg:DGet t d (.str b) (some (.str k)):=(B b k F) ▸ DGet.k (k:=.inr b) K;refine ⟨_,rfl,.inr (.inl ⟨p,_,2,.str b,rfl,rfl,SqT.of i,z08 (j:=2) rfl,?_⟩)⟩;refine ⟨_,rfl,d,_,rfl,dg,_,rfl,iteN (by show ¬ (!true)=true;decide) ?_⟩;refine t_nx (sq_ret ?_);obtain ⟨r,⟨M,z⟩,L⟩:=(G.same g).deed;refine ⟨_,rfl,_,rfl,.inr (.inl ⟨p,_,2,.str b,rfl,rfl,SqT.of i,z08 (j:=2) rfl,d,_,rfl,dg,?_⟩)⟩;refine ⟨_,rfl,.inr (.inl ⟨p,_,3,.str N,rfl,rfl,SqT.of i,z08 (j:=3) rfl,?_⟩)⟩;refine ⟨_,rfl,.inr (.inl ⟨p,_,4,x,rfl,rfl,SqT.of i,z08 (j:=4) rfl,_,_,_,"str","str",M,rfl,rfl,rfl,z,L,λ S u=>?_⟩)⟩;rw [r];exact q _ (g.trans u)
def zbe:Sp:=λ vs H Q _=>∃h a y ts,vs=[y]/\EvT H ts (.fin h a) y/\Q (.bl true) H
theorem zho (T:TX (kx w) mg) (c0:Ca P w mg base "is_event" ["event","word","many"] 3 z4s) (c1:Ca P w mg base "is_answer" ["answer"] 3 z5p):Fo P w mg base CX0 4 232 y25 ["event"] zbe:=by
 refine (zb7 w.params).ok zgg (λ g H Q E h=>?_) (λ l A k s H g Q E b h=>?_)
 ·obtain ⟨h,a,y,d,rfl,_⟩:=h;rfl
 ·obtain ⟨h,a,y,d,rfl,⟨p,rfl,c,f,i,e⟩,q⟩:=h;refine ⟨_,(z05 (ps_ret (pe_and (pe_cal c0 (b.mono (by decide)) rfl (z01 (pv 0) (z01 pe_str (z01 pe_int pa_nil)))) (pe_one (pe_cal c1 (b.mono (by decide)) rfl (z01 (pe_ix ix_seq (pv 0) pe_int (λ _ _=>rfl)) pa_nil)))))),?_⟩;refine ⟨_,rfl,p,[a],"end","end",h,3,rfl,c,f,i,_,rfl,iteP (by rw [show decide (("end" : Str) = "end")=true by decide +kernel];rfl) ?_⟩;exact ⟨_,rfl,.inr (.inl ⟨p,_,2,a,rfl,rfl,SqT.of c,z08 (j:=2) rfl,a,rfl,e,q⟩)⟩
def z46 (K:j0):Sp:=λ vs H Q _=>∃a ys ts es,vs=[.ref a]/\SqL K H a ys/\All2 (EvT H ts) es ys/\es.length<=1000/\EWf [] es/\∀H',Same H H'->Q (.bl true) H'
theorem z84 (T:TX (kx w) mg):Fo P w mg base CX0 1 260 y0k ["events"] (z46 (kx w)):=by
 refine (z2v w.params).ok sc_go_by_turns (λ X H Q E h=>?_) (λ a2 A a1 s H X Q E B h=>?_)
 ·obtain ⟨a,l,S,f,rfl,_⟩:=h;rfl
 ·obtain ⟨a,l,S,f,rfl,D,C,ln,O,q⟩:=h;refine ⟨_,(z02 (ps_set (i:=1) sc_go_by_turns.nd rfl (K1 rfl) ze8)
   (z02 (ps_for Y2 rfl (z17 (pv 0)) (z0f (i:=2) sc_go_by_turns.nd rfl (K1 rfl))
   (z02 (ps_set (i:=3) sc_go_by_turns.nd rfl (K1 rfl) (z39 opEq (pe_ix ix_seq (pv 2) pe_int (λ _ _=>rfl)) pe_str (nomark _)))
   (z02 (ps_if (z0a opEq (zjs (hu_of B) (pv 1) (pe_ix ix_seq (pv 2) pe_int (λ _ _=>rfl)) pe_bl ⟨rfl,rfl,rfl,rfl⟩) (pv 3) (nomark _))
   (z05 (ps_ret pe_bl))
   z0e)
   (z05 (z3a (hu_of B) (pv 1) (pe_ix ix_seq (pv 2) pe_int (λ _ _=>rfl)) (pv 3) rfl)))))
   (z05 (ps_ret pe_bl)))),?_⟩
  have ly:l.length=f.length:=z04 C;refine z0b ?_;intro d F;refine g_name ?_;obtain ⟨H0,I,r,e0⟩:=newA (.dK []) F;rw [<-I];refine ⟨_,rfl,a,rfl,⟨_,r.seq D⟩,?_⟩;refine z3q (K:=KX w.params) (a:=a) (xs:=l) (λ i σ o=>Same H o/\(∃kvs os,o d=some (.dK kvs)/\kvs.length<=i/\EWf os (f.drop i)/\∀h:Int,(valV kvs (.inl h)).getD (.bl false)=.bl (decide (h∈os)))/\∃x2 x3,σ=[some (.ref a),some (.ref d),x2,x3])
   ⟨r,⟨[],[],e0,J0 _,by rw [J6];exact O,λ h=>by rw [decide_eq_false L0];rfl⟩,_,_,rfl⟩ (λ _ σ o _ h=>h.1.seq D) ?_ ?_
  ·rintro i y σ t M ⟨s1,⟨kvs,os,ed,lk,wf1,kv⟩,x2,x3,rfl⟩;obtain ⟨e,Z,L⟩:=z0m C M;obtain ⟨hi,U⟩:=List.getElem?_eq_some_iff.mp Z;have R:f.drop i=e :: f.drop (i + 1):=by rw [j28 hi,U]
   rw [R] at wf1;have G:=EvT.same s1 L;refine g_name ?_;obtain ⟨p,xs,z,h,b,g,c,J,N,Y,a0⟩ :∃(p:Addr) (xs:List V) (z:Str) (h:Int) (b:Bool),y=.ref p/\t p=some (.tup (.str z :: .int h :: xs))/\decide (z = "begin")=b/\decide (h∈os) = !b/\(∀k:Int,decide (k∈oStep os e)=if k=h then b else decide (k∈os))/\EWf (oStep os e) (f.drop (i + 1)):=by
    cases e with
    | beg h n v x=>
     obtain ⟨p,nm,k,vb,g,c,_⟩:=G;refine ⟨p,_,"begin",h,true,g,c,by decide +kernel,by rw [decide_eq_false (show h∉os from wf1.1)];rfl,λ k=>?_,wf1.2⟩;show decide (k∈os++[h])=_;by_cases z:k=h
     ·rw [if_pos z,decide_eq_true (List.mem_append.mpr (.inr (List.mem_singleton.mpr z)))]
     ·rw [if_neg z];by_cases y:k∈os
      ·rw [decide_eq_true y,decide_eq_true (List.mem_append.mpr (.inl y))]
      ·rw [decide_eq_false y,decide_eq_false (λ w=>(List.mem_append.mp w).elim y λ u=>z (List.mem_singleton.mp u))]
    | fin h a'=>
     obtain ⟨p,g,c,_⟩:=G;refine ⟨p,_,"end",h,false,g,c,by decide +kernel,by rw [decide_eq_true (show h∈os from wf1.1)];rfl,λ k=>?_,wf1.2⟩;show decide (k∈os.filter λ j=>decide (j≠h))=_;by_cases z:k=h
     ·rw [if_pos z,decide_eq_false (λ w=>(of_decide_eq_true (List.mem_filter.mp w).2) z)]
     ·rw [if_neg z];by_cases y:k∈os
      ·rw [decide_eq_true y,decide_eq_true (List.mem_filter.mpr ⟨y,decide_eq_true z⟩)]
      ·rw [decide_eq_false y,decide_eq_false (λ w=>y (List.mem_filter.mp w).1)]
   subst g;refine z0b ?_;refine ⟨_,rfl,.inr (.inl ⟨p,_,0,.str z,rfl,rfl,SqT.of c,z08 (j:=0) rfl,rfl,?_⟩)⟩;have W:decide (V.str z=V.str "begin")=b:=by
    rw [<-J];by_cases y:z = "begin"
    ·rw [y,decide_eq_true rfl,decide_eq_true rfl]
    ·rw [decide_eq_false y,decide_eq_false (λ e=>y (by injection e))]
   rw [W];refine g_name ?_;refine sq_if ?_;refine ⟨_,rfl,d,rfl,.inl ⟨_,.inl ed⟩,_,rfl,.inr (.inl ⟨p,_,1,.int h,rfl,rfl,SqT.of c,z08 (j:=1) rfl,_,DGet.k (k:=.inl h) ed,?_⟩)⟩;rw [kv h,N];refine ⟨_,rfl,rfl,_,rfl,iteN (by cases b<;>decide) ?_⟩;refine t_nx ?_;refine ⟨_,rfl,_,rfl,_,rfl,.inr (.inl ⟨p,_,1,.int h,rfl,rfl,SqT.of c,z08 (j:=1) rfl,d,_,rfl,DPut.k (k:=.inl h) ed (V0 (m:=1000) (by omega) (by decide)),?_⟩)⟩;refine ⟨Same.keep s1 F,⟨_,oStep os e,z03,O0 zir (by omega),a0,λ k=>?_⟩,_,_,rfl⟩;rw [z7q,Y k];by_cases z:k=h
   ·rw [if_pos (by rw [z]),if_pos z];rfl
   ·rw [if_neg (λ e=>z (Sum.inl.inj e)),if_neg z];exact kv k
  ·rintro σ t ⟨s1,_,x2,x3,rfl⟩;exact q _ s1
theorem zjz {H:Hp} {ts:List (Str×Str)} {e:Ev} {y:V} (h:EvT H ts e y) :∃(p:Addr) (z:Str) (r:List V),y=.ref p/\H p=some (.tup (.str z :: r))/\decide (z = "begin")=isBeg e:=by
 cases e with
 | beg h n v x=>obtain ⟨p,d,k,f,c,b,_⟩:=h;exact ⟨p,_,_,c,b,(show decide (("begin" : Str) = "begin")=true by decide +kernel)⟩
 | fin h a=>obtain ⟨p,c,b,_⟩:=h;exact ⟨p,_,_,c,b,(show decide (("end" : Str) = "begin")=false by decide +kernel)⟩
theorem zc5 {z y:Str}:decide (V.str z=V.str y)=decide (z=y):=by
 by_cases e:z=y
 ·rw [e,decide_eq_true rfl,decide_eq_true rfl]
 ·rw [decide_eq_false e,decide_eq_false (λ x=>e (by injection x))]
def z3y (K:j0):Sp:=λ vs H Q _=>∃a d ys ts es,vs=[.ref a,.ref d]/\H a=some (.lst ys)/\KdAt H d ts/\All2 (EvT H ts) es ys/\es.length<=1000/\(es.filter isBeg).length<=24/\EWf [] es/\∀c H',Same H H'->H' c=some (.tup ys)->Q (.ref c) H'
theorem z7z (T:TX (kx w) mg) (c0:Ca P w mg base "is_begin" ["event","kinds"] 5 z7b) (c1:Ca P w mg base "is_end" ["event"] 4 zbe) (c2:Ca P w mg base "go_by_turns" ["events"] 1 (z46 (kx w))):Fo P w mg base CX0 6 218 y0j ["events","kinds"] (z3y (kx w)):=by
 refine (z2u w.params).ok z8f (λ vs H Q E h=>?_) (λ a9 A a8 s H vs Q E J h=>?_)
 ·obtain ⟨a,d,f,C,t,rfl,_⟩:=h;rfl
 ·obtain ⟨a,d,f,C,t,rfl,O,kd,L,ln,a2,wf,q⟩:=h;refine ⟨_,(z02 (ps_if (PW.pt (pw_or (pt_not (pt_val (z07 z0o rfl (T.no (z0l _)) P3 (z01 (pv 0) (z01 (z2k (v:=.ty "list") rfl (T.no (n_list _)) j1j rfl) pa_nil))) (λ _=>rfl))) (pw_or1 (pt_not (pt_val (z07 (z38 rfl) rfl (T.no (n_all _)) j18 (z01 (pe_cg (xs:=["event"]) (g:=gName 0) (fr:=[(1,"kinds")]) (z17 (pv 0)) (λ _ _ _ _ _=>(pg_cn (N:=["event","kinds"]) 0)) (λ _ _ _ _ _=>pf_nil) (λ _ _ _ _ _=>(pe_or (pe_cal c0 (J.mono (by decide)) rfl (z01 (pv 0) (z01 (pv 1) pa_nil))) (pe_one (pe_cal c1 (J.mono (by decide)) rfl (z01 (pv 0) pa_nil)))))) pa_nil)) (λ _=>rfl))))))
   (z05 z4h)
   z0e)
   (z02 (ps_if (z0a op_gt (z07 z0n rfl (T.no (n_len _)) G2 (z01 (pe_cg (xs:=["event"]) (g:=gName 0) (fr:=[]) (z17 (pv 0)) (λ _ _ _ _ _=>(pg_cn (N:=["event"]) 0)) (λ _ _ _ _ _=>(pf_one (z0a opEq (pe_ix (z7e (K:=KX w.params) rfl) (pv 0) pe_int (λ _ _=>rfl)) pe_str (nomark _)))) (λ _ _ _ _ _=>(pv 0))) pa_nil)) (z1y (v:=.int (24)) rfl (T.of (z9g _)) ⟨_,rfl⟩) (nomark _))
   (z05 z4h)
   z0e)
   (z02 (ps_if (pt_not (pt_val (pe_cal c2 (J.mono (by decide)) rfl (z01 (pv 0) pa_nil)) (λ _=>rfl)))
   (z05 z4h)
   z0e)
   (z05 (ps_ret (z5f z5a rfl (T.no (zdt _)) boot_tuple (z01 (pv 0) pa_nil))))))),?_⟩
  have ly:f.length=t.length:=z04 L;refine sq_if (t_or ?_);refine ⟨_,rfl,_,_,"list",rfl,.inl ⟨⟨_,O⟩,rfl⟩,by decide,_,rfl,iteN (by decide) ?_⟩;refine tB_not (e_cb1 ?_);refine z2c (K:=KX w.params) (a:=a) (xs:=f) (H1:=H) (λ _=>true) (λ _ y _=>y=.bl true) (λ _ _ _ _ _ z=>z) (λ R h=>⟨_,rfl,h⟩) (SqL.of O) (O0 (m:=1000) (by omega) (by decide)) ?_ ?_
  ·intro i hi v H1 u F KT KF l M;obtain ⟨e,he,G⟩:=z0m L F;have a1:=EvT.same u G;refine ⟨[some v],rfl,rfl,iteT ?_⟩;refine ⟨_,rfl,_,rfl,e,v,d,C,rfl,a1,kd.same u,λ Y b=>⟨_,rfl,?_⟩⟩;cases e with
   | beg h n v' x=>exact iteP rfl (l rfl _ _ b rfl)
   | fin h a'=>exact iteN (λ z=>by cases z) ⟨_,rfl,h,a',v,C,rfl,EvT.same b a1,l rfl _ _ b rfl⟩
  intro X H1 bs u a4 a7;have S :∀y∈bs,y=.bl true:=λ y k=>by obtain ⟨m,hm⟩:=List.mem_iff_getElem?.mp k;obtain ⟨_,_,z⟩:=z0m a7 hm;exact z
  refine ⟨X,bs,rfl,SqL.of z03,λ y k=>⟨true,S y k⟩,?_⟩;rw [List.all_eq_true.mpr (λ y k=>decide_eq_true (S y k))];refine ⟨_,rfl,iteN (by decide) ?_⟩;have b:=u.trans (Same.upd (o:=.lst bs) a4);generalize upd H1 X (.lst bs)=Y at b⊢;have U:=b _ _ O;have a0:=z00 (λ _ _ z=>EvT.same b z) L;refine t_nx (sq_if (ziy ?_));refine z2c (K:=KX w.params) (a:=a) (xs:=f) (H1:=Y) (λ i=>isBeg (t[i]?.getD (.fin 0 .non))) (λ _ y _=>True) (λ _ _ _ _ _ z=>z) (λ R h=>⟨_,rfl,h⟩) (SqL.of U) (O0 (m:=1000) (by omega) (by decide)) ?_ ?_
  ·intro i hi v V I F KT KF l M;obtain ⟨e,he,G⟩:=z0m a0 F;rw [he] at l M;obtain ⟨p,z,r,rfl,ep,hz⟩:=zjz (EvT.same I G);refine ⟨[some (.ref p)],rfl,rfl,?_⟩;refine ⟨_,rfl,.inr (.inl ⟨p,_,0,.str z,rfl,rfl,SqT.of ep,z08 (j:=0) rfl,rfl,_,rfl,?_⟩)⟩;rw [zc5,hz];cases hbe:isBeg e with
   | true=>exact iteP rfl ⟨_,rfl,l hbe _ _ (Same.refl _) trivial⟩
   | false=>exact iteN (by decide) (M hbe _ (Same.refl _))
  intro W V D I a5 a3;have lz:D.length<=24:=by rw [z04 a3,ly];have:=congrArg j4d (z63 isBeg (λ e=>e) (.fin 0 .non) t);rw [C0,C0] at this;rw [this];exact a2
  have B:=I.trans (Same.upd (o:=.lst D) a5);refine .inl ⟨W,D,rfl,.inl (SqL.of z03),?_⟩;generalize upd V W (.lst D)=H4 at B⊢;refine ⟨_,_,rfl,rfl,_,rfl,iteN (λ e=>absurd (of_decide_eq_true e) (by omega)) ?_⟩;refine t_nx (sq_if ?_);have Z:=B _ _ U;have a6:=z00 (λ _ _ z=>EvT.same B z) a0;refine ⟨_,rfl,a,f,C,t,rfl,SqL.of Z,a6,ln,wf,λ H5 s5=>⟨true,rfl,iteN (by decide) ?_⟩⟩;refine t_nx (sq_ret ?_);refine ⟨_,rfl,a,_,rfl,.inl ⟨SqL.of (s5 _ _ Z),λ c hc=>?_⟩⟩;exact q c _ (((b.trans B).trans s5).trans (Same.upd hc)) z03
theorem z7f :∀(more kvs:List (Key×V)),((kvs++more).map (·.1)).Nodup->mergeK kvs more=kvs++more
 | [],kvs,_=>(F2 _).symm
 | kv :: more,kvs,nd=>by
  have fr:kv.1∉kvs.map (·.1):=λ z=>by rw [P1,F6] at nd;exact nd.2.2 _ z _ (.head _) rfl
  show mergeK (putK kvs kv.1 kv.2) more=_;rw [ze4 fr,z7f more (kvs++[(kv.1,kv.2)]) (by rw [A2];exact nd),A2];rfl
theorem val_in :∀{kvs:List (Key×V)} {k:Key} {v:V},(kvs.map (·.1)).Nodup->(k,v)∈kvs->valV kvs k=some v
 | (k',v') :: kvs,k,v,nd,h=>by
  rw [W1,D5] at nd;rcases List.mem_cons.mp h with e|h
  ·cases e;exact z1e rfl
  ·rw [z18 (λ e=>nd.1 (by have e:k'=k:=e;subst e;exact List.mem_map.mpr ⟨_,h,rfl⟩))];exact val_in nd.2 h
def z5t (K:j0):Sp:=λ vs H Q _=>∃a b ys ts zs es,vs=[.ref a,.ref b]/\H a=some (.lst ys)/\All2 (ThV H) ts ys/\ts.length<=6/\(ts.map (·.1)).Nodup/\(∀t∈ts,ThingOk t)/\H b=some (.lst zs)/\All2 (EvT H ts) es zs/\es.length<=1000/\(es.filter isBeg).length<=24/\EWf [] es/\
 ∀(p:List Nat) t c e H',Same H H'->H' t=some (.tup [.ref c,.ref e])->H' c=some (.tup (p.map λ i=>ys.getD i .non))->H' e=some (.tup zs)->p.Perm (U0 ys.length)->(p.map λ i=>(ts.map (·.1)).getD i ("" : Str)).Pairwise (λ x y=>ltS x y=true)->Q (.ref t) H'
theorem zb4 (T:TX (kx w) mg) (c0:Ca P w mg base "make_things" ["things"] 3 (z41 (kx w))) (c1:Ca P w mg base "make_events" ["events","kinds"] 6 (z3y (kx w))):Fo P w mg base CX0 7 201 y10 ["things","events"] (z5t (kx w)):=by
 refine (z4m w.params).ok sc_make_tale (λ vs H Q E h=>?_) (λ a2 A a1 s H vs Q E G h=>?_)
 ·obtain ⟨a,b,l,f,U,S,rfl,_⟩:=h;rfl
 ·obtain ⟨a,b,l,f,U,S,rfl,ea,v,l6,nd,ok,u,av,ln,a0,wf,q⟩:=h;refine ⟨_,(z02 (ps_set (i:=2) sc_make_tale.nd rfl (K1 rfl) (pe_cal c0 (G.mono (by decide)) rfl (z01 (pv 0) pa_nil)))
   (z05 (ps_ret (pe_tup (z01 (pv 2) (z01 (pe_cal c1 (G.mono (by decide)) rfl (z01 (pv 1) (z01 (z5f (zcs rfl) rfl (T.no (n_dict _)) boot_dict (z01 (pv 2) pa_nil)) pa_nil))) pa_nil)))))),?_⟩
  have Z:l.length=f.length:=z04 v;refine z0b ?_;refine ⟨_,rfl,a,l,f,rfl,ea,v,l6,nd,ok,λ p c m D L B R=>?_⟩;refine g_name ?_;have K :∀i∈p,i < f.length:=λ i g=>by have:=List.mem_range.mp (B.mem_iff.mp g);omega
  have Y :∀p:List Nat,(∀i∈p,i < f.length)->All2 (λ (q:Key×V) y=>∃b,y=.ref b/\SqT (kx w) m b [kV q.1,q.2]) (p.map λ i=>((.inr (f.getD i ("","")).1,.str (f.getD i ("","")).2):Key×V)) (p.map λ i=>l.getD i .non):=by
   intro p;induction p with
   | nil=>intro _;exact .nil
   | cons i p ih=>
    intro F;have g:=F i (.head _);obtain ⟨y,X,b,W,u⟩:=z0r v (v0 g);refine .cons ⟨b,?_,?_⟩ (ih λ j hj=>F j (.tail _ hj))
    ·show l.getD i .non=_;rw [O1,X];exact W
    ·show SqT (kx w) m b [.str (f.getD i ("","")).1,.str (f.getD i ("","")).2];rw [O1,v0 g];exact SqT.of (D _ _ u)
  refine ⟨_,rfl,_,rfl,_,rfl,c,_,_,rfl,.inr L,Y p K,λ d N=>?_⟩;have O:((p.map λ i=>((.inr (f.getD i ("","")).1,.str (f.getD i ("","")).2):Key×V)).map (·.1)).Nodup:=by
   rw [K4];have I:(p.map λ i=>(f.map (·.1)).getD i ("" : Str)).Nodup:=R.imp λ {x y} z e=>by rw [e,z6m] at z;cases z
   have e1:(p.map λ i=>(f.map (·.1)).getD i ("" : Str))=p.map λ i=>(f.getD i ("","")).1:=List.map_congr_left λ i g=>by have g:=K i g;rw [O1,O1,N0,v0 g];rfl
   rw [e1] at I;have:(p.map ((·.1) ∘ λ i=>((.inr (f.getD i ("","")).1,.str (f.getD i ("","")).2):Key×V)))=(p.map λ i=>(f.getD i ("","")).1).map Sum.inr:=by rw [K4];rfl
   rw [this];exact L2.nodup_map_on (λ a _ b _ e=>j31 e) I
  have mg:mergeK [] (p.map λ i=>((.inr (f.getD i ("","")).1,.str (f.getD i ("","")).2):Key×V))=p.map λ i=>((.inr (f.getD i ("","")).1,.str (f.getD i ("","")).2):Key×V):=z7f _ [] O;rw [mg];have n:=D.trans (Same.upd (o:=.dK (p.map λ i=>((.inr (f.getD i ("","")).1,.str (f.getD i ("","")).2):Key×V))) N);have J:KdAt (upd m d (.dK (p.map λ i=>((.inr (f.getD i ("","")).1,.str (f.getD i ("","")).2):Key×V)))) d f:=⟨_,z03,λ nm k hm=>by obtain ⟨i,g⟩:=List.mem_iff_getElem?.mp hm;refine val_in O (List.mem_map.mpr ⟨i,B.mem_iff.mpr (List.mem_range.mpr (by rw [Z];exact (List.getElem?_eq_some_iff.mp g).1)),?_⟩);rw [O1,g];rfl⟩
  have M:=(Same.upd (o:=.dK (p.map λ i=>((.inr (f.getD i ("","")).1,.str (f.getD i ("","")).2):Key×V))) N) _ _ L;generalize upd m d (.dK (p.map λ i=>((.inr (f.getD i ("","")).1,.str (f.getD i ("","")).2):Key×V)))=H2 at n J M⊢;refine ⟨b,d,U,f,S,rfl,n _ _ u,J,z00 (λ _ _ z=>EvT.same n z) av,ln,a0,wf,λ e H3 C ee=>⟨w_2,λ t ht=>?_⟩⟩;have r:=Same.upd (o:=.tup [.ref c,.ref e]) ht;exact q p t c e _ ((n.trans C).trans r) z03 (r _ _ (C _ _ M)) (r _ _ ee) B R
end
section
mutual
def HPd (H:Hp):PyData->V->Prop
 | .none,v=>v=.non
 | .bool b,v=>v=.bl b
 | .int i,v=>v=.int i
 | .str z,v=>v=.str z
 | .list ds,v=>∃a xs,v=.ref a/\H a=some (.lst xs)/\HPds H ds xs
 | .tuple ds,v=>∃a xs,v=.ref a/\H a=some (.tup xs)/\HPds H ds xs
 | .dict kvs,v=>kvs=[]/\∃a,v=.ref a/\H a=some (.dK [])
def HPds (H:Hp):List PyData->List V->Prop
 | [],xs=>xs=[]
 | d :: ds,xs=>∃x r,xs=x :: r/\HPd H d x/\HPds H ds r
end
mutual
theorem HPd.mono' {H H':Hp} (s :∀a xs,H a=some (.tup xs)->H' a=some (.tup xs)) (t :∀a xs,H a=some (.lst xs)->H' a=some (.lst xs)) (u :∀a,H a=some (.dK [])->H' a=some (.dK [])) :∀(d:PyData) (v:V),HPd H d v->HPd H' d v
 | .none,_,h=>h
 | .bool _,_,h=>h
 | .int _,_,h=>h
 | .str _,_,h=>h
 | .list ds,v,h=>by obtain ⟨a,xs,rfl,e,r⟩:=h;exact ⟨a,xs,rfl,t _ _ e,HPds.mono' s t u ds xs r⟩
 | .tuple ds,v,h=>by obtain ⟨a,xs,rfl,e,r⟩:=h;exact ⟨a,xs,rfl,s _ _ e,HPds.mono' s t u ds xs r⟩
 | .dict _,v,h=>by obtain ⟨e,a,rfl,b⟩:=h;exact ⟨e,a,rfl,u _ b⟩
theorem HPds.mono' {H H':Hp} (s :∀a xs,H a=some (.tup xs)->H' a=some (.tup xs)) (t :∀a xs,H a=some (.lst xs)->H' a=some (.lst xs)) (u :∀a,H a=some (.dK [])->H' a=some (.dK [])) :∀(ds:List PyData) (xs:List V),HPds H ds xs->HPds H' ds xs
 | [],_,h=>h
 | d :: ds,xs,h=>by obtain ⟨x,r,rfl,a,b⟩:=h;exact ⟨x,r,rfl,HPd.mono' s t u d x a,HPds.mono' s t u ds r b⟩
end
theorem HPd.same {H H':Hp} {d:PyData} {v:V} (h:HPd H d v) (s:Same H H'):HPd H' d v:=HPd.mono' (λ _ _ q=>s _ _ q) (λ _ _ q=>s _ _ q) (λ _ q=>s _ _ q) d v h
theorem HPds.all {H:Hp} :∀{ds:List PyData} {xs:List V},HPds H ds xs->All2 (HPd H) ds xs
 | [],_,h=>by cases (show _=[] from h);exact .nil
 | d :: ds,xs,h=>by obtain ⟨x,r,rfl,a,b⟩:=h;exact .cons a (HPds.all b)
def dif (B H:Hp):Hp:=λ p=>if B p=none then H p else none
def tDat (P:L2.St->Prop) (d:PyData):TE:=λ σ H Q=>P σ/\∀v H',Same H H'->HPd (dif H H') d v->Q v H'
def tDats (P:L2.St->Prop) (ds:List PyData):TA:=λ σ H Q=>P σ/\∀xs H',Same H H'->HPds (dif H H') ds xs->Q xs H'
variable {X:Cx} {pos:Pos} {P:L2.St->Prop}
structure QD (X:Cx) (P:L2.St->Prop) (e:Expr) (d:PyData):Prop where
 run:PE X e (tDat P d)
structure QDs (X:Cx) (P:L2.St->Prop) (es:List Expr) (ds:List PyData):Prop where
 run:PA X es (tDats P ds)
theorem HPds.length {H:Hp} {ds:List PyData} {xs:List V} (h:HPds H ds xs):xs.length=ds.length:=z04 h.all
theorem zbl {P P':Program} {w w':C1} {h:Heap} {a:Addr} (d:h.DictOf (z0k P w) a []):h.DictOf (z0k P' w') a []:=by
 obtain ⟨o,j,g,i,l,c,m,k,f⟩:=d;have b:j = #[]:=by have:=k.length;exact Array.eq_empty_of_size_eq_zero (by simpa using this)
 subst b;exact ⟨o,#[],g,i,l,c,(λ e b=>by simp at b),.nil,f⟩
theorem ze9 (n:Nat):(U0 n).all (λ _=>true)=true:=List.all_eq_true.mpr λ _ _=>rfl
mutual
theorem zkr {pins:List (Addr×Obj)} {σ:L2.St} {H:Hp} {s:B0} (I:Inv X pins σ H s) :∀(d:PyData) (A:O2) (x y:V) (u v:Value),HPd H d x->HPd H d y->RelV x u->RelV y v->A.units + d.depth + 1 < cLine->j1a A s u v true
 | .none,A,x,y,u,v,hx,hy,rx,ry,hu=>by cases (show x=.non from hx);cases (show y=.non from hy);cases (show u=.none from rx);cases (show v=.none from ry);exact W5 _
 | .bool b,A,x,y,u,v,hx,hy,rx,ry,hu=>by cases (show x=.bl b from hx);cases (show y=.bl b from hy);cases (show u=.bool b from rx);cases (show v=.bool b from ry);exact W5 _
 | .int i,A,x,y,u,v,hx,hy,rx,ry,hu=>by
  cases (show x=.int i from hx);cases (show y=.int i from hy);obtain ⟨t,rfl⟩:=rx;obtain ⟨F,rfl⟩:=ry;have:=j2g (A:=A) (s:=s) i t i F
  rwa [beq_self_eq_true] at this
 | .str i,A,x,y,u,v,hx,hy,rx,ry,hu=>by
  cases (show x=.str i from hx);cases (show y=.str i from hy);obtain ⟨t,rfl⟩:=rx;obtain ⟨F,rfl⟩:=ry;have:=j2d (A:=A) (s:=s) i t i F
  rwa [beq_self_eq_true] at this
 | .list ds,A,x,y,u,v,hx,hy,rx,ry,hu=>by
  obtain ⟨a,D,rfl,l,h⟩:=hx;obtain ⟨b,z,rfl,k,g⟩:=hy;cases (show u=.ref a from rx);cases (show v=.ref b from ry);obtain ⟨m,c,p,_⟩:=I.list (SqL.of l);obtain ⟨n,f,B,_⟩:=I.list (SqL.of k);have P:A.units + (S4 ds + 1) + 1 < cLine:=hu;have K:=c.length;have O:=f.length;have J:=h.length;have R:=g.length;by_cases hll:a=b
  ·subst hll;exact W5 _
  ·refine V8 hll ?_;have:=SeqAt.RcAt.lists (A:=A) (e:=λ _=>true) p.isList B.isList (by simp;omega) (by omega) (λ j C o=>?_)
   ·rwa [ze9] at this
   ·have:=z7y I ds A.in1 D z m n h g c f (show A.units + 1 + S4 ds + 1 < cLine by omega) j (by simpa using C) (by simpa using o);simpa using this
 | .tuple ds,A,x,y,u,v,hx,hy,rx,ry,hu=>by
  obtain ⟨a,D,rfl,l,h⟩:=hx;obtain ⟨b,z,rfl,k,g⟩:=hy;cases (show u=.ref a from rx);cases (show v=.ref b from ry);obtain ⟨m,c,p,_⟩:=I.tuple (SqT.of l);obtain ⟨n,f,B,_⟩:=I.tuple (SqT.of k);have P:A.units + (S4 ds + 1) + 1 < cLine:=hu;have K:=c.length;have O:=f.length;have J:=h.length;have R:=g.length;by_cases hll:a=b
  ·subst hll;exact W5 _
  ·refine V8 hll ?_;have:=j32 (A:=A) (e:=λ _=>true) p B (by omega) (λ j C o=>?_)
   ·rw [ze9,y6] at this
    rwa [show (m.toArray.size == n.toArray.size)=true by simp;omega] at this
   ·have:=z7y I ds A.in1 D z m n h g c f (show A.units + 1 + S4 ds + 1 < cLine by omega) j (by simpa using C) (by simpa using o);simpa using this
 | .dict kvs,A,x,y,u,v,hx,hy,rx,ry,hu=>by
  obtain ⟨rfl,a,rfl,l⟩:=hx;obtain ⟨_,b,rfl,k⟩:=hy;cases (show u=.ref a from rx);cases (show v=.ref b from ry);by_cases hll:a=b
  ·subst hll;exact W5 _
  ·refine V8 hll λ T w E Q q=>?_;obtain ⟨_,G,Y,c,L⟩:=dk_of I.hok l;obtain ⟨_,N,U,S,M⟩:=dk_of I.hok k;cases c;cases S;exact PySem.W.keq_eq (r:=true) G N (zbl L) (zbl M) (by omega) (λ _=>.nil) q
theorem z7y {pins:List (Addr×Obj)} {σ:L2.St} {H:Hp} {s:B0} (I:Inv X pins σ H s) :∀(ds:List PyData) (A:O2) (xs ys:List V) (us vs:List Value),HPds H ds xs->HPds H ds ys->Vals xs us->Vals ys vs->A.units + S4 ds + 1 < cLine->∀j (h1:j < us.length) (h2:j < vs.length),j1a A s us[j] vs[j] true
 | [],A,xs,ys,us,vs,hx,hy,rx,ry,hu,j,h1,h2=>by cases (show xs=[] from hx);cases rx;exact absurd h1 (j1c _)
 | d :: ds,A,xs,ys,us,vs,hx,hy,rx,ry,hu,j,h1,h2=>by
  obtain ⟨x,c,rfl,g,a⟩:=hx;obtain ⟨y,b,rfl,f,e⟩:=hy;cases rx with
  | cons r1 r2=>
   cases ry with
   | cons q1 q2=>
    have h:A.units + max d.depth (S4 ds) + 1 < cLine:=hu;cases j with
    | zero=>exact zkr I d A x y _ _ g f r1 q1 (by omega)
    | succ j=>exact z7y I ds A c b _ _ a e r2 q2 (by omega) j (j44 h1) (j44 h2)
end
end
section
def sc:PyData->V
 | .none=>.non
 | .bool b=>.bl b
 | .int i=>.int i
 | .str z=>.str z
 | _=>.ref 0
theorem sc_f {H:Hp} {d:PyData} {v:V} (h:HPd H d v) {β:Type} (f:V->β) (hf :∀a b,f (.ref a)=f (.ref b)):f v=f (sc d):=by
 cases d with
 | none=>cases (show v=.non from h);rfl
 | bool b=>cases (show v=.bl b from h);rfl
 | int i=>cases (show v=.int i from h);rfl
 | str z=>cases (show v=.str z from h);rfl
 | list ds=>obtain ⟨a,c,rfl,_⟩:=h;exact hf _ _
 | tuple ds=>obtain ⟨a,c,rfl,_⟩:=h;exact hf _ _
 | dict ds=>obtain ⟨_,a,rfl,_⟩:=h;exact hf _ _
def tupD:PyData->Option (List PyData)
 | .tuple ds=>some ds
 | _=>none
theorem tup_D {H:Hp} {d:PyData} {v:V} (h:HPd H d v):(tupD d=none/\tupOf H v=none)\/∃ds xs,d=.tuple ds/\tupOf H v=some xs/\All2 (HPd H) ds xs:=by
 cases d with
 | none=>cases (show v=.non from h);exact .inl ⟨rfl,rfl⟩
 | bool b=>cases (show v=.bl b from h);exact .inl ⟨rfl,rfl⟩
 | int i=>cases (show v=.int i from h);exact .inl ⟨rfl,rfl⟩
 | str z=>cases (show v=.str z from h);exact .inl ⟨rfl,rfl⟩
 | list ds=>obtain ⟨a,xs,rfl,e,_⟩:=h;refine .inl ⟨rfl,?_⟩;unfold tupOf;dsimp only;rw [e]
 | tuple ds=>obtain ⟨a,xs,rfl,e,c⟩:=h;exact .inr ⟨ds,xs,rfl,z4n e,c.all⟩
 | dict ds=>obtain ⟨_,a,rfl,e⟩:=h;refine .inl ⟨rfl,?_⟩;unfold tupOf;dsimp only;rw [e]
theorem zg7 {α β:Type} {R:α->β->Prop} {xs:List α} {ys:List β} (h:All2 R xs ys) {y:β} (hy:y∈ys) :∃x∈xs,R x y:=by
 induction h with
 | nil=>cases hy
 | cons a r ih=>
  rcases List.mem_cons.mp hy with rfl|hy
  ·exact ⟨_,.head _,a⟩
  ·obtain ⟨x,b,h⟩:=ih hy;exact ⟨x,.tail _ b,h⟩
theorem tag_D {H:Hp} {d:PyData} {v:V} (h:HPd H d v) :∃T,TagOf H v T:=by
 cases d with
 | none=>cases (show v=.non from h);exact ⟨_,rfl⟩
 | bool b=>cases (show v=.bl b from h);exact ⟨_,rfl⟩
 | int i=>cases (show v=.int i from h);exact ⟨_,rfl⟩
 | str z=>cases (show v=.str z from h);exact ⟨_,rfl⟩
 | list ds=>obtain ⟨a,c,rfl,e,_⟩:=h;exact ⟨_,.inl ⟨⟨_,e⟩,rfl⟩⟩
 | tuple ds=>obtain ⟨a,c,rfl,e,_⟩:=h;exact ⟨_,.inr (.inl ⟨⟨_,e⟩,rfl⟩)⟩
 | dict ds=>obtain ⟨_,a,rfl,e⟩:=h;exact ⟨_,.inr (.inr ⟨⟨_,e⟩,rfl⟩)⟩
def deedP (k v:V) (d:PyData):Bool:=match k,v with
 | .str a,.str b=>if formOf a b=0 then decide (sc d=.non) else if formOf a b=1 then z0j (sc d) 1000000000 else if formOf a b=2 then
   (match tupD d with|some ds=>decide (ds.length=2) && ds.all λ y=>z0j (sc y) 1000000000|none=>false) else false
 | _,_=>false
theorem deed_D {H:Hp} {k v x:V} {d:PyData} (h:HPd H d x):deedB H k v x=deedP k v d:=by
 cases k with
 | str a=>
  cases v with
  | str b=>
   show (if formOf a b=0 then decide (x=.non) else if formOf a b=1 then z0j x 1000000000 else if formOf a b=2 then
    (match tupOf H x with|some xs=>decide (xs.length=2) && xs.all λ y=>z0j y 1000000000|none=>false) else false)=(if formOf a b=0 then decide (sc d=.non) else if formOf a b=1 then z0j (sc d) 1000000000 else if formOf a b=2 then
    (match tupD d with|some ds=>decide (ds.length=2) && ds.all λ y=>z0j (sc y) 1000000000|none=>false) else false)
   rw [sc_f h (λ v=>decide (v=.non)) (λ _ _=>rfl),sc_f h (λ v=>z0j v 1000000000) (λ _ _=>rfl)];have f:(match tupOf H x with|some xs=>decide (xs.length=2) && xs.all λ y=>z0j y 1000000000|none=>false)=(match tupD d with|some ds=>decide (ds.length=2) && ds.all λ y=>z0j (sc y) 1000000000|none=>false):=by
    rcases tup_D h with ⟨e,c⟩|⟨ds,ys,rfl,c,al⟩
    ·rw [c,e]
    rw [c];show (decide (ys.length=2) && ys.all λ y=>z0j y 1000000000)=(decide (ds.length=2) && ds.all λ y=>z0j (sc y) 1000000000);rw [z04 al];congr 1;clear c h;induction al with
    | nil=>rfl
    | cons a r ih=>rw [G5,G5,ih,sc_f a (λ v=>z0j v 1000000000) (λ _ _=>rfl)]
   rw [f]
  | _=>rfl
 | _=>rfl
end
section
variable {X:Cx}
theorem z9p {X:Cx} {K:j0} (hK:X.K=K):CallR X (.type "list") (λ xs H Q=>∃p ys,xs=[.ref p]/\(SqL K H p ys\/SqT K H p ys)/\∀l,H l=none->Q (.ref l) (upd H l (.lst ys))):=hK ▸ zao
theorem zdy {o e:Expr} {es:List Expr} {to:TE} {t:TA} {apos cpos:Pos} (ho:PE X o to) (ha:PA X (e :: es) t)
  (hbase:z5 o "extend" X.env (R3 o X.env)=R3 o X.env:=by rfl)
  (hfew:((N4 cpos (L1 (e :: es) X.env)).all (λ x=>!x.1) && (b9 cpos (T6 [] X.env)).all (λ x=>x.1.isSome) && decide ((e :: es).length + ([]:List K6).length + (if ([]:List K6).isEmpty then 0 else 1) < 30))=true:=by rfl)
  (hline:(apos.endLine == cpos.line)=true:=by rfl) (hs:L1 (e :: es) X.env=(false,R3 e X.env) :: L1 es X.env:=by rfl) (hplain:(N4 cpos (L1 es X.env)).any (·.1)=false:=by rfl) :
  PE X (.Call (.Attribute o "extend" apos) (e :: es) [] cpos) (tBM X.K "list" zhw to t):=pe_bm f8 PySem.F.slot_list_extend PySem.F.type_list_extend zgm ho ha hbase hfew hline hs hplain
end
theorem z5o (x:Int) :∀ns:List Int,inV (.int x) (ns.map V.int)=decide (x∈ns)
 | []=>by rw [decide_eq_false L0];rfl
 | n :: r=>by
  show ((n == x) || inV (.int x) (r.map V.int))=_;rw [z5o x r];by_cases e:n=x
  ·rw [beq_iff_eq.mpr e,Bool.true_or,decide_eq_true (List.mem_cons.mpr (.inl e.symm))]
  ·rw [Bool.eq_false_iff.mpr (λ h=>e (beq_iff_eq.mp h)),Bool.false_or];by_cases m:x∈r
   ·rw [decide_eq_true m,decide_eq_true (List.mem_cons.mpr (.inr m))]
   ·rw [decide_eq_false m,decide_eq_false (λ h=>(List.mem_cons.mp h).elim (λ y=>e y.symm) m)]
theorem zbq :∀ns:List Int,(ns.map V.int).all flatV=true
 | []=>rfl
 | _ :: r=>by show (true && (r.map V.int).all flatV)=true;rw [zbq r];rfl
theorem zhz :∀(l ns:List Int),(l.foldl addI ns).length<=ns.length + l.length
 | [],ns=>J0 _
 | x :: l,ns=>by
  have h:=zhz l (addI ns x);have a:(addI ns x).length<=ns.length + 1:=by unfold addI;split<;>simp
  rw [N3,A1];omega
theorem zca :∀(l ns:List Int),ns.length + l.length<=(l.foldl addI ns).length->l.Nodup/\∀x∈l,x∉ns
 | [],ns,_=>⟨.nil,λ _ h=>absurd h L0⟩
 | x :: l,ns,h=>by
  rw [N3,A1] at h;have le:=zhz l (addI ns x);by_cases z:x∈ns
  ·have e:addI ns x=ns:=if_pos z;rw [e] at le h;omega
  ·have e:addI ns x=ns++[x]:=if_neg z;rw [e] at h;obtain ⟨c,b⟩:=zca l (ns++[x]) (by rw [F0];show ns.length + 1 + l.length<=_;omega);refine ⟨List.nodup_cons.mpr ⟨λ y=>b x y (List.mem_append.mpr (.inr (List.mem_singleton.mpr rfl))),c⟩,λ y a=>?_⟩;rcases List.mem_cons.mp a with rfl|a
   ·exact z
   ·exact λ q=>b y a (List.mem_append.mpr (.inl q))
theorem z8x :∀(us ns:List Int),us.Nodup->(∀u∈us,u∉ns)->(us.foldl addI ns).length=ns.length + us.length
 | [],ns,_,_=>rfl
 | u :: us,ns,nd,h=>by
  rw [D5] at nd;have e:addI ns u=ns++[u]:=by unfold addI;rw [if_neg (h u (.head _))]
  rw [N3,e,z8x us (ns++[u]) nd.2 λ v a z=>?_]
  ·simp only [F0,A1,Z3];omega
  ·rcases List.mem_append.mp z with z|z
   ·exact h v (.tail _ a) z
   ·rw [List.mem_singleton.mp z] at a;exact nd.1 a
def ddP:Option Int->PyData
 | none=>.tuple [.str "read",.none]
 | some i=>.tuple [.str "write",.int i]
def listD:PyData->Option (List PyData)
 | .list ds=>some ds
 | _=>none
def flatP (rows:List PyData):List PyData:=(rows.map λ r=>(listD r).getD []).flatten
def z19 (d:PyData):Bool:=match tupD d with
 | some [u,v]=>deedP (.str "register") (sc u) v
 | _=>false
def planB (rows:List PyData):Bool:=decide (rows.length<=6) && (rows.all (λ r=>(listD r).isSome) && (decide ((flatP rows).length<=24) && (flatP rows).all z19))
def wr1:PyData->Option Int
 | .tuple [.str z,.int i]=>if z = "write" then some i else none
 | _=>none
def wsP (ds:List PyData):List Int:=ds.filterMap wr1
def goodB (rows:List PyData):Bool:=planB rows && (decide ((0:Int)∉wsP (flatP rows)) && decide (wsP (flatP rows)).Nodup)
def small1 (d:PyData):Bool:=match tupD d with
 | some ds=>decide (ds.length<=1000)
 | none=>true
def smallB (d:PyData):Bool:=match tupD d with
 | some ds=>ds.all small1
 | none=>true
structure PlOk (rows:List PyData):Prop where
 n:rows.length<=100
 f:(flatP rows).length<=100
 s :∀d∈flatP rows,smallB d=true
theorem zh8 {v:V} {d:PyData} (h:deedP (.str "register") v d=true):(v=.str "read"/\d=.none)\/∃i,v=.str "write"/\d=.int i:=by
 cases v with
 | str b=>
  have h:(if formOf "register" b=0 then decide (sc d=.non) else if formOf "register" b=1 then z0j (sc d) 1000000000 else if formOf "register" b=2 then
   (match tupD d with|some ds=>decide (ds.length=2) && ds.all λ y=>z0j (sc y) 1000000000|none=>false) else false)=true:=h
  by_cases b1:b = "read"
  ·subst b1;rw [if_pos (by decide +kernel)] at h;refine .inl ⟨rfl,?_⟩;have h:=of_decide_eq_true h;cases d<;>first|rfl|cases h
  by_cases b2:b = "write"
  ·subst b2;rw [if_neg (by decide +kernel),if_pos (by decide +kernel)] at h;cases d with
   | int i=>exact .inr ⟨i,rfl,rfl⟩
   | _=>cases h
  ·exfalso;have e:formOf "register" b=-1:=by
    unfold formOf;cases hl:kl_DOERS.lookup (("register" : Str),b) with
    | none=>rfl
    | some v=>
     exfalso;have a:(kl_DOERS.all λ p=>!decide (p.1.1 = "register") || (decide (p.1.2 = "read") || decide (p.1.2 = "write")))=true:=by decide +kernel
     have m:=List.all_eq_true.mp a _ (z69 hl);rw [decide_eq_true (show (("register" : Str),b).1 = "register" from rfl),decide_eq_false b1,decide_eq_false b2] at m;cases m
   rw [e,if_neg (by decide),if_neg (by decide),if_neg (by decide)] at h;cases h
 | _=>cases h
theorem zdi {d:PyData} (h:z19 d=true) :∃o,d=ddP o:=by
 unfold z19 at h;cases d with
 | tuple ds=>
  change (match some ds with|some [u,v]=>deedP (.str "register") (sc u) v|_=>false)=true at h
  match ds,h with
  | [u,v],h=>
   rcases zh8 (show deedP (.str "register") (sc u) v=true from h) with ⟨b,a⟩|⟨i,b,a⟩
   ·subst a;refine ⟨none,?_⟩;cases u<;>cases b;rfl
   ·subst a;refine ⟨some i,?_⟩;cases u<;>cases b;rfl
  | [],h=>cases h
  | [_],h=>cases h
  | _ :: _ :: _ :: _,h=>cases h
 | _=>cases h
theorem wr1_dd (o:Option Int):wr1 (ddP o)=o:=by
 cases o with
 | none=>rfl
 | some i=>simp [wr1,ddP]
section
variable {P:Program} {w:C1} {mg:Str->Option Value} {base:Heap}
theorem z8k {oss:List (List V)} {i:Nat} {own:List V} (h:oss[i]? = some own):(oss.take (i + 1)).flatten=(oss.take i).flatten++own:=by obtain ⟨a,e⟩:=List.getElem?_eq_some_iff.mp h;rw [List.take_succ_eq_append_getElem a,List.flatten_append,e];simp
theorem zjp {oss:List (List V)} (i:Nat):(oss.take i).flatten.length<=oss.flatten.length:=by
 have b:oss.flatten=(oss.take i).flatten++(oss.drop i).flatten:=by rw [<-List.flatten_append,List.take_append_drop]
 have a:=congrArg j4d b;rw [F0] at a;omega
def LsAt (H:Hp) (ys:List V) (o:V):Prop:=∃b,o=.ref b/\H b=some (.lst ys)
theorem LsAt.same {H H':Hp} {ys:List V} {o:V} (s:Same H H') (h:LsAt H ys o):LsAt H' ys o:=h.elim λ b z=>⟨b,z.1,s _ _ z.2⟩
def z6b (K:j0):Sp:=λ vs H Q _=>∃a os oss,vs=[.ref a]/\H a=some (.lst os)/\All2 (LsAt H) oss os/\oss.flatten.length<=100/\∀l H',Same H H'->H' l=some (.lst oss.flatten)->Q (.ref l) H'
theorem zf0 (T:TX (kx w) mg):Fo P w mg base CX0 1 181 y1s ["plan"] (z6b (kx w)):=by
 refine (z83 w.params).ok sc_planned (λ t H Q E h=>?_) (λ G A C s H t Q E B h=>?_)
 ·obtain ⟨a,c,oss,rfl,_⟩:=h;rfl
 ·obtain ⟨a,c,oss,rfl,n,g,F,q⟩:=h;refine ⟨_,(z02 (ps_set (i:=1) sc_planned.nd rfl (K1 rfl) (pe_lst pa_nil))
   (z02 (ps_for Y2 rfl (z17 (pv 0)) (z0f (i:=2) sc_planned.nd rfl (K1 rfl))
   (z05 (z0h (zdy (pv 1) (z01 (pv 2) pa_nil)))))
   (z05 (ps_ret (pv 1))))),?_⟩
  have D:c.length=oss.length:=z04 g;refine zhr ?_;refine ⟨w_0,λ l k=>?_⟩;refine g_name ?_;obtain ⟨z,o,e,v⟩:=newA (.lst []) k;rw [<-o];refine ⟨_,rfl,a,rfl,⟨_,SqL.of (e _ _ n)⟩,?_⟩;refine z3q (K:=KX w.params) (a:=a) (xs:=c) (λ i σ d=>Same H d/\d l=some (.lst (oss.take i).flatten)/\∃x2,σ=[some (.ref a),some (.ref l),x2]) ⟨e,v,_,rfl⟩ (λ _ σ d _ h=>SqL.of (h.1 _ _ n)) ?_ ?_
  ·rintro i y σ j p ⟨s2,el,x2,rfl⟩;obtain ⟨x,f,b,rfl,r⟩:=z0m g p;have u:=zjp (oss:=oss) (i + 1);rw [z8k f,F0] at u;refine g_name ?_;refine ⟨_,rfl,.inl ⟨rfl,_,SqL.of el⟩,_,rfl,l,b,_,x,rfl,rfl,el,s2 _ _ r,O0 (m:=100) (by omega) (by decide),?_⟩;refine ⟨Same.keep s2 k,?_,_,rfl⟩;rw [z8k f];exact z03
  ·rintro σ j ⟨s2,el,x2,rfl⟩;rw [W3 (by omega)] at el;exact ⟨_,rfl,q l j s2 el⟩
theorem zhf {α β:Type} {R:α->β->Prop} {ds:List α} {xs:List β} (h:All2 R ds xs):(∃u v x1 x2,ds=[u,v]/\xs=[x1,x2]/\R u x1/\R v x2)\/(xs.length≠2/\∀u v,ds≠[u,v]):=by
 cases h with
 | nil=>exact .inr ⟨by simp,by simp⟩
 | cons a h=>
  cases h with
  | nil=>exact .inr ⟨by simp,by simp⟩
  | cons b h=>
   cases h with
   | nil=>exact .inl ⟨_,_,_,_,rfl,rfl,a,b⟩
   | cons c h=>exact .inr ⟨by simp,by simp⟩
theorem zf3 {ds:List PyData} (h :∀u v,ds≠[u,v]):z19 (.tuple ds)=false:=by
 show (match some ds with|some [u,v]=>deedP (.str "register") (sc u) v|_=>false)=false;split
 ·rename_i u v e;cases e;exact absurd rfl (h u v)
 ·rfl
def z58:Sp:=λ vs H Q _=>∃y d,vs=[.str "register",y]/\HPd H d y/\smallB d=true/\∀H',Same H H'->Q (.bl (z19 d)) H'
theorem z96 (T:TX (kx w) mg) (c0:Ca P w mg base "is_tuple_of" ["value","many"] 1 z13) (c1:Ca P w mg base "is_deed" ["kind","verb","worth"] 4 z5s):Fo P w mg base CX0 5 193 y0r ["kind","deed"] z58:=by
 refine (z3h w.params).ok z9a (λ I H Q E h=>?_) (λ R A M s H I Q E l h=>?_)
 ·obtain ⟨y,d,rfl,_⟩:=h;rfl
 ·obtain ⟨y,d,rfl,a,c,q⟩:=h;refine ⟨_,(z05 (ps_ret (pe_and (pe_cal c0 (l.mono (by decide)) rfl (z01 (pv 1) (z01 pe_int pa_nil))) (pe_one (pe_cal c1 (l.mono (by decide)) rfl (z01 (pv 0) (z01 (pe_ix ix_seq (pv 1) pe_int (λ _ _=>rfl)) (z01 (pe_ix ix_seq (pv 1) pe_int (λ _ _=>rfl)) pa_nil)))))))),?_⟩;obtain ⟨L,n⟩:=tag_D a;refine ⟨_,rfl,_,L,2,rfl,n,?_⟩;rcases tup_D a with ⟨r,b⟩|⟨ds,xs,rfl,b,al⟩
  ·rw [b];have e:z19 d=false:=by unfold z19;rw [r]
   rw [e] at q;exact ⟨_,rfl,iteN (by decide) (q _ (Same.refl _))⟩
  ·rw [b];obtain ⟨p,F,rfl,g,O⟩:=a;have J:F=xs:=by rw [z4n g] at b;exact X1 b
   subst J;rcases zhf al with ⟨u,v,t,m,rfl,rfl,k,i⟩|⟨nl,nd⟩
   ·refine ⟨_,rfl,iteP (by simp) ?_⟩;obtain ⟨x,D⟩:=tag_D k;obtain ⟨K,C⟩:=tag_D i;have G:Flat H m:=λ S e=>by
     rcases tup_D i with ⟨_,f⟩|⟨es,ys,rfl,f,al2⟩
     ·rw [f] at e;cases e
     ·rw [f] at e;cases e;refine ⟨?_,λ y B=>?_⟩
      ·have c:(small1 u && (small1 (.tuple es) && true))=true:=c;rw [L3,L3] at c;rw [z04 al2];exact of_decide_eq_true c.2.1
      ·obtain ⟨d,_,a⟩:=zg7 al2 B;exact tag_D a
    refine ⟨_,rfl,_,rfl,.inr (.inl ⟨p,_,0,t,rfl,rfl,SqT.of g,z08 (j:=0) rfl,?_⟩)⟩;refine ⟨_,rfl,.inr (.inl ⟨p,_,1,m,rfl,rfl,SqT.of g,z08 (j:=1) rfl,_,_,_,"str",x,K,rfl,rfl,D,C,G,λ N o=>?_⟩)⟩;rw [deed_D i,sc_f k (λ z=>deedP (.str "register") z v) (λ _ _=>rfl)];exact q _ o
   ·rw [zf3 nd] at q;exact ⟨_,rfl,iteN (λ e=>nl (by have:=of_decide_eq_true e;omega)) (q _ (Same.refl _))⟩
theorem all_bl {cs:List V} {bs:List Bool} (h:All2 (λ (b:Bool) y=>y=V.bl b) bs cs):(∀y∈cs,∃b,y=V.bl b)/\(cs.all λ y=>decide (y=.bl true))=bs.all id:=by
 induction h with
 | nil=>exact ⟨(λ y a=>nomatch a),rfl⟩
 | cons e r ih=>
  subst e;refine ⟨λ y a=>?_,?_⟩
  ·rcases List.mem_cons.mp a with rfl|a
   ·exact ⟨_,rfl⟩
   ·exact ih.1 y a
  ·rw [G5,G5,ih.2];congr 1;simp
theorem ze5 {bs:List Bool} {cs:List V} {n:Nat} (hb:bs.length=n) (h:All2 (λ i y=>∀b,bs[i]? = some b->y=V.bl b) (U0 n) cs):All2 (λ (b:Bool) y=>y=V.bl b) bs cs:=by
 have o:=z04 h;rw [T2] at o;have k :∀(bs:List Bool) (cs:List V),cs.length=bs.length->(∀(i:Nat) (y:V) (b:Bool),cs[i]? = some y->bs[i]? = some b->y=V.bl b)->All2 (λ (b:Bool) y=>y=V.bl b) bs cs:=by
  intro bs;induction bs with
  | nil=>intro cs d _;rw [List.length_eq_zero_iff.mp d];exact .nil
  | cons b bs ih=>
   intro cs d f;cases cs with
   | nil=>cases d
   | cons c cs=>exact .cons (f 0 c b rfl rfl) (ih cs (by simpa using d) λ i y b e a=>f (i + 1) y b (by simpa using e) (by simpa using a))
 refine k bs cs (by omega) λ i y b e a=>?_;obtain ⟨j,g,m⟩:=z0m h e;have l:i < n:=by have:=(List.getElem?_eq_some_iff.mp a).1;omega
 rw [List.getElem?_range l] at g;cases g;exact m b a
theorem zix {α β:Type} {R:α->β->Prop} {xs:List α} {ys:List β} {us:List α} {vs:List β} (h:All2 R xs ys) (k:All2 R us vs):All2 R (xs++us) (ys++vs):=by
 induction h with
 | nil=>exact k
 | cons a r ih=>exact .cons a ih
theorem z6a {H:Hp} :∀{rows:List PyData} {os:List V},All2 (HPd H) rows os->(rows.all λ r=>(listD r).isSome)=true->∃oss,All2 (LsAt H) oss os/\All2 (HPd H) (flatP rows) oss.flatten
 | _,_,.nil,_=>⟨[],.nil,.nil⟩
 | r :: rows,_,.cons a al,h=>by
  rw [G5,L3] at h;obtain ⟨oss,d,f⟩:=z6a al h.2;cases r with
  | list ds=>obtain ⟨b,c,rfl,e,g⟩:=a;exact ⟨c :: oss,.cons ⟨b,rfl,e⟩ d,zix g.all f⟩
  | _=>cases h.1
theorem zj3 {H:Hp} {d:PyData} {v:V} (h:HPd H d v) :∃T,TagOf H v T/\decide (T = "list")=(listD d).isSome:=by
 cases d with
 | none=>cases (show v=.non from h);exact ⟨_,rfl,rfl⟩
 | bool b=>cases (show v=.bl b from h);exact ⟨_,rfl,rfl⟩
 | int i=>cases (show v=.int i from h);exact ⟨_,rfl,rfl⟩
 | str z=>cases (show v=.str z from h);exact ⟨_,rfl,rfl⟩
 | list ds=>obtain ⟨a,c,rfl,e,_⟩:=h;exact ⟨_,.inl ⟨⟨_,e⟩,rfl⟩,rfl⟩
 | tuple ds=>obtain ⟨a,c,rfl,e,_⟩:=h;exact ⟨_,.inr (.inl ⟨⟨_,e⟩,rfl⟩),rfl⟩
 | dict ds=>obtain ⟨_,a,rfl,e⟩:=h;exact ⟨_,.inr (.inr ⟨⟨_,e⟩,rfl⟩),rfl⟩
def z8q:Sp:=λ vs H Q _=>∃x rows,vs=[.str "register",x,.int 6,.int 24]/\HPd H (.list rows) x/\PlOk rows/\∀H',Same H H'->Q (.bl (planB rows)) H'
theorem zdk (T:TX (kx w) mg) (c0:Ca P w mg base "planned" ["plan"] 1 (z6b (kx w))) (c3:Ca P w mg base "is_planned" ["kind","deed"] 5 z58):Fo P w mg base CX0 6 186 y1t ["kind","plan","most_hands","most_deeds"] z8q:=by
 refine (z89 w.params).ok sc_is_plan (λ vs H Q E h=>?_) (λ a3 A a2 s H vs Q E O h=>?_)
 ·obtain ⟨x,j,rfl,_⟩:=h;rfl
 ·obtain ⟨x,j,rfl,⟨a,W,rfl,u,J⟩,I,q⟩:=h;refine ⟨_,(z02 (ps_if (PW.pt (pw_or (pt_not (pt_val (z07 z0o rfl (T.no (z0l _)) P3 (z01 (pv 1) (z01 (z2k (v:=.ty "list") rfl (T.no (n_list _)) j1j rfl) pa_nil))) (λ _=>rfl))) (pw_or (z0a op_gt (z07 z0n rfl (T.no (n_len _)) G2 (z01 (pv 1) pa_nil)) (pv 2) (nomark _)) (pw_or1 (pt_not (pt_val (z07 (z38 rfl) rfl (T.no (n_all _)) j18 (z01 (pe_cg (xs:=["own"]) (g:=gName 0) (fr:=[]) (z17 (pv 1)) (λ _ _ _ _ _=>(pg_cn (N:=["own"]) 0)) (λ _ _ _ _ _=>pf_nil) (λ _ _ _ _ _=>(z07 z0o rfl (T.no (z0l _)) P3 (z01 (pv 0) (z01 (z2k (v:=.ty "list") rfl (T.no (n_list _)) j1j rfl) pa_nil))))) pa_nil)) (λ _=>rfl)))))))
   (z05 (ps_ret pe_bl))
   z0e)
   (z02 (ps_set (i:=4) sc_is_plan.nd rfl (K1 rfl) (pe_cal c0 (O.mono (by decide)) rfl (z01 (pv 1) pa_nil)))
   (z05 (ps_ret (pe_and (z39 op_le (z07 z0n rfl (T.no (n_len _)) G2 (z01 (pv 4) pa_nil)) (pv 3) (nomark _)) (pe_one (z07 (z38 rfl) rfl (T.no (n_all _)) j18 (z01 (pe_cg (xs:=["deed"]) (g:=gName 0) (fr:=[(0,"kind")]) (z17 (pv 4)) (λ _ _ _ _ _=>(pg_cn (N:=["deed","kind"]) 0)) (λ _ _ _ _ _=>pf_nil) (λ _ _ _ _ _=>(pe_cal c3 (O.mono (by decide)) rfl (z01 (pv 1) (z01 (pv 0) pa_nil))))) pa_nil)))))))),?_⟩
  have lo:=J.length;have ln:=I.n;refine sq_if (t_or ?_);refine ⟨_,rfl,_,_,"list",rfl,.inl ⟨⟨_,u⟩,rfl⟩,by decide,_,rfl,iteN (by decide) ?_⟩;refine t_or ?_;refine ⟨_,rfl,.inl ⟨a,_,rfl,.inl (SqL.of u),_,rfl,_,_,rfl,rfl,_,rfl,?_⟩⟩;by_cases l6:j.length<=6;rotate_left
  ·have e:planB j=false:=by unfold planB;rw [decide_eq_false l6];rfl
   rw [e] at q;exact iteP (decide_eq_true (by omega)) (iteP rfl (sq_ret (q _ (Same.refl _))))
  refine iteN (λ e=>absurd (of_decide_eq_true e) (by omega)) ?_;refine tB_not (e_cb1 ?_);refine z2c (K:=KX w.params) (a:=a) (xs:=W) (H1:=H) (λ _=>true) (λ i y _=>∀b,(j.map λ r=>(listD r).isSome)[i]? = some b->y=.bl b) (λ _ _ _ _ _ z=>z) (λ R h=>⟨_,rfl,h⟩) (SqL.of u) (O0 (m:=6) (by omega) (by decide)) ?_ ?_
  ·intro i hi v H1 D B KT KF G k2;obtain ⟨d,hd,t⟩:=z0m J.all B;obtain ⟨T1,t,e1⟩:=zj3 t;refine ⟨[some v],rfl,rfl,iteT ?_⟩;refine ⟨_,rfl,_,_,T1,rfl,t.same D,by decide,?_⟩;rw [z6d t (by decide)];refine G rfl _ _ (Same.refl _) λ b l=>?_;rw [N0,hd] at l;cases l;rw [e1]
  intro U H1 p D a1 Z;rw [List.filter_eq_self.mpr (λ _ _=>rfl)] at Z;obtain ⟨c1,c2⟩:=all_bl (ze5 (by rw [C0];exact lo.symm) Z);refine ⟨U,p,rfl,SqL.of z03,c1,?_⟩;rw [c2];have k:=D.trans (Same.upd (o:=.lst p) a1);generalize upd H1 U (.lst p)=H2 at k⊢;have em:((j.map λ r=>(listD r).isSome).all id)=j.all λ r=>(listD r).isSome:=by rw [O8];rfl
  rw [em];cases eb:j.all λ r=>(listD r).isSome with
  | false=>
   have e:planB j=false:=by unfold planB;rw [eb];simp
   rw [e] at q;exact ⟨_,rfl,iteP rfl (sq_ret (q _ k))⟩
  | true=>
  refine ⟨_,rfl,iteN (by decide) ?_⟩;obtain ⟨X,z,M⟩:=z6a J.all eb;have lf:=I.f;have lz:=z04 M;refine t_nx (z0b ?_);refine ⟨_,rfl,a,W,X,rfl,k _ _ u,z00 (λ _ _ z=>LsAt.same k z) z,by omega,λ S H3 C L=>?_⟩;refine g_name ?_;refine sq_ret ?_;refine ⟨_,rfl,.inl ⟨S,_,rfl,.inl (SqL.of L),_,rfl,_,_,rfl,rfl,_,rfl,?_⟩⟩;have e0:planB j=(decide ((flatP j).length<=24) && (flatP j).all z19):=by unfold planB;rw [eb,decide_eq_true l6];rfl
  rw [e0] at q;by_cases c6:(flatP j).length<=24
  ·rw [decide_eq_true c6,y6] at q;refine iteP (decide_eq_true (by omega)) ?_;refine e_cb1 ?_;refine z2c (K:=KX w.params) (a:=S) (xs:=X.flatten) (H1:=H3) (λ _=>true) (λ i y _=>∀b,((flatP j).map z19)[i]? = some b->y=.bl b) (λ _ _ _ _ _ z=>z) (λ R h=>⟨_,rfl,h⟩) (SqL.of L) (O0 (m:=100) (by omega) (by decide)) ?_ ?_
   ·intro i hi v H4 F B KT KF G k2;obtain ⟨c,V,ev⟩:=z0m M B;refine ⟨[some v],rfl,rfl,iteT ?_⟩;refine ⟨_,rfl,_,rfl,v,c,rfl,ev.same ((k.trans C).trans F),I.s c (T0 V),λ H5 s5=>G rfl _ _ s5 λ b l=>?_⟩;rw [N0,V] at l;cases l;rfl
   intro l4 H4 p F a0 Y;rw [List.filter_eq_self.mpr (λ _ _=>rfl)] at Y;obtain ⟨d1,d2⟩:=all_bl (ze5 (by rw [C0];exact lz.symm) Y);refine ⟨l4,p,rfl,SqL.of z03,d1,?_⟩;rw [d2,O8];exact q _ ((k.trans C).trans (F.trans (Same.upd a0)))
  ·rw [decide_eq_false c6,P6] at q;exact iteN (λ e=>c6 (by have:=of_decide_eq_true e;omega)) (q _ (k.trans C))
theorem zec {rows:List PyData} (h:planB rows=true):rows.length<=6/\(rows.all λ r=>(listD r).isSome)=true/\(flatP rows).length<=24/\∃os:List (Option Int),flatP rows=os.map ddP:=by
 unfold planB at h;rw [L3,L3,L3] at h;refine ⟨of_decide_eq_true h.1,h.2.1,of_decide_eq_true h.2.2.1,?_⟩;have b :∀a:List PyData,a.all z19=true->∃os:List (Option Int),a=os.map ddP:=by
  intro a;induction a with
  | nil=>exact λ _=>⟨[],rfl⟩
  | cons d a ih=>intro h;rw [G5,L3] at h;obtain ⟨o,rfl⟩:=zdi h.1;obtain ⟨os,rfl⟩:=ih h.2;exact ⟨o :: os,rfl⟩
 exact b _ h.2.2.2
theorem ws_dd (os:List (Option Int)):wsP (os.map ddP)=os.filterMap id:=by unfold wsP;rw [List.filterMap_map];congr 1;funext o;exact wr1_dd o
theorem zc1 {α β:Type} {R S:α->β->Prop} :∀{xs:List α} {ys:List β},(∀a b,a∈xs->R a b->S a b)->All2 R xs ys->All2 S xs ys
 | _,_,_,.nil=>.nil
 | _,_,h,.cons a r=>.cons (h _ _ (.head _) a) (zc1 (λ x y c=>h x y (.tail _ c)) r)
theorem ws_of {os:List (Option Int)} {zs ys:List V} (lz:zs.length=os.length) (h:All2 (λ (i:Nat) y=>∀k,os[i]? = some (some k)->y=V.int k) ((U0 zs.length).filter λ i=>(os[i]?.getD none).isSome) ys):ys=(os.filterMap id).map V.int:=by
 rw [lz] at h;clear lz zs;have f :∀(n:Nat) (os:List (Option Int)) (ys:List V),All2 (λ (i:Nat) y=>∀k,os[i - n]? = some (some k)->y=V.int k) ((j4b n os.length).filter λ i=>(os[i - n]?.getD none).isSome) ys->ys=(os.filterMap id).map V.int:=by
  intro n os;induction os generalizing n with
  | nil=>intro ys h;cases h;rfl
  | cons o os ih=>
   intro ys h;have g :∀(l:List Nat),(∀i∈l,n < i)->(l.filter λ i=>((o :: os)[i - n]?.getD none).isSome)=l.filter λ i=>(os[i - (n + 1)]?.getD none).isSome:=λ l m=>j03 λ i b=>by have:=m i b;rw [show i - n=(i - (n + 1)) + 1 by omega,u3]
   have d :∀i∈j4b (n + 1) os.length,n < i:=λ i b=>by
    have:=(List.mem_range'.mp b)
    omega
   rw [A1,List.range'_succ,List.filter_cons,g _ d] at h;have c :∀ys,All2 (λ (i:Nat) y=>∀k,(o :: os)[i - n]? = some (some k)->y=V.int k) ((j4b (n + 1) os.length).filter λ i=>(os[i - (n + 1)]?.getD none).isSome) ys->ys=(os.filterMap id).map V.int:=λ ys h=>by refine ih (n + 1) ys (zc1 (λ i y b j k e=>j k ?_) h);have:=d i (List.mem_filter.mp b).1;rw [show i - n=(i - (n + 1)) + 1 by omega,u3];exact e
   rw [R6,D4] at h;cases o with
   | none=>rw [if_neg (show ¬ ((some (none:Option Int)).getD none).isSome=true from E1)] at h;exact c ys h
   | some k=>
    rw [if_pos (show ((some (some k)).getD none).isSome=true from rfl)] at h;cases h with
    | cons a r=>rw [a k (by rw [R6];rfl),c _ r];rfl
 refine f 0 os ys ?_;rw [<-List.range_eq_range'];exact h
def z5b (K:j0):Sp:=λ vs H Q E=>∃(m:Int) (x:V) (rows:List PyData),vs=[.int m,x]/\HPd H (.list rows) x/\PlOk rows/\
 (∀H',Same H H'->(m=3\/m=5)->goodB rows=true->Q .non H')/\(∀H',Same H H'->(m=3\/m=5->goodB rows=false)->E (.ref 82) none H')
theorem in35 {m:Int}:inV (.int m) [.int 3,.int 5]=decide (m=3\/m=5):=by rw [show ([.int 3,.int 5]:List V)=([3,5]:List Int).map V.int from rfl,z5o];simp
theorem z9v (T:TX (kx w) mg) (c0:Ca P w mg base "is_whole" ["value"] 1 z36) (c1:Ca P w mg base "is_plan" ["kind","plan","most_hands","most_deeds"] 6 z8q) (c2:Ca P w mg base "planned" ["plan"] 1 (z6b (kx w))):Fo P w mg base (CXE P w base) 7 382 y0s ["many","plan"] (z5b (kx w)):=by
 refine (z3k w.params).okE sc_check_plan (λ vs H Q E h=>?_) (λ a5 A a4 s H vs Q E O h=>?_)
 ·obtain ⟨m,x,r,rfl,_⟩:=h;rfl
 ·obtain ⟨m,x,r,rfl,hx,pk,q,qe⟩:=h;refine ⟨_,(z02 (ps_if (PW.pt (pw_or (pt_not (pt_val (pe_cal c0 (O.mono (by decide)) rfl (z01 (pv 0) pa_nil)) (λ _=>rfl))) (pw_or1 (z0a z6c (pv 0) (pe_tup (z01 pe_int (z01 pe_int pa_nil))) (by with_unfolding_all rfl)))))
   (z05 (z86 Q9 (T.of (zas _)) (za9 _) rfl (z01 pe_str pa_nil)))
   z0e)
   (z02 (ps_if (pt_not (pt_val (pe_cal c1 (O.mono (by decide)) rfl (z01 pe_str (z01 (pv 1) (z01 (z1y (v:=.int (6)) rfl (T.of (za3 _)) ⟨_,rfl⟩) (z01 (z1y (v:=.int (24)) rfl (T.of (za0 _)) ⟨_,rfl⟩) pa_nil))))) (λ _=>rfl)))
   (z05 (z86 Q9 (T.of (zas _)) (za9 _) rfl (z01 pe_str pa_nil)))
   z0e)
   (z02 (zdl (i:=2) sc_check_plan.nd rfl (K1 rfl) (xs:=["verb","worth"]) (g:=gTup (kx w) 2 (gCons (gName 0) (gCons (gName 1) gNil))) (fr:=[]) rfl (z17 (pe_cal c2 (O.mono (by decide)) rfl (z01 (pv 1) pa_nil))) (λ _ z=>absurd z L0) (zbs rfl) (λ _ z=>absurd z L0) (by decide +kernel) rfl (by decide +kernel) (λ _ _ _ _ _=>(pg_tup rfl (z0g (pg_cn (N:=["verb","worth"]) 0) (z0g (pg_cn (N:=["verb","worth"]) 1) z42)))) (λ _ _ _ _ _=>(pf_one (z0a opEq (pv 0) pe_str (nomark _)))) (λ _ _ _ _ _=>(pv 1)))
   (z05 (ps_if (PW.pt (pw_or (z0a zbf pe_int (pv 2) (by with_unfolding_all rfl)) (pw_or1 (z0a op_lt (zfy rfl rfl (T.no (n_len _)) rfl (T.no (n_set _)) G2 boot_set (pv 2)) (z07 z0n rfl (T.no (n_len _)) G2 (z01 (pv 2) pa_nil)) (nomark _)))))
   (z05 (z86 Q9 (T.of (zas _)) (za9 _) rfl (z01 pe_str pa_nil)))
   z0e))))),?_⟩
  have no :∀{n:Hp},Same H n->(m=3\/m=5->goodB r=false)->(1:Nat)<=sizeLine/\E (.ref 82) none n:=λ s' b=>⟨by decide,qe _ s' b⟩
  refine sq_if (t_or (tB_not ?_));refine ⟨_,rfl,_,"int",rfl,rfl,?_⟩;refine ⟨_,rfl,iteN (by decide) ?_⟩;refine ⟨_,rfl,w_2,λ p hp=>⟨p,_,rfl,.inr (SqT.of z03),rfl,rfl,_,rfl,?_⟩⟩;have C:=Same.upd (o:=.tup [.int 3,.int 5]) hp;generalize upd H p (.tup [.int 3,.int 5])=H1 at C⊢;rw [in35];by_cases m35:m=3\/m=5;rotate_left
  ·rw [decide_eq_false m35];exact iteP rfl (no C λ z=>absurd z m35)
  rw [decide_eq_true m35];refine iteN (by decide) ?_;refine t_nx (sq_if (tB_not ?_));refine ⟨_,rfl,x,r,rfl,hx.same C,pk,λ H2 s2=>?_⟩;have B:=C.trans s2;cases hb:planB r with
  | false=>exact ⟨_,rfl,iteP rfl (no B λ _=>by unfold goodB;rw [hb];rfl)⟩
  | true=>
  refine ⟨_,rfl,iteN (by decide) ?_⟩;obtain ⟨l6,al,G,c,a0⟩:=zec hb;have u:goodB r=(decide ((0:Int)∉c.filterMap id) && decide (c.filterMap id).Nodup):=by unfold goodB;rw [hb,a0,ws_dd];rfl
  obtain ⟨a,a3,rfl,ea,a2⟩:=hx;obtain ⟨a1,z,M⟩:=z6a a2.all al;have D:=z04 M;rw [a0] at M D G;rw [C0] at D G;refine t_nx (z0b ?_);refine zj8 (K:=KX w.params) (λ l U n=>Same H2 n/\n l=some (.lst U)/\U=a1.flatten) (λ R h=>?_) (λ a' xs H1 z=>⟨SqL.of z.2.1,?_⟩) (λ i=>(c[i]?.getD none).isSome) (λ i y _=>∀k,c[i]? = some (some k)->y=V.int k) (λ _ _ _ _ _ z=>z) ?_ ?_
  ·exact ⟨_,rfl,a,a3,a1,rfl,B _ _ ea,z00 (λ _ _ z=>LsAt.same B z) z,by omega,λ l H3 f L=>h _ _ _ ⟨f,L,rfl⟩⟩
  ·rw [z.2.2,D];exact O0 (m:=24) G (by decide)
  ·rintro l xs H3 ⟨f,L,rfl⟩ i hi v H4 s4 hv KT KF h1 h2;obtain ⟨d,t,F⟩:=z0m M hv;rw [N0] at t;cases ho:c[i]? with
   | none=>rw [ho] at t;cases t
   | some o=>
   rw [ho] at t;cases t;rw [ho] at h1 h2;have F:=F.same (B.trans (f.trans s4));cases o with
   | none=>obtain ⟨p,zs,rfl,Y,S,r1,rfl,e1,W,X,rfl,j,Z⟩:=F;cases (show S=.str "read" from e1);cases (show W=.non from j);cases (show X=[] from Z);refine ⟨p,_,rfl,SqT.of Y,rfl,_,_,rfl,_,_,rfl,rfl,[some (.str "read"),some .non],rfl,rfl,?_⟩;exact ⟨_,rfl,rfl,_,rfl,iteK (h2 rfl _ (Same.refl _))⟩
   | some k=>obtain ⟨p,zs,rfl,Y,S,r1,rfl,e1,W,X,rfl,j,Z⟩:=F;cases (show S=.str "write" from e1);cases (show W=.int k from j);cases (show X=[] from Z);refine ⟨p,_,rfl,SqT.of Y,rfl,_,_,rfl,_,_,rfl,rfl,[some (.str "write"),some (.int k)],rfl,rfl,?_⟩;exact ⟨_,rfl,rfl,_,rfl,iteP (by decide +kernel) ⟨_,rfl,h1 rfl _ _ (Same.refl _) λ k' e=>by cases e;rfl⟩⟩
  rintro l xs H3 ⟨f,L,rfl⟩ l1 H4 U s4 hl1 al1;have ey:=ws_of (by rw [D]) al1;subst ey;have lu:(c.filterMap id).length<=24:=O0 (j2h _ _) G;generalize c.filterMap id=us at lu u al1⊢;have s5:=Same.upd (o:=.lst (us.map V.int)) hl1;have I:upd H4 l1 (.lst (us.map V.int)) l1=some (.lst (us.map V.int)):=z03;have J:=B.trans (f.trans (s4.trans s5));generalize upd H4 l1 (.lst (us.map V.int))=H5 at s5 I J⊢;refine g_name ?_;refine z1j (t_or ?_);refine ⟨_,rfl,l1,_,rfl,.inl (SqL.of I),rfl,zbq _,_,rfl,?_⟩;by_cases n0:(0:Int)∈us
  ·exact iteP (by show inV _ _=true;rw [z5o,decide_eq_true n0]) (iteP rfl (no J λ _=>by rw [u,decide_eq_false (λ h=>h n0)];rfl))
  refine iteN (by show ¬ inV _ _=true;rw [z5o,decide_eq_false n0];decide) ?_;refine ⟨_,rfl,l1,us,rfl,SqL.of I,by omega,_,rfl,.inl ⟨l1,_,rfl,.inl (SqL.of I),_,_,rfl,rfl,_,rfl,?_⟩⟩;rw [decide_eq_true n0,y6] at u;by_cases nd:us.Nodup;rotate_left
  ·refine iteP (decide_eq_true ?_) (no J λ _=>by rw [u,decide_eq_false nd]);rw [C0];rcases j43 (us.foldl addI []).length us.length with z|z
   ·omega
   ·exact absurd (zca us [] (by rw [Z3,O4];exact z)).1 nd
  ·refine iteN (λ e=>?_) (q _ J m35 (by rw [u,decide_eq_true nd]));have:=of_decide_eq_true e;have j:=z8x us [] nd (λ _ _ h=>by cases h);rw [C0] at this;rw [j,Z3,O4] at this;omega
theorem z3c {K:j0} {ta tv:TE} {f:Str} {rest:TS} {D:Ends} {σ:L2.St} {H:Hp} (h:tv σ H λ y H1=>ta σ H1 λ x H2=>∃a C dx fs,x=.ref a/\H2 a=some (.ins C dx fs)/\Cls K C/\NoAttr K C f/\fs.length < 1000/\rest D σ (upd H2 a (.ins C dx (putF f y fs)))):tSeq (sFld K ta tv f) rest D σ H:=h
theorem zfc {K:j0} {ta tv:TE} {f:Str} {D:Ends} {σ:L2.St} {H:Hp} (h:tv σ H λ y H1=>ta σ H1 λ x H2=>∃a C dx fs,x=.ref a/\H2 a=some (.ins C dx fs)/\Cls K C/\NoAttr K C f/\fs.length < 1000/\D.nx σ (upd H2 a (.ins C dx (putF f y fs)))):sFld K ta tv f D σ H:=h
theorem zfx (f:Str) (v:V) :∀fs:List (Str×V),(putF f v fs).length<=fs.length + 1
 | []=>J0 _
 | (g,x) :: r=>by
  unfold putF;split
  ·simp
  ·have:=zfx f v r;simp only [A1];omega
theorem z1a {K:j0} {x dx C:Addr} {H H1:Hp} {fs:List (Str×V)} {R:L2.St->Hp->Prop} {σ:L2.St} {f:Str} {y:V} {i n:Nat} (k:Kept x H H1) (e:H1 x=some (.ins C dx fs)) (hv:σ[i]? = some (some (.ref x))) (c:Cls K C) (na:NoAttr K C f) (l:fs.length<=n) (hn:n < 100)
  (q :∀H2,Kept x H H2->(∀b o,b≠x->H1 b=some o->H2 b=some o)->H2 x=some (.ins C dx (putF f y fs))->(putF f y fs).length<=n + 1->R σ H2) :
  tVar i σ H1 λ z H2=>∃a C dx fs,z=.ref a/\H2 a=some (.ins C dx fs)/\Cls K C/\NoAttr K C f/\fs.length < 1000/\R σ (upd H2 a (.ins C dx (putF f y fs))):=
 ⟨_,hv,x,C,dx,fs,rfl,e,c,na,by omega,q _ (k.trans .set) (λ b o g d=>by rw [upd_ne g];exact d) z03 (O0 (zfx f y fs) (by omega))⟩
theorem Kept.upd {x p:Addr} {H:Hp} {o:HO} (h:H p=none):Kept x H (upd H p o):=(Same.upd h).kept
end
section
def mixZ (c k:Int):Int:=((c + 15485867 * (k + 1)) % 2147483579 * ((c + 15485867 * (k + 1)) % 2147483579) % 2147483563) * (((c + 15485867 * (k + 1)) % 2147483579 * ((c + 15485867 * (k + 1)) % 2147483579) % 2147483563) + 9001 + 5 * k) % 2147483549 / 32
def rowsP (pl:List (List (Option Int))):List PyData:=pl.map λ r=>.list (r.map ddP)
structure PlG (pl:List (List (Option Int))):Prop where
 n0:0 < pl.length
 n6:pl.length<=6
 f:pl.flatten.length<=24
 nd:(pl.flatten.filterMap id).Nodup
 nz:(0:Int)∉pl.flatten.filterMap id
 bd :∀i∈pl.flatten.filterMap id,-1000000000<=i/\i<=1000000000
theorem zef (L:List (List PyData)):flatP (L.map PyData.list)=L.flatten:=by
 unfold flatP;rw [K4];congr 1;induction L with
 | nil=>rfl
 | cons a r ih=>rw [W1,ih];rfl
theorem zin (pl:List (List (Option Int))):rowsP pl=(pl.map (List.map ddP)).map PyData.list:=by unfold rowsP;rw [K4];rfl
theorem z88 (pl:List (List (Option Int))):flatP (rowsP pl)=pl.flatten.map ddP:=by rw [zin,zef,List.map_flatten]
theorem z9y {i:Int} (h0:-1000000000<=i) (h1:i<=1000000000):z19 (ddP (some i))=true:=by show deedP (.str "register") (.str "write") (.int i)=true;unfold deedP;dsimp only;rw [if_neg (by decide +kernel),if_pos (by decide +kernel)];show z0j (.int i) 1000000000=true;unfold z0j;dsimp only;rw [decide_eq_true h0,decide_eq_true h1];rfl
theorem zah:z19 (ddP none)=true:=by decide +kernel
theorem zg8 {pl:List (List (Option Int))} (h:PlG pl):goodB (rowsP pl)=true:=by
 unfold goodB planB;rw [z88,ws_dd,C0,decide_eq_true h.f,decide_eq_true h.nz,decide_eq_true h.nd,decide_eq_true (show (rowsP pl).length<=6 by unfold rowsP;rw [C0];exact h.n6)];have b:((rowsP pl).all λ r=>(listD r).isSome)=true:=by unfold rowsP;rw [O8];exact List.all_eq_true.mpr λ _ _=>rfl
 have c:((pl.flatten.map ddP).all z19)=true:=by
  rw [O8];refine List.all_eq_true.mpr λ o a=>?_;cases o with
  | none=>exact zah
  | some i=>have:=h.bd i (List.mem_filterMap.mpr ⟨_,a,rfl⟩);exact z9y this.1 this.2
 rw [b,c];rfl
theorem zjg (o:Option Int):smallB (ddP o)=true:=by cases o<;>rfl
theorem zkf {pl:List (List (Option Int))} (h:PlG pl):PlOk (rowsP pl):=by have:=h.n6;have:=h.f;refine ⟨by unfold rowsP;rw [C0];omega,by rw [z88,C0];omega,λ d a=>?_⟩;rw [z88] at a;obtain ⟨o,_,rfl⟩:=List.mem_map.mp a;exact zjg o
theorem z5y {α:Type} :∀{L:List (List α)} {h:Nat} {own X:List α},L[h]? = some own->(L.set h X).flatten.Perm (X++(L.eraseIdx h).flatten)/\L.flatten.Perm (own++(L.eraseIdx h).flatten)
 | a :: L,0,own,X,e=>by cases (show some a=some own from e);exact ⟨.refl _,.refl _⟩
 | a :: L,h + 1,own,X,e=>by
  obtain ⟨d,c⟩:=z5y (L:=L) (h:=h) (own:=own) (X:=X) (by simpa using e);have b :∀(Y:List α),(a++(Y++(L.eraseIdx h).flatten)).Perm (Y++(a++(L.eraseIdx h).flatten)):=λ Y=>by rw [<-A2,<-A2];exact List.perm_append_comm.append_right _
  exact ⟨(d.append_left a).trans (b X),(c.append_left a).trans (b own)⟩
end
section
variable {P:Program} {w:C1} {mg:Str->Option Value} {base:Heap}
def z20 (K:j0):Sp:=λ vs H Q _=>∃(a:Addr) (ns:List Int) (k:Nat),vs=[.ref a,.int (k:Nat)]/\SqL K H a (ns.map V.int)/\∀i,Q (.int i) H
theorem z70 (T:TX (kx w) mg):Fo P w mg base CX0 1 396 y0d ["script","k"] (z20 (kx w)):=by
 refine (z26 w.params).ok z6o (λ d H Q E h=>?_) (λ f A g s H d Q E i h=>?_)
 ·obtain ⟨a,b,k,rfl,_⟩:=h;rfl
 ·obtain ⟨a,b,k,rfl,c,q⟩:=h;refine ⟨_,(z02 (ps_if (z0a op_lt (pv 1) (z07 z0n rfl (T.no (n_len _)) G2 (z01 (pv 0) pa_nil)) (nomark _))
   (z05 (ps_ret (pe_ix ix_seq (pv 0) (pv 1) (λ _ _=>rfl))))
   z0e)
   (z05 (ps_ret pe_int))),?_⟩
  refine sq_if ?_;refine ⟨_,rfl,_,rfl,.inl ⟨a,_,rfl,.inl c,_,_,rfl,rfl,_,rfl,?_⟩⟩;by_cases z:k < b.length
  ·refine iteP (decide_eq_true (by rw [C0];omega)) ?_;refine ⟨_,rfl,_,rfl,.inl ⟨a,_,k,.int b[k],rfl,rfl,c,z08 (by rw [N0,v0 z];rfl),q _⟩⟩
  ·exact iteN (λ e=>z (by have:=of_decide_eq_true e;rw [C0] at this;omega)) (t_nx (sq_ret (q 0)))
def z4r:Sp:=λ vs H Q _=>∃(c k:Int),vs=[.int c,.int k]/\0<=k/\k < 1000/\Q (.int (mixZ c k)) H
theorem zcr (T:TX (kx w) mg):Fo P w mg base CX0 1 403 y1g ["cell","k"] z4r:=by
 refine (z5u w.params).ok sc__law_mix (λ b H Q E h=>?_) (λ f A j s H b Q E l h=>?_)
 ·obtain ⟨c,k,rfl,_⟩:=h;rfl
 ·obtain ⟨c,k,rfl,e,g,q⟩:=h;refine ⟨_,(z02 (ps_set (i:=2) sc__law_mix.nd rfl (K1 rfl) (pe_op op_mod (pe_op opAdd (pv 0) (pe_op op_mul pe_int (pe_op opAdd (pv 1) pe_int))) pe_int))
   (z02 (ps_set (i:=2) sc__law_mix.nd rfl (K1 rfl) (pe_op op_mod (pe_op op_mul (pv 2) (pv 2)) pe_int))
   (z05 (ps_ret (pe_op z1r (pe_op op_mod (pe_op op_mul (pv 2) (pe_op opAdd (pe_op opAdd (pv 2) pe_int) (pe_op op_mul pe_int (pv 1)))) pe_int) pe_int))))),?_⟩
  refine ⟨_,rfl,_,rfl,.inl ⟨_,_,rfl,rfl,_,_,rfl,rfl,.inl ⟨by decide,by decide⟩,.inl ⟨_,_,rfl,rfl,_,_,rfl,rfl,(show (0:Int) < 2147483579 by decide),?_⟩⟩⟩;have d :∀z:Int,-(2 ^ 64) < z % 2147483579/\z % 2147483579 < 2 ^ 64:=λ z=>⟨by omega,by omega⟩
  have a :∀z:Int,-(2 ^ 64) < z % 2147483563/\z % 2147483563 < 2 ^ 64:=λ z=>⟨by omega,by omega⟩
  refine ⟨_,rfl,_,rfl,_,_,rfl,rfl,.inl (d _),_,_,rfl,rfl,(show (0:Int) < 2147483563 by decide),?_⟩;exact ⟨_,rfl,_,rfl,.inl ⟨_,_,rfl,rfl,_,rfl,_,_,rfl,rfl,.inl ⟨by decide,by decide⟩,.inl ⟨_,_,rfl,rfl,_,_,rfl,rfl,.inl (a _),_,_,rfl,rfl,(show (0:Int) < 2147483549 by decide),_,_,rfl,rfl,⟨by decide,by decide⟩,q⟩⟩⟩
theorem p18c:CPow 10 18:=⟨by decide,by decide,by decide⟩
def z59:Sp:=λ vs H Q _=>∃(c:Int) (a:Addr) (ls:List Int),vs=[.int c,.ref a]/\H a=some (.lst (ls.map V.int))/\(∀l∈ls,0 < l/\l < 2 ^ 62)/\ls.length<=30/\
 ∀(b:Addr) (xs:List Int) H',Same H H'->H b=none->H' b=some (.lst (xs.map V.int))->xs.length=ls.length->(∀(j:Nat) x l,xs[j]? = some x->ls[j]? = some l->0<=x/\x < l)->Q (.ref b) H'
theorem z8y (T:TX (kx w) mg) (c0:Ca P w mg base "_law_mix" ["cell","k"] 1 z4r):Fo P w mg base CX0 2 410 y0u ["cell","least"] z59:=by
 refine (z3l w.params).ok sc__law_parts (λ R H Q E h=>?_) (λ Y A X s H R Q E M h=>?_)
 ·obtain ⟨c,a,d,rfl,_⟩:=h;rfl
 ·obtain ⟨c,a,d,rfl,u,S,U,q⟩:=h;refine ⟨_,(z02 (ps_set (i:=2) sc__law_parts.nd rfl (K1 rfl) (pe_lst pa_nil))
   (z02 (ps_set (i:=3) sc__law_parts.nd rfl (K1 rfl) (pe_op op_sub (pv 0) (pe_op op_pow pe_int pe_int)))
   (z02 (ps_for Y2 rfl (z15 rfl (T.no (z2s _)) (z01 (z07 z0n rfl (T.no (n_len _)) G2 (z01 (pv 1) pa_nil)) pa_nil)) (z0f (i:=4) sc__law_parts.nd rfl (K1 rfl))
   (z05 (ps_if (z0a op_lt (pv 0) (pe_op op_pow pe_int pe_int) (nomark _))
   (z05 (z0h (z0p (pv 2) (z01 (pe_op op_mod (pe_op op_mul (pe_cal c0 (M.mono (by decide)) rfl (z01 (pv 0) (z01 (pv 4) pa_nil))) pe_int) (pe_ix ix_seq (pv 1) (pv 4) (λ _ _=>rfl))) pa_nil))))
   (z02 (z0h (z0p (pv 2) (z01 (pe_op op_mod (pv 3) (pe_ix ix_seq (pv 1) (pv 4) (λ _ _=>rfl))) pa_nil)))
   (z05 (ps_set (i:=3) sc__law_parts.nd rfl (K1 rfl) (pe_op z1r (pv 3) (pe_ix ix_seq (pv 1) (pv 4) (λ _ _=>rfl)))))))))
   (z05 (ps_ret (pv 2)))))),?_⟩
  refine zhr ?_;refine ⟨w_0,λ b g=>?_⟩;refine g_name ?_;obtain ⟨W,L,F,e⟩:=newA (.lst []) g;rw [<-L];refine z0b ⟨_,rfl,_,_,rfl,rfl,p18c,_,_,rfl,rfl,g_name ?_⟩;refine ⟨_,rfl,.inl ⟨a,_,rfl,.inl (SqL.of (F _ _ u)),_,rfl,by omega,by rw [C0];omega,?_⟩⟩;rw [S5,C0];have O:a≠b:=λ z=>by rw [z,g] at u;cases u
  refine z2d (lo:=0) (n:=d.length) (λ i σ K=>∃xs r x4,Same H K/\K b=some (.lst (xs.map V.int))/\xs.length=i/\(∀(j:Nat) x l,xs[j]? = some x->d[j]? = some l->0<=x/\x < l)/\σ=[some (.int c),some (.ref a),some (.ref b),some (.int r),x4]) ⟨[],_,_,F,e,rfl,(λ j x l h=>by simp at h),rfl⟩ ?_ ?_
  ·rintro j σ J I ⟨xs,r,x4,s2,eb,lx,bd,rfl⟩;rw [R7];refine g_name ?_;have D:d[j]? = some d[j]:=v0 I;have f:=S _ (Z2 I);generalize d[j]=l at D f;have C:atI (d.map V.int) (j:Nat)=some (.int l):=z08 (by rw [N0,D];rfl);have v:=s2 _ _ u;have snoc :∀y,0<=y->y < l->∀(i:Nat) x t,(xs++[y])[i]? = some x->d[i]? = some t->0<=x/\x < t:=λ y p o i x t e B=>by
    by_cases z:i < xs.length
    ·rw [F1 z] at e;exact bd i x t e B
    ·rw [Z0 (by omega)] at e;have N:i - xs.length=0:=by have:=(List.getElem?_eq_some_iff.mp e).1;simp only [E3] at this;omega
     rw [N] at e;cases e;have:i=j:=by omega
     rw [this,D] at B;cases B;exact ⟨p,o⟩
   have G:(xs.map V.int).length < sizeLine:=by rw [C0];exact V0 (m:=30) (by omega) (by decide)
   refine z1j ?_;refine ⟨_,rfl,_,_,rfl,rfl,p18c,_,_,rfl,rfl,_,rfl,?_⟩;refine ite2 (λ _=>?_) λ _=>?_
   ·refine ⟨_,rfl,.inl ⟨rfl,_,SqL.of eb⟩,_,rfl,_,rfl,c,j,rfl,by omega,by omega,?_⟩;refine ⟨_,_,rfl,rfl,.inr ⟨by decide,by decide⟩,_,rfl,_,rfl,.inl ⟨a,_,_,.int l,rfl,rfl,SqL.of v,C,_,_,rfl,rfl,f.1,?_⟩⟩;have p:=D6 (mixZ c j * 1009) (show l≠0 by omega);have o:=C5 (mixZ c j * 1009) f.1;refine ⟨b,_,_,rfl,rfl,eb,G,xs++[mixZ c j * 1009 % l],_,_,Same.keep s2 g,?_,by rw [F0,lx];rfl,snoc _ p o,rfl⟩;rw [P1];exact z03
   ·refine ⟨_,rfl,.inl ⟨rfl,_,SqL.of eb⟩,_,rfl,_,rfl,_,rfl,.inl ⟨a,_,_,.int l,rfl,rfl,SqL.of v,C,_,_,rfl,rfl,f.1,?_⟩⟩;have p:=D6 r (show l≠0 by omega);have o:=C5 r f.1;refine ⟨b,_,_,rfl,rfl,eb,G,?_⟩;refine ⟨_,rfl,_,rfl,_,rfl,.inl ⟨a,_,_,.int l,rfl,rfl,SqL.of (by rw [upd_ne O];exact v),C,_,_,rfl,rfl,⟨f.1,by omega⟩,?_⟩⟩;refine ⟨xs++[r % l],_,_,Same.keep s2 g,?_,by rw [F0,lx];rfl,snoc _ p o,rfl⟩;rw [P1];exact z03
  ·rintro σ J ⟨xs,r,x4,s2,eb,lx,bd,rfl⟩;exact ⟨_,rfl,q b xs J s2 g eb lx bd⟩
theorem dd_tk {H H':Hp} {o:Option Int} {y:V} (ht :∀p xs,H p=some (.tup xs)->H' p=some (.tup xs)) (h:HPd H (ddP o) y):HPd H' (ddP o) y:=by
 cases o with
 | none=>obtain ⟨p,xs,rfl,e,r⟩:=h;exact ⟨p,xs,rfl,ht _ _ e,r⟩
 | some i=>obtain ⟨p,xs,rfl,e,r⟩:=h;exact ⟨p,xs,rfl,ht _ _ e,r⟩
structure PlJ (H0 H:Hp) (a:Addr) (bs:List Addr) (pl:List (List (Option Int))):Prop where
 l:H a=some (.lst (bs.map V.ref))
 nd:bs.Nodup
 fr :∀b∈bs,H0 b=none/\b≠a
 ln:bs.length=pl.length
 ow :∀(j:Nat) (own:List (Option Int)) (b:Addr),pl[j]? = some own->bs[j]? = some b->∃ys,H b=some (.lst ys)/\All2 (λ o y=>HPd H (ddP o) y) own ys
theorem PlJ.same {H0 H H':Hp} {a:Addr} {bs:List Addr} {pl:List (List (Option Int))} (h:PlJ H0 H a bs pl) (s:Same H H'):PlJ H0 H' a bs pl:=
 ⟨s _ _ h.l,h.nd,h.fr,h.ln,λ j own b d g=>by obtain ⟨c,e,f⟩:=h.ow j own b d g;exact ⟨c,s _ _ e,z00 (λ _ _ z=>z.same s) f⟩⟩
theorem PlJ.add {H0 H:Hp} {a b:Addr} {bs:List Addr} {pl:List (List (Option Int))} {t:Nat} {own:List (Option Int)} {d:Option Int} {ys:List V} {y:V} (h:PlJ H0 H a bs pl) (ht:pl[t]? = some own) (hb:bs[t]? = some b) (ey:H b=some (.lst ys)) (ay:All2 (λ o y=>HPd H (ddP o) y) own ys) (ep:HPd H (ddP d) y) :
  PlJ H0 (upd H b (.lst (ys++[y]))) a bs (pl.set t (own++[d])):=by
 have m:=T0 hb;have g :∀(q:Addr) (i:List V),H q=some (.tup i)->upd H b (.lst (ys++[y])) q=some (.tup i):=λ q i e=>by rw [upd_ne (λ z=>by rw [z,ey] at e;cases e)];exact e
 have lt:t < pl.length:=(List.getElem?_eq_some_iff.mp ht).1;refine ⟨by rw [upd_ne (D2 (h.fr b m).2)];exact h.l,h.nd,h.fr,by rw [Q0];exact h.ln,λ j p k c f=>?_⟩;by_cases z:j=t
 ·subst z;rw [hb] at f;cases f;rw [K0 lt] at c;cases c;exact ⟨_,z03,z1g (z00 (λ _ _ z=>dd_tk g z) ay) (dd_tk g ep)⟩
 ·rw [Y0 (D2 z)] at c;obtain ⟨u,r,s⟩:=h.ow j p k c f;have n:k≠b:=λ e=>by subst e;have:=(j02 (List.getElem?_eq_some_iff.mp hb).1 h.nd).mp (hb.trans f.symm);exact z this.symm
  exact ⟨u,by rw [upd_ne n];exact r,z00 (λ _ _ z=>dd_tk g z) s⟩
theorem za1 {H:Hp} {α:Type} {f:α->PyData} :∀{xs:List α} {ys:List V},All2 (λ o y=>HPd H (f o) y) xs ys->HPds H (xs.map f) ys
 | _,_,.nil=>(rfl:([]:List V)=[])
 | _,_,.cons a r=>⟨_,_,rfl,a,za1 r⟩
theorem z7n {H:Hp} {α:Type} {f:α->PyData} :∀{xs:List α} {ys:List V},HPds H (xs.map f) ys->All2 (λ o y=>HPd H (f o) y) xs ys
 | [],_,h=>by cases (show _=[] from h);exact .nil
 | x :: xs,_,h=>by obtain ⟨y,r,rfl,a,b⟩:=h;exact .cons a (z7n b)
theorem zjk {H:Hp} {a:Addr} {bs:List Addr} {pl:List (List (Option Int))} (l:H a=some (.lst (bs.map V.ref))) (ln:bs.length=pl.length) (ow :∀(j:Nat) (own:List (Option Int)) (b:Addr),pl[j]? = some own->bs[j]? = some b->∃ys,H b=some (.lst ys)/\All2 (λ o y=>HPd H (ddP o) y) own ys):HPd H (.list (rowsP pl)) (.ref a):=by
 have f :∀(pl:List (List (Option Int))) (bs:List Addr),bs.length=pl.length->(∀(j:Nat) (own:List (Option Int)) (b:Addr),pl[j]? = some own->bs[j]? = some b->∃ys,H b=some (.lst ys)/\All2 (λ o y=>HPd H (ddP o) y) own ys)->HPds H (rowsP pl) (bs.map V.ref):=by
  intro pl;induction pl with
  | nil=>intro bs d _;rw [List.length_eq_zero_iff.mp d];exact (rfl:([]:List V)=[])
  | cons p pl ih=>
   intro bs d e;cases bs with
   | nil=>cases d
   | cons b bs=>obtain ⟨ys,h,i⟩:=e 0 p b rfl rfl;exact ⟨_,_,rfl,⟨b,ys,rfl,h,za1 i⟩,ih bs (by simpa using d) λ j own c g k=>e (j + 1) own c (by simpa using g) (by simpa using k)⟩
 exact ⟨a,_,rfl,l,f pl bs ln ow⟩
theorem zij {pl:List (List (Option Int))} {t:Nat} {own:List (Option Int)} {d:Option Int} (ht:pl[t]? = some own):(pl.set t (own++[d])).flatten.Perm (d :: pl.flatten):=by obtain ⟨a,b⟩:=z5y (X:=own++[d]) ht;refine a.trans (.trans ?_ (b.symm.cons d));rw [A2];exact List.perm_middle
def wrF (sg st sp:Int) (k:Nat):Int:=(1 - 2 * sg) * (1 + st + k * (1 + sp))
structure PlK (sg st sp:Int) (n:Nat) (pl:List (List (Option Int))):Prop where
 f:pl.flatten.length=n
 nd:(pl.flatten.filterMap id).Nodup
 by_ :∀i∈pl.flatten.filterMap id,∃k:Nat,k < n/\i=wrF sg st sp k
theorem zkz {sg st sp:Int} {i j:Nat} (s0:sg=0\/sg=1) (p0:0<=sp) (h:wrF sg st sp i=wrF sg st sp j):i=j:=by
 unfold wrF at h;have a:(i:Int) * (1 + sp)=(j:Int) * (1 + sp):=by rcases s0 with rfl|rfl<;>omega
 have:=Int.eq_of_mul_eq_mul_right (show (1 + sp)≠0 by omega) a;omega
theorem wrF_bd {sg st sp:Int} {k:Nat} (s0:sg=0\/sg=1) (t0:0<=st) (t1:st < 400000000) (p0:0<=sp) (p1:sp < 20000000) (hk:k < 24):wrF sg st sp k≠0/\-1000000000<=wrF sg st sp k/\wrF sg st sp k<=1000000000:=by unfold wrF;have b:0<=(k:Int) * (1 + sp):=Int.mul_nonneg (by omega) (by omega);have a:(k:Int) * (1 + sp)<=23 * (1 + sp):=Int.mul_le_mul_of_nonneg_right (by omega) (by omega);rcases s0 with rfl|rfl<;>omega
theorem PlK.add {sg st sp:Int} {n:Nat} {pl:List (List (Option Int))} {t:Nat} {own:List (Option Int)} {d:Option Int} (h:PlK sg st sp n pl) (s0:sg=0\/sg=1) (p0:0<=sp) (ht:pl[t]? = some own) (hd:d=none\/d=some (wrF sg st sp n)):PlK sg st sp (n + 1) (pl.set t (own++[d])):=by
 have g:=zij (d:=d) ht;have c:=g.filterMap (id:Option Int->Option Int);refine ⟨by rw [g.length_eq,A1,h.f],?_,λ i a=>?_⟩
 ·rw [c.nodup_iff];rcases hd with rfl|rfl
  ·exact h.nd
  ·refine List.nodup_cons.mpr ⟨λ z=>?_,h.nd⟩;obtain ⟨k,b,e⟩:=h.by_ _ z;have:=zkz s0 p0 e;omega
 ·have a:=c.mem_iff.mp a;rcases hd with rfl|rfl
  ·obtain ⟨k,b,e⟩:=h.by_ i a;exact ⟨k,by omega,e⟩
  ·rcases List.mem_cons.mp a with rfl|a
   ·exact ⟨n,by omega,rfl⟩
   ·obtain ⟨k,b,e⟩:=h.by_ i a;exact ⟨k,by omega,e⟩
def OwW (wr:Int) (pl:List (List (Option Int))):Prop:=∀(h:Nat) (own:List (Option Int)),pl[h]? = some own->wr<=(h:Int)->∀d∈own,d=none
theorem OwW.add {wr:Int} {pl:List (List (Option Int))} {t:Nat} {own:List (Option Int)} {d:Option Int} (o:OwW wr pl) (ht:pl[t]? = some own) (hd:wr<=(t:Int)->d=none):OwW wr (pl.set t (own++[d])):=λ h c e w b a=>by
 by_cases z:t=h
 ·subst z;rw [K0 (List.getElem?_eq_some_iff.mp ht).1] at e;cases e;rcases List.mem_append.mp a with y|y
  ·exact o t own ht w b y
  ·rw [List.mem_singleton.mp y];exact hd w
 ·rw [Y0 z] at e;exact o h c e w b a
def z5z (K:j0):Sp:=λ vs H Q _=>∃(a:Addr) (ns:List Int) (hn mo:Nat) (wr:Int),vs=[.ref a,.int hn,.int mo,.int wr]/\SqL K H a (ns.map V.int)/\0 < hn/\hn<=6/\0 < mo/\mo<=24/\∀b pl H',Same H H'->PlG pl->pl.length=hn->pl.flatten.length<=mo->OwW wr pl->HPd H' (.list (rowsP pl)) (.ref b)->Q (.ref b) H'
theorem zaz (T:TX (kx w) mg) (c0:Ca P w mg base "_law_cell_at" ["script","k"] 1 (z20 (kx w))) (c3:Ca P w mg base "_law_parts" ["cell","least"] 2 z59):Fo P w mg base CX0 3 415 y12 ["script","hands","most","writers"] (z5z (kx w)):=by
 refine (z4g w.params).ok sc__law_plan (λ vs H Q E h=>?_) (λ d8 A d3 s H vs Q E hr h=>?_)
 ·obtain ⟨a,ns,D,u,I,rfl,_⟩:=h;rfl
 ·obtain ⟨a,ns,D,u,I,rfl,sq,n0,n6,d5,d4,q⟩:=h;refine q_of (z10 (QS.mk (ps_asg (pe_cal c3 (hr.mono (by decide)) rfl (z01 (pe_cal c0 (hr.mono (by decide)) rfl (z01 (pv 0) (z01 pe_int pa_nil))) (z01 (pe_lst (z01 pe_int (z01 pe_int (z01 pe_int pa_nil)))) pa_nil))) (pg_lst rfl (z0g (z0f (i:=4) sc__law_plan.nd rfl (K1 rfl)) (z0g (z0f (i:=5) sc__law_plan.nd rfl (K1 rfl)) (z0g (z0f (i:=6) sc__law_plan.nd rfl (K1 rfl)) z42))))))
   (z10 (QS.mk (zdl (i:=7) sc__law_plan.nd rfl (K1 rfl) (xs:=["hand"]) (g:=gName 0) (fr:=[]) rfl (z15 rfl (T.no (z2s _)) (z01 (pv 1) pa_nil)) (λ _ z=>absurd z L0) (zbs rfl) (λ _ z=>absurd z L0) (by decide +kernel) rfl (by decide +kernel) (λ _ _ _ _ _=>(pg_cn (N:=["hand"]) 0)) (λ _ _ _ _ _=>pf_nil) (λ _ _ _ _ _=>(pe_lst pa_nil))))
   (z10 (QS.mk (ps_set (i:=8) sc__law_plan.nd rfl (K1 rfl) (pe_cal c3 (hr.mono (by decide)) rfl (z01 (pe_cal c0 (hr.mono (by decide)) rfl (z01 (pv 0) (z01 pe_int pa_nil))) (z01 (pe_op opAdd (pe_lst (z01 (pv 2) pa_nil)) (pe_op op_rep (pe_lst (z01 (pe_op op_mul pe_int (pv 1)) pa_nil)) pe_int)) pa_nil)))))
   (z10 (qs_for Y2 rfl (z15 rfl (T.no (z2s _)) (z01 (pe_op opAdd pe_int (pe_ix ix_seq (pv 8) pe_int (λ _ _=>rfl))) pa_nil)) (z0f (i:=9) sc__law_plan.nd rfl (K1 rfl))
   (z10 (QS.mk (ps_set (i:=10) sc__law_plan.nd rfl (K1 rfl) (pe_op op_mod (pe_ix ix_seq (pv 8) (pe_op opAdd pe_int (pv 9)) (λ _ _=>rfl)) (pv 1))))
   (z10 (qs_set (i:=11) sc__law_plan.nd rfl (K1 rfl) (qe_tup (zhu (QE.mk pe_str) (zhu (QE.mk pe_non) qa_nil))))
   (z10 (QS.mk (ps_if (PW.pt (pw_and (z0a opEq (pe_op z1r (pe_ix ix_seq (pv 8) (pe_op opAdd pe_int (pv 9)) (λ _ _=>rfl)) (pv 1)) pe_int (nomark _)) (z2w (z0a op_lt (pv 10) (pv 3) (nomark _)))))
   (z05 (ps_set (i:=11) sc__law_plan.nd rfl (K1 rfl) (pe_tup (z01 pe_str (z01 (pe_op op_mul (pe_op op_sub pe_int (pe_op op_mul pe_int (pv 6))) (pe_op opAdd (pe_op opAdd pe_int (pv 4)) (pe_op op_mul (pv 9) (pe_op opAdd pe_int (pv 5))))) pa_nil)))))
   z0e))
   (zeq (QS.mk (z0h (z0p (pe_ix ix_seq (pv 7) (pv 10) (λ _ _=>rfl)) (z01 (pv 11) pa_nil)))))))))
   (zeq (QS.mk (ps_ret (pv 7)))))))) ?_
  refine z0b ?_;refine ⟨_,rfl,a,ns,2,rfl,sq,λ c2=>⟨w_3,λ l1 a9=>?_⟩⟩;have s1:=Same.upd (o:=.lst [V.int 400000000,.int 20000000,.int 2]) a9;have G:upd H l1 (.lst [V.int 400000000,.int 20000000,.int 2]) l1=some (.lst (([400000000,20000000,2]:List Int).map V.int)):=z03;generalize upd H l1 (.lst [V.int 400000000,.int 20000000,.int 2])=H1 at s1 G⊢;refine ⟨c2,l1,[400000000,20000000,2],rfl,G,by decide,by decide,λ b2 xs L s2 _ U lx B=>?_⟩
  match xs,lx with
  | [st,sp,sg],_=>
  have Y:=B 0 st _ rfl rfl;have S:=B 1 sp _ rfl rfl;have b3:=B 2 sg _ rfl rfl;have s0:sg=0\/sg=1:=by omega
  clear B;have a6:=s1.trans s2;refine ⟨b2,_,rfl,SqL.of U,rfl,_,_,rfl,_,_,rfl,_,_,rfl,rfl,?_⟩;refine z0b ?_;refine ⟨_,rfl,_,rfl,by omega,by omega,?_⟩;rw [S5];refine ⟨λ i m F O=>m=D - i/\i<=D/\Same L O/\∃bs:List Addr,F=bs.map V.ref/\bs.length=i/\bs.Nodup/\(∀b∈bs,L b=none/\O b=some (.lst [])),⟨D,rfl,J2 _,Same.refl _,[],rfl,rfl,.nil,λ b r=>by cases r⟩,?_⟩;rintro i m F H3 ⟨rfl,hi,s3,bs,rfl,lb,nd,fb⟩;by_cases hlt:i < D
  ·refine .inr ⟨hlt,by rw [C0,lb];exact O0 (m:=6) (by omega) (by decide),λ v H4 y=>?_⟩;obtain ⟨rfl,rfl⟩:=y;refine ⟨[some (.int (0 + (i:Int)))],rfl,rfl,iteT ?_⟩;refine ⟨w_0,λ b r=>?_⟩;refine ⟨D - (i + 1),by omega,rfl,hlt,s3.trans (Same.upd r),bs++[b],by rw [P1];rfl,by rw [F0,lb];rfl,?_,λ c J=>?_⟩
   ·rw [F6];refine ⟨nd,List.nodup_cons.mpr ⟨L0,.nil⟩,λ x hx y hy e=>?_⟩;rw [List.mem_singleton.mp hy] at e;rw [e] at hx;have:=(fb b hx).2;rw [r] at this;cases this
   ·rcases List.mem_append.mp J with J|J
    ·exact ⟨(fb c J).1,(Same.upd r) _ _ (fb c J).2⟩
    ·rw [List.mem_singleton.mp J];exact ⟨s3.free r,z03⟩
  have ei:i=D:=by omega
  subst ei;refine .inl ⟨J0 _,by rw [C0,lb];exact O0 (m:=6) n6 (by decide),λ p ha=>?_⟩;refine g_name ?_;have s4:=Same.upd (o:=.lst (bs.map V.ref)) ha;have W:PlJ L (upd H3 p (.lst (bs.map V.ref))) p bs (P0 i []):=by
   refine ⟨z03,nd,λ b r=>⟨(fb b r).1,λ z=>?_⟩,by rw [C2];exact lb,λ j own b G U=>?_⟩
   ·have:=(fb b r).2;rw [z,ha] at this;cases this
   ·have eo:own=[]:=(List.mem_replicate.mp (T0 G)).2;subst eo;exact ⟨[],s4 _ _ (fb b (T0 U)).2,.nil⟩
  have fp:L p=none:=s3.free ha;have b7:PlK sg st sp 0 (P0 i []):=by have e:(P0 i ([]:List (Option Int))).flatten=[]:=List.flatten_replicate_nil;exact ⟨by rw [e];rfl,by rw [e];exact .nil,λ z hz=>by rw [e] at hz;cases hz⟩
  have c6:OwW I (P0 i []):=λ h own e _ d hd=>by rw [(List.mem_replicate.mp (T0 e)).2] at hd;exact absurd hd L0
  have a0:=s3.trans s4;generalize upd H3 p (.lst (bs.map V.ref))=H4 at W a0⊢;clear s3 s4 fb ha;refine z0b ?_;refine ⟨_,rfl,a,ns,1,rfl,(a6.trans a0).seq sq,λ c1=>?_⟩;refine ⟨_,rfl,w_1,λ l5 c7=>⟨_,rfl,_,_,rfl,rfl,.inl ⟨by decide,by decide⟩,w_1,λ l6 a7=>?_⟩⟩;refine ⟨l6,24,_,rfl,rfl,z03,by decide,by decide,(show 1 * 24<=sizeLine by decide),λ l7 b8=>?_⟩;have u5:=Same.upd (o:=.lst [V.int u]) c7;have u6:=Same.upd (o:=.lst [V.int (2 * (i:Int))]) a7;have u7:=Same.upd (o:=.lst (P0 (24:Int).toNat [V.int (2 * (i:Int))]).flatten) b8;refine .inr (.inr (.inl ⟨l5,l7,_,_,rfl,rfl,u7 _ _ (u6 _ _ z03),z03,(show 1 + 24<=sizeLine by decide),λ l8 b5=>?_⟩));have u8:=Same.upd (o:=.lst ([V.int u]++(P0 (24:Int).toNat [V.int (2 * (i:Int))]).flatten)) b5;have Z:=((u5.trans u6).trans u7).trans u8;have e8:upd (upd (upd (upd H4 l5 (.lst [V.int u])) l6 (.lst [V.int (2 * (i:Int))])) l7 (.lst (P0 (24:Int).toNat [V.int (2 * (i:Int))]).flatten)) l8 (.lst ([V.int u]++(P0 (24:Int).toNat [V.int (2 * (i:Int))]).flatten)) l8=some (.lst (((u:Int) :: P0 24 (2 * (i:Int))).map V.int)):=z03;generalize upd (upd (upd (upd H4 l5 (.lst [V.int u])) l6 (.lst [V.int (2 * (i:Int))])) l7 (.lst (P0 (24:Int).toNat [V.int (2 * (i:Int))]).flatten)) l8 (.lst ([V.int u]++(P0 (24:Int).toNat [V.int (2 * (i:Int))]).flatten))=H8 at Z e8⊢;refine ⟨c1,l8,(u:Int) :: P0 24 (2 * (i:Int)),rfl,e8,λ l hl=>?_,by rw [A1,C2];decide,λ C xs H9 s9 a5 e9 lx B=>?_⟩
  ·rcases List.mem_cons.mp hl with rfl|hl
   ·omega
   ·rw [(List.mem_replicate.mp hl).2];omega
  have lx:xs.length=25:=lx;have a2 :∀j:Nat,j < 25->∃x,xs[j]? = some x:=λ j M=>⟨_,v0 (by omega)⟩
  obtain ⟨x0,a4⟩:=a2 0 (by decide);have d7:=B 0 x0 u a4 rfl;have c8 :∀(j:Nat) x,j < 24->xs[1 + j]? = some x->0<=x/\x < 2 * (i:Int):=λ j x M hx=>B (1 + j) x _ hx (by rw [j0b,u3,v5,if_pos M]);have b9:=a0.trans (Z.trans s9);have c9:=W.same (Z.trans s9);have c5 :∀b∈bs,b≠C:=λ b r z=>by
   obtain ⟨j,M,e⟩:=o6 r;have d2:j < (P0 i ([]:List (Option Int))).length:=by rw [<-W.ln];exact M
   obtain ⟨F,G,_⟩:=W.ow j _ b (v0 d2) (by rw [v0 M,e]);have:=Z _ _ G;rw [z,a5] at this;cases this
  clear W B a5;refine g_name ?_;refine ⟨_,rfl,.inl ⟨C,_,0,.int x0,rfl,rfl,SqL.of e9,z08 (j:=0) (by rw [N0,a4];rfl),.inl ⟨_,_,rfl,rfl,_,rfl,by omega,by omega,?_⟩⟩⟩;refine z2d (lo:=0) (n:=(1 + x0).toNat) (λ j σ O=>∃pl x9 x10 x11,Same L O/\O C=some (.lst (xs.map V.int))/\PlJ L O p bs pl/\PlK sg st sp j pl/\OwW I pl/\pl.length=i/\σ=[some (.ref a),some (.int i),some (.int u),some (.int I),some (.int st),some (.int sp),some (.int sg),some (.ref p),some (.ref C),x9,x10,x11]) ⟨_,_,_,_,b9,e9,c9,b7,c6,C2,rfl⟩ ?_ ?_
  ·rintro j σ H5 M ⟨pl,x9,x10,x11,s5,e5,PJ,PK,OW,lp,rfl⟩;rw [R7];refine g_name ?_;have a8:j < 24:=by omega
   obtain ⟨t,a1⟩:=a2 (1 + j) (by omega);have bj:=c8 j t a8 a1;have a3:atI (xs.map V.int) (1 + (j:Int))=some (.int t):=by rw [show (1 + (j:Int))=((1 + j:Nat):Int) by omega];exact z08 (by rw [N0,a1];rfl)
   refine ⟨_,rfl,_,rfl,.inl ⟨_,_,rfl,rfl,.inl ⟨C,_,_,.int t,rfl,rfl,SqL.of e5,a3,_,rfl,_,_,rfl,rfl,(show (0:Int) < i by omega),?_⟩⟩⟩;have h0:=D6 t (show (i:Int)≠0 by omega);have h1:=C5 t (show (0:Int) < i by omega);refine g_name (t_nx (z0b ?_));refine ⟨w_2,λ d0 c4=>?_⟩;obtain ⟨H6,v_,s6,e6⟩:=newA (.tup [.str "read",.non]) c4;rw [<-v_];refine g_name ?_;refine z97 (λ σ1 H7=>∃d y,(d=none\/d=some (wrF sg st sp j))/\(I<=t % i->d=none)/\HPd H7 (ddP d) y/\Same H5 H7/\σ1=[some (.ref a),some (.int i),some (.int u),some (.int I),some (.int st),some (.int sp),some (.int sg),some (.ref p),some (.ref C),some (.int (j:Nat)),some (.int (t % i)),some y]) ?_ ?_
   ·rintro σ1 H7 ⟨d,y,hd,hw,hy,s7,rfl⟩;have R:=PJ.same s7;have ht:(t % (i:Int)).toNat < bs.length:=by omega
    have r:bs[(t % (i:Int)).toNat]? = some bs[(t % (i:Int)).toNat]:=v0 ht;generalize bs[(t % (i:Int)).toNat]=b at r;have b6:atI (bs.map V.ref) (t % i)=some (.ref b):=by rw [<-P9 h0];exact z08 (by rw [N0,r];rfl)
    have K:pl[(t % (i:Int)).toNat]? = some pl[(t % (i:Int)).toNat]:=v0 (by rw [<-R.ln];exact ht);generalize pl[(t % (i:Int)).toNat]=own at K;obtain ⟨F,ey,ay⟩:=R.ow _ own b K r;have ly:F.length<=24:=by have G:=z04 ay;have U:=(z5y (X:=[]) K).2.length_eq;rw [F0,PK.f] at U;omega
    have mb:=T0 r;refine ⟨_,rfl,_,rfl,.inl ⟨p,_,_,.ref b,rfl,rfl,SqL.of R.l,b6,.inl ⟨rfl,F,SqL.of ey⟩,_,rfl,?_⟩⟩;refine ⟨b,F,_,rfl,rfl,ey,V0 (m:=24) ly (by decide),?_⟩;refine ⟨_,_,_,_,Same.keep (s5.trans s7) (R.fr b mb).1,by rw [upd_ne (D2 (c5 b mb))];exact s7 _ _ e5,R.add K r ey ay hy,PK.add s0 S.1 K hd,OW.add K (λ z=>hw (by omega)),by rw [Q0];exact lp,rfl⟩
   ·intro fin;have nw:HPd H6 (ddP none) (.ref d0):=⟨d0,_,rfl,e6,_,_,rfl,rfl,_,_,rfl,rfl,rfl⟩
    refine z1j ?_;refine ⟨_,rfl,_,rfl,.inl ⟨_,_,rfl,rfl,.inl ⟨C,_,_,.int t,rfl,rfl,SqL.of (s6 _ _ e5),a3,_,rfl,_,_,rfl,rfl,⟨by omega,by omega⟩,rfl,_,rfl,?_⟩⟩⟩;refine ite2 (λ _=>?_) λ _=>?_
    ·refine ⟨_,rfl,_,rfl,_,_,rfl,rfl,_,rfl,?_⟩;refine ite2 (λ lw=>?_) λ _=>?_
     ·have lw:=of_decide_eq_true lw;refine ⟨_,rfl,_,_,rfl,rfl,.inl ⟨by decide,by decide⟩,_,_,rfl,rfl,_,rfl,.inl ⟨_,_,rfl,rfl,_,rfl,_,rfl,.inl ⟨_,_,rfl,rfl,_,_,rfl,rfl,.inl ⟨by omega,by omega⟩,.inl ⟨_,_,rfl,rfl,_,_,rfl,rfl,.inl ⟨by omega,by omega⟩,w_2,λ d1 b4=>?_⟩⟩⟩⟩;exact fin _ _ ⟨some (wrF sg st sp j),_,.inr rfl,(λ z=>by omega),⟨d1,_,rfl,z03,_,_,rfl,rfl,_,_,rfl,rfl,rfl⟩,s6.trans (Same.upd b4),rfl⟩
     ·exact fin _ _ ⟨none,_,.inl rfl,(λ _=>rfl),nw,s6,rfl⟩
    ·exact fin _ _ ⟨none,_,.inl rfl,(λ _=>rfl),nw,s6,rfl⟩
  ·rintro σ H5 ⟨pl,x9,x10,x11,s5,e5,PJ,PK,OW,lp,rfl⟩;refine ⟨_,rfl,q p pl H5 (a6.trans s5) ⟨by omega,by omega,by rw [PK.f];omega,PK.nd,λ z=>?_,λ k hk=>?_⟩ lp (by rw [PK.f];omega) OW (zjk PJ.l PJ.ln PJ.ow)⟩
   ·obtain ⟨k,hk,e⟩:=PK.by_ _ z;exact (wrF_bd s0 Y.1 Y.2 S.1 S.2 (show k < 24 by omega)).1 e.symm
   ·obtain ⟨k',d6,e⟩:=PK.by_ _ hk;rw [e];exact (wrF_bd s0 Y.1 Y.2 S.1 S.2 (show k' < 24 by omega)).2
theorem zk3 {H:Hp} {pl:List (List (Option Int))} {os:List V} (h:HPds H (rowsP pl) os) {i:Nat} {v:V} (hv:os[i]? = some v) :∃own b zs,pl[i]? = some own/\v=.ref b/\H b=some (.lst zs)/\All2 (λ o y=>HPd H (ddP o) y) own zs:=by have e:=z7n (f:=λ (r:List (Option Int))=>PyData.list (r.map ddP)) h;obtain ⟨own,c,b,zs,rfl,a,d⟩:=z0m e hv;exact ⟨own,b,zs,c,rfl,a,z7n d⟩
theorem zdd {K:j0} {tl:TE} {σ:L2.St} {H:Hp} {Q:VK} {a:Addr} {pl:List (List (Option Int))} {os:List V} (htl :∀R:VK,R (.ref a) H->tl σ H R) (ea:H a=some (.lst os)) (hos:HPds H (rowsP pl) os) (l6:pl.length<=6) (q :∀(a':Addr) (bs:List Addr) H',Same H H'->H a'=none->PlJ H H' a' bs pl->Q (.ref a') H') :
  tCompG (iList K tl) 1 [] (gName 0) (λ _ H Q=>Q true H) (tCB (λ xs H Q=>∃p ys,xs=[.ref p]/\(SqL K H p ys\/SqT K H p ys)/\∀l,H l=none->Q (.ref l) (upd H l (.lst ys))) (tCons (tVar 0) tNil)) σ H Q:=by
 have O:os.length=pl.length:=by have:=hos.length;unfold rowsP at this;rw [C0] at this;exact this
 refine htl _ ⟨a,rfl,⟨os,SqL.of ea⟩,?_⟩;refine ⟨λ i m ys H'=>m=pl.length - i/\i<=pl.length/\Same H H'/\∃bs:List Addr,ys=bs.map V.ref/\bs.length=i/\bs.Nodup/\(∀b∈bs,H b=none/\H' b≠none)/\(∀(j:Nat) (own:List (Option Int)) (b:Addr),pl[j]? = some own->bs[j]? = some b->∃k,H' b=some (.lst k)/\All2 (λ o y=>HPd H' (ddP o) y) own k),⟨pl.length,rfl,J2 _,Same.refl _,[],rfl,rfl,.nil,(λ b f=>by cases f),λ j own b _ h=>by simp at h⟩,?_⟩;rintro i m ys N ⟨rfl,hi,s3,bs,rfl,lb,nd,fb,ow⟩;by_cases hlt:i < pl.length
 ·have s:os[i]? = some os[i]:=v0 (by omega);generalize os[i]=v at s;refine .inr ⟨⟨os,v,SqL.of (s3 _ _ ea),s⟩,by rw [C0,lb];exact O0 (m:=6) (by omega) (by decide),λ P F y=>?_⟩;obtain ⟨rfl,y⟩:=y;have y:=y os (SqL.of (s3 _ _ ea));rw [s] at y;cases y;obtain ⟨own,c,k,G,rfl,L,C⟩:=zk3 hos s;refine ⟨[some (.ref c)],rfl,rfl,iteT ?_⟩;refine ⟨_,rfl,c,k,rfl,.inl (SqL.of (s3 _ _ L)),λ b f=>?_⟩;have d:=Same.upd (o:=.lst k) f;refine ⟨pl.length - (i + 1),by omega,rfl,hlt,s3.trans d,bs++[b],by rw [P1];rfl,by rw [F0,lb];rfl,?_,λ c n=>?_,λ j J B r g=>?_⟩
  ·rw [F6];refine ⟨nd,List.nodup_cons.mpr ⟨L0,.nil⟩,λ x A y D e=>?_⟩;rw [List.mem_singleton.mp D] at e;rw [e] at A;exact (fb b A).2 f
  ·rcases List.mem_append.mp n with n|n
   ·refine ⟨(fb c n).1,?_⟩;cases z:F c with
    | none=>exact absurd z (fb c n).2
    | some o=>rw [d _ _ z];exact j42 o
   ·rw [List.mem_singleton.mp n];exact ⟨s3.free f,by rw [z03];exact j42 _⟩
  ·by_cases z:j < bs.length
   ·rw [F1 z] at g;obtain ⟨M,u,w⟩:=ow j J B r g;exact ⟨M,d _ _ u,z00 (λ _ _ z=>z.same d) w⟩
   ·rw [Z0 (by omega)] at g;have E:j - bs.length=0:=by have:=(List.getElem?_eq_some_iff.mp g).1;simp only [E3] at this;omega
    rw [E] at g;cases g;have:j=i:=by omega
    rw [this,G] at r;cases r;exact ⟨k,z03,z00 (λ _ _ z=>z.same (s3.trans d)) C⟩
 have I:i=pl.length:=by omega
 subst I;refine .inl ⟨⟨os,SqL.of (s3 _ _ ea),by omega⟩,by rw [C0,lb];exact O0 (m:=6) l6 (by decide),λ p t=>?_⟩;have d:=Same.upd (o:=.lst (bs.map V.ref)) t;refine q p bs _ (s3.trans d) (s3.free t) ⟨z03,nd,λ b f=>⟨(fb b f).1,λ z=>(fb b f).2 (by rw [z];exact t)⟩,lb,λ j own b r g=>?_⟩;obtain ⟨k,u,w⟩:=ow j own b r g;exact ⟨k,d _ _ u,z00 (λ _ _ z=>z.same d) w⟩
end
section
theorem zkg {X:Cx} {K:j0} (hK:X.K=K) {e:Expr} {f:Str} {pos:Pos} {ta:TE} (he:PE X e ta) (hb:z5 e f X.env (R3 e X.env)=R3 e X.env):PE X (.Attribute e f pos) (tFld K ta f):=hK ▸ pe_fld he hb
abbrev Hd:=(Int×Int)×Int
structure Er where
 hand:Nat
 deed:Option Int
 kept:Option Hd
 heard:List Hd
structure Lt where
 e:Nat
 num:Nat
 held:Option Hd
inductive CEv
 | beg (h:Nat) (d:Option Int)
 | fin (h:Nat) (a:Option Int)
structure CM where
 stock:List Hd
 back:Bool
 left:List (List (Option Int))
 idle:List Bool
 letters:List Lt
 ers:List Er
 events:List CEv
def maxHd:List Hd->Hd
 | []=>((0,0),0)
 | x :: r=>r.foldl (λ m y=>if gtN y m=true then y else m) x
def CM.send (M:CM) (e:Nat):CM:={ M with letters:=M.letters++(U0 M.stock.length).map λ k=>⟨e,k,none⟩ }
def CM.make (M:CM) (er:Er):CM:={ M with ers:=M.ers++[er] }
def CM.start (M:CM) (h:Nat) (d:Option Int) (rest:List (Option Int)):CM:=
 CM.send (CM.make { M with left:=M.left.set h rest,idle:=M.idle.set h false,events:=M.events++[.beg h d] } ⟨h,d,none,[]⟩) M.ers.length
def ansC (d:Option Int) (w:Int):Option Int:=match d with
 | some _=>none
 | none=>some w
def CM.stop (M:CM) (er:Er) (w:Int):CM:={ M with idle:=M.idle.set er.hand true,events:=M.events++[.fin er.hand (ansC er.deed w)] }
def CM.ask (M:CM) (er:Er):CM:=match er.deed with
 | some w0=>(M.make ⟨er.hand,er.deed,some (((maxHd er.heard).1.1 + 1,er.hand),w0),[]⟩).send M.ers.length
 | none=>if M.back=true then (M.make ⟨er.hand,er.deed,some (maxHd er.heard),[]⟩).send M.ers.length else M.stop er (maxHd er.heard).2
def Er.hear (er:Er) (x:Hd):Er:={ er with heard:=er.heard++[x] }
def CM.comeBack (M:CM) (e:Nat) (er:Er) (x:Hd):CM:=
 if (er.hear x).heard.length≠M.stock.length / 2 + 1 then { M with ers:=M.ers.set e (er.hear x) }
 else match er.kept with
  | some k=>CM.stop { M with ers:=M.ers.set e (er.hear x) } (er.hear x) k.2
  | none=>CM.ask { M with ers:=M.ers.set e (er.hear x) } (er.hear x)
def keepH (k:Option Hd) (s:Hd):Hd:=match k with
 | some k=>if gtI k.1 s.1=true then k else s
 | none=>s
def CM.comeTo (M:CM) (e:Nat) (er:Er) (n:Nat) (s:Hd):CM:={ M with stock:=M.stock.set n (keepH er.kept s),letters:=M.letters++[⟨e,n,some (keepH er.kept s)⟩] }
def CM.come (M:CM) (L:Lt):CM:=match M.ers[L.e]?,L.held,M.stock[L.num]? with
 | some er,some x,_=>M.comeBack L.e er x
 | some er,none,some s=>M.comeTo L.e er L.num s
 | _,_,_=>M
def CM.rdy (M:CM) (h:Nat):Bool:=!(M.left[h]?.getD []).isEmpty && M.idle[h]?.getD false
def CM.ready (M:CM):List Nat:=(U0 M.left.length).filter M.rdy
def CM.go (M:CM) (c:Int):CM:=
 if M.ready.length + M.letters.length=0 then M else
 let ch:=(c % ((M.ready.length:Int) + 2 * (M.letters.length:Int))).toNat
 if ch < M.ready.length then
  (match M.left[M.ready[ch]?.getD 0]? with
   | some (d :: rest)=>M.start (M.ready[ch]?.getD 0) d rest
   | _=>M)
 else
  (match M.letters[(ch - M.ready.length) % M.letters.length]? with
   | some L=>if ch < M.ready.length + M.letters.length then CM.come { M with letters:=M.letters.eraseIdx ((ch - M.ready.length) % M.letters.length) } L else { M with letters:=M.letters.eraseIdx ((ch - M.ready.length) % M.letters.length) }
   | none=>M)
theorem zey {l:List Hd} {b:Hd} (hb:b∈l) (h :∀x∈l,gtN x b=false):maxHd l=b:=by
 have f :∀(r:List Hd) (m:Hd),(r.foldl (λ m y=>if gtN y m=true then y else m) m)∈m :: r/\∀x∈m :: r,gtN x (r.foldl (λ m y=>if gtN y m=true then y else m) m)=false:=by
  intro r;induction r with
  | nil=>exact λ m=>⟨.head _,λ x a=>by rw [List.mem_singleton.mp a];exact zi9 _⟩
  | cons y r ih=>
   intro m;rw [N3];by_cases z:gtN y m=true
   ·rw [if_pos z];obtain ⟨d,c⟩:=ih y;refine ⟨.tail _ d,λ x a=>?_⟩;rcases List.mem_cons.mp a with e|a
    ·rw [e];exact gtN_tr (zhs z) (c y (.head _))
    ·exact c x a
   ·rw [if_neg z];obtain ⟨d,c⟩:=ih m;refine ⟨?_,λ x a=>?_⟩
    ·rcases List.mem_cons.mp d with e|e
     ·rw [e];exact .head _
     ·exact .tail _ (.tail _ e)
    ·rcases List.mem_cons.mp a with e|a
     ·rw [e];exact c m (.head _)
     ·rcases List.mem_cons.mp a with e|a
      ·rw [e];exact gtN_tr (Bool.eq_false_iff.mpr z) (c m (.head _))
      ·exact c x (.tail _ a)
 cases l with
 | nil=>cases hb
 | cons x r=>obtain ⟨d,c⟩:=f r x;exact (zjv (c b hb) (h _ d)).symm
structure WfM (M:CM) (n:Nat):Prop where
 il:M.idle.length=M.left.length
 st:0 < M.stock.length/\M.stock.length<=5
 le :∀L∈M.letters,L.e < M.ers.length/\L.num < M.stock.length
 eh :∀er∈M.ers,er.hand < M.idle.length
 hn :∀er∈M.ers,er.heard.length<=n
 ln:M.letters.length<=6 * n
 vn:M.events.length<=n
 l6:M.left.length<=6
 lw :∀own∈M.left,own.length<=24
structure Imm (H H':Hp):Prop where
 t :∀p xs,H p=some (.tup xs)->H' p=some (.tup xs)
 i :∀p C dx fs,H p=some (.ins C dx fs)->H' p=some (.ins C dx fs)
 f :∀p o u,H p=some (.frz o u)->H' p=some (.frz o u)
theorem Imm.of {H H':Hp} (s:Same H H'):Imm H H':=⟨λ _ _ e=>s _ _ e,λ _ _ _ _ e=>s _ _ e,λ _ _ _ e=>s _ _ e⟩
theorem Imm.lst {H:Hp} {l:Addr} {o:HO} {xs:List V} (e:H l=some (.lst xs)):Imm H (upd H l o):=
 ⟨λ p a q=>by rw [upd_ne (λ z=>by rw [z,e] at q;cases q)];exact q,λ p C b fs q=>by rw [upd_ne (λ z=>by rw [z,e] at q;cases q)];exact q,λ p o u q=>by rw [upd_ne (λ z=>by rw [z,e] at q;cases q)];exact q⟩
theorem Imm.trans {H H1 H2:Hp} (a:Imm H H1) (b:Imm H1 H2):Imm H H2:=⟨λ _ _ e=>b.t _ _ (a.t _ _ e),λ _ _ _ _ e=>b.i _ _ _ _ (a.i _ _ _ _ e),λ _ _ _ e=>b.f _ _ _ (a.f _ _ _ e)⟩
theorem Imm.seqT {K:j0} {H H':Hp} {p:Addr} {xs:List V} (m:Imm H H') (h:SqT K H p xs):SqT K H' p xs:=by
 rcases h with h|h
 ·rcases h with h|⟨o,h⟩
  ·exact .inl (.inl (m.t _ _ h))
  ·exact .inl (.inr ⟨o,m.f _ _ _ h⟩)
 ·exact .inr h
def HdAt (K:j0) (H:Hp) (x:Hd) (v:V):Prop:=∃p q,v=.ref p/\SqT K H p [.ref q,.int x.2]/\SqT K H q [.int x.1.1,.int x.1.2]
theorem HdAt.imm {K:j0} {H H':Hp} {x:Hd} {v:V} (m:Imm H H') (h:HdAt K H x v):HdAt K H' x v:=by obtain ⟨p,q,e,a,b⟩:=h;exact ⟨p,q,e,m.seqT a,m.seqT b⟩
def OptHd (K:j0) (H:Hp):Option Hd->V->Prop
 | none,v=>v=.non
 | some x,v=>HdAt K H x v
theorem OptHd.imm {K:j0} {H H':Hp} {x:Option Hd} {v:V} (m:Imm H H') (h:OptHd K H x v):OptHd K H' x v:=by
 cases x with
 | none=>exact h
 | some x=>exact HdAt.imm m h
def vbD:Option Int->Str
 | none=>"read"
 | some _=>"write"
def wvD:Option Int->V
 | none=>.non
 | some i=>.int i
def DdV (H:Hp) (d:Option Int) (y:V):Prop:=∃p,y=.ref p/\H p=some (.tup [.str (vbD d),wvD d])
theorem DdV.imm {H H':Hp} {d:Option Int} {y:V} (m:Imm H H') (h:DdV H d y):DdV H' d y:=h.elim λ p z=>⟨p,z.1,m.t _ _ z.2⟩
def avD:Option Int->V
 | none=>.str "ok"
 | some i=>.int i
def EvV (H:Hp):CEv->V->Prop
 | .beg h d,y=>∃p,y=.ref p/\H p=some (.tup [.str "begin",.int h,.str "r",.str (vbD d),wvD d])
 | .fin h a,y=>∃p,y=.ref p/\H p=some (.tup [.str "end",.int h,avD a])
theorem EvV.imm {H H':Hp} {e:CEv} {y:V} (m:Imm H H') (h:EvV H e y):EvV H' e y:=by
 cases e with
 | beg h d=>exact h.elim λ p z=>⟨p,z.1,m.t _ _ z.2⟩
 | fin h a=>exact h.elim λ p z=>⟨p,z.1,m.t _ _ z.2⟩
def LtAt (K:j0) (H:Hp) (es:List Addr) (L:Lt) (v:V):Prop:=∃x dx fs ea hv,v=.ref x/\H x=some (.ins 300 dx fs)/\es[L.e]? = some ea/\fs.lookup ("errand" : Str)=some (V.ref ea)/\fs.lookup ("number" : Str)=some (V.int L.num)/\fs.lookup ("held" : Str)=some hv/\OptHd K H L.held hv
theorem LtAt.imm {K:j0} {H H':Hp} {es:List Addr} {L:Lt} {v:V} (m:Imm H H') (h:LtAt K H es L v):LtAt K H' es L v:=by obtain ⟨x,b,fs,g,a,e,j,k,d,f,c,l⟩:=h;exact ⟨x,b,fs,g,a,e,m.i _ _ _ _ j,k,d,f,c,l.imm m⟩
theorem LtAt.more {K:j0} {H:Hp} {es:List Addr} {L:Lt} {v:V} (e:Addr) (h:LtAt K H es L v):LtAt K H (es++[e]) L v:=by obtain ⟨x,g,fs,d,b,e,f,a,c⟩:=h;exact ⟨x,g,fs,d,b,e,f,by rw [F1 (List.getElem?_eq_some_iff.mp a).1];exact a,c⟩
def ErAt (K:j0) (H:Hp) (er:Er) (e hl:Addr):Prop:=∃dx fs dv kv,H e=some (.ins 279 dx fs)/\fs.lookup ("hand" : Str)=some (V.int er.hand)/\fs.lookup ("deed" : Str)=some dv/\DdV H er.deed dv/\fs.lookup ("kept" : Str)=some kv/\OptHd K H er.kept kv/\fs.lookup ("heard" : Str)=some (V.ref hl)
theorem ErAt.imm {K:j0} {H H':Hp} {er:Er} {e hl:Addr} (m:Imm H H') (h:ErAt K H er e hl):ErAt K H' er e hl:=by obtain ⟨j,fs,n,d,g,a,k,f,b,l,c⟩:=h;exact ⟨j,fs,n,d,m.i _ _ _ _ g,a,k,f.imm m,b,l.imm m,c⟩
structure Ls (B H:Hp) (ms:List Addr) (cs:List (List V)):Prop where
 c:All2 (λ m c=>H m=some (.lst c)) ms cs
 nd:ms.Nodup
 fr :∀m∈ms,B m=none
theorem Ls.same {B H H':Hp} {ms:List Addr} {cs:List (List V)} (h:Ls B H ms cs) (s:Same H H'):Ls B H' ms cs:=⟨z00 (λ _ _ z=>s _ _ z) h.c,h.nd,h.fr⟩
theorem Ls.at {B H:Hp} {ms:List Addr} {cs:List (List V)} {i:Nat} {m:Addr} {c:List V} (h:Ls B H ms cs) (hm:ms[i]? = some m) (hc:cs[i]? = some c):H m=some (.lst c):=by obtain ⟨d,a,b⟩:=z0r h.c hm;rw [hc] at a;cases a;exact b
theorem Ls.set {B H:Hp} {ms:List Addr} {cs:List (List V)} {i:Nat} {m:Addr} {c:List V} (h:Ls B H ms cs) (hm:ms[i]? = some m):Ls B (upd H m (.lst c)) ms (cs.set i c):=by
 refine ⟨z1n (by rw [Q0];exact z04 h.c) λ k a b f d=>?_,h.nd,h.fr⟩;by_cases z:k=i
 ·subst z;rw [hm] at f;cases f;have l:k < cs.length:=by have:=(List.getElem?_eq_some_iff.mp d).1;rw [Q0] at this;exact this
  rw [K0 l] at d;cases d;exact z03
 ·rw [Y0 (D2 z)] at d;have n:a≠m:=λ e=>by subst e;exact z ((j02 (List.getElem?_eq_some_iff.mp hm).1 h.nd).mp (hm.trans f.symm)).symm
  rw [upd_ne n];obtain ⟨o,g,j⟩:=z0r h.c f;rw [d] at g;cases g;exact j
theorem Ls.snoc {B H:Hp} {ms:List Addr} {cs:List (List V)} {m:Addr} {c:List V} (h:Ls B H ms cs) (hm:H m=some (.lst c)) (nm:m∉ms) (fm:B m=none):Ls B H (ms++[m]) (cs++[c]):=by
 refine ⟨z1g h.c hm,?_,λ x a=>?_⟩
 ·rw [F6];refine ⟨h.nd,List.nodup_cons.mpr ⟨L0,.nil⟩,λ x a y b e=>?_⟩;rw [List.mem_singleton.mp b] at e;exact nm (e ▸ a)
 ·rcases List.mem_append.mp a with a|a
  ·exact h.fr x a
  ·rw [List.mem_singleton.mp a];exact fm
theorem Ls.not {B H:Hp} {ms:List Addr} {cs:List (List V)} {m:Addr} (h:Ls B H ms cs) (e:H m=none):m∉ms:=λ z=>by obtain ⟨i,d,b⟩:=o6 z;obtain ⟨c,_,a⟩:=z0r h.c (v0 d);rw [b,e] at a;cases a
end
section
variable {P:Program} {w:C1} {mg:Str->Option Value} {base:Heap}
def fldC:List Str:=["stock","back","left","idle","letters","events"]
structure Cp (K:j0) (B H:Hp) (cx st lf id lt ev:Addr) (bs es hls:List Addr) (M:CM):Prop where
 ins :∃dx fs,H cx=some (.ins 373 dx fs)/\fs.lookup ("stock" : Str)=some (V.ref st)/\fs.lookup ("back" : Str)=some (V.bl M.back)/\fs.lookup ("left" : Str)=some (V.ref lf)/\fs.lookup ("idle" : Str)=some (V.ref id)/\fs.lookup ("letters" : Str)=some (V.ref lt)/\fs.lookup ("events" : Str)=some (V.ref ev)/\∀m:Str,m∉fldC->fs.lookup m=none
 ct :∃sv lv vv lefts heards,Ls B H (st :: lf :: id :: lt :: ev :: (bs++hls)) (sv :: bs.map V.ref :: M.idle.map V.bl :: lv :: vv :: (lefts++heards))/\lefts.length=bs.length/\All2 (HdAt K H) M.stock sv/\All2 (LtAt K H es) M.letters lv/\All2 (EvV H) M.events vv/\All2 (λ own ys=>All2 (DdV H) own ys) M.left lefts/\All2 (λ (er:Er) hs=>All2 (HdAt K H) er.heard hs) M.ers heards
 er :∀(k:Nat) r,M.ers[k]? = some r->∃e hl,es[k]? = some e/\hls[k]? = some hl/\ErAt K H r e hl
 el:es.length=M.ers.length/\hls.length=M.ers.length/\bs.length=M.left.length
theorem Cp.same {K:j0} {B H H':Hp} {cx st lf id lt ev:Addr} {bs es hls:List Addr} {M:CM} (h:Cp K B H cx st lf id lt ev bs es hls M) (s:Same H H'):Cp K B H' cx st lf id lt ev bs es hls M:=by obtain ⟨d,fs,b,v⟩:=h.ins;obtain ⟨w,p,c,n,q,a,j,u,o,l,i,g⟩:=h.ct;have m:=Imm.of s;refine ⟨⟨d,fs,s _ _ b,v⟩,⟨w,p,c,n,q,a.same s,j,z00 (λ _ _ z=>z.imm m) u,z00 (λ _ _ z=>z.imm m) o,z00 (λ _ _ z=>z.imm m) l,z00 (λ _ _ z=>z00 (λ _ _ z=>z.imm m) z) i,z00 (λ _ _ z=>z00 (λ _ _ z=>z.imm m) z) g⟩,λ k r e=>?_,h.el⟩;obtain ⟨A,t,y,f,x⟩:=h.er k r e;exact ⟨A,t,y,f,x.imm m⟩
theorem z7d {H H':Hp} {cx:Addr} {R:Addr->List (Str×V)->Prop} (m:Imm H H') (h :∃dx fs,H cx=some (.ins 373 dx fs)/\R dx fs) :∃dx fs,H' cx=some (.ins 373 dx fs)/\R dx fs:=by obtain ⟨dx,fs,b,a⟩:=h;exact ⟨dx,fs,m.i _ _ _ _ b,a⟩
theorem Cp.setL {K:j0} {B H:Hp} {cx st lf id lt ev:Addr} {bs es hls:List Addr} {M:CM} {Ls':List Lt} {lv':List V} (h:Cp K B H cx st lf id lt ev bs es hls M) (a :∀H',Imm H H'->All2 (LtAt K H' es) Ls' lv'):Cp K B (upd H lt (.lst lv')) cx st lf id lt ev bs es hls { M with letters:=Ls' }:=by obtain ⟨v,q,f,p,s,b,n,u,A,o,l,j⟩:=h.ct;have d:H lt=some (.lst q):=b.at (i:=3) rfl rfl;have m:Imm H (upd H lt (.lst lv')):=Imm.lst d;refine ⟨z7d m h.ins,⟨v,lv',f,p,s,b.set (i:=3) (c:=lv') rfl,n,z00 (λ _ _ z=>z.imm m) u,a _ m,z00 (λ _ _ z=>z.imm m) o,z00 (λ _ _ z=>z00 (λ _ _ z=>z.imm m) z) l,z00 (λ _ _ z=>z00 (λ _ _ z=>z.imm m) z) j⟩,λ k r e=>?_,h.el⟩;obtain ⟨y,t,x,g,w⟩:=h.er k r e;exact ⟨y,t,x,g,w.imm m⟩
theorem Cp.setS {K:j0} {B H:Hp} {cx st lf id lt ev:Addr} {bs es hls:List Addr} {M:CM} {S':List Hd} {sv':List V} (h:Cp K B H cx st lf id lt ev bs es hls M) (a :∀H',Imm H H'->All2 (HdAt K H') S' sv'):Cp K B (upd H st (.lst sv')) cx st lf id lt ev bs es hls { M with stock:=S' }:=by obtain ⟨v,s,f,p,t,b,n,A,q,o,l,j⟩:=h.ct;have d:H st=some (.lst v):=b.at (i:=0) rfl rfl;have m:Imm H (upd H st (.lst sv')):=Imm.lst d;refine ⟨z7d m h.ins,⟨sv',s,f,p,t,b.set (i:=0) (c:=sv') rfl,n,a _ m,z00 (λ _ _ z=>z.imm m) q,z00 (λ _ _ z=>z.imm m) o,z00 (λ _ _ z=>z00 (λ _ _ z=>z.imm m) z) l,z00 (λ _ _ z=>z00 (λ _ _ z=>z.imm m) z) j⟩,λ k r e=>?_,h.el⟩;obtain ⟨y,u,x,g,w⟩:=h.er k r e;exact ⟨y,u,x,g,w.imm m⟩
theorem Cp.setI {K:j0} {B H:Hp} {cx st lf id lt ev:Addr} {bs es hls:List Addr} {M:CM} {I':List Bool} {iv:List V} (h:Cp K B H cx st lf id lt ev bs es hls M) (a:iv=I'.map V.bl):Cp K B (upd H id (.lst iv)) cx st lf id lt ev bs es hls { M with idle:=I' }:=by subst a;obtain ⟨w,s,f,p,t,b,n,v,q,o,l,j⟩:=h.ct;have d:H id=some (.lst (M.idle.map V.bl)):=b.at (i:=2) rfl rfl;have m:Imm H (upd H id (.lst (I'.map V.bl))):=Imm.lst d;refine ⟨z7d m h.ins,⟨w,s,f,p,t,b.set (i:=2) (c:=I'.map V.bl) rfl,n,z00 (λ _ _ z=>z.imm m) v,z00 (λ _ _ z=>z.imm m) q,z00 (λ _ _ z=>z.imm m) o,z00 (λ _ _ z=>z00 (λ _ _ z=>z.imm m) z) l,z00 (λ _ _ z=>z00 (λ _ _ z=>z.imm m) z) j⟩,λ k r e=>?_,h.el⟩;obtain ⟨A,u,y,g,x⟩:=h.er k r e;exact ⟨A,u,y,g,x.imm m⟩
theorem Cp.setV {K:j0} {B H:Hp} {cx st lf id lt ev:Addr} {bs es hls:List Addr} {M:CM} {E':List CEv} {vv':List V} (h:Cp K B H cx st lf id lt ev bs es hls M) (a :∀H',Imm H H'->All2 (EvV H') E' vv'):Cp K B (upd H ev (.lst vv')) cx st lf id lt ev bs es hls { M with events:=E' }:=by obtain ⟨v,q,f,o,s,b,n,u,p,A,l,j⟩:=h.ct;have d:H ev=some (.lst f):=b.at (i:=4) rfl rfl;have m:Imm H (upd H ev (.lst vv')):=Imm.lst d;refine ⟨z7d m h.ins,⟨v,q,vv',o,s,b.set (i:=4) (c:=vv') rfl,n,z00 (λ _ _ z=>z.imm m) u,z00 (λ _ _ z=>z.imm m) p,a _ m,z00 (λ _ _ z=>z00 (λ _ _ z=>z.imm m) z) l,z00 (λ _ _ z=>z00 (λ _ _ z=>z.imm m) z) j⟩,λ k r e=>?_,h.el⟩;obtain ⟨y,t,x,g,w⟩:=h.er k r e;exact ⟨y,t,x,g,w.imm m⟩
theorem Cp.setW {K:j0} {B H:Hp} {cx st lf id lt ev b:Addr} {bs es hls:List Addr} {M:CM} {k:Nat} {own:List (Option Int)} {ys:List V} (h:Cp K B H cx st lf id lt ev bs es hls M) (hb:bs[k]? = some b) (a :∀H',Imm H H'->All2 (DdV H') own ys):Cp K B (upd H b (.lst ys)) cx st lf id lt ev bs es hls { M with left:=M.left.set k own }:=by
 obtain ⟨o,l,g,i,n,p,A,I,D,C,s,v⟩:=h.ct;have E:k < bs.length:=(List.getElem?_eq_some_iff.mp hb).1;have t:(st :: lf :: id :: lt :: ev :: (bs++hls))[k + 5]? = some b:=by show (bs++hls)[k]? = some b;rw [F1 E];exact hb
 obtain ⟨O,Q,d⟩:=z0r p.c t;have m:Imm H (upd H b (.lst ys)):=Imm.lst d;have u:=p.set (c:=ys) t;have F:(o :: bs.map V.ref :: M.idle.map V.bl :: l :: g :: (i++n)).set (k + 5) ys=o :: bs.map V.ref :: M.idle.map V.bl :: l :: g :: (i.set k ys++n):=by show o :: bs.map V.ref :: M.idle.map V.bl :: l :: g :: (i++n).set k ys=_;rw [List.set_append_left _ _ (by omega)]
 rw [F] at u;refine ⟨z7d m h.ins,⟨o,l,g,i.set k ys,n,u,by rw [Q0];exact A,z00 (λ _ _ z=>z.imm m) I,z00 (λ _ _ z=>z.imm m) D,z00 (λ _ _ z=>z.imm m) C,?_,z00 (λ _ _ z=>z00 (λ _ _ z=>z.imm m) z) v⟩,λ k r e=>?_,h.el.1,h.el.2.1,by rw [Q0];exact h.el.2.2⟩
 ·have w:=z00 (λ _ _ z=>z00 (λ _ _ z=>DdV.imm m z) z) s;refine z1n (by rw [Q0,Q0];exact z04 s) λ j x y d f=>?_;by_cases z:j=k
  ·subst z;rw [K0 (by have:=(List.getElem?_eq_some_iff.mp d).1;rw [Q0] at this;exact this)] at d;rw [K0 (by have:=(List.getElem?_eq_some_iff.mp f).1;rw [Q0] at this;exact this)] at f;cases d;cases f;exact a _ m
  ·rw [Y0 (D2 z)] at d f;obtain ⟨P,q,J⟩:=z0r w d;rw [f] at q;cases q;exact J
 ·obtain ⟨N,G,d,f,L⟩:=h.er k r e;exact ⟨N,G,d,f,L.imm m⟩
theorem Cp.setH {K:j0} {B H:Hp} {cx st lf id lt ev b:Addr} {bs es hls:List Addr} {M:CM} {k:Nat} {er:Er} {hd:List Hd} {ys:List V} (h:Cp K B H cx st lf id lt ev bs es hls M) (hk:M.ers[k]? = some er) (hb:hls[k]? = some b) (a :∀H',Imm H H'->All2 (HdAt K H') hd ys):Cp K B (upd H b (.lst ys)) cx st lf id lt ev bs es hls { M with ers:=M.ers.set k { er with heard:=hd } }:=by
 obtain ⟨o,l,g,i,n,t,w,L,I,G,E,v⟩:=h.ct;have A:(st :: lf :: id :: lt :: ev :: (bs++hls))[bs.length + k + 5]? = some b:=by show (bs++hls)[bs.length + k]? = some b;rw [Z0 (by omega),F4];exact hb
 obtain ⟨O,Q,d⟩:=z0r t.c A;have m:Imm H (upd H b (.lst ys)):=Imm.lst d;have D:=t.set (c:=ys) A;have J:(o :: bs.map V.ref :: M.idle.map V.bl :: l :: g :: (i++n)).set (bs.length + k + 5) ys=o :: bs.map V.ref :: M.idle.map V.bl :: l :: g :: (i++n.set k ys):=by show o :: bs.map V.ref :: M.idle.map V.bl :: l :: g :: (i++n).set (bs.length + k) ys=_;rw [List.set_append_right _ _ (by omega),w,F4]
 rw [J] at D;have C:k < M.ers.length:=(List.getElem?_eq_some_iff.mp hk).1;refine ⟨z7d m h.ins,⟨o,l,g,i,n.set k ys,D,w,z00 (λ _ _ z=>z.imm m) L,z00 (λ _ _ z=>z.imm m) I,z00 (λ _ _ z=>z.imm m) G,z00 (λ _ _ z=>z00 (λ _ _ z=>z.imm m) z) E,?_⟩,λ j r e=>?_,by rw [Q0];exact h.el.1,by rw [Q0];exact h.el.2.1,h.el.2.2⟩
 ·have F:=z00 (λ _ _ z=>z00 (λ _ _ z=>HdAt.imm m z) z) v;refine z1n (by rw [Q0,Q0];exact z04 v) λ j x y d f=>?_;by_cases z:j=k
  ·subst z;rw [K0 C] at d;rw [K0 (by have:=(List.getElem?_eq_some_iff.mp f).1;rw [Q0] at this;exact this)] at f;cases d;cases f;exact a _ m
  ·rw [Y0 (D2 z)] at d f;obtain ⟨P,u,N⟩:=z0r F d;rw [f] at u;cases u;exact N
 ·by_cases z:j=k
  ·subst z;rw [K0 C] at e;cases e;obtain ⟨s,p,d,f,q⟩:=h.er j er hk;exact ⟨s,p,d,f,q.imm m⟩
  ·rw [Y0 (D2 z)] at e;obtain ⟨s,p,d,f,q⟩:=h.er j r e;exact ⟨s,p,d,f,q.imm m⟩
theorem Cp.make {K:j0} {B H:Hp} {cx st lf id lt ev e hl:Addr} {bs es hls:List Addr} {M:CM} {er:Er} (h:Cp K B H cx st lf id lt ev bs es hls M) (he:ErAt K H er e hl) (hh:er.heard=[]) (el:H hl=some (.lst [])) (nl:hl∉st :: lf :: id :: lt :: ev :: (bs++hls)) (fl:B hl=none):Cp K B H cx st lf id lt ev bs (es++[e]) (hls++[hl]) (M.make er):=by
 obtain ⟨s,o,d,m,p,c,j,q,n,l,i,g⟩:=h.ct;have x:=c.snoc el nl fl;refine ⟨h.ins,⟨s,o,d,m,p++[[]],?_,j,q,z00 (λ _ _ z=>z.more e) n,l,i,z1g g (by rw [hh];exact .nil)⟩,λ k r a=>?_,?_⟩
 ·rw [<-A2,<-A2];exact x
 ·have a:(M.ers++[er])[k]? = some r:=a;by_cases z:k < M.ers.length
  ·rw [F1 z] at a;obtain ⟨w,t,v,f,u⟩:=h.er k r a;exact ⟨w,t,by rw [F1 (by rw [h.el.1];exact z)];exact v,by rw [F1 (by rw [h.el.2.1];exact z)];exact f,u⟩
  ·rw [Z0 (by omega)] at a;have b:k - M.ers.length=0:=by have:=(List.getElem?_eq_some_iff.mp a).1;simp only [E3] at this;omega
   rw [b] at a;cases a;exact ⟨e,hl,by rw [Z0 (by rw [h.el.1];omega),h.el.1,b];rfl,by rw [Z0 (by rw [h.el.2.1];omega),h.el.2.1,b];rfl,he⟩
 ·refine ⟨?_,?_,h.el.2.2⟩
  ·show (es++[e]).length=(M.ers++[er]).length;rw [F0,F0,h.el.1];rfl
  ·show (hls++[hl]).length=(M.ers++[er]).length;rw [F0,F0,h.el.2.1];rfl
theorem lk_eq {f:Str} {v:V} {fs:List (Str×V)}:(putF f v fs).lookup f=some v:=by rw [z37,if_pos rfl]
theorem lk_ne {f g:Str} {v:V} {fs:List (Str×V)} (h:g≠f):(putF f v fs).lookup g=fs.lookup g:=by rw [z37,if_neg h]
theorem lk_n {f g:Str} {v:V} {fs:List (Str×V)} {o:Option V} (e:fs.lookup g=o) (h:g≠f:=by decide +kernel):(putF f v fs).lookup g=o:=(lk_ne h).trans e
theorem z5g {x dx:Addr} {o1 o2:HO} {H H':Hp} (hx:H x=none) (hd:H dx=none) (k:Kept x (upd (upd H dx o1) x o2) H'):Same H H':=λ p o e=>by
 have a:p≠x:=λ z=>by rw [z,hx] at e;cases e
 have b:p≠dx:=λ z=>by rw [z,hd] at e;cases e
 exact k p o a (by rw [upd_ne a,upd_ne b];exact e)
def z1d:Sp:=λ vs H Q _=>∃(x dx:Addr) (hv dv kv:V),vs=[.ref x,hv,dv,kv]/\H x=some (.ins 279 dx [])/\∀hl fs H',Kept x H H'->H hl=none->H' hl=some (.lst [])->H' x=some (.ins 279 dx fs)->fs.lookup ("hand" : Str)=some hv->fs.lookup ("deed" : Str)=some dv->fs.lookup ("kept" : Str)=some kv->fs.lookup ("heard" : Str)=some (V.ref hl)->Q .non H'
theorem zg3 (T:TX (kx w) mg):Fo P w mg base (CXE P w base) 1 276 y02 ["self","hand","deed","kept"] z1d:=by
 refine (z2l w.params).okE z4k (λ B H Q E h=>?_) (λ M A K s H B Q E J h=>?_)
 ·obtain ⟨x,l,k,r,D,rfl,_⟩:=h;rfl
 ·obtain ⟨x,l,k,r,D,rfl,ex,q⟩:=h;refine ⟨_,(z02 (ps_fld (pv 0) (pv 1) rfl)
   (z02 (ps_fld (pv 0) (pv 2) rfl)
   (z02 (ps_fld (pv 0) (pv 3) rfl)
   (z05 (ps_fld (pv 0) (pe_lst pa_nil) rfl))))),?_⟩
  refine z3c ⟨_,rfl,z1a Kept.refl ex rfl (z0i _) (z0y _) (n:=0) (J0 _) (by decide) λ I t _ G a=>?_⟩;refine z3c ⟨_,rfl,z1a t G rfl (z0i _) (z0w _) a (by decide) λ L C _ p a=>?_⟩;refine z3c ⟨_,rfl,z1a C p rfl (z0i _) (z0x _) a (by decide) λ f e _ j a=>?_⟩;refine zfc ⟨w_0,λ b c=>?_⟩;have d:=Same.upd (o:=.lst []) c;have i:upd f b (.lst []) b=some (.lst []):=z03;have g:b≠x:=λ z=>by rw [z,j] at c;cases c
  have v:H b=none:=by
   cases z:H b with
   | none=>rfl
   | some o=>rw [e b o g z] at c;cases c
  generalize upd f b (.lst [])=H4 at d i⊢;refine z1a (e.trans d.kept) (d _ _ j) rfl (z0i _) (z1f _) a (by decide) λ y m F u a=>?_;exact q b _ y m v (F _ _ g i) u (lk_n (lk_n (lk_n lk_eq))) (lk_n (lk_n lk_eq)) (lk_n lk_eq) lk_eq
def z1c:Sp:=λ vs H Q _=>∃(x dx:Addr) (ev nv hv:V),vs=[.ref x,ev,nv,hv]/\H x=some (.ins 300 dx [])/\∀fs H',Kept x H H'->H' x=some (.ins 300 dx fs)->fs.lookup ("errand" : Str)=some ev->fs.lookup ("number" : Str)=some nv->fs.lookup ("held" : Str)=some hv->Q .non H'
theorem zgk (T:TX (kx w) mg):Fo P w mg base (CXE P w base) 1 297 y03 ["self","errand","number","held"] z1c:=by
 refine (z2j w.params).okE z4w (λ j H Q E h=>?_) (λ v A t s H j Q E r h=>?_)
 ·obtain ⟨x,e,b,g,l,rfl,_⟩:=h;rfl
 ·obtain ⟨x,e,b,g,l,rfl,ex,q⟩:=h;refine ⟨_,(z02 (ps_fld (pv 0) (pv 1) rfl)
   (z02 (ps_fld (pv 0) (pv 2) rfl)
   (z05 (ps_fld (pv 0) (pv 3) rfl)))),?_⟩
  refine z3c ⟨_,rfl,z1a Kept.refl ex rfl (z1w _) (z1o _) (n:=0) (J0 _) (by decide) λ p i _ o a=>?_⟩;refine z3c ⟨_,rfl,z1a i o rfl (z1w _) (z2t _) a (by decide) λ u k _ f a=>?_⟩;refine zfc ⟨_,rfl,z1a k f rfl (z1w _) (z29 _) a (by decide) λ d c _ m a=>?_⟩;exact q _ d c m (lk_n (lk_n lk_eq)) (lk_n lk_eq) lk_eq
def z1k (K:j0):Sp:=λ vs H Q _=>∃(cx ea:Addr) (B:Hp) (st lf id lt ev:Addr) (bs es hls:List Addr) (M:CM) (e:Nat),vs=[.ref cx,.ref ea]/\Cp K B H cx st lf id lt ev bs es hls M/\es[e]? = some ea/\Same B H/\M.stock.length<=5/\M.letters.length<=10000/\
 ∀H',Same B H'->Cp K B H' cx st lf id lt ev bs es hls (M.send e)->Q .non H'
theorem z85 (T:TX (kx w) mg) (c0:Fo P w mg base (CXE P w base) 1 297 y03 ["self","errand","number","held"] z1c):Fo P w mg base CX0 3 335 y08 ["self","errand"] (z1k (kx w)):=by
 refine (z51 w.params).ok sc_Copies_send (λ vs H Q E h=>?_) (λ a4 A a3 s H vs Q E W h=>?_)
 ·obtain ⟨b,u,B,l,C,id,lt,y,bs,K,J,M,e,rfl,_⟩:=h;rfl
 ·obtain ⟨b,u,B,l,C,id,lt,y,bs,K,J,M,e,rfl,o,he,sB,n5,n4,q⟩:=h;refine ⟨_,(z05 (ps_for Y2 rfl (z15 rfl (T.no (z2s _)) (z01 (z07 z0n rfl (T.no (n_len _)) G2 (z01 (pe_fld (pv 0) rfl) pa_nil)) pa_nil)) (z0f (i:=2) sc_Copies_send.nd rfl (K1 rfl))
   (z05 (z0h (z0p (pe_fld (pv 0) rfl) (z01 (z72 (zbh _) c0 (W.mono (by decide)) rfl (T.of (zee _)) (z2h _) .nil passN (z01 (pv 1) (z01 (pv 2) (z01 pe_non pa_nil)))) pa_nil)))))),?_⟩
  obtain ⟨j,fs,g,F,i3,i4,i5,I,i7,i8⟩:=o.ins;obtain ⟨t,a,R,a0,a1,c,c2,D,p,c5,c6,Y⟩:=o.ct;have N:t.length=M.stock.length:=z04 D;refine ⟨_,rfl,b,_,j,fs,_,rfl,g,z09 _,z0u _,F,.inl ⟨l,t,rfl,.inl (SqL.of (c.at (i:=0) rfl rfl)),_,rfl,by omega,by omega,?_⟩⟩;rw [S5,N];refine z2d (lo:=0) (n:=M.stock.length) (λ i σ r=>∃x2,Same B r/\Cp (kx w) B r b l C id lt y bs K J { M with letters:=M.letters++(U0 i).map λ k=>⟨e,k,none⟩ }/\σ=[some (.ref b),some (.ref u),x2]) ⟨_,sB,?_,rfl⟩ ?_ ?_
  ·have V:({ M with letters:=M.letters++(U0 0).map λ k=>(⟨e,k,none⟩:Lt) }:CM)=M:=by rw [List.range_zero,K7,F2]
   rw [V];exact o
  ·rintro i σ f hi ⟨x2,s2,cp2,rfl⟩;rw [R7];refine g_name ?_;obtain ⟨j,fs,g,F,i3,i4,i5,I,i7,i8⟩:=cp2.ins;obtain ⟨t,a,R,a0,a1,c,c2,D,p,c5,c6,Y⟩:=cp2.ct;have v:f lt=some (.lst a):=c.at (i:=3) rfl rfl;have Z:a.length<=10005:=by have:=z04 p;rw [this,F0,C0,T2];omega
   refine ⟨_,rfl,b,_,j,fs,_,rfl,g,z09 _,z0t _,I,.inl ⟨rfl,a,SqL.of v⟩,_,rfl,_,rfl,λ x G hx a2 ne=>?_⟩;refine ⟨x,G,_,_,_,rfl,z03,λ U O L e3 f1 S f3=>⟨rfl,?_⟩⟩;have d:Same f O:=z5g hx a2 L;have X:=cp2.same d;refine ⟨lt,a,_,rfl,rfl,d _ _ v,V0 Z (by decide),?_⟩;refine ⟨_,Same.keep (s2.trans d) (c.fr lt (by simp)),?_,rfl⟩;have:=X.setL (Ls':=M.letters++(U0 (i + 1)).map λ k=>⟨e,k,none⟩) (lv':=a++[.ref x]) λ r m=>?_
   ·exact this
   ·rw [j13,P1,<-A2];exact z1g (z00 (λ _ _ z=>(z.imm (Imm.of d)).imm m) p) ⟨x,G,U,u,.non,rfl,m.i _ _ _ _ e3,he,f1,S,f3,rfl⟩
  ·rintro σ f ⟨x2,s2,cp2,rfl⟩;exact q f s2 cp2
def z1b (K:j0):Sp:=λ vs H Q _=>∃(cx ea:Addr) (wd:Int) (B:Hp) (st lf id lt ev:Addr) (bs es hls:List Addr) (M:CM) (e:Nat) (er:Er),vs=[.ref cx,.ref ea,.int wd]/\Cp K B H cx st lf id lt ev bs es hls M/\es[e]? = some ea/\M.ers[e]? = some er/\er.hand < M.idle.length/\Same B H/\M.events.length<=10000/\
 ∀H',Same B H'->Cp K B H' cx st lf id lt ev bs es hls (M.stop er wd)->Q .non H'
theorem z4j (T:TX (kx w) mg):Fo P w mg base CX0 1 370 y04 ["self","errand","worth"] (z1b (kx w)):=by
 refine (z2i w.params).ok z4f (λ vs H Q E h=>?_) (λ a5 A a2 s H vs Q E hr h=>?_)
 ·obtain ⟨C,v,r,B,X,lf,id,lt,l,bs,es,Z,M,e,b,rfl,_⟩:=h;rfl
 ·obtain ⟨C,v,r,B,X,lf,id,lt,l,bs,es,Z,M,e,b,rfl,u,he,a0,hh,sB,n4,q⟩:=h;refine ⟨_,(z02 (ps_asg pe_bl (pg_sub (pe_fld (pv 0) rfl) (pe_fld (pv 1) rfl) z25))
   (z05 (z0h (z0p (pe_fld (pv 0) rfl) (z01 (pe_tup (z01 pe_str (z01 (pe_fld (pv 1) rfl) (z01 (zjf (z0a opEq (pe_ix ix_seq (pe_fld (pv 1) rfl) pe_int (λ _ _=>rfl)) pe_str (nomark _)) pe_str (pv 2)) pa_nil)))) pa_nil))))),?_⟩
  obtain ⟨W,fs,O,i2,i3,i4,i5,i6,i7,i8⟩:=u.ins;obtain ⟨I,hl,U,e2,D,F,dv,kv,G,S,j3,j4,j5,j6,j7⟩:=u.er e b a0;rw [he] at U;cases U;obtain ⟨sv,lv,k,a3,a4,n,c2,c3,c4,R,c6,c7⟩:=u.ct;have L:H id=some (.lst (M.idle.map V.bl)):=n.at (i:=2) rfl rfl;refine ⟨_,rfl,C,_,W,fs,_,rfl,O,z09 _,z1l _,i5,_,rfl,v,_,D,F,_,rfl,G,z0i _,z0y _,S,id,_,_,b.hand,rfl,rfl,L,z6n (by rw [C0];exact hh),?_⟩;have K:=u.setI (I':=M.idle.set b.hand true) (iv:=(M.idle.map V.bl).set b.hand (.bl true)) (by rw [L8]);have g:Imm H (upd H id (.lst ((M.idle.map V.bl).set b.hand (.bl true)))):=Imm.lst L;have N:Same B (upd H id (.lst ((M.idle.map V.bl).set b.hand (.bl true)))):=Same.keep sB (n.fr id (by simp));have x:=(n.set (i:=2) (c:=(M.idle.map V.bl).set b.hand (.bl true)) rfl).at (i:=4) rfl rfl;generalize upd H id (.lst ((M.idle.map V.bl).set b.hand (.bl true)))=H1 at K g N x⊢;refine t_nx ?_;have J:k.length<=10000:=by rw [z04 R];exact n4
  obtain ⟨p,rfl,Y⟩:=j4;refine ⟨_,rfl,C,_,W,fs,_,rfl,g.i _ _ _ _ O,z09 _,z14 _,i7,.inl ⟨rfl,k,SqL.of x⟩,_,rfl,v,_,D,F,_,rfl,g.i _ _ _ _ G,z0i _,z0y _,S,?_⟩;refine ⟨_,rfl,v,_,D,F,_,rfl,g.i _ _ _ _ G,z0i _,z0w _,j3,.inr (.inl ⟨p,_,0,.str (vbD b.deed),rfl,rfl,SqT.of (g.t _ _ Y),z08 (j:=0) rfl,rfl,_,rfl,?_⟩)⟩;have fin :∀(a:V),a=avD (ansC b.deed r)->∀d,H1 d=none->Q .non (upd (upd H1 d (.tup [.str "end",.int b.hand,a])) l (.lst (k++[.ref d]))):=λ a I d f=>by subst I;have y:=Same.upd (o:=.tup [.str "end",.int b.hand,avD (ansC b.deed r)]) f;have a1:=K.same y;refine q _ (Same.keep (N.trans y) (n.fr l (by simp))) (a1.setV (E':=M.events++[.fin b.hand (ansC b.deed r)]) (vv':=k++[.ref d]) λ H' m=>?_);exact z1g (z00 (λ _ _ z=>z.imm (g.trans ((Imm.of y).trans m))) R) ⟨d,rfl,m.t _ _ z03⟩
  cases hd:b.deed with
  | none=>refine iteK ⟨_,rfl,w_3,λ d f=>?_⟩;refine ⟨l,k,_,rfl,rfl,(Same.upd f) _ _ x,V0 J (by decide),fin _ (by rw [hd];rfl) d f⟩
  | some i=>refine iteP (show decide (V.str "write" = V.str "write")=true by decide +kernel) ⟨w_3,λ d f=>?_⟩;refine ⟨l,k,_,rfl,rfl,(Same.upd f) _ _ x,V0 J (by decide),fin _ (by rw [hd];rfl) d f⟩
theorem z8g {H:Hp} {a b:Addr} {o:HO} (h:upd H a o b=none):b≠a/\H b=none:=by
 have n:b≠a:=λ z=>by rw [z,z03] at h;cases h
 rw [upd_ne n] at h;exact ⟨n,h⟩
theorem z4v {K:j0} {H:Hp} :∀{hs:List Hd} {vs:List V},All2 (HdAt K H) hs vs->∃ps:List (Addr×Hd),vs=ps.map (λ x=>V.ref x.1)/\ps.map (·.2)=hs/\∀x∈ps,∃q,SqT K H x.1 [.ref q,.int x.2.2]/\SqT K H q [.int x.2.1.1,.int x.2.1.2]
 | _,_,.nil=>⟨[],rfl,rfl,λ _ h=>nomatch h⟩
 | x :: _,_,.cons a r=>by
  obtain ⟨ps,e,c,f⟩:=z4v r;obtain ⟨p,q,rfl,d,g⟩:=a;refine ⟨(p,x) :: ps,by rw [e];rfl,by rw [W1,c],λ y b=>?_⟩;rcases List.mem_cons.mp b with rfl|b
  ·exact ⟨q,d,g⟩
  ·exact f y b
theorem zji {d:Option Int}:decide (V.str (vbD d)=V.str "write")=d.isSome:=by
 cases d with
 | none=>decide +kernel
 | some i=>exact (show decide (V.str "write" = V.str "write")=true by decide +kernel)
def z0z (K:j0):Sp:=λ vs H Q _=>∃(cx ea:Addr) (B:Hp) (st lf id lt ev:Addr) (bs es hls:List Addr) (M:CM) (e:Nat) (er:Er),vs=[.ref cx,.ref ea]/\Cp K B H cx st lf id lt ev bs es hls M/\es[e]? = some ea/\M.ers[e]? = some er/\er.heard≠[]/\er.hand < M.idle.length/\Same B H/\M.stock.length<=5/\M.letters.length<=10000/\M.events.length<=10000/\
 ∀es' hls' H',Same B H'->Cp K B H' cx st lf id lt ev bs es' hls' (M.ask er)->(∀(k:Nat) a,es[k]? = some a->es'[k]? = some a)->Q .non H'
theorem z1t (T:TX (kx w) mg) (c0:Fo P w mg base (CXE P w base) 1 276 y02 ["self","hand","deed","kept"] z1d) (c8:Fo P w mg base CX0 3 335 y08 ["self","errand"] (z1k (kx w))) (c9:Fo P w mg base CX0 1 370 y04 ["self","errand","worth"] (z1b (kx w))):Fo P w mg base CX0 4 363 y00 ["self","errand"] (z0z (kx w)):=by
 refine (z11 w.params).ok sc_Copies_go_on_from_asking (λ vs H Q E h=>?_) (λ d0 A b9 s H vs Q E G h=>?_)
 ·obtain ⟨t,l,B,Z,lf,id,lt,ev,bs,es,K,M,e,er,rfl,_⟩:=h;rfl
 ·obtain ⟨t,l,B,Z,lf,id,lt,ev,bs,es,K,M,e,er,rfl,D,he,a4,b5,hh,sB,n5,nl,nv,q⟩:=h;refine ⟨_,(z02 (ps_set (i:=2) sc_Copies_go_on_from_asking.nd rfl (K1 rfl) (z07 (zbg rfl G) rfl (T.no (n_max _)) boot_max (z01 (pe_fld (pv 1) rfl) pa_nil)))
   (z05 (ps_if (z0a opEq (pe_ix ix_seq (pe_fld (pv 1) rfl) pe_int (λ _ _=>rfl)) pe_str (nomark _))
   (z05 (z0h (z2r (pv 0) (z09 _) (z27 _) c8 (G.mono (by decide)) (z2y _) .nil pass0 (z01 (z72 (z7p _) c0 (G.mono (by decide)) rfl (T.of (zb9 _)) (z1i _) .nil passN (z01 (pe_fld (pv 1) rfl) (z01 (pe_fld (pv 1) rfl) (z01 (pe_tup (z01 (pe_tup (z01 (pe_op opAdd (pe_ix ix_seq (pe_ix ix_seq (pv 2) pe_int (λ _ _=>rfl)) pe_int (λ _ _=>rfl)) pe_int) (z01 (pe_fld (pv 1) rfl) pa_nil))) (z01 (pe_ix ix_seq (pe_fld (pv 1) rfl) pe_int (λ _ _=>rfl)) pa_nil))) pa_nil)))) pa_nil))))
   (z05 (ps_if (pt_val (pe_fld (pv 0) rfl) (λ _=>rfl))
   (z05 (z0h (z2r (pv 0) (z09 _) (z27 _) c8 (G.mono (by decide)) (z2y _) .nil pass0 (z01 (z72 (z7p _) c0 (G.mono (by decide)) rfl (T.of (zb9 _)) (z1i _) .nil passN (z01 (pe_fld (pv 1) rfl) (z01 (pe_fld (pv 1) rfl) (z01 (pv 2) pa_nil)))) pa_nil))))
   (z05 (z0h (z2r (pv 0) (z09 _) (z23 _) c9 (G.mono (by decide)) (z2n _) .nil pass0 (z01 (pv 1) (z01 (pe_ix ix_seq (pv 2) pe_int (λ _ _=>rfl)) pa_nil)))))))))),?_⟩
  obtain ⟨dx,fs,i1,i2,i3,i4,i5,i6,i7,i8⟩:=D.ins;obtain ⟨b8,hl,e1,e2,u,v,dv,kv,C,j2,j3,j4,j5,j6,j7⟩:=D.er e er a4;rw [he] at e1;cases e1;obtain ⟨sv,lv,vv,b0,b2,c1,c2,c3,c4,c5,c6,c7⟩:=D.ct;obtain ⟨hs,a9,ah⟩:=z0r c7 a4;have b6:H hl=some (.lst hs):=by
   refine c1.at (i:=bs.length + e + 5) ?_ ?_
   ·show (bs++K)[bs.length + e]? = some hl;rw [Z0 (by omega),F4];exact e2
   ·show (b0++b2)[bs.length + e]? = some hs;rw [Z0 (by omega),c2,F4];exact a9
  obtain ⟨ps,rfl,a2,a6⟩:=z4v ah;cases ps with
  | nil=>exact absurd a2.symm b5
  | cons m r=>
  refine z0b ⟨_,rfl,l,_,u,v,_,rfl,C,z0i _,z1f _,j7,hl,m,r,rfl,SqL.of b6,a6,λ b hb hg=>g_name ?_⟩;have a0:maxHd er.heard=b.2:=by rw [<-a2];refine zey (F7 hb) λ x F=>?_;obtain ⟨y,hy,rfl⟩:=List.mem_map.mp F;exact hg y hy
  obtain ⟨bq,a3,a7⟩:=a6 b hb;obtain ⟨p,rfl,ep⟩:=j4;have b1 :∀{c:Addr},H c=none->c∉Z :: lf :: id :: lt :: ev :: (bs++K):=λ z=>c1.not z;have go :∀(a1:V) (Y:Hd) (n:Hp),Same H n->HdAt (kx w) n Y a1->M.ask er=(M.make ⟨er.hand,er.deed,some Y,[]⟩).send M.ers.length->∀(x d:Addr),n x=none->n d=none->∀(c:Addr) (f:List (Str×V)) (g:Hp),Kept x (upd (upd n d (.own x)) x (.ins 279 d [])) g->upd (upd n d (.own x)) x (.ins 279 d []) c=none->g c=some (.lst [])->g x=some (.ins 279 d f)->f.lookup ("hand" : Str)=some (V.int er.hand)->f.lookup ("deed" : Str)=some (V.ref p)->f.lookup ("kept" : Str)=some a1->f.lookup ("heard" : Str)=some (V.ref c)->z1k (kx w) [.ref t,.ref x] g Q E0:=by intro a1 Y n s1 b4 ask x d F I c f g U S L O J W X N;have s3:Same n g:=z5g F I U;have a8:n c=none:=(z8g (z8g S).2).2;have fh:H c=none:=s1.free a8;have a5:=s1.trans s3;have b3:=(D.same a5).make (er:=⟨er.hand,er.deed,some Y,[]⟩) (e:=x) (hl:=c) ⟨d,f,_,a1,O,J,W,⟨p,rfl,a5 _ _ ep⟩,X,b4.imm (Imm.of s3),N⟩ rfl L (b1 fh) (sB.free fh);refine ⟨t,x,B,Z,lf,id,lt,ev,bs,es++[x],K++[c],_,M.ers.length,rfl,b3,by rw [Z0 (by rw [D.el.1];exact J0 _),D.el.1,R6];rfl,sB.trans a5,n5,nl,λ H' s' R=>?_⟩;rw [<-ask] at R;exact q _ _ H' s' R λ k a ek=>by rw [F1 (List.getElem?_eq_some_iff.mp ek).1];exact ek
  refine z1j ⟨_,rfl,l,_,u,v,_,rfl,C,z0i _,z0w _,j3,.inr (.inl ⟨p,_,0,.str (vbD er.deed),rfl,rfl,SqT.of ep,z08 (j:=0) rfl,rfl,_,rfl,?_⟩)⟩;rw [zji];cases hd:er.deed with
  | some w0=>
   refine iteP rfl ?_;have ask:M.ask er=(M.make ⟨er.hand,er.deed,some (((maxHd er.heard).1.1 + 1,er.hand),w0),[]⟩).send M.ers.length:=by unfold CM.ask;rw [hd]
   rw [hd] at ep;refine ⟨_,rfl,t,dx,fs,rfl,i1,i8 _ (by decide +kernel),?_⟩;refine ⟨_,rfl,l,_,u,v,_,rfl,C,z0i _,z0y _,j2,_,rfl,l,_,u,v,_,rfl,C,z0i _,z0w _,j3,?_⟩;refine ⟨_,rfl,.inr (.inl ⟨b.1,_,0,.ref bq,rfl,rfl,a3,z08 (j:=0) rfl,.inr (.inl ⟨bq,_,0,.int b.2.1.1,rfl,rfl,a7,z08 (j:=0) rfl,.inl ⟨_,_,rfl,rfl,?_⟩⟩)⟩)⟩;refine ⟨_,rfl,l,_,u,v,_,rfl,C,z0i _,z0y _,j2,w_2,λ p1 b7=>?_⟩;have u1:=Same.upd (o:=.tup [.int (b.2.1.1 + 1),.int er.hand]) b7;refine ⟨_,rfl,l,_,u,v,_,rfl,u1 _ _ C,z0i _,z0w _,j3,.inr (.inl ⟨p,_,1,.int w0,rfl,rfl,SqT.of (u1 _ _ ep),z08 (j:=1) rfl,w_2,λ p2 a2=>?_⟩)⟩;have u2:=Same.upd (o:=.tup [.ref p1,.int w0]) a2;have ek:HdAt (kx w) (upd (upd H p1 (.tup [.int (b.2.1.1 + 1),.int er.hand])) p2 (.tup [.ref p1,.int w0])) (((maxHd er.heard).1.1 + 1,(er.hand:Int)),w0) (.ref p2):=⟨p2,p1,rfl,SqT.of z03,by rw [a0];exact SqT.of (u2 _ _ z03)⟩
   refine λ x d F I ne=>⟨x,d,_,_,_,rfl,z03,λ c f g U S L O J W X N=>⟨rfl,?_⟩⟩
   exact go _ _ _ (u1.trans u2) ek ask x d F I c f g U S L O J W X N
  | none=>
   refine iteN (by decide) ?_;refine z1j ⟨_,rfl,t,_,dx,fs,_,rfl,i1,z09 _,z4c _,i3,_,rfl,?_⟩;by_cases bk:M.back=true
   ·refine iteP bk ?_;have ask:M.ask er=(M.make ⟨er.hand,er.deed,some (maxHd er.heard),[]⟩).send M.ers.length:=by unfold CM.ask;rw [hd];exact if_pos bk
    refine ⟨_,rfl,t,dx,fs,rfl,i1,i8 _ (by decide +kernel),?_⟩;refine ⟨_,rfl,l,_,u,v,_,rfl,C,z0i _,z0y _,j2,_,rfl,l,_,u,v,_,rfl,C,z0i _,z0w _,j3,_,rfl,?_⟩;refine λ x d F I ne=>⟨x,d,_,_,_,rfl,z03,λ c f g U S L O J W X N=>⟨rfl,?_⟩⟩
    exact go _ _ _ (Same.refl _) ⟨b.1,bq,rfl,by rw [a0];exact a3,by rw [a0];exact a7⟩ ask x d F I c f g U S L O J W X N
   ·refine iteN bk ?_;have ask:M.ask er=M.stop er (maxHd er.heard).2:=by unfold CM.ask;rw [hd];exact if_neg bk
    refine ⟨_,rfl,t,dx,fs,rfl,i1,i8 _ (by decide +kernel),_,rfl,_,rfl,.inr (.inl ⟨b.1,_,1,.int b.2.2,rfl,rfl,a3,z08 (j:=1) rfl,?_⟩)⟩;refine ⟨t,l,b.2.2,B,Z,lf,id,lt,ev,bs,es,K,M,e,er,rfl,D,he,a4,hh,sB,nv,λ H' s' R=>?_⟩;rw [<-a0,<-ask] at R;exact q _ _ H' s' R λ _ _ z=>z
theorem Cp.heard {K:j0} {B H:Hp} {cx st lf id lt ev:Addr} {bs es hls:List Addr} {M:CM} {e:Nat} {er:Er} {ea:Addr} (cp:Cp K B H cx st lf id lt ev bs es hls M) (he:es[e]? = some ea) (her:M.ers[e]? = some er) :∃hl hs,hls[e]? = some hl/\H hl=some (.lst hs)/\All2 (HdAt K H) er.heard hs/\ErAt K H er ea hl/\hl∈st :: lf :: id :: lt :: ev :: (bs++hls):=by
 obtain ⟨m,hl,c,a,f⟩:=cp.er e er her;rw [he] at c;cases c;obtain ⟨t,r,n,k,l,g,j,s,q,p,o,h⟩:=cp.ct;obtain ⟨hs,i,d⟩:=z0r h her;have b:(st :: lf :: id :: lt :: ev :: (bs++hls))[bs.length + e + 5]? = some hl:=by show (bs++hls)[bs.length + e]? = some hl;rw [Z0 (by omega),F4];exact a
 refine ⟨hl,hs,a,g.at b ?_,d,f,T0 b⟩;show (k++l)[bs.length + e]? = some hs;rw [Z0 (by omega),j,F4];exact i
theorem Cp.fr {K:j0} {B H:Hp} {cx st lf id lt ev:Addr} {bs es hls:List Addr} {M:CM} (cp:Cp K B H cx st lf id lt ev bs es hls M) {m:Addr} (hm:m∈st :: lf :: id :: lt :: ev :: (bs++hls)):B m=none:=by obtain ⟨c,d,f,b,e,a,_⟩:=cp.ct;exact a.fr m hm
def z1p (K:j0):Sp:=λ vs H Q _=>∃(cx ea:Addr) (hv:V) (B:Hp) (st lf id lt ev:Addr) (bs es hls:List Addr) (M:CM) (e:Nat) (er:Er) (x:Hd),vs=[.ref cx,.ref ea,hv]/\Cp K B H cx st lf id lt ev bs es hls M/\es[e]? = some ea/\M.ers[e]? = some er/\HdAt K H x hv/\er.hand < M.idle.length/\Same B H/\M.stock.length<=5/\M.letters.length<=10000/\M.events.length<=10000/\er.heard.length<=10000/\
 ∀es' hls' H',Same B H'->Cp K B H' cx st lf id lt ev bs es' hls' (M.comeBack e er x)->Q .non H'
theorem z3s (T:TX (kx w) mg) (c0:Fo P w mg base CX0 1 370 y04 ["self","errand","worth"] (z1b (kx w))) (c8:Fo P w mg base CX0 4 363 y00 ["self","errand"] (z0z (kx w))):Fo P w mg base CX0 5 356 y06 ["self","errand","held"] (z1p (kx w)):=by
 refine (z1x w.params).ok z3m (λ vs H Q E h=>?_) (λ a9 A a6 s H vs Q E hr h=>?_)
 ·obtain ⟨g,l,d,B,p,v,id,lt,D,bs,o,n,M,e,b,x,rfl,_⟩:=h;rfl
 ·obtain ⟨g,l,d,B,p,v,id,lt,D,bs,o,n,M,e,b,x,rfl,J,K,N,hx,Y,sB,n5,nl,nv,nh,q⟩:=h;refine ⟨_,(z02 (z0h (z0p (pe_fld (pv 1) rfl) (z01 (pv 2) pa_nil)))
   (z02 (ps_if (z0a opNe (z07 z0n rfl (T.no (n_len _)) G2 (z01 (pe_fld (pv 1) rfl) pa_nil)) (pe_op opAdd (pe_op z1r (z07 z0n rfl (T.no (n_len _)) G2 (z01 (pe_fld (pv 0) rfl) pa_nil)) pe_int) pe_int) (nomark _))
   (z05 z7c)
   z0e)
   (z05 (ps_if (z0a z6g (pe_fld (pv 1) rfl) pe_non (nomark _))
   (z05 (z0h (z2r (pv 0) (z09 _) (z23 _) c0 (hr.mono (by decide)) (z2n _) .nil pass0 (z01 (pv 1) (z01 (pe_ix ix_seq (pe_fld (pv 1) rfl) pe_int (λ _ _=>rfl)) pa_nil)))))
   (z05 (z0h (z2r (pv 0) (z09 _) (z1u _) c8 (hr.mono (by decide)) (z1z _) .nil pass0 (z01 (pv 1) pa_nil)))))))),?_⟩
  obtain ⟨f,a,e2,S,U,⟨y,C,dv,kv,F,j2,j3,j4,W,t,Z⟩,mh⟩:=J.heard K N;have a3:a.length=b.heard.length:=z04 U;refine ⟨_,rfl,l,_,y,C,_,rfl,F,z0i _,z1f _,Z,.inl ⟨rfl,a,SqL.of S⟩,_,rfl,f,a,_,rfl,rfl,S,V0 (m:=10000) (by omega) (by decide),?_⟩;have r:Imm H (upd H f (.lst (a++[d]))):=Imm.lst S;have c:=J.setH (hd:=b.heard++[x]) (ys:=a++[d]) N e2 λ G m=>z1g (z00 (λ _ _ z=>z.imm m) U) (hx.imm m);have u:Same B (upd H f (.lst (a++[d]))):=Same.keep sB (J.fr mh);have e1:upd H f (.lst (a++[d])) f=some (.lst (a++[d])):=z03;generalize upd H f (.lst (a++[d]))=H1 at r c u e1⊢;have c:Cp (kx w) B H1 g p v id lt D bs o n { M with ers:=M.ers.set e (b.hear x) }:=c;have kl:e < M.ers.length:=(List.getElem?_eq_some_iff.mp N).1;have a1:({ M with ers:=M.ers.set e (b.hear x) }:CM).ers[e]? = some (b.hear x):=K0 kl;obtain ⟨R,fs,I,i2,i3,i4,i5,i6,i7,i8⟩:=c.ins;obtain ⟨X,lv,vv,a7,a8,c1,c2,c3,c4,c5,c6,c7⟩:=c.ct;have a2:X.length=M.stock.length:=z04 c3;refine t_nx (sq_if ?_);refine ⟨_,rfl,l,_,y,C,_,rfl,r.i _ _ _ _ F,z0i _,z1f _,Z,.inl ⟨f,_,rfl,.inl (SqL.of e1),?_⟩⟩;refine ⟨_,rfl,g,_,R,fs,_,rfl,I,z09 _,z0u _,i2,.inl ⟨p,X,rfl,.inl (SqL.of (c1.at (i:=0) rfl rfl)),_,_,rfl,rfl,⟨by decide,by decide⟩,.inl ⟨_,_,rfl,rfl,rfl,_,rfl,?_⟩⟩⟩;have a0:(b.hear x).heard.length=a.length + 1:=by show (b.heard++[x]).length=_;rw [F0,a3];rfl
  have ll:(a++[d]).length=a.length + 1:=by rw [F0];rfl
  rw [ll,a2];unfold CM.comeBack at q;by_cases ne:(b.hear x).heard.length≠M.stock.length / 2 + 1
  ·rw [if_pos ne] at q;refine iteP ?_ (q o n H1 u c);have:V.int ((a.length + 1:Nat):Int)≠V.int ((M.stock.length:Int) / 2 + 1):=λ z=>by injection z with z;rw [a0] at ne;omega
   simpa using this
  rw [if_neg ne] at q;refine iteN ?_ (t_nx ?_)
  ·have:V.int ((a.length + 1:Nat):Int)=V.int ((M.stock.length:Int) / 2 + 1):=by congr 1;rw [a0] at ne;omega
   simpa using this
  refine z1j ⟨_,rfl,l,_,y,C,_,rfl,r.i _ _ _ _ F,z0i _,z0x _,W,rfl,_,rfl,?_⟩;cases hk:b.kept with
  | some k=>
   rw [hk] at q t;obtain ⟨kp,kq,rfl,k1,k2⟩:=(show HdAt (kx w) H k kv from t)
   refine iteP (by simp) ?_;refine ⟨_,rfl,g,R,fs,rfl,I,i8 _ (by decide +kernel),_,rfl,_,rfl,l,_,y,C,_,rfl,r.i _ _ _ _ F,z0i _,z0x _,W,.inr (.inl ⟨kp,_,1,.int k.2,rfl,rfl,r.seqT k1,z08 (j:=1) rfl,?_⟩)⟩;exact ⟨g,l,k.2,B,p,v,id,lt,D,bs,o,n,_,e,_,rfl,c,K,a1,Y,u,nv,λ G O L=>q o n G O L⟩
  | none=>rw [hk] at q t;cases (show kv=.non from t);refine iteN (by simp) ?_;refine ⟨_,rfl,g,R,fs,rfl,I,i8 _ (by decide +kernel),_,rfl,?_⟩;exact ⟨g,l,B,p,v,id,lt,D,bs,o,n,_,e,_,rfl,c,K,a1,(by show b.heard++[x]≠[];simp),Y,u,n5,nl,nv,λ a4 a5 G O L _=>q a4 a5 G O L⟩
theorem zg6 {α:Type} {R:α->V->Prop} {xs:List α} {ys:List V} {n:Nat} {x:α} {y:V} (h:All2 R xs ys) (r:R x y):All2 R (xs.set n x) (ys.set n y):=by
 induction h generalizing n with
 | nil=>exact .nil
 | cons a t ih=>
  cases n with
  | zero=>exact .cons r t
  | succ n=>exact .cons a ih
def z16 (K:j0):Sp:=λ vs H Q _=>∃(cx ea:Addr) (n:Nat) (B:Hp) (st lf id lt ev:Addr) (bs es hls:List Addr) (M:CM) (e:Nat) (er:Er) (x:Hd),vs=[.ref cx,.ref ea,.int n]/\Cp K B H cx st lf id lt ev bs es hls M/\es[e]? = some ea/\M.ers[e]? = some er/\M.stock[n]? = some x/\Same B H/\M.letters.length<=10000/\
 ∀H',Same B H'->Cp K B H' cx st lf id lt ev bs es hls (M.comeTo e er n x)->Q .non H'
theorem z2p (T:TX (kx w) mg) (c0:Fo P w mg base (CXE P w base) 1 297 y03 ["self","errand","number","held"] z1c):Fo P w mg base CX0 3 349 y01 ["self","errand","number"] (z16 (kx w)):=by
 refine (z1h w.params).ok z2o (λ vs H Q E h=>?_) (λ b9 A b3 s H vs Q E hr h=>?_)
 ·obtain ⟨b,d,n,B,c,J,id,lt,W,bs,Z,I,M,e,a,x,rfl,_⟩:=h;rfl
 ·obtain ⟨b,d,n,B,c,J,id,lt,W,bs,Z,I,M,e,a,x,rfl,t,he,a8,C,sB,nl,q⟩:=h;refine ⟨_,(z02 (ps_if (PW.pt (pw_and (z0a z6g (pe_fld (pv 1) rfl) pe_non (nomark _)) (z2w (z0a (op_gtT hr) (pe_ix ix_seq (pe_fld (pv 1) rfl) pe_int (λ _ _=>rfl)) (pe_ix ix_seq (pe_ix ix_seq (pe_fld (pv 0) rfl) (pv 2) (λ _ _=>rfl)) pe_int (λ _ _=>rfl)) (nomark _)))))
   (z05 (ps_asg (pe_fld (pv 1) rfl) (pg_sub (pe_fld (pv 0) rfl) (pv 2) z25)))
   z0e)
   (z05 (z0h (z0p (pe_fld (pv 0) rfl) (z01 (z72 (zbh _) c0 (hr.mono (by decide)) rfl (T.of (zee _)) (z2h _) .nil passN (z01 (pv 1) (z01 (pv 2) (z01 (pe_ix ix_seq (pe_fld (pv 0) rfl) (pv 2) (λ _ _=>rfl)) pa_nil)))) pa_nil))))),?_⟩
  obtain ⟨hl,hs,e2,b8,ah,⟨N,R,dv,kv,Y,j2,j3,j4,G,v,j7⟩,mh⟩:=t.heard he a8;obtain ⟨u,fs,r,y,i3,i4,i5,i6,i7,i8⟩:=t.ins;obtain ⟨o,lv,vv,b4,b5,c1,c2,c3,c4,c5,c6,c7⟩:=t.ct;have X:H c=some (.lst o):=c1.at (i:=0) rfl rfl;obtain ⟨sx,a1,U,xq,rfl,x1,x2⟩:=z0r c3 C;have a6:atI o (n:Nat)=some (.ref U):=z08 a1;have hn:n < o.length:=(List.getElem?_eq_some_iff.mp a1).1;refine z97 (λ g f=>Same B f/\Cp (kx w) B f b c J id lt W bs Z I { M with stock:=M.stock.set n (keepH a.kept x) }/\Imm H f/\g=[some (.ref b),some (.ref d),some (.int n)]) ?_ (λ F=>?_)
  ·rintro g f ⟨s1,cp1,m1,rfl⟩;obtain ⟨u,fs,r,y,i3,i4,i5,i6,i7,i8⟩:=cp1.ins;obtain ⟨a2,l,b7,b6,b2,L,d2,d3,d4,d5,d6,d7⟩:=cp1.ct;have a9:(M.stock.set n (keepH a.kept x))[n]? = some (keepH a.kept x):=K0 (List.getElem?_eq_some_iff.mp C).1;obtain ⟨S,a7,hy⟩:=z0r d3 a9;have el:f lt=some (.lst l):=L.at (i:=3) rfl rfl;have ll:l.length<=10000:=by rw [z04 d4];exact nl
   refine ⟨_,rfl,b,_,u,fs,_,rfl,r,z09 _,z0t _,i6,.inl ⟨rfl,l,SqL.of el⟩,_,rfl,_,rfl,_,rfl,b,_,u,fs,_,rfl,r,z09 _,z0u _,y,_,rfl,.inl ⟨c,a2,_,S,rfl,rfl,SqL.of (L.at (i:=0) rfl rfl),z08 a7,λ K a0 b1 a3 ne=>?_⟩⟩;refine ⟨K,a0,_,_,_,rfl,z03,λ b0 H3 k3 e3 f1 f2 f3=>⟨rfl,?_⟩⟩;have p:Same f H3:=z5g b1 a3 k3;have a5:=cp1.same p;refine ⟨lt,l,_,rfl,rfl,p _ _ el,V0 ll (by decide),?_⟩;refine q _ (Same.keep (s1.trans p) (L.fr lt (by simp))) ?_;exact a5.setL (Ls':=M.letters++[⟨e,n,some (keepH a.kept x)⟩]) (lv':=l++[.ref K]) λ H' m=>z1g (x:=(⟨e,n,some (keepH a.kept x)⟩:Lt)) (z00 (λ _ _ z=>(z.imm (Imm.of p)).imm m) d4) ⟨K,a0,b0,d,S,rfl,m.i _ _ _ _ e3,he,f1,f2,f3,(show OptHd (kx w) H' (some (keepH a.kept x)) S from (hy.imm (Imm.of p)).imm m)⟩
  ·have same:keepH a.kept x=x->∀g,g=[some (V.ref b),some (V.ref d),some (V.int n)]->Same B H/\Cp (kx w) B H b c J id lt W bs Z I { M with stock:=M.stock.set n (keepH a.kept x) }/\Imm H H/\g=[some (V.ref b),some (V.ref d),some (V.int n)]:=λ O g a4=>by
    have e0:M.stock.set n (keepH a.kept x)=M.stock:=by
     rw [O];apply n8;intro j;by_cases z:j=n
     ·subst z;rw [K0 (List.getElem?_eq_some_iff.mp C).1,C]
     ·rw [Y0 (D2 z)]
    refine ⟨sB,?_,Imm.of (Same.refl _),a4⟩;rw [e0];exact t
   refine z1j ⟨_,rfl,d,_,N,R,_,rfl,Y,z0i _,z0x _,G,rfl,_,rfl,?_⟩;cases hk:a.kept with
   | none=>rw [hk] at v;cases (show kv=.non from v);exact iteN (by simp) (F _ _ (same (by rw [hk];rfl) _ rfl))
   | some k=>
    rw [hk] at v;obtain ⟨kp,D,rfl,k1,k2⟩:=(show HdAt (kx w) H k kv from v)
    refine iteP (by simp) ?_;refine ⟨_,rfl,d,_,N,R,_,rfl,Y,z0i _,z0x _,G,.inr (.inl ⟨kp,_,0,.ref D,rfl,rfl,k1,z08 (j:=0) rfl,?_⟩)⟩;refine ⟨_,rfl,b,_,u,fs,_,rfl,r,z09 _,z0u _,y,_,rfl,.inl ⟨c,o,_,.ref U,rfl,rfl,SqL.of X,a6,.inr (.inl ⟨U,_,0,.ref xq,rfl,rfl,x1,z08 (j:=0) rfl,?_⟩)⟩⟩;refine ⟨D,xq,k.1,x.1,rfl,rfl,k2,x2,_,rfl,?_⟩;by_cases gt:gtI k.1 x.1=true
    ·refine iteP gt ?_;refine ⟨_,rfl,d,_,N,R,_,rfl,Y,z0i _,z0x _,G,_,rfl,b,_,u,fs,_,rfl,r,z09 _,z0u _,y,_,rfl,c,o,_,n,rfl,rfl,X,z6n hn,?_⟩;refine F _ _ ⟨Same.keep sB (c1.fr c (by simp)),t.setS λ H' m=>?_,Imm.lst X,rfl⟩;have O:keepH a.kept x=k:=by rw [hk];exact if_pos gt
     rw [O];exact zg6 (z00 (λ _ _ z=>z.imm m) c3) ⟨kp,D,rfl,m.seqT k1,m.seqT k2⟩
    ·exact iteN gt (F _ _ (same (by rw [hk];exact if_neg gt) _ rfl))
theorem z2e {X:Cx} {K:j0} (hK:X.K=K):CallR X (.builtin "len") (λ xs H Q=>(∃p ys,xs=[.ref p]/\(SqL K H p ys\/SqT K H p ys)/\Q (.int ys.length) H)\/∃z,xs=[.str z]/\z.length<=sizeLine/\Q (.int z.length) H):=hK ▸ z0n
theorem z8b {j n:Nat} (h:j < n):PySem.seqIndex? (j:Int) n=some j:=by
 unfold PySem.seqIndex?;have:¬ ((j:Int) < 0):=by omega
 simp only [if_neg this];rw [if_pos (by simp [h])];rfl
def z3b (K:j0):Sp:=λ vs H Q _=>∃(cx:Addr) (v:V) (B:Hp) (st lf id lt ev:Addr) (bs es hls:List Addr) (M:CM) (L:Lt) (er:Er) (x:Hd),vs=[.ref cx,v]/\Cp K B H cx st lf id lt ev bs es hls M/\LtAt K H es L v/\M.ers[L.e]? = some er/\M.stock[L.num]? = some x/\er.hand < M.idle.length/\Same B H/\M.stock.length<=5/\M.letters.length<=10000/\M.events.length<=10000/\er.heard.length<=10000/\
 ∀es' hls' H',Same B H'->Cp K B H' cx st lf id lt ev bs es' hls' (M.come L)->Q .non H'
theorem z6u (T:TX (kx w) mg) (c0:Fo P w mg base CX0 3 349 y01 ["self","errand","number"] (z16 (kx w))) (c1:Fo P w mg base CX0 5 356 y06 ["self","errand","held"] (z1p (kx w))):Fo P w mg base CX0 6 342 y0b ["self","letter"] (z3b (kx w)):=by
 refine (z4a w.params).ok z6p (λ vs H Q E h=>?_) (λ a2 A a1 s H vs Q E G h=>?_)
 ·obtain ⟨b,v,B,o,m,id,lt,l,bs,k,j,M,L,C,x,rfl,_⟩:=h;rfl
 ·obtain ⟨b,v,B,o,m,id,lt,l,bs,k,j,M,L,C,x,rfl,p,⟨f,d,g,S,i,rfl,c,J,I,l4,N,a⟩,t,O,Y,K,n5,U,W,X,q⟩:=h;refine ⟨_,(z05 (ps_if (z0a op_isN (pe_fld (pv 1) rfl) pe_non (nomark _))
   (z05 (z0h (z2r (pv 0) (z09 _) (z2q _) c0 (G.mono (by decide)) (z32 _) .nil pass0 (z01 (pe_fld (pv 1) rfl) (z01 (pe_fld (pv 1) rfl) pa_nil)))))
   (z05 (z0h (z2r (pv 0) (z09 _) (z3o _) c1 (G.mono (by decide)) (z45 _) .nil pass0 (z01 (pe_fld (pv 1) rfl) (z01 (pe_fld (pv 1) rfl) pa_nil))))))),?_⟩
  obtain ⟨F,fs,D,i2,i3,i4,i5,i6,i7,R⟩:=p.ins;refine z1j ⟨_,rfl,f,_,d,g,_,rfl,c,z1w _,z29 _,N,rfl,_,rfl,?_⟩;unfold CM.come at q;rw [t,O] at q;cases hk:L.held with
  | none=>rw [hk] at q a;cases (show i=.non from a);refine iteP (by simp) ?_;refine ⟨_,rfl,b,F,fs,rfl,D,R _ (by decide +kernel),_,rfl,f,_,d,g,_,rfl,c,z1w _,z1o _,I,_,rfl,f,_,d,g,_,rfl,c,z1w _,z2t _,l4,?_⟩;exact ⟨b,S,L.num,B,o,m,id,lt,l,bs,k,j,M,L.e,C,x,rfl,p,J,t,O,K,U,λ r u n=>q k j r u n⟩
  | some y=>
   rw [hk] at q a;have a:HdAt (kx w) H y i:=a;have V:i≠.non:=λ z=>by obtain ⟨_,_,e,_⟩:=a;rw [z] at e;cases e
   refine iteN (by simpa using V) ?_;refine ⟨_,rfl,b,F,fs,rfl,D,R _ (by decide +kernel),_,rfl,f,_,d,g,_,rfl,c,z1w _,z1o _,I,_,rfl,f,_,d,g,_,rfl,c,z1w _,z29 _,N,?_⟩;exact ⟨b,S,i,B,o,m,id,lt,l,bs,k,j,M,L.e,C,y,rfl,p,J,t,a,Y,K,n5,U,W,X,λ Z a0 r u n=>q Z a0 r u n⟩
theorem Cp.own {K:j0} {B H:Hp} {cx st lf id lt ev:Addr} {bs es hls:List Addr} {M:CM} {h:Nat} {own:List (Option Int)} (cp:Cp K B H cx st lf id lt ev bs es hls M) (ho:M.left[h]? = some own) :∃b ys,bs[h]? = some b/\H b=some (.lst ys)/\All2 (DdV H) own ys/\b∈st :: lf :: id :: lt :: ev :: (bs++hls):=by
 obtain ⟨n,o,q,d,g,i,p,s,l,r,e,m⟩:=cp.ct;have k:h < M.left.length:=(List.getElem?_eq_some_iff.mp ho).1;have a:h < bs.length:=by rw [cp.el.2.2];exact k
 obtain ⟨ys,j,f⟩:=z0r e ho;have c:(st :: lf :: id :: lt :: ev :: (bs++hls))[h + 5]? = some bs[h]:=by show (bs++hls)[h]? = some bs[h];rw [F1 a];exact v0 a
 refine ⟨bs[h],ys,v0 a,i.at c ?_,f,T0 c⟩;show (d++g)[h]? = some ys;rw [F1 (by omega)];exact j
def z1s (K:j0):Sp:=λ vs H Q _=>∃(cx:Addr) (h:Nat) (B:Hp) (st lf id lt ev:Addr) (bs es hls:List Addr) (M:CM) (d:Option Int) (rest:List (Option Int)),vs=[.ref cx,.int h]/\Cp K B H cx st lf id lt ev bs es hls M/\M.left[h]? = some (d :: rest)/\h < M.idle.length/\Same B H/\M.stock.length<=5/\M.letters.length<=10000/\M.events.length<=10000/\
 ∀es' hls' H',Same B H'->Cp K B H' cx st lf id lt ev bs es' hls' (M.start h d rest)->Q .non H'
theorem z3v (T:TX (kx w) mg) (c0:Fo P w mg base (CXE P w base) 1 276 y02 ["self","hand","deed","kept"] z1d) (c8:Fo P w mg base CX0 3 335 y08 ["self","errand"] (z1k (kx w))):Fo P w mg base CX0 4 328 y05 ["self","hand"] (z1s (kx w)):=by
 refine (z1v w.params).ok sc_Copies_begin_deed (λ vs H Q E h=>?_) (λ c9 A b9 s H vs Q E hr h=>?_)
 ·obtain ⟨v,h,B,st,Y,id,lt,f,bs,es,a5,M,d,rest,rfl,_⟩:=h;rfl
 ·obtain ⟨v,h,B,st,Y,id,lt,f,bs,es,a5,M,d,rest,rfl,n,ho,hi,sB,n5,nl,nv,q⟩:=h;refine ⟨_,(z02 (ps_set (i:=2) sc_Copies_begin_deed.nd rfl (K1 rfl) (zew (pe_ix ix_seq (pe_fld (pv 0) rfl) (pv 1) (λ _ _=>rfl)) (z01 pe_int pa_nil)))
   (z02 (ps_asg pe_bl (pg_sub (pe_fld (pv 0) rfl) (pv 1) z25))
   (z02 (z0h (z0p (pe_fld (pv 0) rfl) (z01 (pe_op opAdd (pe_tup (z01 pe_str (z01 (pv 1) (z01 pe_str pa_nil)))) (pv 2)) pa_nil)))
   (z05 (z0h (z2r (pv 0) (z09 _) (z27 _) c8 (hr.mono (by decide)) (z2y _) .nil pass0 (z01 (z72 (z7p _) c0 (hr.mono (by decide)) rfl (T.of (zb9 _)) (z1i _) .nil passN (z01 (pv 1) (z01 (pv 2) (z01 pe_non pa_nil)))) pa_nil))))))),?_⟩
  obtain ⟨u,fs,k,i2,X,G,I,i6,L,J⟩:=n.ins;obtain ⟨b,ys,hb,O,ay,mb⟩:=n.own ho;obtain ⟨W,lv,a,R,U,c,Z,c3,S,C,c6,c7⟩:=n.ct;cases ay with
  | cons a0 ar=>
  rename_i y zs;have b2:atI (bs.map V.ref) (h:Nat)=some (.ref b):=z08 (by rw [N0,hb];rfl);refine z0b ⟨_,rfl,v,_,u,fs,_,rfl,k,z09 _,z2b _,G,_,rfl,.inl ⟨Y,_,_,.ref b,rfl,rfl,SqL.of (c.at (i:=1) rfl rfl),b2,.inl ⟨rfl,_,SqL.of O⟩,b,_,0,0,y,rfl,rfl,O,by decide,by decide,z8b (j:=0) (Nat.succ_pos _),rfl,?_⟩⟩;have m1:Imm H (upd H b (.lst zs)):=Imm.lst O;have D:=n.setW (own:=rest) (ys:=zs) hb λ H' m=>z00 (λ _ _ z=>z.imm m) ar;have s1:Same B (upd H b (.lst zs)):=Same.keep sB (n.fr mb);refine g_name ?_;have a1:=a0.imm m1;show tSeq _ _ _ _ (upd H b (.lst zs));generalize upd H b (.lst zs)=H1 at m1 D s1 a1⊢;obtain ⟨u,fs,k,i2,X,G,I,i6,L,J⟩:=D.ins;obtain ⟨W,lv,a,R,U,c,Z,c3,S,C,c6,c7⟩:=D.ct;have ei:H1 id=some (.lst (M.idle.map V.bl)):=c.at (i:=2) rfl rfl;refine ⟨_,rfl,v,_,u,fs,_,rfl,k,z09 _,z1l _,I,_,rfl,id,_,_,h,rfl,rfl,ei,z6n (by rw [C0];exact hi),?_⟩;have K:=D.setI (I':=M.idle.set h false) (iv:=(M.idle.map V.bl).set h (.bl false)) (by rw [L8]);have m2:Imm H1 (upd H1 id (.lst ((M.idle.map V.bl).set h (.bl false)))):=Imm.lst ei;have s2:Same B (upd H1 id (.lst ((M.idle.map V.bl).set h (.bl false)))):=Same.keep s1 (c.fr id (by simp));have a2:=a1.imm m2;generalize upd H1 id (.lst ((M.idle.map V.bl).set h (.bl false)))=H2 at K m2 s2 a2⊢;refine t_nx ?_;obtain ⟨u,fs,k,i2,X,G,I,i6,L,J⟩:=K.ins;obtain ⟨W,lv,a,R,U,c,Z,c3,S,C,c6,c7⟩:=K.ct;have a8:a.length<=10000:=by rw [z04 C];exact nv
  have a4:H2 f=some (.lst a):=c.at (i:=4) rfl rfl;obtain ⟨p,rfl,ep⟩:=a2;refine ⟨_,rfl,v,_,u,fs,_,rfl,k,z09 _,z14 _,L,.inl ⟨rfl,a,SqL.of a4⟩,_,rfl,w_3,λ p1 b8=>?_⟩;have u1:=Same.upd (o:=.tup [.str "begin",.int h,.str "r"]) b8;refine ⟨_,rfl,.inr (.inr (.inr ⟨p1,p,_,_,rfl,rfl,SqT.of z03,SqT.of (u1 _ _ ep),List.cons_ne_nil _ _,(show 3 + 2<=sizeLine by decide),(λ z=>nomatch z),λ _ g b3=>?_⟩))⟩;have l:=u1.trans (Same.upd (o:=.tup ([.str "begin",.int h,.str "r"]++[.str (vbD d),wvD d])) b3);have e2:upd (upd H2 p1 (.tup [.str "begin",.int h,.str "r"])) g (.tup ([.str "begin",.int h,.str "r"]++[.str (vbD d),wvD d])) g=some (.tup [.str "begin",.int h,.str "r",.str (vbD d),wvD d]):=z03;generalize upd (upd H2 p1 (.tup [.str "begin",.int h,.str "r"])) g (.tup ([.str "begin",.int h,.str "r"]++[.str (vbD d),wvD d]))=H3 at l e2⊢;have b1:=K.same l;refine ⟨f,a,_,rfl,rfl,l _ _ a4,V0 a8 (by decide),?_⟩;have m4:Imm H3 (upd H3 f (.lst (a++[.ref g]))):=Imm.lst (l _ _ a4);have F:=b1.setV (E':=M.events++[.beg h d]) (vv':=a++[.ref g]) λ H' m=>z1g (z00 (λ _ _ z=>z.imm ((Imm.of l).trans m)) C) (x:=CEv.beg h d) ⟨g,rfl,m.t _ _ e2⟩;have N:Same B (upd H3 f (.lst (a++[.ref g]))):=Same.keep (s2.trans l) (c.fr f (by simp));have a7:=m4.t _ _ (l _ _ ep);generalize upd H3 f (.lst (a++[.ref g]))=H4 at m4 F N a7⊢;refine t_nx ?_;obtain ⟨u,fs,k,i2,X,G,I,i6,L,J⟩:=F.ins;obtain ⟨W,lv,a,R,U,c,Z,c3,S,C,c6,c7⟩:=F.ct;refine ⟨_,rfl,v,u,fs,rfl,k,J _ (by decide +kernel),_,rfl,_,rfl,λ x a6 hx a9 ne=>?_⟩;refine ⟨x,a6,_,_,_,rfl,z03,λ a3 b7 H5 k5 b6 b0 e5 f1 f2 f3 f4=>⟨rfl,?_⟩⟩;have s5:Same H4 H5:=z5g hx a9 k5;have fh:H4 a3=none:=(z8g (z8g b6).2).2;have b5:=(F.same s5).make (er:=⟨h,d,none,[]⟩) (e:=x) (hl:=a3) ⟨a6,b7,_,.non,e5,f1,f2,⟨p,rfl,s5 _ _ a7⟩,f3,rfl,f4⟩ rfl b0 (c.not fh) (N.free fh);refine ⟨v,x,B,st,Y,id,lt,f,bs,es++[x],a5++[a3],_,M.ers.length,rfl,b5,by rw [Z0 (by rw [n.el.1];exact J0 _),n.el.1,R6];rfl,N.trans s5,n5,nl,λ H' s' b4=>q _ _ H' s' b4⟩
theorem zkd {p:Nat->Bool} {n:Nat} {ys:List V} (h:All2 (λ (i:Nat) y=>y=V.int (i:Int)) ((U0 n).filter p) ys):ys=((U0 n).filter p).map λ i=>V.int ((i:Nat):Int):=z1m h
def z3e (K:j0):Sp:=λ vs H Q _=>∃(cx:Addr) (c:Int) (B:Hp) (st lf id lt ev:Addr) (bs es hls:List Addr) (M:CM) (n:Nat),vs=[.ref cx,.int c]/\Cp K B H cx st lf id lt ev bs es hls M/\WfM M n/\n<=1000/\Same B H/\
 ∀es' hls' H',Same B H'->Cp K B H' cx st lf id lt ev bs es' hls' (M.go c)->Q .non H'
theorem z71 (T:TX (kx w) mg) (c8:Fo P w mg base CX0 4 328 y05 ["self","hand"] (z1s (kx w))) (c10:Fo P w mg base CX0 6 342 y0b ["self","letter"] (z3b (kx w))):Fo P w mg base CX0 7 321 y0a ["self","choice"] (z3e (kx w)):=by
 refine (z44 w.params).ok sc_Copies_go_on (λ vs H Q E h=>?_) (λ d6 A d1 s H vs Q E hr h=>?_)
 ·obtain ⟨r,c,B,st,U,id,lt,ev,bs,es,a0,M,n,rfl,_⟩:=h;rfl
 ·obtain ⟨r,c,B,st,U,id,lt,ev,bs,es,a0,M,n,rfl,cp,D,n1,sB,q⟩:=h;refine ⟨_,(z02 (zdl (i:=2) sc_Copies_go_on.nd rfl (K1 rfl) (xs:=["hand","own"]) (g:=gTup (kx w) 2 (gCons (gName 0) (gCons (gName 1) gNil))) (fr:=[(0,"self")]) rfl (zik rfl (T.no (zce _)) (z01 (pe_fld (pv 0) rfl) pa_nil)) (by intro p hp;obtain rfl:=List.mem_singleton.mp hp;first|exact ⟨rfl,.inl rfl⟩|exact ⟨rfl,.inr rfl⟩) (zjq (n:="self") (by decide +kernel) (λ _=>by first|exact .inl rfl|exact .inr rfl)) (by intro p hp;obtain rfl:=List.mem_singleton.mp hp;exact ⟨by decide +kernel,by first|exact .inl rfl|exact .inr rfl⟩) (by decide +kernel) rfl (by decide +kernel) (λ _ _ _ _ _=>(pg_tup rfl (z0g (pg_cn (N:=["hand","own","self"]) 0) (z0g (pg_cn (N:=["hand","own","self"]) 1) z42)))) (λ _ _ _ _ _=>(pf_one (PW.pt (pw_and (z0a op_gt (z07 (z2e (K:=KX w.params) rfl) rfl (T.no (n_len _)) G2 (z01 (pv 1) pa_nil)) pe_int (nomark _)) (z2w (pt_val (pe_ix (z7e (K:=KX w.params) rfl) (zkg (K:=KX w.params) rfl (pv 2) rfl) (pv 0) (λ _ _=>rfl)) (λ _=>rfl))))))) (λ _ _ _ _ _=>(pv 0)))
   (z02 (ps_set (i:=3) sc_Copies_go_on.nd rfl (K1 rfl) (z07 (z2e (K:=KX w.params) rfl) rfl (T.no (n_len _)) G2 (z01 (pe_fld (pv 0) rfl) pa_nil)))
   (z02 (ps_if (z0a opEq (pe_op opAdd (z07 (z2e (K:=KX w.params) rfl) rfl (T.no (n_len _)) G2 (z01 (pv 2) pa_nil)) (pv 3)) pe_int (nomark _))
   (z05 z7c)
   z0e)
   (z02 (ps_set (i:=4) sc_Copies_go_on.nd rfl (K1 rfl) (pe_op op_mod (pv 1) (pe_op opAdd (z07 (z2e (K:=KX w.params) rfl) rfl (T.no (n_len _)) G2 (z01 (pv 2) pa_nil)) (pe_op op_mul pe_int (pv 3)))))
   (z02 (ps_if (z0a op_lt (pv 4) (z07 (z2e (K:=KX w.params) rfl) rfl (T.no (n_len _)) G2 (z01 (pv 2) pa_nil)) (nomark _))
   (z02 (z0h (z2r (pv 0) (z09 _) (z3t _) c8 (hr.mono (by decide)) (z40 _) .nil pass0 (z01 (pe_ix ix_seq (pv 2) (pv 4) (λ _ _=>rfl)) pa_nil)))
   (z05 z7c))
   z0e)
   (z02 (ps_set (i:=5) sc_Copies_go_on.nd rfl (K1 rfl) (zew (pe_fld (pv 0) rfl) (z01 (pe_op op_mod (pe_op op_sub (pv 4) (z07 (z2e (K:=KX w.params) rfl) rfl (T.no (n_len _)) G2 (z01 (pv 2) pa_nil))) (pv 3)) pa_nil)))
   (z05 (ps_if (z0a op_lt (pv 4) (pe_op opAdd (z07 (z2e (K:=KX w.params) rfl) rfl (T.no (n_len _)) G2 (z01 (pv 2) pa_nil)) (pv 3)) (nomark _))
   (z05 (z0h (z2r (pv 0) (z09 _) (z6r _) c10 (hr.mono (by decide)) (z7i _) .nil pass0 (z01 (pv 5) pa_nil))))
   z0e)))))))),?_⟩
  obtain ⟨Y,fs,F,i2,i3,i4,i5,i6,i7,i8⟩:=cp.ins;obtain ⟨sv,u,vv,d3,d4,Z,c2,c3,c4,c5,c6,c7⟩:=cp.ct;have lb:=cp.el.2.2;have l6:=D.l6;have il:=D.il;have ll:=z04 c4;have d2:=D.ln;have d5:=D.vn;have W:H lt=some (.lst u):=Z.at (i:=3) rfl rfl;have b6:H id=some (.lst (M.idle.map V.bl)):=Z.at (i:=2) rfl rfl;refine z0b ?_;refine zh1 (K:=KX w.params) (a:=U) (xs:=bs.map V.ref) (H1:=H) (λ i=>M.rdy i) (λ i y _=>y=V.int (i:Int)) (λ _ _ _ _ _ z=>z) (λ T h=>⟨_,rfl,r,_,Y,fs,_,rfl,F,z09 _,z2b _,i4,h⟩) (SqL.of (Z.at (i:=1) rfl rfl)) (by rw [C0];exact O0 (m:=6) (by omega) (by decide)) ?_ ?_
  ·intro i hi v I l hv KT KF k1 k2;obtain ⟨x,p,hx,rfl,ep⟩:=hv;have b9:i < M.left.length:=by rw [C0] at hi;omega
   have G:M.left[i]? = some M.left[i]:=v0 b9;generalize M.left[i]=own at G;obtain ⟨b,ys,hb,eb,ay,mb⟩:=cp.own G;rw [N0,hb] at hx;cases hx;have ly:=z04 ay;have a9:M.idle[i]? = some M.idle[i]:=v0 (by omega);generalize M.idle[i]=bi at a9;have er:M.rdy i=(!own.isEmpty && bi):=by unfold CM.rdy;rw [G,a9];rfl
   rw [er] at k1 k2;refine ⟨p,_,rfl,SqT.of ep,rfl,_,_,rfl,_,_,rfl,rfl,[some (.int (i:Int)),some (.ref b)],rfl,rfl,?_⟩;refine ⟨_,rfl,.inl ⟨b,ys,rfl,.inl (SqL.of (l _ _ eb)),_,_,rfl,rfl,_,rfl,?_⟩⟩;cases own with
   | nil=>refine iteN (λ e=>absurd (of_decide_eq_true e) (by rw [ly];decide)) ?_;exact iteN (by decide) (k2 rfl _ (Same.refl _))
   | cons o1 o2=>
    refine iteP (decide_eq_true (by rw [ly,A1];omega)) ?_;refine ⟨_,rfl,r,_,Y,fs,_,rfl,l _ _ F,z09 _,z1l _,i5,_,rfl,.inl ⟨id,_,_,.bl bi,rfl,rfl,SqL.of (l _ _ b6),z08 (by rw [N0,a9];rfl),_,rfl,?_⟩⟩;cases bi with
    | true=>exact iteP rfl ⟨_,rfl,k1 rfl _ _ (Same.refl _) rfl⟩
    | false=>exact iteN (by decide) (k2 rfl _ (Same.refl _))
  intro C H1 ys s1 b1 b4;rw [C0,lb] at b4;have ey:=zkd b4;have ey:ys=M.ready.map λ i=>V.int ((i:Nat):Int):=ey;subst ey;have l:=s1.trans (Same.upd (o:=.lst (M.ready.map λ i=>V.int ((i:Nat):Int))) b1);have S:upd H1 C (.lst (M.ready.map λ i=>V.int ((i:Nat):Int))) C=some (.lst (M.ready.map λ i=>V.int ((i:Nat):Int))):=z03;generalize upd H1 C (.lst (M.ready.map λ i=>V.int ((i:Nat):Int)))=I at l S⊢;have a7:=cp.same l;have b0:=sB.trans l;have F:=l _ _ F;have W:=l _ _ W;refine g_name ?_;refine z0b ⟨_,rfl,r,_,Y,fs,_,rfl,F,z09 _,z0t _,i6,.inl ⟨lt,u,rfl,.inl (SqL.of W),g_name ?_⟩⟩;have X:(M.ready.map λ i=>V.int ((i:Nat):Int)).length=M.ready.length:=C0 _;have r6:M.ready.length<=6:=by have:=L5 M.rdy (U0 M.left.length);rw [T2] at this;exact O0 this l6
  refine sq_if ⟨_,rfl,.inl ⟨C,_,rfl,.inl (SqL.of S),_,rfl,.inl ⟨_,_,rfl,rfl,rfl,_,rfl,?_⟩⟩⟩;rw [X,ll];unfold CM.go at q;by_cases z0:M.ready.length + M.letters.length=0
  ·rw [if_pos z0] at q;exact iteP (decide_eq_true (by congr 1;omega)) (q es a0 I b0 a7)
  rw [if_neg z0] at q;refine iteN (λ e=>z0 (by have:=of_decide_eq_true e;injection this;omega)) (t_nx ?_);refine z0b ⟨_,rfl,_,rfl,.inl ⟨C,_,rfl,.inl (SqL.of S),_,rfl,_,_,rfl,rfl,.inl ⟨by decide,by decide⟩,.inl ⟨_,_,rfl,rfl,_,_,rfl,rfl,(by show (0:Int) < _;rw [X];omega),?_⟩⟩⟩;rw [X];have c0:=D6 c (show ((M.ready.length:Int) + 2 * (M.letters.length:Int))≠0 by omega);have c9:=C5 c (show 0 < ((M.ready.length:Int) + 2 * (M.letters.length:Int)) by omega);obtain ⟨f,a5⟩ :∃f:Nat,c % ((M.ready.length:Int) + 2 * (M.letters.length:Int))=(f:Int):=⟨_,(P9 c0).symm⟩
  rw [a5,S5] at q;rw [a5] at c9;show gName 4 (V.int (c % ((M.ready.length:Int) + 2 * (M.letters.length:Int)))) _ _ _;rw [a5];refine g_name ?_;refine sq_if ⟨_,rfl,_,rfl,.inl ⟨C,_,rfl,.inl (SqL.of S),_,_,rfl,rfl,_,rfl,?_⟩⟩;rw [X];dsimp only at q;by_cases lt1:f < M.ready.length
  ·rw [if_pos lt1] at q;refine iteP (decide_eq_true (by omega)) ?_;have a8:M.ready[f]? = some M.ready[f]:=v0 lt1;have a1:M.ready[f]∈M.ready:=Z2 lt1;generalize M.ready[f]=h at a8 a1;rw [a8] at q;have a1:h∈(U0 M.left.length).filter M.rdy:=a1;obtain ⟨m1,m2⟩:=List.mem_filter.mp a1;have hl:h < M.left.length:=List.mem_range.mp m1;have G:M.left[h]? = some M.left[h]:=v0 hl;generalize M.left[h]=own at G;have q :∀J O j,Same B j->Cp (kx w) B j r st U id lt ev bs J O (match M.left[h]? with|some (d :: rest)=>M.start h d rest|_=>M)->Q .non j:=q;rw [G] at q;have m2:(!(M.left[h]?.getD []).isEmpty && M.idle[h]?.getD false)=true:=m2;rw [G] at m2;cases own with
   | nil=>cases m2
   | cons d rest=>
   refine ⟨_,rfl,r,Y,fs,rfl,F,i8 _ (by decide +kernel),_,rfl,_,rfl,.inl ⟨C,_,_,.int (h:Nat),rfl,rfl,SqL.of S,z08 (by rw [N0,a8];rfl),?_⟩⟩;exact ⟨r,h,B,st,U,id,lt,ev,bs,es,a0,M,d,rest,rfl,a7,G,by omega,b0,D.st.2,by omega,by omega,λ J O j s' a4=>q J O j s' a4⟩
  rw [if_neg lt1] at q;refine iteN (λ e=>lt1 (by have:=of_decide_eq_true e;omega)) (t_nx ?_);have b8:0 < M.letters.length:=by omega
  obtain ⟨k,hk⟩ :∃k:Nat,(f - M.ready.length) % M.letters.length=k/\k < M.letters.length:=⟨_,rfl,j26 _ b8⟩
  rw [hk.1] at q;have a6:((f:Int) - (M.ready.length:Int)) % (M.letters.length:Int)=(k:Int):=by rw [<-hk.1,show (f:Int) - (M.ready.length:Int)=((f - M.ready.length:Nat):Int) by omega];rfl
  have hL:M.letters[k]? = some M.letters[k]:=v0 hk.2;have mL:M.letters[k]∈M.letters:=Z2 hk.2;generalize M.letters[k]=L at hL mL;rw [hL] at q;obtain ⟨v,hv,aL⟩:=z0r c4 hL;refine z0b ⟨_,rfl,r,_,Y,fs,_,rfl,F,z09 _,z0t _,i6,.inl ⟨rfl,u,SqL.of W⟩,_,rfl,_,rfl,.inl ⟨C,_,rfl,.inl (SqL.of S),_,_,rfl,rfl,_,rfl,_,_,rfl,rfl,(by show (0:Int) < (M.letters.length:Int);omega),?_⟩⟩;rw [X];refine ⟨lt,u,_,k,v,rfl,rfl,W,?_,?_,?_,hv,?_⟩
  ·rw [a6];omega
  ·rw [a6];omega
  ·rw [a6];exact z8b (by rw [ll];exact hk.2)
  have b7 :∀{α:Type} {R:α->V->Prop} {xs:List α} {zs:List V} (n:Nat),All2 R xs zs->All2 R (xs.eraseIdx n) (zs.eraseIdx n):=by
   intro α R xs zs n h;induction h generalizing n with
   | nil=>exact .nil
   | cons a t ih=>
    cases n with
    | zero=>exact t
    | succ n=>exact .cons a (ih n)
  have m3:Imm I (upd I lt (.lst (u.eraseIdx k))):=Imm.lst W;have a3:=a7.setL (Ls':=M.letters.eraseIdx k) (lv':=u.eraseIdx k) λ j m=>b7 k (z00 (λ _ _ z=>(z.imm (Imm.of l)).imm m) c4);have s3:Same B (upd I lt (.lst (u.eraseIdx k))):=Same.keep b0 (Z.fr lt (by simp));have b2:=(aL.imm (Imm.of l)).imm m3;have e3:upd I lt (.lst (u.eraseIdx k)) C=some (.lst (M.ready.map λ i=>V.int ((i:Nat):Int))):=by
   rw [upd_ne (λ z=>by have h0:=s1.free b1;have h1:=Z.at (i:=3) (m:=lt) (c:=u) rfl rfl;rw [z,h1] at h0;cases h0)];exact S
  refine g_name ?_;show tIfS _ _ _ _ _ (upd I lt (.lst (u.eraseIdx k)));generalize upd I lt (.lst (u.eraseIdx k))=H3 at m3 a3 s3 b2 e3⊢;refine z1j ⟨_,rfl,_,rfl,.inl ⟨C,_,rfl,.inl (SqL.of e3),_,rfl,.inl ⟨_,_,rfl,rfl,_,_,rfl,rfl,_,rfl,?_⟩⟩⟩;rw [X];have q :∀J O j,Same B j->Cp (kx w) B j r st U id lt ev bs J O (if f < M.ready.length + M.letters.length then CM.come { M with letters:=M.letters.eraseIdx k } L else { M with letters:=M.letters.eraseIdx k })->Q .non j:=q;by_cases lt2:f < M.ready.length + M.letters.length
  ·rw [if_pos lt2] at q;refine iteP (decide_eq_true (by omega)) ?_;obtain ⟨w1,w2⟩:=D.le L mL;have b3:M.ers[L.e]? = some M.ers[L.e]:=v0 w1;have a2:M.ers[L.e]∈M.ers:=Z2 w1;generalize M.ers[L.e]=er at b3 a2;have d0:M.stock[L.num]? = some M.stock[L.num]:=v0 w2;have hn:=D.hn er a2;have b5:(M.letters.eraseIdx k).length<=10000:=O0 (A8 _ _) (by omega);refine ⟨_,rfl,r,Y,fs,rfl,m3.i _ _ _ _ F,i8 _ (by decide +kernel),_,rfl,?_⟩;exact ⟨r,v,B,st,U,id,lt,ev,bs,es,a0,_,L,er,_,rfl,a3,b2,b3,d0,D.eh er a2,s3,D.st.2,b5,(show M.events.length<=10000 by omega),by omega,λ J O j s' a4=>q J O j s' a4⟩
  ·rw [if_neg lt2] at q;exact iteN (λ e=>lt2 (by have:=of_decide_eq_true e;omega)) (q es a0 H3 s3 a3)
end
section
def evO:CEv->Ev
 | .beg h d=>.beg (h:Nat) (.str "r") (.str (vbD d)) (wvD d)
 | .fin h a=>.fin (h:Nat) (avD a)
def okW (w:Int):Prop:=-1000000000<=w/\w<=1000000000
def okD (d:Option Int):Prop:=∀w,d=some w->okW w
def okE (n:Nat):CEv->Prop
 | .beg h d=>h < n/\okD d
 | .fin h a=>h < n/\okD a
def CM.maj (M:CM):Nat:=M.stock.length / 2 + 1
def CM.opens (M:CM):List Int:=(M.events.map evO).foldl oStep []
def Lv (M:CM):Prop:=∀(e:Nat) er,M.ers[e]? = some er->er.heard.length < M.maj->M.idle[er.hand]? = some false/\∀(e':Nat) er',M.ers[e']? = some er'->er'.heard.length < M.maj->er'.hand=er.hand->e'=e
structure WfC (M:CM) (T n:Nat):Prop where
 m:WfM M n
 bl :∀own∈M.left,∀d∈own,okD d
 be :∀er∈M.ers,okD er.deed/\(∀k,er.kept=some k->okW k.2)/\∀x∈er.heard,okW x.2
 bs :∀x∈M.stock,okW x.2
 bL :∀L∈M.letters,∀x,L.held=some x->okW x.2
 bv :∀e∈M.events,okE M.left.length e
 lv:Lv M
 op :∀h:Nat,((h:Int)∈M.opens)↔M.idle[h]? = some false
 ew:EWf [] (M.events.map evO)
 tt:((M.events.map evO).filter isBeg).length + M.left.flatten.length=T
theorem WfM.le1 {M:CM} {n k:Nat} (h:WfM M n) (l:n<=k):WfM M k:=⟨h.il,h.st,h.le,h.eh,λ b a=>O0 (h.hn b a) l,O0 h.ln (by omega),O0 h.vn l,h.l6,h.lw⟩
theorem WfC.le1 {M:CM} {T n k:Nat} (h:WfC M T n) (l:n<=k):WfC M T k:=⟨h.m.le1 l,h.bl,h.be,h.bs,h.bL,h.bv,h.lv,h.op,h.ew,h.tt⟩
theorem zbi {l:List Hd} (h:l≠[]):maxHd l∈l:=by
 cases l with
 | nil=>exact absurd rfl h
 | cons x r=>
  show r.foldl (λ m y=>if gtN y m=true then y else m) x∈x :: r;clear h;induction r generalizing x with
  | nil=>exact .head _
  | cons y r ih=>
   rw [N3];by_cases z:gtN y x=true
   ·rw [if_pos z];exact .tail _ (ih y)
   ·rw [if_neg z];rcases List.mem_cons.mp (ih x) with e|e
    ·rw [e];exact .head _
    ·exact .tail _ (.tail _ e)
theorem z54 {α:Type} {l:List α} {k:Nat} {x:α} (h:x∈l.eraseIdx k):x∈l:=(W6 l k).mem h
theorem WfC.erase {M:CM} {T n:Nat} (h:WfC M T n) (k:Nat):WfC { M with letters:=M.letters.eraseIdx k } T n:=
 ⟨⟨h.m.il,h.m.st,λ L a=>h.m.le L (z54 a),h.m.eh,h.m.hn,O0 (A8 _ _) h.m.ln,h.m.vn,h.m.l6,h.m.lw⟩,h.bl,h.be,h.bs,λ L a=>h.bL L (z54 a),h.bv,h.lv,h.op,h.ew,h.tt⟩
theorem WfC.comeTo {M:CM} {T n e k:Nat} {er:Er} {s:Hd} (h:WfC M T n) (he:M.ers[e]? = some er) (hs:M.stock[k]? = some s):WfC (M.comeTo e er k s) T (n + 1):=by
 have g:=T0 he;have c:okW (keepH er.kept s).2:=by
  unfold keepH;cases hk:er.kept with
  | none=>exact h.bs s (T0 hs)
  | some k=>
   dsimp only;split
   ·exact (h.be er g).2.1 k hk
   ·exact h.bs s (T0 hs)
 have l:k < M.stock.length:=(List.getElem?_eq_some_iff.mp hs).1;have m:=h.m;refine ⟨⟨m.il,?_,λ L a=>?_,m.eh,λ er he=>O0 (m.hn er he) (W2 n),?_,O0 m.vn (W2 n),m.l6,m.lw⟩,h.bl,h.be,λ x b=>?_,λ L a x b=>?_,h.bv,?_,h.op,h.ew,h.tt⟩
 ·show 0 < (M.stock.set k _).length/\(M.stock.set k _).length<=5;rw [Q0];exact m.st
 ·show L.e < M.ers.length/\L.num < (M.stock.set k _).length;rw [Q0];rcases List.mem_append.mp a with a|a
  ·exact m.le L a
  ·rw [List.mem_singleton.mp a];exact ⟨(List.getElem?_eq_some_iff.mp he).1,l⟩
 ·show (M.letters++[_]).length<=_;rw [F0,E3];have:=m.ln;omega
 ·rcases T4 b with b|rfl
  ·exact h.bs x b
  ·exact c
 ·rcases List.mem_append.mp a with a|a
  ·exact h.bL L a x b
  ·rw [List.mem_singleton.mp a] at b;cases b;exact c
 ·have o:(M.comeTo e er k s).maj=M.maj:=by show (M.stock.set k _).length / 2 + 1=_;rw [Q0];rfl
  intro j f i d;rw [o] at d⊢;exact h.lv j f i d
theorem z8u {M:CM} {e:CEv}:({ M with events:=M.events++[e] }:CM).opens=oStep M.opens (evO e):=by unfold CM.opens;dsimp only;rw [P1,G6];rfl
theorem zid {M:CM} {T n e:Nat} (h:WfC M T n) (he:e < M.ers.length) (ln:M.letters.length + 5<=6 * n):WfC (M.send e) T n:=by
 have m:=h.m;have d:=m.st;refine ⟨⟨m.il,m.st,λ L a=>?_,m.eh,m.hn,?_,m.vn,m.l6,m.lw⟩,h.bl,h.be,h.bs,λ L a x c=>?_,h.bv,h.lv,h.op,h.ew,h.tt⟩
 ·rcases List.mem_append.mp a with a|a
  ·exact m.le L a
  ·obtain ⟨k,b,rfl⟩:=List.mem_map.mp a;exact ⟨he,List.mem_range.mp b⟩
 ·show (M.letters++(U0 M.stock.length).map _).length<=_;rw [F0,C0,T2];omega
 ·rcases List.mem_append.mp a with a|a
  ·exact h.bL L a x c
  ·obtain ⟨k,b,rfl⟩:=List.mem_map.mp a;cases c
theorem zi5 {M:CM} {T n:Nat} {er:Er} (h:WfC M T n) (hi:M.idle[er.hand]? = some false) (no :∀(e:Nat) er',M.ers[e]? = some er'->er'.heard.length < M.maj->er'.hand≠er.hand) (h0:er.heard=[]) (od:okD er.deed) (ok :∀k,er.kept=some k->okW k.2):WfC (M.make er) T n:=by
 have m:=h.m;refine ⟨⟨m.il,m.st,λ L v=>?_,λ e c=>?_,λ e c=>?_,m.ln,m.vn,m.l6,m.lw⟩,h.bl,λ e c=>?_,h.bs,h.bL,h.bv,?_,h.op,h.ew,h.tt⟩
 ·have:=m.le L v;refine ⟨?_,this.2⟩;show L.e < (M.ers++[er]).length;rw [F0];omega
 ·rcases List.mem_append.mp c with c|c
  ·exact m.eh e c
  ·rw [List.mem_singleton.mp c];exact (List.getElem?_eq_some_iff.mp hi).1
 ·rcases List.mem_append.mp c with c|c
  ·exact m.hn e c
  ·rw [List.mem_singleton.mp c,h0];exact J2 _
 ·rcases List.mem_append.mp c with c|c
  ·exact h.be e c
  ·rw [List.mem_singleton.mp c];exact ⟨od,ok,λ x s=>by rw [h0] at s;cases s⟩
 ·have q :∀(k:Nat) d,(M.ers++[er])[k]? = some d->(k < M.ers.length/\M.ers[k]? = some d)\/(k=M.ers.length/\d=er):=λ k d f=>by
   by_cases z:k < M.ers.length
   ·rw [F1 z] at f;exact .inl ⟨z,f⟩
   ·rw [Z0 (by omega)] at f;have:=(List.getElem?_eq_some_iff.mp f).1;simp only [E3] at this;have w:k - M.ers.length=0:=by omega
    rw [w] at f;cases f;exact .inr ⟨by omega,rfl⟩
  intro k d u t;rcases q k d u with ⟨z,r⟩|⟨z,rfl⟩
  ·obtain ⟨a,b⟩:=h.lv k d r t;refine ⟨a,λ g i o l j=>?_⟩;rcases q g i o with ⟨_,p⟩|⟨_,ee⟩
   ·exact b g i p l j
   ·exact absurd (by rw [<-j,ee]) (no k d r t)
  ·refine ⟨hi,λ g i o l j=>?_⟩;rcases q g i o with ⟨_,p⟩|⟨z',_⟩
   ·exact absurd j (no g i p l)
   ·omega
theorem zhq {M:CM} {T n:Nat} {er:Er} {w:Int} (h:WfC M T n) (hi:M.idle[er.hand]? = some false) (no :∀(e:Nat) er',M.ers[e]? = some er'->er'.heard.length < M.maj->er'.hand≠er.hand) (ow:okW w):WfC (M.stop er w) T (n + 1):=by
 have m:=h.m;have i:er.hand < M.idle.length:=(List.getElem?_eq_some_iff.mp hi).1;have o:okD (ansC er.deed w):=by
  intro v f;unfold ansC at f;cases hd:er.deed with
  | none=>rw [hd] at f;cases f;exact ow
  | some d=>rw [hd] at f;cases f
 have p:(M.stop er w).opens=M.opens.filter λ k=>decide (k≠((er.hand:Nat):Int)):=z8u (M:={ M with idle:=M.idle.set er.hand true });refine ⟨⟨?_,m.st,m.le,λ e c=>?_,λ e c=>O0 (m.hn e c) (W2 n),O0 m.ln (by omega),?_,m.l6,m.lw⟩,h.bl,h.be,h.bs,h.bL,λ e c=>?_,?_,λ k=>?_,?_,?_⟩
 ·show (M.idle.set er.hand true).length=_;rw [Q0];exact m.il
 ·show e.hand < (M.idle.set er.hand true).length;rw [Q0];exact m.eh e c
 ·show (M.events++[_]).length<=_;rw [F0,E3];have:=m.vn;omega
 ·rcases List.mem_append.mp c with c|c
  ·exact h.bv e c
  ·rw [List.mem_singleton.mp c];exact ⟨by show er.hand < M.left.length;rw [<-m.il];exact i,o⟩
 ·intro k g j l;obtain ⟨a,b⟩:=h.lv k g j l;refine ⟨?_,b⟩;show (M.idle.set er.hand true)[g.hand]? = some false;rw [Y0 (D2 (no k g j l))];exact a
 ·rw [p,List.mem_filter,h.op k];show _↔(M.idle.set er.hand true)[k]? = some false;by_cases z:k=er.hand
  ·subst z;rw [K0 i];constructor
   ·rintro ⟨_,z⟩;exact absurd rfl (of_decide_eq_true z)
   ·exact λ z=>by cases z
  ·rw [Y0 (D2 z)];exact ⟨λ a=>a.1,λ a=>⟨a,decide_eq_true (λ e=>z (by omega))⟩⟩
 ·show EWf [] ((M.events++[_]).map evO);rw [P1];exact h.ew.snoc ((h.op er.hand).mpr hi)
 ·show (((M.events++[_]).map evO).filter isBeg).length + _=T;rw [P1,C6];show ((((M.events.map evO).filter isBeg)++[])).length + _=T;rw [F2];exact h.tt
theorem zl0 {M:CM} {T n e:Nat} {er:Er} {x:Hd} (h:WfC M T n) (he:M.ers[e]? = some er) (ox:okW x.2):WfC { M with ers:=M.ers.set e (er.hear x) } T (n + 1)/\(er.heard.length < M.maj->(er.hear x).heard.length=M.maj->M.idle[er.hand]? = some false/\∀(e':Nat) er',(M.ers.set e (er.hear x))[e']? = some er'->er'.heard.length < M.maj->er'.hand≠er.hand):=by
 have m:=h.m;have o:=T0 he;have u:e < M.ers.length:=(List.getElem?_eq_some_iff.mp he).1;have A:(er.hear x).heard.length=er.heard.length + 1:=by show (er.heard++[x]).length=_;rw [F0];rfl
 have q :∀(k:Nat) d,(M.ers.set e (er.hear x))[k]? = some d->∃g,M.ers[k]? = some g/\g.hand=d.hand/\g.heard.length<=d.heard.length/\(k≠e->g=d):=λ k d j=>by
  by_cases z:k=e
  ·subst z;rw [K0 u] at j;cases j;exact ⟨er,he,rfl,by omega,λ z=>absurd rfl z⟩
  ·rw [Y0 (D2 z)] at j;exact ⟨d,j,rfl,J0 _,λ _=>rfl⟩
 have r :∀d∈M.ers.set e (er.hear x),d∈M.ers\/d=er.hear x:=λ d f=>T4 f;refine ⟨⟨⟨m.il,m.st,λ L H=>?_,λ d f=>?_,λ d f=>?_,O0 m.ln (by omega),O0 m.vn (W2 n),m.l6,m.lw⟩,h.bl,λ d f=>?_,h.bs,h.bL,h.bv,λ k d f t=>?_,h.op,h.ew,h.tt⟩,λ G O=>?_⟩
 ·show L.e < (M.ers.set e _).length/\_;rw [Q0];exact m.le L H
 ·rcases r d f with f|rfl
  ·exact m.eh d f
  ·exact m.eh er o
 ·rcases r d f with f|rfl
  ·exact O0 (m.hn d f) (W2 n)
  ·rw [A];have:=m.hn er o;omega
 ·rcases r d f with f|rfl
  ·exact h.be d f
  ·obtain ⟨a,b,c⟩:=h.be er o;refine ⟨a,b,λ y i=>?_⟩;rcases List.mem_append.mp i with i|i
   ·exact c y i
   ·rw [List.mem_singleton.mp i];exact ox
 ·obtain ⟨g,p,l,s,_⟩:=q k d f;obtain ⟨a,b⟩:=h.lv k g p (V0 s t);refine ⟨by rw [<-l];exact a,λ v e' D C J=>?_⟩;obtain ⟨I,K,w,F,_⟩:=q v e' D;exact b v I K (V0 F C) (by rw [w,J,l])
 ·obtain ⟨a,b⟩:=h.lv e er he G;refine ⟨a,λ k d f t E=>?_⟩;obtain ⟨g,p,l,s,N⟩:=q k d f;have B:=b k g p (V0 s t) (by rw [l,E]);subst B;rw [K0 u] at f;cases f;omega
theorem WfC.comeBack {M:CM} {T n e:Nat} {er:Er} {x:Hd} (h:WfC M T n) (he:M.ers[e]? = some er) (ox:okW x.2) (ln:M.letters.length + 1<=6 * n):WfC (M.comeBack e er x) T (n + 2):=by
 obtain ⟨a,q⟩:=zl0 h he ox;have i:=T0 he;have t:(er.hear x).heard.length=er.heard.length + 1:=by show (er.heard++[x]).length=_;rw [F0];rfl
 obtain ⟨f,ok,r⟩:=h.be er i;unfold CM.comeBack;by_cases ne:(er.hear x).heard.length≠M.stock.length / 2 + 1
 ·rw [if_pos ne];exact a.le1 (W2 _)
 rw [if_neg ne];have p:(er.hear x).heard.length=M.maj:=Decidable.not_not.mp ne;obtain ⟨d,c⟩:=q (by omega) p;cases hk:er.kept with
 | some k=>exact zhq (er:=er.hear x) a d c (ok k hk)
 | none=>
  have s:(er.hear x).heard≠[]:=by show er.heard++[x]≠[];simp
  have j:=zbi s;have g:okW (maxHd (er.hear x).heard).2:=by
   rcases List.mem_append.mp (show maxHd (er.hear x).heard∈er.heard++[x] from j) with z|z
   ·exact r _ z
   ·rw [List.mem_singleton.mp z];exact ox
  have more :∀b,okW b.2->WfC ((CM.make { M with ers:=M.ers.set e (er.hear x) } ⟨(er.hear x).hand,(er.hear x).deed,some b,[]⟩).send ({ M with ers:=M.ers.set e (er.hear x) }:CM).ers.length) T (n + 2):=λ b o=>by
   have m:=zi5 (er:=⟨(er.hear x).hand,(er.hear x).deed,some b,[]⟩) a d c rfl f λ k l=>by cases l;exact o
   refine zid (m.le1 (W2 _)) ?_ ?_
   ·show _ < (_++[_]).length;rw [F0];exact C3 _
   ·show M.letters.length + 5<=_;omega
  unfold CM.ask;cases hd:(er.hear x).deed with
  | some w0=>dsimp only;rw [<-hd];exact more _ (f w0 hd)
  | none=>
   dsimp only;split
   ·rw [<-hd];exact more _ g
   ·exact zhq (er:=er.hear x) a d c g
theorem zak {pl:List (List (Option Int))} {h:Nat} {d:Option Int} {rest:List (Option Int)} (e:pl[h]? = some (d :: rest)):(pl.set h rest).flatten.length + 1=pl.flatten.length:=by obtain ⟨c,f⟩:=z5y (X:=rest) e;have b:=c.length_eq;have a:=f.length_eq;rw [F0] at b a;rw [A1] at a;omega
theorem WfC.start {M:CM} {T n h:Nat} {d:Option Int} {rest:List (Option Int)} (w:WfC M T n) (hl:M.left[h]? = some (d :: rest)) (hi:M.idle[h]? = some true):WfC (M.start h d rest) T (n + 1):=by
 have m:=w.m;have o:h < M.idle.length:=(List.getElem?_eq_some_iff.mp hi).1;have j:=T0 hl;have q :∀(e:Nat) er,M.ers[e]? = some er->er.heard.length < M.maj->er.hand≠h:=λ e er g i z=>by have:=(w.lv e er g i).1;rw [z,hi] at this;cases this
 have u:WfC { M with left:=M.left.set h rest,idle:=M.idle.set h false,events:=M.events++[.beg h d] } T (n + 1):=by
  have v:({ M with left:=M.left.set h rest,idle:=M.idle.set h false,events:=M.events++[.beg h d] }:CM).opens=M.opens++[((h:Nat):Int)]:=z8u (M:={ M with left:=M.left.set h rest,idle:=M.idle.set h false });refine ⟨⟨?_,m.st,m.le,λ e c=>?_,λ e c=>O0 (m.hn e c) (W2 n),O0 m.ln (by omega),?_,?_,λ own f=>?_⟩,λ own f r p=>?_,w.be,w.bs,w.bL,λ e c=>?_,λ k l g i=>?_,λ k=>?_,?_,?_⟩
  ·show (M.idle.set h false).length=(M.left.set h rest).length;rw [Q0,Q0];exact m.il
  ·show e.hand < (M.idle.set h false).length;rw [Q0];exact m.eh e c
  ·show (M.events++[_]).length<=_;rw [F0,E3];have:=m.vn;omega
  ·show (M.left.set h rest).length<=6;rw [Q0];exact m.l6
  ·rcases T4 f with f|rfl
   ·exact m.lw own f
   ·have:=m.lw _ j;rw [A1] at this;omega
  ·rcases T4 f with f|rfl
   ·exact w.bl own f r p
   ·exact w.bl _ j r (.tail _ p)
  ·show okE (M.left.set h rest).length e;rw [Q0];rcases List.mem_append.mp c with c|c
   ·exact w.bv e c
   ·rw [List.mem_singleton.mp c];exact ⟨by rw [<-m.il];exact o,w.bl _ j d (.head _)⟩
  ·obtain ⟨a,b⟩:=w.lv k l g i;refine ⟨?_,b⟩;show (M.idle.set h false)[l.hand]? = some false;rw [Y0 (D2 (q k l g i))];exact a
  ·rw [v,List.mem_append,w.op k,List.mem_singleton];show _↔(M.idle.set h false)[k]? = some false;by_cases z:k=h
   ·subst z;rw [K0 o];exact ⟨λ _=>rfl,λ _=>.inr rfl⟩
   ·rw [Y0 (D2 z)];exact ⟨λ a=>a.elim id λ e=>absurd (by omega) z,.inl⟩
  ·show EWf [] ((M.events++[_]).map evO);rw [P1];refine w.ew.snoc λ z=>?_;have:=(w.op h).mp z;rw [hi] at this;cases this
  ·show (((M.events++[_]).map evO).filter isBeg).length + (M.left.set h rest).flatten.length=T;rw [P1,C6,F0];have l:=zak hl;have x:=w.tt;show ((M.events.map evO).filter isBeg).length + 1 + _=T;omega
 have t:=zi5 (er:=⟨h,d,none,[]⟩) u (show (M.idle.set h false)[h]? = some false from K0 o) (λ e er g i=>q e er g i) rfl (w.bl _ j d (.head _)) λ k s=>by cases s
 refine zid t ?_ ?_
 ·show _ < (_++[_]).length;rw [F0];exact C3 _
 ·show M.letters.length + 5<=_;have:=m.ln;omega
theorem go_wf {M:CM} {T n:Nat} (w:WfC M T n) (c:Int):WfC (M.go c) T (n + 2):=by
 unfold CM.go;by_cases z0:M.ready.length + M.letters.length=0
 ·rw [if_pos z0];exact w.le1 (by omega)
 rw [if_neg z0];dsimp only;have B:=D6 c (show ((M.ready.length:Int) + 2 * (M.letters.length:Int))≠0 by omega);have C:=C5 c (show 0 < ((M.ready.length:Int) + 2 * (M.letters.length:Int)) by omega);have z:(c % ((M.ready.length:Int) + 2 * (M.letters.length:Int))).toNat < M.ready.length + 2 * M.letters.length:=by omega
 clear B C;generalize (c % ((M.ready.length:Int) + 2 * (M.letters.length:Int))).toNat=ch at z⊢;by_cases lt1:ch < M.ready.length
 ·rw [if_pos lt1];have q:M.ready[ch]? = some M.ready[ch]:=v0 lt1;have f:M.ready[ch]∈M.ready:=Z2 lt1;generalize M.ready[ch]=h at q f;rw [q];show WfC (match M.left[h]? with|some (d :: rest)=>M.start h d rest|_=>M) T (n + 2);have f:h∈(U0 M.left.length).filter M.rdy:=f;obtain ⟨y,a⟩:=List.mem_filter.mp f;have u:h < M.left.length:=List.mem_range.mp y;have g:M.left[h]? = some M.left[h]:=v0 u;generalize M.left[h]=own at g;obtain ⟨v,t⟩ :∃b,M.idle[h]? = some b:=⟨_,v0 (by rw [w.m.il];exact u)⟩
  have a:(!(M.left[h]?.getD []).isEmpty && M.idle[h]?.getD false)=true:=a;rw [g,t] at a;rw [g];cases own with
  | nil=>cases a
  | cons d rest=>
   cases v with
   | true=>exact (w.start g t).le1 (W2 _)
   | false=>cases a
 rw [if_neg lt1];have E:0 < M.letters.length:=by omega
 generalize hk:(ch - M.ready.length) % M.letters.length=k;have l:k < M.letters.length:=by rw [<-hk];exact j26 _ E
 have r:M.letters[k]? = some M.letters[k]:=v0 l;have j:M.letters[k]∈M.letters:=Z2 l;generalize M.letters[k]=L at r j;rw [r];dsimp only;split
 ·obtain ⟨D,A⟩:=w.m.le L j;have i:M.ers[L.e]? = some M.ers[L.e]:=v0 D;generalize M.ers[L.e]=er at i;have o:M.stock[L.num]? = some M.stock[L.num]:=v0 A;generalize M.stock[L.num]=s at o;have p:=w.erase k;have le1:(M.letters.eraseIdx k).length + 1=M.letters.length:=by rw [j4c];rw [if_pos l];omega
  have F:=w.m.ln;unfold CM.come;show WfC (match M.ers[L.e]?,L.held,M.stock[L.num]? with
   | some er,some x,_=>CM.comeBack { M with letters:=M.letters.eraseIdx k } L.e er x
   | some er,none,some s=>CM.comeTo { M with letters:=M.letters.eraseIdx k } L.e er L.num s
   | _,_,_=>{ M with letters:=M.letters.eraseIdx k }) T (n + 2)
  rw [i,o];cases hh:L.held with
  | some x=>exact p.comeBack i (w.bL L j x hh) (by show (M.letters.eraseIdx k).length + 1<=_;omega)
  | none=>exact (p.comeTo i o).le1 (W2 _)
 ·exact (w.erase k).le1 (by omega)
def CM.init (m:Nat) (bk:Bool) (pl:List (List (Option Int))):CM:=⟨P0 m ((0,-1),0),bk,pl,pl.map λ _=>true,[],[],[]⟩
theorem zfa {m:Nat} {bk:Bool} {pl:List (List (Option Int))} (g:PlG pl) (h0:0 < m) (h5:m<=5):WfC (CM.init m bk pl) pl.flatten.length 0:=by
 refine ⟨⟨C0 _,?_,(λ L c=>by cases c),(λ e a=>by cases a),(λ e a=>by cases a),J2 _,J2 _,g.n6,λ own b=>?_⟩,λ own b d j w k=>?_,(λ e a=>by cases a),λ x p=>?_,(λ L c=>by cases c),(λ e a=>by cases a),λ e n a=>?_,λ h=>?_,trivial,O4 _⟩
 ·show 0 < (P0 m _).length/\(P0 m _).length<=5;rw [C2];exact ⟨h0,h5⟩
 ·have b:own∈pl:=b;obtain ⟨i,l,e⟩:=o6 b;have:=(z5y (X:=[]) (v0 l)).2.length_eq;rw [F0,e] at this;have:=g.f;omega
 ·subst k;exact g.bd w (List.mem_filterMap.mpr ⟨_,List.mem_flatten.mpr ⟨own,b,j⟩,rfl⟩)
 ·rw [(List.mem_replicate.mp p).2];exact ⟨by decide,by decide⟩
 ·have a:([]:List Er)[e]? = some n:=a;simp at a
 ·show _∈[]↔(pl.map λ _=>true)[h]? = some false;rw [N0];constructor
  ·intro z;cases z
  ·intro z;cases hp:pl[h]? with
   | none=>rw [hp] at z;cases z
   | some o=>rw [hp] at z;cases z
end
section
variable {P:Program} {w:C1} {mg:Str->Option Value} {base:Heap}
theorem sq_FH {H:Hp}:SqT (kx w) H 262 [.ref 261,.int 0]:=
 .inr ⟨⟨(.type "tuple"),none,(.seq #[(.ref 261),(.int (0) 591)] 0),#[]⟩,#[(.ref 261),(.int (0) 591)],0,by kernel_rfl,rfl,rfl,w_2,.cons rfl (.cons ⟨_,rfl⟩ .nil)⟩
theorem sq_FH0 {H:Hp}:SqT (kx w) H 261 [.int 0,.int (-1)]:=
 .inr ⟨⟨(.type "tuple"),none,(.seq #[(.int (0) 588),(.int (-1) 590)] 0),#[]⟩,#[(.int (0) 588),(.int (-1) 590)],0,by kernel_rfl,rfl,rfl,w_2,.cons ⟨_,rfl⟩ (.cons ⟨_,rfl⟩ .nil)⟩
theorem zis {H:Hp}:HdAt (kx w) H ((0,-1),0) (.ref 262):=⟨_,_,rfl,sq_FH,sq_FH0⟩
theorem zja {α β:Type} {R:α->β->Prop} {x:α} {y:β} (n:Nat) (h:R x y):All2 R (P0 n x) (P0 n y):=by
 induction n with
 | zero=>exact .nil
 | succ n ih=>exact .cons h ih
theorem dd_v {H:Hp} {o:Option Int} {y:V} (h:HPd H (ddP o) y):DdV H o y:=by
 cases o with
 | none=>obtain ⟨p,k,rfl,d,a,j,rfl,f,b,c,rfl,g,e⟩:=h;cases (show a=.str "read" from f);cases (show b=.non from g);cases (show c=[] from e);exact ⟨p,rfl,d⟩
 | some i=>obtain ⟨p,k,rfl,d,a,j,rfl,f,b,c,rfl,g,e⟩:=h;cases (show a=.str "write" from f);cases (show b=.int i from g);cases (show c=[] from e);exact ⟨p,rfl,d⟩
def z22 (K:j0):Sp:=λ vs H Q _=>∃(x dx a:Addr) (m:Nat) (bk:Bool) (pl:List (List (Option Int))) (B:Hp),vs=[.ref x,.int m,.ref a,.bl bk]/\m<=5/\H x=some (.ins 373 dx [])/\HPd H (.list (rowsP pl)) (.ref a)/\pl.length<=6/\B x=none/\Same B H/\
 ∀st lf id lt ev bs H',Same B H'->Cp K B H' x st lf id lt ev bs [] [] (CM.init m bk pl)->Q .non H'
theorem zhb (T:TX (kx w) mg):Fo P w mg base (CXE P w base) 2 316 y07 ["self","many","plan","back"] (z22 (kx w)):=by
 refine (z2m w.params).okE z4i (λ vs H Q E h=>?_) (λ h0 A g8 s H vs Q E hr h=>?_)
 ·obtain ⟨x,dx,a,m,bk,pl,B,rfl,_⟩:=h;rfl
 ·obtain ⟨x,dx,a,m,bk,pl,B,rfl,m5,ex,⟨a0,os,e0,ea,c9⟩,l6,f6,sB,q⟩:=h;cases e0;refine ⟨_,(z02 (ps_fld (pv 0) (pe_cg (xs:=["number"]) (g:=gName 0) (fr:=[]) (z15 rfl (T.no (z2s _)) (z01 (pv 1) pa_nil)) (λ _ _ _ _ _=>(pg_cn (N:=["number"]) 0)) (λ _ _ _ _ _=>pf_nil) (λ _ _ _ _ _=>(z1y (v:=.ref 262) rfl (T.of (zan _)) rfl))) rfl)
   (z02 (ps_fld (pv 0) (pv 3) rfl)
   (z02 (ps_fld (pv 0) (pe_cg (xs:=["own"]) (g:=gName 0) (fr:=[]) (z17 (pv 2)) (λ _ _ _ _ _=>(pg_cn (N:=["own"]) 0)) (λ _ _ _ _ _=>pf_nil) (λ _ _ _ _ _=>(z5f (z9p (K:=KX w.params) rfl) rfl (T.no (n_list _)) j1j (z01 (pv 0) pa_nil)))) rfl)
   (z02 (ps_fld (pv 0) (pe_cg (xs:=["own"]) (g:=gName 0) (fr:=[]) (z17 (pv 2)) (λ _ _ _ _ _=>(pg_cn (N:=["own"]) 0)) (λ _ _ _ _ _=>pf_nil) (λ _ _ _ _ _=>pe_bl)) rfl)
   (z02 (ps_fld (pv 0) (pe_lst pa_nil) rfl)
   (z05 (ps_fld (pv 0) (pe_lst pa_nil) rfl))))))),?_⟩
  have lo:os.length=pl.length:=by have:=c9.length;unfold rowsP at this;rw [C0] at this;exact this
  have e3:a≠x:=λ z=>by rw [z,ex] at ea;cases ea
  have back :∀{Ht:Hp} {l:Addr},Kept x H Ht->l≠x->Ht l=none->B l=none:=λ {Ht l} k nl W=>by
   cases z:B l with
   | none=>rfl
   | some o=>rw [k l o nl (sB _ _ z)] at W;cases W
  refine z3c ?_;refine ⟨_,rfl,_,rfl,by omega,by omega,?_⟩;rw [S5];refine ⟨λ i k d H'=>k=m - i/\i<=m/\H'=H/\d=P0 i (.ref 262),⟨m,rfl,J2 _,rfl,rfl⟩,?_⟩;rintro i k d H2 ⟨rfl,hi,rfl,rfl⟩;by_cases J:i < m
  ·refine .inr ⟨J,by rw [C2];exact O0 (m:=5) (by omega) (by decide),λ v H3 y=>?_⟩;obtain ⟨rfl,rfl⟩:=y;refine ⟨[some (.int (0 + (i:Int)))],rfl,rfl,iteT ?_⟩;exact ⟨m - (i + 1),by omega,rfl,J,rfl,by rw [List.replicate_succ']⟩
  have ei:i=m:=by omega
  subst ei;refine .inl ⟨J0 _,by rw [C2];exact O0 (m:=5) (by omega) (by decide),λ D b2=>?_⟩;have U:D≠x:=λ z=>by rw [z,ex] at b2;cases b2
  have f8:B D=none:=back Kept.refl U b2;have k1:Kept x H2 (upd H2 D (.lst (P0 i (.ref 262)))):=Kept.upd b2;have c6:=Same.upd (o:=.lst (P0 i (.ref 262))) b2 _ _ ex;have u:upd H2 D (.lst (P0 i (.ref 262))) D=some (.lst (P0 i (.ref 262))):=z03;generalize upd H2 D (.lst (P0 i (.ref 262)))=H3 at k1 c6 u⊢;refine z1a k1 c6 rfl (z09 _) (z0u _) (n:=0) (J0 _) (by decide) λ H4 k4 t4 e6 G=>?_;replace u:=t4 _ _ U u;refine z3c ⟨_,rfl,z1a k4 e6 rfl (z09 _) (z4c _) G (by decide) λ H5 O t5 c2 G=>?_⟩;replace u:=t5 _ _ U u;refine z3c ?_;have f4:=O _ _ e3 ea;have g9 :∀p o,p≠x->H2 p=some o->H5 p=some o:=λ p o n e=>O p o n e;have f9:HPds H5 (rowsP pl) os:=HPds.mono' (λ p xs e=>O _ _ (λ z=>by rw [z,ex] at e;cases e) e) (λ p xs e=>O _ _ (λ z=>by rw [z,ex] at e;cases e) e) (λ p e=>O _ _ (λ z=>by rw [z,ex] at e;cases e) e) _ _ c9;refine zdd (K:=KX w.params) (a:=a) (pl:=pl) (os:=os) (λ R h=>⟨_,rfl,h⟩) f4 f9 l6 λ lf bs H6 s6 a6 M=>?_;have a9:lf≠x:=λ z=>by rw [z,c2] at a6;cases a6
  have f7:B lf=none:=back O a9 a6;have Y :∀b∈bs,b≠x:=λ b F z=>by have:=(M.fr b F).1;rw [z,c2] at this;cases this
  have g0 :∀b∈bs,B b=none:=λ b F=>back O (Y b F) (M.fr b F).1;have e9:D≠lf:=λ z=>by rw [<-z,u] at a6;cases a6
  have g5 :∀b∈bs,D≠b:=λ b F z=>by have:=(M.fr b F).1;rw [<-z,u] at this;cases this
  replace u:=s6 _ _ u;have k6:=O.trans s6.kept;have d9:=s6 _ _ c2;refine z1a k6 d9 rfl (z09 _) (z2b _) G (by decide) λ L k8 t8 c4 G=>?_;replace u:=t8 _ _ U u;have c3:=t8 _ _ a9 M.l;have c7 :∀(j:Nat) (own:List (Option Int)) (b:Addr),pl[j]? = some own->bs[j]? = some b->∃d,L b=some (.lst d)/\All2 (DdV L) own d:=λ j own b e1 e2=>by obtain ⟨d,X,h2⟩:=M.ow j own b e1 e2;refine ⟨d,t8 _ _ (Y b (T0 e2)) X,z00 (λ _ _ z=>dd_v (dd_tk (λ p xs e=>t8 _ _ (λ z=>by rw [z,d9] at e;cases e) e) z)) h2⟩
  have d0:=M.ln;have g6:=M.nd;have f3:=λ b F=>(M.fr b F).2;refine z3c ?_;have e7:=k8 _ _ e3 ea;refine z2c (K:=KX w.params) (a:=a) (xs:=os) (H1:=L) (λ _=>true) (λ _ y _=>y=.bl true) (λ _ _ _ _ _ z=>z) (λ R h=>⟨_,rfl,h⟩) (SqL.of e7) (O0 (m:=6) (by omega) (by decide)) ?_ ?_
  ·intro i hi v H9 s9 hv KT KF X h2;refine ⟨[some v],rfl,rfl,iteT ?_⟩;exact X rfl _ _ (Same.refl _) rfl
  intro id H9 zs s9 a3 d4;rw [List.filter_eq_self.mpr (λ _ _=>rfl),lo] at d4;have ez:zs=(pl.map λ _=>true).map V.bl:=by
   have e1:=z1m (f:=λ _=>V.bl true) d4;rw [e1];apply n8;intro j;rw [N0,N0,N0];by_cases z:j < pl.length
   ·rw [List.getElem?_range z,v0 z];rfl
   ·rw [j45 (by rw [T2];omega),j45 (by omega)];rfl
  subst ez;have a5:id≠x:=λ z=>by rw [z,s9 _ _ c4] at a3;cases a3
  have f0:B id=none:=back (k8.trans s9.kept) a5 a3;have c1 :∀{l:Addr} {o:HO},L l=some o->id≠l:=λ {l o} e z=>by rw [z,s9 _ _ e] at a3;cases a3
  have b6:=s9.trans (Same.upd (o:=.lst ((pl.map λ _=>true).map V.bl)) a3);have Z:upd H9 id (.lst ((pl.map λ _=>true).map V.bl)) id=some (.lst ((pl.map λ _=>true).map V.bl)):=z03;generalize upd H9 id (.lst ((pl.map λ _=>true).map V.bl))=H10 at b6 Z⊢;refine z1a (k8.trans b6.kept) (b6 _ _ c4) rfl (z09 _) (z1l _) G (by decide) λ b1 d8 c8 d2 G=>?_;have a4 :∀{l:Addr} {o:HO},l≠x->L l=some o->b1 l=some o:=λ n e=>c8 _ _ n (b6 _ _ e);replace Z:=c8 _ _ a5 Z;refine z3c ⟨w_0,λ lt J=>?_⟩;have b9:lt≠x:=λ z=>by rw [z,d2] at J;cases J
  have g4:B lt=none:=back d8 b9 J;have b7:=Same.upd (o:=.lst []) J;have a7:upd b1 lt (.lst []) lt=some (.lst []):=z03;have b3 :∀{l:Addr} {o:HO},b1 l=some o->lt≠l:=λ {l o} e z=>by rw [z,e] at J;cases J
  generalize upd b1 lt (.lst [])=H12 at b7 a7⊢;refine z1a (d8.trans b7.kept) (b7 _ _ d2) rfl (z09 _) (z0t _) G (by decide) λ a8 d1 d7 c5 G=>?_;replace a7:=d7 _ _ b9 a7;refine zfc ⟨w_0,λ I a2=>?_⟩;have d6:I≠x:=λ z=>by rw [z,c5] at a2;cases a2
  have f5:B I=none:=back d1 d6 a2;have b4:=Same.upd (o:=.lst []) a2;have e4:upd a8 I (.lst []) I=some (.lst []):=z03;have b0 :∀{l:Addr} {o:HO},a8 l=some o->I≠l:=λ {l o} e z=>by rw [z,e] at a2;cases a2
  generalize upd a8 I (.lst [])=H14 at b4 e4⊢;refine z1a (d1.trans b4.kept) (b4 _ _ c5) rfl (z09 _) (z14 _) G (by decide) λ S f1 d5 f2 G=>?_;have a1 :∀{l:Addr} {o:HO},l≠x->b1 l=some o->a8 l=some o:=λ n e=>d7 _ _ n (b7 _ _ e);have c0 :∀{l:Addr} {o:HO},l≠x->a8 l=some o->S l=some o:=λ n e=>d5 _ _ n (b4 _ _ e);have b5 :∀{l:Addr} {o:HO},l≠x->L l=some o->S l=some o:=λ n e=>c0 n (a1 n (a4 n e));refine q D lf id lt I bs S (λ p o e=>f1 p o (λ z=>by rw [z,f6] at e;cases e) (sB _ _ e)) ⟨⟨dx,_,f2,?_,?_,?_,?_,?_,?_,λ m t=>?_⟩,?_,(λ k r e=>by have e:([]:List Er)[k]? = some r:=e;simp at e),⟨rfl,rfl,d0⟩⟩
  ·exact lk_n (lk_n (lk_n (lk_n (lk_n lk_eq))))
  ·exact lk_n (lk_n (lk_n (lk_n lk_eq)))
  ·exact lk_n (lk_n (lk_n lk_eq))
  ·exact lk_n (lk_n lk_eq)
  ·exact lk_n lk_eq
  ·exact lk_eq
  ·unfold fldC at t;simp only [V3,L0,or_false,not_or] at t;exact (lk_ne t.2.2.2.2.2).trans ((lk_ne t.2.2.2.2.1).trans ((lk_ne t.2.2.2.1).trans ((lk_ne t.2.2.1).trans ((lk_ne t.2.1).trans ((lk_ne t.1).trans rfl)))))
  ·have e8 :∃C:List (List V),C.length=bs.length/\All2 (λ b d=>S b=some (.lst d)) bs C/\All2 (λ own d=>All2 (DdV S) own d) pl C:=by
    have g7 :∀(pl:List (List (Option Int))) (bs:List Addr),bs.length=pl.length->(∀b∈bs,b≠x)->(∀(j:Nat) (own:List (Option Int)) (b:Addr),pl[j]? = some own->bs[j]? = some b->∃d,L b=some (.lst d)/\All2 (DdV L) own d)->∃C:List (List V),C.length=bs.length/\All2 (λ b d=>S b=some (.lst d)) bs C/\All2 (λ own d=>All2 (DdV S) own d) pl C:=by
     intro pl;induction pl with
     | nil=>intro bs W _ _;rw [List.length_eq_zero_iff.mp W];exact ⟨[],rfl,.nil,.nil⟩
     | cons p pl ih=>
      intro bs W nb ho;cases bs with
      | nil=>cases W
      | cons b bs=>obtain ⟨d,X,h2⟩:=ho 0 p b rfl rfl;obtain ⟨C,g1,g2,g3⟩:=ih bs (by simpa using W) (λ c hc=>nb c (.tail _ hc)) λ j own c e1 e2=>ho (j + 1) own c (by simpa using e1) (by simpa using e2);exact ⟨d :: C,by rw [A1,A1,g1],.cons (b5 (nb b (.head _)) X) g2,.cons (z00 (λ _ _ z=>z.elim λ q z=>⟨q,z.1,b5 (λ e=>by rw [e,c4] at z;cases z.2) z.2⟩) h2) g3⟩
    exact g7 pl bs d0 Y c7
   obtain ⟨C,g1,g2,g3⟩:=e8;refine ⟨P0 i (.ref 262),[],[],C,[],⟨?_,?_,?_⟩,g1,?_,.nil,.nil,g3,.nil⟩
   ·rw [F2,F2];exact .cons (b5 U u) (.cons (b5 a9 c3) (.cons (c0 a5 (a1 a5 Z)) (.cons (c0 b9 a7) (.cons (d5 _ _ d6 e4) g2))))
   ·rw [F2];have b8 :∀b∈bs,∃o,L b=some o:=λ b F=>by obtain ⟨j,hj,e⟩:=o6 F;obtain ⟨d,X,_⟩:=c7 j _ b (v0 (show j < pl.length by omega)) (by rw [v0 hj,e]);exact ⟨_,X⟩
    have d3:=a4 U u;have e5:=a4 a9 c3;simp only [D5,V3,not_or];refine ⟨⟨e9,D2 (c1 u),D2 (b3 d3),D2 (b0 (a1 U d3)),λ z=>g5 D z rfl⟩,⟨D2 (c1 c3),D2 (b3 e5),D2 (b0 (a1 a9 e5)),λ z=>f3 lf z rfl⟩,⟨D2 (b3 Z),D2 (b0 (a1 a5 Z)),λ z=>?_⟩,⟨D2 (b0 a7),λ z=>?_⟩,λ z=>?_,g6⟩
    ·obtain ⟨o,e⟩:=b8 id z;exact c1 e rfl
    ·obtain ⟨o,e⟩:=b8 lt z;exact b3 (a4 (Y lt z) e) rfl
    ·obtain ⟨o,e⟩:=b8 I z;exact b0 (a1 (Y I z) (a4 (Y I z) e)) rfl
   ·intro m t;rw [F2] at t;simp only [V3] at t;rcases t with rfl|rfl|rfl|rfl|rfl|t
    ·exact f8
    ·exact f7
    ·exact f0
    ·exact g4
    ·exact f5
    ·exact g0 m t
   ·show All2 (HdAt (kx w) S) (P0 i ((0,-1),0)) (P0 i (.ref 262));exact zja i zis
def wP:Option Int->PyData
 | none=>.none
 | some i=>.int i
def aP:Option Int->PyData
 | none=>.str "ok"
 | some i=>.int i
def evP:CEv->PyData
 | .beg h d=>.tuple [.str "begin",.int (h:Nat),.str "r",.str (vbD d),wP d]
 | .fin h a=>.tuple [.str "end",.int (h:Nat),aP a]
def taleP (es:List CEv):PyData:=.tuple [.tuple [.tuple [.str "r",.str "register"]],.tuple (es.map evP)]
theorem ev_hpd {H:Hp} {e:CEv} {y:V} (h:EvV H e y):HPd H (evP e) y:=by
 cases e with
 | beg k d=>obtain ⟨p,rfl,b⟩:=h;refine ⟨p,_,rfl,b,_,_,rfl,rfl,_,_,rfl,rfl,_,_,rfl,rfl,_,_,rfl,rfl,_,_,rfl,?_,rfl⟩;cases d<;>rfl
 | fin k a=>obtain ⟨p,rfl,b⟩:=h;refine ⟨p,_,rfl,b,_,_,rfl,rfl,_,_,rfl,rfl,_,_,rfl,?_,rfl⟩;cases a<;>rfl
theorem name_r:NameOk "r":=⟨by decide +kernel,by decide +kernel,by decide +kernel⟩
theorem zex {i g:Int} (h0:-g<=i) (h1:i<=g):z0j (.int i) g=true:=by unfold z0j;dsimp only;rw [decide_eq_true h0,decide_eq_true h1];rfl
theorem ev_t {H:Hp} {n:Nat} {e:CEv} {y:V} (h:EvV H e y) (ok:okE n e) (n6:n<=6):EvT H [("r","register")] (evO e) y:=by
 cases e with
 | beg k d=>
  obtain ⟨p,rfl,c⟩:=h;obtain ⟨f,b⟩:=ok;refine ⟨p,"r","register",vbD d,rfl,c,by omega,by omega,rfl,rfl,.head _,name_r,?_⟩;cases d with
  | none=>exact .none (show formOf "register" "read" = 0 by decide +kernel)
  | some w=>exact .one (show formOf "register" "write" = 1 by decide +kernel) (zex (b w rfl).1 (b w rfl).2)
 | fin k a=>
  obtain ⟨p,rfl,c⟩:=h;obtain ⟨f,b⟩:=ok;refine ⟨p,rfl,c,by omega,by omega,?_⟩;cases a with
  | none=>exact .inl rfl
  | some w=>have:=b w rfl;exact .inr (.inr ⟨w,rfl,zex (by have:=this.1;omega) (by have:=this.2;omega)⟩)
theorem zbm {T:Nat} :∀(cs:List Int) {M:CM} {n:Nat},WfC M T n->WfC (cs.foldl CM.go M) T (n + 2 * cs.length)
 | [],M,n,h=>h
 | c :: cs,M,n,h=>by have:=zbm cs (go_wf h c);rw [N3,A1];exact this.le1 (by omega)
def z53 (K:j0):Sp:=λ vs H Q _=>∃(m:Nat) (a c:Addr) (bk:Bool) (cs:List Int) (pl:List (List (Option Int))),vs=[.int m,.ref a,.ref c,.bl bk]/\(m=3\/m=5)/\HPd H (.list (rowsP pl)) (.ref a)/\PlG pl/\H c=some (.lst (cs.map V.int))/\cs.length<=450/\
 ∀t H',Same H H'->HPd H' (taleP (cs.foldl CM.go (CM.init m bk pl)).events) t->Q t H'
theorem z8w (T:TX (kx w) mg) (c0:CaE P w mg base "check_plan" ["many","plan"] 7 (z5b (kx w))) (c8:Fo P w mg base (CXE P w base) 2 316 y07 ["self","many","plan","back"] (z22 (kx w))) (c9:Fo P w mg base CX0 7 321 y0a ["self","choice"] (z3e (kx w))) (c10:Ca P w mg base "make_tale" ["things","events"] 7 (z5t (kx w))):Fo P w mg base (CXE P w base) 9 389 y0t ["many","plan","choices","back"] (z53 (kx w)):=by
 refine (z3f w.params).okE sc_run_copies (λ B H Q E h=>?_) (λ d1 A b8 s H B Q E L h=>?_)
 ·obtain ⟨m,a,c,bk,l,n,rfl,_⟩:=h;rfl
 ·obtain ⟨m,a,c,bk,l,n,rfl,b7,hp,g,ec,lc,q⟩:=h;refine ⟨_,(z02 (z0h (zkn passE c0 (L.mono (by decide)) rfl (z01 (pv 0) (z01 (pv 1) pa_nil))))
   (z02 (ps_set (i:=4) sc_run_copies.nd rfl (K1 rfl) (z72 (zg5 _) c8 (L.mono (by decide)) rfl (T.of (zjh _)) (z5e _) .nil passN (z01 (pv 0) (z01 (pv 1) (z01 (pv 3) pa_nil)))))
   (z02 (PS.nox (ps_for Y2 rfl (z17 (pv 2)) (z0f (i:=5) sc_run_copies.nd rfl (K1 rfl))
   (z05 (z0h (z2r (pv 4) (z09 _) (z6q _) c9 (L.mono (by decide)) (z87 _) .nil pass0 (z01 (pv 5) pa_nil))))))
   (z05 (ps_ret (pe_cal c10 (L.mono (by decide)) rfl (z01 (pe_lst (z01 (pe_tup (z01 pe_str (z01 pe_str pa_nil))) pa_nil)) (z01 (pe_fld (pv 4) rfl) pa_nil)))))))),?_⟩
  refine ⟨_,rfl,_,rfl,m,.ref a,rowsP n,rfl,hp,zkf g,λ u G _ _=>?_,λ O s' z=>absurd (z (by omega)) (by rw [zg8 g];decide)⟩;have b4:=hp.same G;refine t_nx (z0b ?_);refine ⟨_,rfl,_,rfl,_,rfl,λ b v a3 a4 ne=>?_⟩;have R:Same u (upd (upd u v (.own b)) b (.ins 373 v [])):=(Same.upd a4).trans (Same.upd (by rw [upd_ne (D2 ne)];exact a3));have e2:upd (upd u v (.own b)) b (.ins 373 v []) b=some (.ins 373 v []):=z03;generalize upd (upd u v (.own b)) b (.ins 373 v [])=H2 at R e2⊢;refine ⟨b,v,a,m,bk,n,u,rfl,by omega,e2,b4.same R,g.n6,a3,R,λ st lf id lt N bs H3 s3 a6=>⟨rfl,?_⟩⟩;refine g_name ?_;have Z:WfC (CM.init m bk n) n.flatten.length 0:=zfa g (by omega) (by omega);refine ⟨_,rfl,c,rfl,⟨_,SqL.of (s3 _ _ (G _ _ ec))⟩,?_⟩;refine z3q (K:=KX w.params) (a:=c) (xs:=l.map V.int) (λ i σ O=>Same u O/\∃p hls x5,Cp (kx w) u O b st lf id lt N bs p hls ((l.take i).foldl CM.go (CM.init m bk n))/\σ=[some (.int m),some (.ref a),some (.ref c),some (.bl bk),some (.ref b),x5]) ⟨s3,[],[],_,a6,rfl⟩ (λ _ σ O _ h=>SqL.of (h.1 _ _ (G _ _ ec))) ?_ ?_
  ·rintro i y σ C x ⟨s4,p,hls,x5,cp4,rfl⟩;rw [N0] at x;cases hc:l[i]? with
   | none=>rw [hc] at x;cases x
   | some k=>
   rw [hc] at x;cases x;have hi:i < l.length:=(List.getElem?_eq_some_iff.mp hc).1;have d:=zbm (l.take i) Z;rw [Y6,Nat.min_eq_left (by omega),O4] at d;refine g_name ?_;obtain ⟨Y,X,S,i2,i3,i4,i5,i6,i7,i8⟩:=cp4.ins;refine ⟨_,rfl,b,Y,X,rfl,S,i8 _ (by decide +kernel),_,rfl,?_⟩;refine ⟨b,k,u,st,lf,id,lt,N,bs,p,hls,_,2 * i,rfl,cp4,d.m,by omega,s4,λ b0 b1 F s5 a9=>⟨s5,b0,b1,_,?_,rfl⟩⟩;have ek:(l.take (i + 1)).foldl CM.go (CM.init m bk n)=((l.take i).foldl CM.go (CM.init m bk n)).go k:=by rw [p9,hc,G6];rfl
   rw [ek];exact a9
  rintro σ C ⟨s4,p,hls,x5,cp4,rfl⟩;rw [W3 (by rw [C0];exact J0 _)] at cp4;have d:=zbm l Z;rw [O4] at d;obtain ⟨Y,X,S,i2,i3,i4,i5,i6,i7,i8⟩:=cp4.ins;obtain ⟨sv,lv,I,b9,d0,c1,c2,c3,c4,c5,c6,c7⟩:=cp4.ct;have b3:C N=some (.lst I):=c1.at (i:=4) rfl rfl;generalize (l.foldl CM.go (CM.init m bk n))=M at cp4 d c1 c3 c4 c5 c6 c7 i3 q;refine t_nx (sq_ret ?_);refine ⟨w_2,λ j b5=>⟨w_1,λ J a7=>?_⟩⟩;have t1:=Same.upd (o:=.tup [.str "r",.str "register"]) b5;have t2:=Same.upd (o:=.lst [.ref j]) a7;have W:=t2 _ _ (z03 (H:=C) (a:=j) (o:=.tup [.str "r",.str "register"]));have a0:upd (upd C j (.tup [.str "r",.str "register"])) J (.lst [.ref j]) J=some (.lst [.ref j]):=z03;have D:=t1.trans t2;generalize upd (upd C j (.tup [.str "r",.str "register"])) J (.lst [.ref j])=F at W a0 D⊢;refine ⟨_,rfl,b,_,Y,X,_,rfl,D _ _ S,z09 _,z14 _,i7,?_⟩;have l6:=d.m.l6;have vn:=d.m.vn;have a2:All2 (EvV F) M.events I:=z00 (λ _ _ z=>z.imm (Imm.of D)) c5;have b2:All2 (EvT F [("r","register")]) (M.events.map evO) I:=by
   have b6 :∀{p:List CEv} {B:List V},All2 (EvV F) p B->(∀e∈p,okE M.left.length e)->All2 (EvT F [("r","register")]) (p.map evO) B:=by
    intro p B h;induction h with
    | nil=>exact λ _=>.nil
    | cons a r ih=>exact λ ok=>.cons (ev_t a (ok _ (.head _)) l6) (ih λ e he=>ok e (.tail _ he))
   exact b6 a2 d.bv
  have gf:=g.f;have tt:=d.tt;refine ⟨J,N,[.ref j],[("r","register")],I,_,rfl,a0,.cons ⟨j,rfl,W⟩ .nil,(show (1:Nat)<=6 by decide),List.nodup_cons.mpr ⟨L0,.nil⟩,λ t ht=>by rw [List.mem_singleton.mp ht];exact ⟨name_r,by decide +kernel⟩,D _ _ b3,b2,by rw [C0];omega,by omega,d.ew,λ pp t c' e' H6 U et a5 a8 pe _=>?_⟩;have e1:pp=[0]:=List.perm_singleton.mp pe;subst e1;refine q _ H6 ((G.trans s4).trans (D.trans U)) ⟨t,_,rfl,et,_,_,rfl,⟨c',_,rfl,a5,_,_,rfl,⟨j,_,rfl,U _ _ W,_,_,rfl,rfl,_,_,rfl,rfl,rfl⟩,rfl⟩,_,_,rfl,⟨e',_,rfl,a8,?_⟩,rfl⟩;exact za1 (z00 (λ _ _ z=>ev_hpd (z.imm (Imm.of U))) a2)
end
section
structure LL where
 copy:Nat
 hand:Nat
 turn:Nat
 to:Bool
 x:Option Hd
structure LD where
 d:Option Int
 round:Nat
 keeps:Bool
 heard:List Hd
 ans:Option Int
structure LM where
 held:List Hd
 under:List LL
 nxt:List Nat
 opn:List (Option LD)
 rounds:Nat
 events:List CEv
def LM.init (m:Nat) (pl:List (List (Option Int))):LM:=⟨P0 m ((0,-1),0),[],pl.map λ _=>0,pl.map λ _=>none,0,[]⟩
def LM.sent (N:LM) (h:Nat) (D:LD) (x:Option Hd):LM:={ N with rounds:=N.rounds + 1,opn:=N.opn.set h (some { D with round:=N.rounds + 1,keeps:=x.isSome,heard:=[] }),under:=N.under++(U0 N.held.length).map λ c=>⟨c,h,N.rounds + 1,true,x⟩ }
def LM.ended (N:LM) (h:Nat) (a:Option Int):LM:={ N with opn:=N.opn.set h none,events:=N.events++[.fin h a] }
def LM.goneOn (N:LM) (bk:Bool) (h:Nat) (D:LD):LM:=
 if D.keeps=true then N.ended h D.ans else match D.d with
  | some w=>N.sent h { D with ans:=none } (some (((maxHd D.heard).1.1 + 1,(h:Int)),w))
  | none=>if bk=true then N.sent h { D with ans:=some (maxHd D.heard).2 } (some (maxHd D.heard)) else N.ended h (some (maxHd D.heard).2)
def LD.hear (D:LD) (x:Hd):LD:={ D with heard:=D.heard++[x] }
def LM.hear (N:LM) (bk:Bool) (L:LL) (D:LD) (x:Hd):LM:=
 if D.round=L.turn then (if N.held.length < 2 * (D.hear x).heard.length then LM.goneOn { N with opn:=N.opn.set L.hand (some (D.hear x)) } bk L.hand (D.hear x) else { N with opn:=N.opn.set L.hand (some (D.hear x)) }) else N
def LM.come (N:LM) (bk:Bool) (L:LL):LM:=
 if L.to=true then (match N.held[L.copy]? with
  | some s=>{ N with held:=N.held.set L.copy (keepH L.x s),under:=N.under++[⟨L.copy,L.hand,L.turn,false,some (keepH L.x s)⟩] }
  | none=>N)
 else (match N.opn[L.hand]?,L.x with
  | some (some D),some x=>N.hear bk L D x
  | _,_=>N)
def LM.fre (N:LM) (pl:List (List (Option Int))) (h:Nat):Bool:=(N.opn[h]?.getD none).isNone && decide (N.nxt[h]?.getD 0 < (pl[h]?.getD []).length)
def LM.free (N:LM) (pl:List (List (Option Int))):List Nat:=(U0 pl.length).filter (N.fre pl)
def LM.begin (N:LM) (h:Nat) (d:Option Int):LM:=LM.sent { N with nxt:=N.nxt.set h (N.nxt[h]?.getD 0 + 1),opn:=N.opn.set h (some ⟨d,0,false,[],none⟩),events:=N.events++[.beg h d] } h ⟨d,0,false,[],none⟩ none
def LM.moved (N:LM) (pl:List (List (Option Int))) (bk:Bool) (n:Nat):LM:=
 if n < (N.free pl).length then (match (pl[(N.free pl)[n]?.getD 0]?.getD [])[N.nxt[(N.free pl)[n]?.getD 0]?.getD 0]? with
  | some d=>N.begin ((N.free pl)[n]?.getD 0) d
  | none=>N)
 else (match N.under[(n - (N.free pl).length) % N.under.length]? with
  | some L=>if n < (N.free pl).length + N.under.length then LM.come { N with under:=N.under.eraseIdx ((n - (N.free pl).length) % N.under.length) } bk L else { N with under:=N.under.eraseIdx ((n - (N.free pl).length) % N.under.length) }
  | none=>N)
def LM.go (N:LM) (pl:List (List (Option Int))) (bk:Bool) (c:Int):LM:=
 if (N.free pl).length + N.under.length=0 then N else N.moved pl bk (c % (((N.free pl).length:Int) + 2 * (N.under.length:Int))).toNat
def LLm (ers:List Er) (L:Lt) (l:LL):Prop:=∃er,ers[L.e]? = some er/\l.copy=L.num/\l.turn=L.e + 1/\l.hand=er.hand/\l.to=L.held.isNone/\l.x=(match L.held with|none=>er.kept|some x=>some x)
structure Sm (pl:List (List (Option Int))) (M:CM) (N:LM):Prop where
 st:N.held=M.stock
 ev:N.events=M.events
 nl:N.nxt.length=pl.length
 ol:N.opn.length=pl.length
 ll:M.left.length=pl.length
 il:M.idle.length=pl.length
 lf :∀h,h < pl.length->M.left[h]? = some ((pl[h]?.getD []).drop (N.nxt[h]?.getD 0))
 id :∀h,h < pl.length->M.idle[h]? = some (N.opn[h]?.getD none).isNone
 rd:N.rounds=M.ers.length
 un:All2 (LLm M.ers) M.letters N.under
 cu :∀h D,N.opn[h]? = some (some D)->∃e er,D.round=e + 1/\M.ers[e]? = some er/\er.hand=h/\er.deed=D.d/\er.kept.isSome=D.keeps/\er.heard=D.heard/\2 * D.heard.length<=M.stock.length/\∀k,er.kept=some k->D.ans=ansC er.deed k.2
 pa :∀e er,M.ers[e]? = some er->er.hand < pl.length/\((∃D,N.opn[er.hand]? = some (some D)/\D.round=e + 1)\/M.stock.length < 2 * er.heard.length)
 odd:M.stock.length % 2=1
 inb :∀L∈M.letters,L.num < M.stock.length
theorem LLm.set {ers:List Er} {L:Lt} {l:LL} {e:Nat} {er:Er} {x:Hd} (he:ers[e]? = some er) (h:LLm ers L l):LLm (ers.set e (er.hear x)) L l:=by
 obtain ⟨r,a,b⟩:=h;by_cases z:L.e=e
 ·rw [z,he] at a;cases a;exact ⟨er.hear x,by rw [z,K0 (List.getElem?_eq_some_iff.mp he).1],b⟩
 ·exact ⟨r,by rw [Y0 (D2 z)];exact a,b⟩
theorem LLm.more {ers:List Er} {L:Lt} {l:LL} (r:Er) (h:LLm ers L l):LLm (ers++[r]) L l:=by obtain ⟨c,a,b⟩:=h;exact ⟨c,by rw [F1 (List.getElem?_eq_some_iff.mp a).1];exact a,b⟩
theorem Sm.free {pl:List (List (Option Int))} {M:CM} {N:LM} (s:Sm pl M N):N.free pl=M.ready:=by
 unfold LM.free CM.ready;rw [s.ll];refine j03 λ h a=>?_;have a:=List.mem_range.mp a;unfold LM.fre CM.rdy;rw [s.lf h a,s.id h a];show _=(!((pl[h]?.getD []).drop (N.nxt[h]?.getD 0)).isEmpty && (N.opn[h]?.getD none).isNone);rw [Bool.and_comm];congr 1;rw [Bool.eq_iff_iff,decide_eq_true_iff,Bool.not_eq_true',List.isEmpty_eq_false_iff_exists_mem];constructor
 ·intro z;refine ⟨((pl[h]?.getD [])[N.nxt[h]?.getD 0]),?_⟩;rw [List.mem_drop_iff_getElem];exact ⟨0,by omega,by simp⟩
 ·rintro ⟨x,hx⟩;have:=N8 hx;rw [j0h] at this;omega
theorem z33 {α β:Type} {R:α->β->Prop} {xs xs':List α} {ys ys':List β} (h:All2 R xs ys) (h':All2 R xs' ys'):All2 R (xs++xs') (ys++ys'):=by
 induction h with
 | nil=>exact h'
 | cons a r ih=>exact .cons a ih
def Cur (M:CM) (h:Nat) (D:LD):Prop:=∃e er,D.round=e + 1/\M.ers[e]? = some er/\er.hand=h/\er.deed=D.d/\er.kept.isSome=D.keeps/\er.heard=D.heard/\2 * D.heard.length<=M.stock.length/\∀k,er.kept=some k->D.ans=ansC er.deed k.2
structure Pr (pl:List (List (Option Int))) (M:CM) (N:LM) (h:Nat):Prop where
 st:N.held=M.stock
 ev:N.events=M.events
 nl:N.nxt.length=pl.length
 ol:N.opn.length=pl.length
 ll:M.left.length=pl.length
 il:M.idle.length=pl.length
 lf :∀h,h < pl.length->M.left[h]? = some ((pl[h]?.getD []).drop (N.nxt[h]?.getD 0))
 id :∀k,k < pl.length->k≠h->M.idle[k]? = some (N.opn[k]?.getD none).isNone
 hh:h < pl.length
 rd:N.rounds=M.ers.length
 un:All2 (LLm M.ers) M.letters N.under
 cu :∀k D,k≠h->N.opn[k]? = some (some D)->Cur M k D
 pa :∀e er,M.ers[e]? = some er->er.hand < pl.length/\((er.hand≠h/\∃D,N.opn[er.hand]? = some (some D)/\D.round=e + 1)\/M.stock.length < 2 * er.heard.length)
 odd:M.stock.length % 2=1
 inb :∀L∈M.letters,L.num < M.stock.length
theorem z0s {α:Type} {l:List α} {h k:Nat} {x:α} (hh:h < l.length):(l.set h x)[k]? = if k=h then some x else l[k]?:=by
 by_cases z:k=h
 ·rw [if_pos z,z,K0 hh]
 ·rw [if_neg z,Y0 (D2 z)]
theorem Pr.sent {pl:List (List (Option Int))} {M:CM} {N:LM} {h:Nat} {D:LD} {x:Option Hd} (s:Pr pl M N h) (ih:M.idle[h]? = some false) (ea :∀k,x=some k->D.ans=ansC D.d k.2):Sm pl ((M.make ⟨h,D.d,x,[]⟩).send M.ers.length) (N.sent h D x):=by
 have g:h < N.opn.length:=by rw [s.ol];exact s.hh
 refine ⟨s.st,s.ev,s.nl,by show (N.opn.set h _).length=_;rw [Q0];exact s.ol,s.ll,s.il,s.lf,λ k j=>?_,by show N.rounds + 1=(M.ers++[_]).length;rw [F0,s.rd];rfl,?_,λ k i a=>?_,λ e f b=>?_,s.odd,λ L l=>?_⟩
 ·show M.idle[k]? = some ((N.opn.set h _)[k]?.getD none).isNone;rw [z0s g];by_cases z:k=h
  ·rw [if_pos z,z,ih];rfl
  ·rw [if_neg z];exact s.id k j z
 ·show All2 (LLm (M.ers++[_])) (M.letters++(U0 M.stock.length).map λ k=>⟨M.ers.length,k,none⟩) (N.under++(U0 N.held.length).map λ c=>⟨c,h,N.rounds + 1,true,x⟩);refine z33 (z00 (λ _ _ z=>z.more _) s.un) ?_;rw [s.st,s.rd];generalize U0 M.stock.length=r;induction r with
  | nil=>exact .nil
  | cons k r ih=>exact .cons ⟨⟨h,D.d,x,[]⟩,by simp,rfl,rfl,rfl,rfl,rfl⟩ ih
 ·have a:(N.opn.set h _)[k]? = some (some i):=a;rw [z0s g] at a;by_cases z:k=h
  ·rw [if_pos z] at a;cases a;exact ⟨M.ers.length,⟨h,D.d,x,[]⟩,by rw [s.rd],by show (M.ers++[_])[_]? = _;simp,z.symm,rfl,rfl,rfl,J2 _,ea⟩
  ·rw [if_neg z] at a;obtain ⟨e,f,v,m,t⟩:=s.cu k i z a;exact ⟨e,f,v,by show (M.ers++[_])[_]? = _;rw [F1 (List.getElem?_eq_some_iff.mp m).1];exact m,t⟩
 ·have b:(M.ers++[_])[e]? = some f:=b;rcases j43 e M.ers.length with z|z
  ·rw [F1 z] at b;obtain ⟨p,u⟩:=s.pa e f b;refine ⟨p,u.imp (λ ⟨n,i,q1,q2⟩=>⟨i,?_,q2⟩) λ q=>q⟩;show (N.opn.set h _)[f.hand]? = _;rw [z0s g,if_neg n];exact q1
  ·have o:e=M.ers.length:=by have:=(List.getElem?_eq_some_iff.mp b).1;rw [F0] at this;simp only [A1,Z3] at this;omega
   rw [o,Z0 (J0 _),R6] at b;cases b;refine ⟨s.hh,.inl ⟨_,by show (N.opn.set h _)[h]? = _;rw [z0s g,if_pos rfl],?_⟩⟩;show N.rounds + 1=e + 1;rw [s.rd,o]
 ·have l:L∈M.letters++(U0 M.stock.length).map λ k=>⟨M.ers.length,k,none⟩:=l;rcases List.mem_append.mp l with z|z
  ·exact s.inb L z
  ·obtain ⟨k,j,rfl⟩:=List.mem_map.mp z;exact List.mem_range.mp j
theorem Pr.ended {pl:List (List (Option Int))} {M:CM} {N:LM} {h:Nat} {a:Option Int} (s:Pr pl M N h):Sm pl { M with idle:=M.idle.set h true,events:=M.events++[.fin h a] } (N.ended h a):=by
 have d:h < N.opn.length:=by rw [s.ol];exact s.hh
 have l:h < M.idle.length:=by rw [s.il];exact s.hh
 refine ⟨s.st,by show N.events++_=M.events++_;rw [s.ev],s.nl,by show (N.opn.set h _).length=_;rw [Q0];exact s.ol,s.ll,by show (M.idle.set h _).length=_;rw [Q0];exact s.il,s.lf,λ k i=>?_,s.rd,s.un,λ k c b=>?_,λ e f g=>?_,s.odd,s.inb⟩
 ·show (M.idle.set h _)[k]? = some ((N.opn.set h _)[k]?.getD none).isNone;rw [z0s d,z0s l];by_cases z:k=h
  ·rw [if_pos z,if_pos z];rfl
  ·rw [if_neg z,if_neg z];exact s.id k i z
 ·have b:(N.opn.set h _)[k]? = some (some c):=b;rw [z0s d] at b;by_cases z:k=h
  ·rw [if_pos z] at b;cases b
  ·rw [if_neg z] at b;exact s.cu k c z b
 ·obtain ⟨j,m⟩:=s.pa e f g;refine ⟨j,m.imp (λ ⟨n,c,q1,q2⟩=>⟨c,?_,q2⟩) λ q=>q⟩;show (N.opn.set h _)[f.hand]? = _;rw [z0s d,if_neg n];exact q1
theorem Sm.begin {pl:List (List (Option Int))} {M:CM} {N:LM} {h:Nat} {d:Option Int} {rest:List (Option Int)} (s:Sm pl M N) (hh:h < pl.length) (ho:N.opn[h]? = some none) (hl:M.left[h]? = some (d :: rest)):Sm pl (M.start h d rest) (N.begin h d):=by
 have b:h < N.opn.length:=by rw [s.ol];exact hh
 have i:h < N.nxt.length:=by rw [s.nl];exact hh
 have g:h < M.idle.length:=by rw [s.il];exact hh
 have o:h < M.left.length:=by rw [s.ll];exact hh
 refine Pr.sent (M:={ M with left:=M.left.set h rest,idle:=M.idle.set h false,events:=M.events++[.beg h d] }) (D:=⟨d,0,false,[],none⟩) ⟨s.st,by show N.events++_=M.events++_;rw [s.ev],by show (N.nxt.set h _).length=_;rw [Q0];exact s.nl,by show (N.opn.set h _).length=_;rw [Q0];exact s.ol,by show (M.left.set h _).length=_;rw [Q0];exact s.ll,by show (M.idle.set h _).length=_;rw [Q0];exact s.il,λ k c=>?_,λ k c n=>?_,hh,s.rd,s.un,λ k D n a=>?_,λ e f j=>?_,s.odd,s.inb⟩ (K0 g) λ k e=>by cases e
 ·show (M.left.set h _)[k]? = some ((pl[k]?.getD []).drop ((N.nxt.set h _)[k]?.getD 0));rw [z0s o,z0s i];by_cases z:k=h
  ·rw [if_pos z,if_pos z];have:=s.lf h hh;rw [hl] at this;rw [z];show some rest=some ((pl[h]?.getD []).drop (N.nxt[h]?.getD 0 + 1));rw [<-List.drop_drop,<-X1 this];rfl
  ·rw [if_neg z,if_neg z];exact s.lf k c
 ·show (M.idle.set h _)[k]? = some ((N.opn.set h _)[k]?.getD none).isNone;rw [z0s b,z0s g,if_neg n,if_neg n];exact s.id k c
 ·have a:(N.opn.set h _)[k]? = some (some D):=a;rw [z0s b,if_neg n] at a;exact s.cu k D a
 ·obtain ⟨l,m⟩:=s.pa e f j;refine ⟨l,m.imp (λ ⟨D',q1,q2⟩=>?_) λ q=>q⟩;have n:f.hand≠h:=λ z=>by rw [z,ho] at q1;cases q1
  exact ⟨n,D',by show (N.opn.set h _)[f.hand]? = _;rw [z0s b,if_neg n];exact q1,q2⟩
theorem za2 {N:LM} {bk:Bool} {h:Nat} {D:LD} (e:D.keeps=true):N.goneOn bk h D=N.ended h D.ans:=if_pos e
theorem zb3 {N:LM} {bk:Bool} {h:Nat} {D:LD} {w:Int} (e:D.keeps=false) (ed:D.d=some w):N.goneOn bk h D=N.sent h { D with ans:=none } (some (((maxHd D.heard).1.1 + 1,(h:Int)),w)):=by unfold LM.goneOn;rw [if_neg (by rw [e];decide),ed]
theorem z7t {N:LM} {bk:Bool} {h:Nat} {D:LD} (e:D.keeps=false) (ed:D.d=none):N.goneOn bk h D=if bk=true then N.sent h { D with ans:=some (maxHd D.heard).2 } (some (maxHd D.heard)) else N.ended h (some (maxHd D.heard).2):=by unfold LM.goneOn;rw [if_neg (by rw [e];decide),ed]
theorem ask_w {M:CM} {er:Er} {w:Int} (e:er.deed=some w):M.ask er=(M.make ⟨er.hand,some w,some (((maxHd er.heard).1.1 + 1,er.hand),w),[]⟩).send M.ers.length:=by unfold CM.ask;rw [e]
theorem ask_r {M:CM} {er:Er} (e:er.deed=none):M.ask er=if M.back=true then (M.make ⟨er.hand,none,some (maxHd er.heard),[]⟩).send M.ers.length else { M with idle:=M.idle.set er.hand true,events:=M.events++[.fin er.hand (some (maxHd er.heard).2)] }:=by unfold CM.ask CM.stop;rw [e];rfl
theorem Sm.hear {pl:List (List (Option Int))} {M:CM} {N:LM} {L:Lt} {l:LL} {er:Er} {x:Hd} (s:Sm pl M N) (he:M.ers[L.e]? = some er) (lt:l.turn=L.e + 1) (lh:l.hand=er.hand):Sm pl (M.comeBack L.e er x) (match N.opn[l.hand]?,some x with
  | some (some D),some x=>N.hear M.back l D x
  | _,_=>N):=by
 obtain ⟨u,U⟩:=s.pa _ _ he;have p:er.hand < N.opn.length:=by rw [s.ol];exact u
 have j:L.e < M.ers.length:=(List.getElem?_eq_some_iff.mp he).1;have Y:=s.odd;rw [lh];by_cases cur :∃D,N.opn[er.hand]? = some (some D)/\D.round=L.e + 1
 ·obtain ⟨D,t,B⟩:=cur;rw [t];obtain ⟨e,b,W,J,c3,I,G,C,X,K⟩:=s.cu _ _ t;obtain rfl:e=L.e:=by omega
  rw [he] at J;cases J;show Sm pl (M.comeBack L.e er x) (N.hear M.back l D x);have T:N.hear M.back l D x=_:=if_pos (show D.round=l.turn by rw [B,lt]);rw [T];unfold CM.comeBack;have w:(er.hear x).heard.length=D.heard.length + 1:=by show (er.heard++[x]).length=_;rw [F0,C];rfl
  have F:(D.hear x).heard.length=D.heard.length + 1:=F0;have S:(M.ers.set L.e (er.hear x))[L.e]? = some (er.hear x):=K0 j;by_cases big:M.stock.length < 2 * (D.heard.length + 1)
  ·rw [if_neg (by rw [w];omega),lh,if_pos (by rw [s.st,F];exact big)];have pr:Pr pl { M with ers:=M.ers.set L.e (er.hear x) } { N with opn:=N.opn.set er.hand (some (D.hear x)) } er.hand:=by
    refine ⟨s.st,s.ev,s.nl,by show (N.opn.set _ _).length=_;rw [Q0];exact s.ol,s.ll,s.il,s.lf,λ k A n=>?_,u,by show N.rounds=(M.ers.set _ _).length;rw [Q0];exact s.rd,z00 (λ _ _ z=>z.set he) s.un,λ k g n c=>?_,λ e b a=>?_,s.odd,s.inb⟩
    ·show M.idle[k]? = some ((N.opn.set _ _)[k]?.getD none).isNone;rw [z0s p,if_neg n];exact s.id k A
    ·have c:(N.opn.set _ _)[k]? = some (some g):=c;rw [z0s p,if_neg n] at c;obtain ⟨e,b,r,f,i,v⟩:=s.cu _ _ c;refine ⟨e,b,r,?_,i,v⟩;show (M.ers.set _ _)[e]? = _;rw [z0s j,if_neg (λ z=>by rw [z,he] at f;cases f;exact n i.symm)];exact f
    ·have a:(M.ers.set _ _)[e]? = some b:=a;rw [z0s j] at a;by_cases z:e=L.e
     ·rw [if_pos z] at a;cases a;exact ⟨u,.inr (by rw [w];exact big)⟩
     ·rw [if_neg z] at a;obtain ⟨E,H⟩:=s.pa e b a;refine ⟨E,H.imp (λ ⟨g,r1,r2⟩=>?_) λ q=>q⟩;have n:b.hand≠er.hand:=λ y=>by rw [y,t] at r1;cases r1;omega
      exact ⟨n,g,by show (N.opn.set _ _)[b.hand]? = _;rw [z0s p,if_neg n];exact r1,r2⟩
   have O:M.idle[er.hand]? = some false:=by rw [s.id _ u,t];rfl
   cases ek:er.kept with
   | some k=>rw [za2 (D:=D.hear x) (show D.keeps=true by rw [<-G,ek];rfl),show (D.hear x).ans=ansC er.deed k.2 from K k ek];exact pr.ended
   | none=>
    have Q:(D.hear x).keeps=false:=by show D.keeps=false;rw [<-G,ek];rfl
    show Sm pl (CM.ask { M with ers:=M.ers.set L.e (er.hear x) } (er.hear x)) _;have P:(D.hear x).heard=(er.hear x).heard:=by show D.heard++[x]=er.heard++[x];rw [C]
    cases ed:er.deed with
    | some w0=>
     have m:(D.hear x).d=some w0:=by rw [<-ed];exact I.symm
     rw [zb3 Q m,P,ask_w (show (er.hear x).deed=some w0 from ed),<-m];exact pr.sent (D:={ D.hear x with ans:=none }) O λ k e=>by rw [m];rfl
    | none=>
     have m:(D.hear x).d=none:=by rw [<-ed];exact I.symm
     rw [z7t Q m,P,ask_r (show (er.hear x).deed=none from ed)];by_cases hb:M.back=true
     ·rw [if_pos hb,if_pos hb];have:=pr.sent (D:={ D.hear x with ans:=some (maxHd (er.hear x).heard).2 }) (x:=some (maxHd (er.hear x).heard)) O λ k e=>by cases e;rw [m];rfl
      rw [m] at this;exact this
     ·rw [if_neg hb,if_neg hb];exact pr.ended
  ·rw [if_pos (by rw [w];omega),lh,if_neg (by rw [s.st,F];exact big)];refine ⟨s.st,s.ev,s.nl,by show (N.opn.set _ _).length=_;rw [Q0];exact s.ol,s.ll,s.il,s.lf,λ k A=>?_,by show N.rounds=(M.ers.set _ _).length;rw [Q0];exact s.rd,z00 (λ _ _ z=>z.set he) s.un,λ k g c=>?_,λ e b a=>?_,s.odd,s.inb⟩
   ·show M.idle[k]? = some ((N.opn.set _ _)[k]?.getD none).isNone;rw [z0s p];by_cases z:k=er.hand
    ·rw [if_pos z,s.id k A,z,t];rfl
    ·rw [if_neg z];exact s.id k A
   ·have c:(N.opn.set _ _)[k]? = some (some g):=c;rw [z0s p] at c;by_cases z:k=er.hand
    ·rw [if_pos z] at c;cases c;exact ⟨L.e,er.hear x,B,S,z.symm,I,G,by show er.heard++[x]=D.heard++[x];rw [C],by rw [F];show 2 * (D.heard.length + 1)<=M.stock.length;omega,K⟩
    ·rw [if_neg z] at c;obtain ⟨e,b,r,f,i,v⟩:=s.cu _ _ c;refine ⟨e,b,r,?_,i,v⟩;show (M.ers.set _ _)[e]? = _;rw [z0s j,if_neg (λ y=>by rw [y,he] at f;cases f;exact z i.symm)];exact f
   ·have a:(M.ers.set _ _)[e]? = some b:=a;rw [z0s j] at a;by_cases z:e=L.e
    ·rw [if_pos z] at a;cases a;exact ⟨u,.inl ⟨D.hear x,by show (N.opn.set _ _)[er.hand]? = _;rw [z0s p,if_pos rfl],by rw [z];exact B⟩⟩
    ·rw [if_neg z] at a;obtain ⟨E,H⟩:=s.pa e b a;refine ⟨E,H.imp (λ ⟨g,r1,r2⟩=>?_) λ q=>q⟩;have n:b.hand≠er.hand:=λ y=>by rw [y,t] at r1;cases r1;omega
     exact ⟨g,by show (N.opn.set _ _)[b.hand]? = _;rw [z0s p,if_neg n];exact r1,r2⟩
 ·have Z:M.stock.length < 2 * er.heard.length:=U.resolve_left cur;have V:M.comeBack L.e er x={ M with ers:=M.ers.set L.e (er.hear x) }:=by unfold CM.comeBack;have w:(er.hear x).heard.length=er.heard.length + 1:=F0;rw [if_pos (by rw [w];omega)]
  have R:(match N.opn[er.hand]?,some x with
    | some (some D),some x=>N.hear M.back l D x
    | _,_=>N)=N:=by
   cases h:N.opn[er.hand]? with
   | none=>rfl
   | some o=>
    cases o with
    | none=>rfl
    | some D=>show N.hear M.back l D x=N;unfold LM.hear;rw [if_neg (λ z=>cur ⟨D,h,by rw [z,lt]⟩)]
  rw [V,R];refine ⟨s.st,s.ev,s.nl,s.ol,s.ll,s.il,s.lf,s.id,by show N.rounds=(M.ers.set _ _).length;rw [Q0];exact s.rd,z00 (λ _ _ z=>z.set he) s.un,λ k g c=>?_,λ e b a=>?_,s.odd,s.inb⟩
  ·obtain ⟨e,b,r,f,i,v⟩:=s.cu _ _ c;refine ⟨e,b,r,?_,i,v⟩;show (M.ers.set _ _)[e]? = _;rw [z0s j,if_neg (λ y=>by rw [y,he] at f;cases f;exact cur ⟨g,by rw [i];exact c,by rw [r,y]⟩)];exact f
  ·have a:(M.ers.set _ _)[e]? = some b:=a;rw [z0s j] at a;by_cases z:e=L.e
   ·rw [if_pos z] at a;cases a;exact ⟨u,.inr (by show M.stock.length < 2 * (er.heard++[x]).length;rw [F0];omega)⟩
   ·rw [if_neg z] at a;exact s.pa e b a
theorem Sm.comeTo {pl:List (List (Option Int))} {M:CM} {N:LM} {L:Lt} {l:LL} {er:Er} {x:Hd} (s:Sm pl M N) (he:M.ers[L.e]? = some er) (lc:l.copy=L.num) (lt:l.turn=L.e + 1) (lh:l.hand=er.hand) (lx:l.x=er.kept) (hn:L.num < M.stock.length):Sm pl (M.comeTo L.e er L.num x) { N with held:=N.held.set l.copy (keepH l.x x),under:=N.under++[⟨l.copy,l.hand,l.turn,false,some (keepH l.x x)⟩] }:=by
 rw [lc,lx];have a:(M.stock.set L.num (keepH er.kept x)).length=M.stock.length:=Q0;refine ⟨by show N.held.set _ _=M.stock.set _ _;rw [s.st],s.ev,s.nl,s.ol,s.ll,s.il,s.lf,s.id,s.rd,z33 s.un (.cons ⟨er,he,rfl,lt,lh,rfl,rfl⟩ .nil),λ h D i=>?_,λ e b g=>?_,by show (M.stock.set _ _).length % 2=1;rw [a];exact s.odd,λ c n=>?_⟩
 ·obtain ⟨e,b,f,j,q,k,p,d,m,o⟩:=s.cu h D i;exact ⟨e,b,f,j,q,k,p,d,by show _<=(M.stock.set _ _).length;rw [a];exact m,o⟩
 ·show _/\(_\/(M.stock.set _ _).length < _);rw [a];exact s.pa e b g
 ·show c.num < (M.stock.set _ _).length;rw [a];rcases List.mem_append.mp n with z|z
  ·exact s.inb c z
  ·rw [List.mem_singleton.mp z];exact hn
theorem Sm.come {pl:List (List (Option Int))} {M:CM} {N:LM} {L:Lt} {l:LL} (s:Sm pl M N) (h:LLm M.ers L l) (hn:L.num < M.stock.length):Sm pl (M.come L) (N.come M.back l):=by
 obtain ⟨i,b,c,d,f,g,a⟩:=h;have e:M.stock[L.num]? = some M.stock[L.num]:=v0 hn;unfold CM.come LM.come;rw [b,e,g];cases hL:L.held with
 | none=>rw [hL] at a;rw [if_pos (show (none:Option Hd).isNone=true from rfl),s.st,c,e];have:=s.comeTo (x:=M.stock[L.num]) b c d f a hn;rw [s.st,c] at this;exact this
 | some x=>rw [hL] at a;rw [if_neg (show ¬ (some x).isNone=true by simp),a];exact s.hear b d f
theorem z5q {α β:Type} {R:α->β->Prop} :∀{xs:List α} {ys:List β} (i:Nat),All2 R xs ys->All2 R (xs.eraseIdx i) (ys.eraseIdx i)
 | _,_,_,.nil=>.nil
 | _,_,0,.cons _ r=>r
 | _,_,i + 1,.cons a r=>.cons a (z5q i r)
theorem Sm.pop {pl:List (List (Option Int))} {M:CM} {N:LM} (s:Sm pl M N) (i:Nat):Sm pl { M with letters:=M.letters.eraseIdx i } { N with under:=N.under.eraseIdx i }:=
 ⟨s.st,s.ev,s.nl,s.ol,s.ll,s.il,s.lf,s.id,s.rd,z5q i s.un,s.cu,s.pa,s.odd,λ L a=>s.inb L (List.mem_of_mem_eraseIdx a)⟩
theorem Sm.go {pl:List (List (Option Int))} {M:CM} {N:LM} (s:Sm pl M N) (c:Int):Sm pl (M.go c) (N.go pl M.back c):=by
 have p:N.under.length=M.letters.length:=z04 s.un;unfold CM.go LM.go LM.moved;rw [s.free,p];by_cases z:M.ready.length + M.letters.length=0
 ·rw [if_pos z,if_pos z];exact s
 rw [if_neg z,if_neg z];dsimp only;generalize (c % ((M.ready.length:Int) + 2 * (M.letters.length:Int))).toNat=n;by_cases hn:n < M.ready.length
 ·rw [if_pos hn,if_pos hn];have o:M.ready[n]? = some M.ready[n]:=v0 hn;rw [o];have k:M.ready[n]∈M.ready:=Z2 hn;generalize M.ready[n]=h at k o;unfold CM.ready at k;obtain ⟨r,a⟩:=List.mem_filter.mp k;have b:h < pl.length:=by have:=List.mem_range.mp r;rw [s.ll] at this;exact this
  have a:(!(M.left[h]?.getD []).isEmpty && M.idle[h]?.getD false)=true:=a;rw [s.lf h b,s.id h b,P4] at a;have t:N.opn[h]? = some none:=by
   have g:(N.opn[h]?.getD none).isNone=true:=a.2;have j:h < N.opn.length:=by rw [s.ol];exact b
   rw [v0 j] at g⊢;cases e:N.opn[h] with
   | none=>rfl
   | some D=>rw [e] at g;cases g
  show Sm pl (match M.left[h]? with|some (d :: rest)=>M.start h d rest|_=>M) (match (pl[h]?.getD [])[N.nxt[h]?.getD 0]? with|some d=>N.begin h d|none=>N);have f:=s.lf h b;cases e:(pl[h]?.getD []).drop (N.nxt[h]?.getD 0) with
  | nil=>have m:(!((pl[h]?.getD []).drop (N.nxt[h]?.getD 0)).isEmpty)=true:=a.1;rw [e] at m;cases m
  | cons d rest=>
   rw [e] at f;have q:(pl[h]?.getD [])[N.nxt[h]?.getD 0]? = some d:=by have:=congrArg (·[0]?) e;simp only [List.getElem?_drop,Nat.add_zero,D4] at this;exact this
   rw [f,q];exact s.begin b t f
 ·rw [if_neg hn,if_neg hn];generalize hi:(n - M.ready.length) % M.letters.length=i;cases hL:M.letters[i]? with
  | none=>
   have:N.under[i]? = none:=by rw [List.getElem?_eq_none_iff] at hL⊢;omega
   rw [this];exact s
  | some L=>
   obtain ⟨l,j,u⟩:=z0r s.un hL;rw [j];dsimp only;by_cases hb:n < M.ready.length + M.letters.length
   ·rw [if_pos hb,if_pos hb];exact (s.pop i).come u (s.inb L (T0 hL))
   ·rw [if_neg hb,if_neg hb];exact s.pop i
theorem zj0 {M:CM} {er:Er}:(M.ask er).back=M.back:=by
 unfold CM.ask;split
 ·rfl
 ·split<;>rfl
theorem go_back {M:CM} {c:Int}:(M.go c).back=M.back:=by
 have a :∀{M:CM} {L:Lt},(M.come L).back=M.back:=λ {M L}=>by
  unfold CM.come;split
  ·unfold CM.comeBack;split
   ·rfl
   ·split
    ·rfl
    ·exact zj0
  ·rfl
  ·rfl
 unfold CM.go;split
 ·rfl
 ·dsimp only;split
  ·split<;>rfl
  ·split
   ·split
    ·exact a
    ·rfl
   ·rfl
theorem Sm.init {pl:List (List (Option Int))} {m:Nat} {bk:Bool} (hm:m % 2=1):Sm pl (CM.init m bk pl) (LM.init m pl):=by
 have c :∀{α:Type} (x:α) (h:Nat),h < pl.length->(pl.map λ _=>x)[h]? = some x:=λ x h a=>by rw [N0,v0 a];rfl
 refine ⟨rfl,rfl,C0 ..,C0 ..,rfl,C0 ..,λ h a=>?_,λ h a=>?_,rfl,.nil,λ h D b=>?_,λ e g d=>?_,by show (P0 m _).length % 2=1;rw [C2];exact hm,λ L f=>absurd f L0⟩
 ·show pl[h]? = some ((pl[h]?.getD []).drop ((pl.map λ _=>0)[h]?.getD 0));rw [c 0 h a,v0 a];rfl
 ·show (pl.map λ _=>true)[h]? = some ((pl.map λ _=>(none:Option LD))[h]?.getD none).isNone;rw [c true h a,c none h a];rfl
 ·have b:(pl.map λ _=>(none:Option LD))[h]? = some (some D):=b;rw [N0] at b;obtain ⟨_,_,e⟩:=Option.map_eq_some_iff.mp b;cases e
 ·cases d
theorem zc8 {pl:List (List (Option Int))} {m:Nat} {bk:Bool} (hm:m % 2=1) :∀cs:List Int,Sm pl (cs.foldl CM.go (CM.init m bk pl)) (cs.foldl (λ N c=>N.go pl bk c) (LM.init m pl)):=by
 have a :∀(cs:List Int) (M:CM) (N:LM),M.back=bk->Sm pl M N->Sm pl (cs.foldl CM.go M) (cs.foldl (λ N c=>N.go pl bk c) N):=λ cs=>by
  induction cs with
  | nil=>exact λ _ _ _ s=>s
  | cons c cs ih=>exact λ M N e s=>ih _ _ (go_back.trans e) (by have:=s.go c;rw [e] at this;exact this)
 exact λ cs=>a cs _ _ rfl (Sm.init hm)
end
section
variable {P:Program} {w:C1} {mg:Str->Option Value} {base:Heap}
structure Ms (B H:Hp) (xs:List (Addr×HO)):Prop where
 c :∀p∈xs,H p.1=some p.2
 nd:(xs.map (·.1)).Nodup
 fr :∀p∈xs,B p.1=none
theorem Ms.same {B H H':Hp} {xs:List (Addr×HO)} (h:Ms B H xs) (s:Same H H'):Ms B H' xs:=⟨λ p a=>s _ _ (h.c p a),h.nd,h.fr⟩
theorem Ms.set {B H:Hp} {a b:List (Addr×HO)} {p:Addr} {o o':HO} (h:Ms B H (a++(p,o) :: b)):Ms B (upd H p o') (a++(p,o') :: b):=by
 have d:=h.nd;rw [P1,W1] at d;obtain ⟨k,g,j⟩:=List.nodup_append.mp d;have g:=List.nodup_cons.mp g;refine ⟨λ q i=>?_,by rw [P1,W1];exact d,λ q i=>?_⟩
 ·rcases List.mem_append.mp i with z|z
  ·rw [upd_ne (λ e=>j q.1 (F7 z) p V1 e)];exact h.c q (List.mem_append.mpr (.inl z))
  ·rcases List.mem_cons.mp z with z|z
   ·rw [z];exact z03
   ·rw [upd_ne (λ e=>g.1 (by rw [<-e];exact F7 (f:=(·.1)) z))];exact h.c q (List.mem_append.mpr (.inr (Q1 _ z)))
 ·rcases List.mem_append.mp i with z|z
  ·exact h.fr q (List.mem_append.mpr (.inl z))
  ·rcases List.mem_cons.mp z with z|z
   ·rw [z];exact h.fr (p,o) (List.mem_append.mpr (.inr V1))
   ·exact h.fr q (List.mem_append.mpr (.inr (Q1 _ z)))
theorem Ms.at {B H:Hp} {a b:List (Addr×HO)} {p:Addr} {o:HO} (h:Ms B H (a++(p,o) :: b)):H p=some o:=h.c (p,o) (List.mem_append.mpr (.inr V1))
theorem Ms.frA {B H:Hp} {a b:List (Addr×HO)} {p:Addr} {o:HO} (h:Ms B H (a++(p,o) :: b)):B p=none:=h.fr (p,o) (List.mem_append.mpr (.inr V1))
theorem Ms.perm {B H:Hp} {xs ys:List (Addr×HO)} (h:Ms B H xs) (p:xs.Perm ys):Ms B H ys:=⟨λ q a=>h.c q (p.mem_iff.mpr a),(p.map _).nodup_iff.mp h.nd,λ q a=>h.fr q (p.mem_iff.mpr a)⟩
theorem Ms.sub {B H:Hp} {xs ys:List (Addr×HO)} (h:Ms B H xs) (p:ys.Sublist xs):Ms B H ys:=⟨λ q a=>h.c q (p.subset a),h.nd.sublist (p.map _),λ q a=>h.fr q (p.subset a)⟩
theorem Ms.new {B H:Hp} {xs:List (Addr×HO)} {p:Addr} {o:HO} (h:Ms B H xs) (s:Same B H) (hp:H p=none):Ms B (upd H p o) ((p,o) :: xs):=by
 have b:=h.same (Same.upd (o:=o) hp);refine ⟨λ q a=>?_,List.nodup_cons.mpr ⟨λ z=>?_,h.nd⟩,λ q a=>?_⟩
 ·rcases List.mem_cons.mp a with z|z
  ·rw [z];exact z03
  ·exact b.c q z
 ·obtain ⟨q,a,e⟩:=List.mem_map.mp z;have:=h.c q a;rw [e,hp] at this;cases this
 ·rcases List.mem_cons.mp a with z|z
  ·rw [z];exact s.free hp
  ·exact h.fr q z
theorem Imm.dk {H:Hp} {l:Addr} {o:HO} {xs:List (Key×V)} (e:H l=some (.dK xs)):Imm H (upd H l o):=
 ⟨λ p a q=>by rw [upd_ne (λ z=>by rw [z,e] at q;cases q)];exact q,λ p C b fs q=>by rw [upd_ne (λ z=>by rw [z,e] at q;cases q)];exact q,λ p o u q=>by rw [upd_ne (λ z=>by rw [z,e] at q;cases q)];exact q⟩
theorem nd_sub {α:Type} :∀(ds l:List α),ds.Nodup->(∀d∈ds,d∈l)->ds.length<=l.length
 | [],_,_,_=>J2 _
 | d :: ds,l,a,h=>by
  classical
  have b:=h d V1;have a:=List.nodup_cons.mp a;have:=nd_sub ds (l.erase d) a.2 λ x c=>(q9 (λ e:x=d=>a.1 (by rw [<-e];exact c))).mpr (h x (Q1 _ c));rw [j2i b] at this;have:=N8 b;rw [A1];omega
def KS (ns:List Key) (kvs:List (Key×V)):Prop:=(kvs.map (·.1)).Nodup/\∀k∈kvs.map (·.1),k∈ns
theorem KS.len {ns:List Key} {kvs:List (Key×V)} (h:KS ns kvs):kvs.length<=ns.length:=by
 have:=nd_sub _ _ h.1 h.2
 rwa [C0] at this
theorem KS.nil {ns:List Key}:KS ns []:=⟨.nil,λ k h=>absurd h L0⟩
theorem KS.put {ns:List Key} {kvs:List (Key×V)} {k:Key} {v:V} (h:KS ns kvs) (hk:k∈ns):KS ns (putK kvs k v):=by
 unfold putK;split
 ·have e:(kvs.map λ f=>if f.1=k then (f.1,v) else f).map (·.1)=kvs.map (·.1):=by rw [K4];refine List.map_congr_left λ x _=>?_;show (if x.1=k then (x.1,v) else x).1=x.1;split<;>rfl
  unfold KS;rw [e];exact h
 ·rename_i z;unfold KS;rw [P1];refine ⟨List.nodup_append.mpr ⟨h.1,by simp,λ a c b d e=>?_⟩,λ x g=>?_⟩
  ·have d:b=k:=List.mem_singleton.mp d;rw [e,d] at c;rw [<-zd3] at c;exact z ((z62 _ _).trans c)
  ·rcases List.mem_append.mp g with y|y
   ·exact h.2 x y
   ·rw [List.mem_singleton.mp y];exact hk
def kS:List Key:=[.inr "held",.inr "under",.inr "next",.inr "events",.inr "open",.inr "rounds"]
def kD:List Key:=[.inr "verb",.inr "worth",.inr "round",.inr "keeps",.inr "heard",.inr "answer"]
def stV (K:j0) (H:Hp):Option Hd->V->V->Prop
 | none,a,b=>a=.non/\b=.non
 | some x,a,b=>∃q,a=.ref q/\SqT K H q [.int x.1.1,.int x.1.2]/\b=.int x.2
theorem stV.imm {K:j0} {H H':Hp} {x:Option Hd} {a b:V} (m:Imm H H') (h:stV K H x a b):stV K H' x a b:=by
 cases x with
 | none=>exact h
 | some x=>exact h.elim λ q z=>⟨q,z.1,m.seqT z.2.1,z.2.2⟩
def sideS (b:Bool):Str:=if b=true then "to" else "from"
def LLAt (K:j0) (H:Hp) (l:LL) (y:V):Prop:=∃p a b,y=.ref p/\H p=some (.tup [.int l.copy,.int l.hand,.int l.turn,.str (sideS l.to),a,b])/\stV K H l.x a b
theorem LLAt.imm {K:j0} {H H':Hp} {l:LL} {y:V} (m:Imm H H') (h:LLAt K H l y):LLAt K H' l y:=by obtain ⟨p,a,b,c,e,d⟩:=h;exact ⟨p,a,b,c,m.t _ _ e,d.imm m⟩
structure OE where
 d:Addr
 kvs:List (Key×V)
 l:Option (Addr×List V)
def entO:Option OE->List (Addr×HO)
 | none=>[]
 | some x=>(x.d,.dK x.kvs) :: (match x.l with|none=>[]|some y=>[(y.1,.lst y.2)])
def oeV:Option OE->V
 | none=>.non
 | some x=>.ref x.d
def OeAt (K:j0) (H:Hp) (D:LD) (y:OE):Prop:=KS kD y.kvs/\valV y.kvs (.inr "verb")=some (.str (vbD D.d))/\valV y.kvs (.inr "worth")=some (wvD D.d)/\(D.keeps=true->valV y.kvs (.inr "answer")=some (avD D.ans))/\
 (D.round≠0->valV y.kvs (.inr "round")=some (.int D.round)/\valV y.kvs (.inr "keeps")=some (.bl D.keeps)/\∃l hs,y.l=some (l,hs)/\valV y.kvs (.inr "heard")=some (.ref l)/\All2 (HdAt K H) D.heard hs)
def OeO (K:j0) (H:Hp):Option LD->Option OE->Prop
 | none,none=>True
 | some D,some y=>OeAt K H D y
 | _,_=>False
theorem OeO.imm {K:j0} {H H':Hp} {D:Option LD} {y:Option OE} (m:Imm H H') (h:OeO K H D y):OeO K H' D y:=by
 cases D with
 | none=>cases y with|none=>trivial|some y=>exact h
 | some D=>
  cases y with
  | none=>exact h
  | some y=>obtain ⟨k,i,j,f,g⟩:=h;refine ⟨k,i,j,f,λ z=>?_⟩;obtain ⟨b,d,l,c,e,a,n⟩:=g z;exact ⟨b,d,l,c,e,a,z00 (λ _ _ z=>z.imm m) n⟩
structure La where
 st:Addr
 hd:Addr
 un:Addr
 nx:Addr
 ev:Addr
 op:Addr
structure StO (A:La) (r:Nat) (kvs:List (Key×V)):Prop where
 ks:KS kS kvs
 hd:valV kvs (.inr "held")=some (.ref A.hd)
 un:valV kvs (.inr "under")=some (.ref A.un)
 nx:valV kvs (.inr "next")=some (.ref A.nx)
 ev:valV kvs (.inr "events")=some (.ref A.ev)
 op:valV kvs (.inr "open")=some (.ref A.op)
 rd:valV kvs (.inr "rounds")=some (.int r)
def baseO (A:La) (kvs:List (Key×V)) (hv uv nv vv ov:List V):List (Addr×HO):=[(A.st,.dK kvs),(A.hd,.lst hv),(A.un,.lst uv),(A.nx,.lst nv),(A.ev,.lst vv),(A.op,.lst ov)]
def natV (ns:List Nat):List V:=ns.map λ (n:Nat)=>V.int (n:Int)
structure Lw (K:j0) (B H:Hp) (A:La) (es:List (Option OE)) (N:LM):Prop where
 ct :∃kvs hv uv vv,StO A N.rounds kvs/\Ms B H (baseO A kvs hv uv (natV N.nxt) vv (es.map oeV)++es.flatMap entO)/\All2 (HdAt K H) N.held hv/\All2 (LLAt K H) N.under uv/\All2 (EvV H) N.events vv
 oe:All2 (OeO K H) N.opn es
theorem Lw.same {K:j0} {B H H':Hp} {A:La} {es:List (Option OE)} {N:LM} (h:Lw K B H A es N) (s:Same H H'):Lw K B H' A es N:=by obtain ⟨e,a,b,i,d,g,f,j,c⟩:=h.ct;have m:=Imm.of s;exact ⟨⟨e,a,b,i,d,g.same s,z00 (λ _ _ z=>z.imm m) f,z00 (λ _ _ z=>z.imm m) j,z00 (λ _ _ z=>z.imm m) c⟩,z00 (λ _ _ z=>OeO.imm m z) h.oe⟩
def PlR (H:Hp) (a:Addr) (pl:List (List (Option Int))):Prop:=∃os,H a=some (.lst os)/\All2 (λ own y=>∃b ys,y=.ref b/\H b=some (.lst ys)/\All2 (DdV H) own ys) pl os
theorem PlR.same {H H':Hp} {a:Addr} {pl:List (List (Option Int))} (s:Same H H') (h:PlR H a pl):PlR H' a pl:=by obtain ⟨c,e,d⟩:=h;exact ⟨c,s _ _ e,z00 (λ _ _ ⟨b,ys,e1,e2,e3⟩=>⟨b,ys,e1,s _ _ e2,z00 (λ _ _ z=>z.imm (Imm.of s)) e3⟩) d⟩
theorem plR_of {H:Hp} {a:Addr} {pl:List (List (Option Int))} (h:HPd H (.list (rowsP pl)) (.ref a)):PlR H a pl:=by
 obtain ⟨n,f,e,i,r⟩:=h;cases e;refine ⟨f,i,?_⟩;clear i;induction pl generalizing f with
 | nil=>have r:f=[]:=r;rw [r];exact .nil
 | cons own pl ih=>
  obtain ⟨x,k,rfl,⟨b,g,rfl,j,c⟩,r⟩:=r;refine .cons ⟨b,g,rfl,j,?_⟩ (ih k r);clear j ih r;induction own generalizing g with
  | nil=>have c:g=[]:=c;rw [c];exact .nil
  | cons d own ih=>obtain ⟨x,l,rfl,m,r⟩:=c;exact .cons (dd_v m) (ih l r)
theorem t_and {t u:TT} {σ:L2.St} {H:Hp} {Q:Bool->Hp->Prop} (h:t σ H λ c H1=>if c=true then u σ H1 Q else Q false H1):tAnd t u σ H Q:=h
theorem pairsC {v:V} {tv:TE} {r:List (TE×TE)} {σ:L2.St} {H:Hp} {Q:List (V×V)->Hp->Prop} (h:tv σ H λ y H2=>tPairs r σ H2 λ ps H3=>Q ((v,y) :: ps) H3):tPairs ((tC v,tv) :: r) σ H Q:=h
theorem z4b {td ty tv:TE} {rest:TS} {D:Ends} {σ:L2.St} {H:Hp} (h:tv σ H λ v H1=>td σ H1 λ x H2=>ty σ H2 λ y H3=>∃a H4,x=.ref a/\DPut H3 a y v H4/\rest D σ H4):tSeq (sDPut td ty tv) rest D σ H:=h
theorem vp_eq {kvs:List (Key×V)} {k:Key} {y:V}:valV (putK kvs k y) k=some y:=by rw [z7q,if_pos rfl]
theorem vp_ne {kvs:List (Key×V)} {j k:Key} {y:V} (h:j≠k):valV (putK kvs k y) j=valV kvs j:=by rw [z7q,if_neg h]
theorem z94 {α:Type} {n:Nat} {ys:List V} {v:V} {l:List α} (h:All2 (λ (_:Nat) y=>y=v) ((U0 n).filter λ _=>true) ys) (e:l.length=n):ys=l.map λ _=>v:=by have a:=z04 h;rw [List.filter_eq_self.mpr (λ _ _=>rfl),T2] at a;refine Z6 (by rw [C0,a,e]) λ i b c=>?_;rw [List.getElem_map];obtain ⟨_,_,z⟩:=z0m h (v0 b);exact z
theorem zjo {α:Type} (l:List α):(l.map λ _=>(none:Option OE)).flatMap entO=[]:=by
 induction l with
 | nil=>rfl
 | cons x l ih=>exact ih
theorem zjx {α:Type} {K:j0} {H:Hp} (l:List α):All2 (OeO K H) (l.map λ _=>none) (l.map λ _=>none):=by
 induction l with
 | nil=>exact .nil
 | cons x l ih=>exact .cons trivial ih
def z4x (K:j0):Sp:=λ vs H Q _=>∃(m:Nat) (a:Addr) (os:List V) (pl:List (List (Option Int))),vs=[.int m,.ref a]/\m<=5/\H a=some (.lst os)/\os.length=pl.length/\pl.length<=6/\∀A H',Same H H'->Lw K H H' A (pl.map λ _=>none) (LM.init m pl)->Q (.ref A.st) H'
theorem z8m (T:TX (kx w) mg):Fo P w mg base CX0 1 425 y0v ["many","plan"] (z4x (kx w)):=by
 refine (z3g w.params).ok sc__law_begun (λ vs H Q E h=>?_) (λ b8 A b7 s H vs Q E hr h=>?_)
 ·obtain ⟨m,a,os,u,rfl,_⟩:=h;rfl
 ·obtain ⟨m,a,os,u,rfl,m5,ea,lo,l6,q⟩:=h;refine ⟨_,(z02 (ps_set (i:=2) sc__law_begun.nd rfl (K1 rfl) (zie (z4o pe_str (pe_cg (xs:=["copy"]) (g:=gName 0) (fr:=[]) (z15 rfl (T.no (z2s _)) (z01 (pv 0) pa_nil)) (λ _ _ _ _ _=>(pg_cn (N:=["copy"]) 0)) (λ _ _ _ _ _=>pf_nil) (λ _ _ _ _ _=>(pe_tup (z01 (pe_tup (z01 pe_int (z01 (pe_un un_neg pe_int) pa_nil))) (z01 pe_int pa_nil))))) (z4o pe_str (pe_lst pa_nil) (z4o pe_str (pe_cg (xs:=["row"]) (g:=gName 0) (fr:=[]) (z17 (pv 1)) (λ _ _ _ _ _=>(pg_cn (N:=["row"]) 0)) (λ _ _ _ _ _=>pf_nil) (λ _ _ _ _ _=>pe_int)) (z4o pe_str (pe_lst pa_nil) zhv)))) rfl rfl (by simp) (by decide)))
   (z02 (z3a (hu_of hr) (pv 2) pe_str (pe_cg (xs:=["row"]) (g:=gName 0) (fr:=[]) (z17 (pv 1)) (λ _ _ _ _ _=>(pg_cn (N:=["row"]) 0)) (λ _ _ _ _ _=>pf_nil) (λ _ _ _ _ _=>pe_non)) rfl)
   (z02 (z3a (hu_of hr) (pv 2) pe_str pe_int rfl)
   (z05 (ps_ret (pv 2)))))),?_⟩
  refine z0b ?_;intro p F;have M0:Ms H H []:=⟨λ _ h=>absurd h L0,.nil,λ _ h=>absurd h L0⟩
  have M1:=M0.new (o:=.dK []) (Same.refl _) F;have s1:=Same.upd (o:=.dK []) F;generalize upd H p (.dK [])=H1 at M1 s1⊢;refine pairsC ?_;refine z9h (S:=Same) (n:=m) (λ _=>true) (λ _ y H'=>HdAt (kx w) H' ((0,-1),0) y) (Same.refl _) (λ _ _ _ a b=>a.trans b) (λ _ _=>Same.refl _) (λ _ _ _ _ s z=>z.imm (Imm.of s)) (λ R h=>⟨_,rfl,h⟩) (O0 (m:=5) m5 (by decide)) (λ k hk H7 s7 KT KF t C=>?_) λ r H2 B Z Y D=>?_
  ·refine ⟨[some (.int (k:Nat))],rfl,rfl,iteT ?_⟩;refine ⟨1,rfl,w_2,λ p1 b5=>⟨w_2,λ p2 b2=>?_⟩⟩;have t1:=Same.upd (o:=.tup [.int 0,.int (-1)]) b5;have t2:=Same.upd (o:=.tup [.ref p1,.int 0]) b2;exact t rfl _ _ (t1.trans t2) ⟨p2,p1,rfl,SqT.of z03,SqT.of (t2 _ _ z03)⟩
  rw [List.filter_eq_self.mpr (λ _ _=>rfl)] at D;have M2:=(M1.same Z).new (o:=.lst B) (s1.trans Z) Y;have a2:=(s1.trans Z).trans (Same.upd (o:=.lst B) Y);have D:=z00 (λ _ _ z=>HdAt.imm (Imm.of (Same.upd (o:=.lst B) Y)) z) D;generalize upd H2 r (.lst B)=H3 at M2 a2 D⊢;refine pairsC ⟨w_0,λ e a6=>?_⟩;have M4:=M2.new (o:=.lst []) a2 a6;have t4:=Same.upd (o:=.lst []) a6;generalize upd H3 e (.lst [])=H4 at M4 t4⊢;have W:=a2.trans t4;refine pairsC ?_;refine z2c (K:=KX w.params) (a:=a) (xs:=os) (H1:=H4) (λ _=>true) (λ _ y _=>y=.int 0) (λ _ _ _ _ _ z=>z) (λ R h=>⟨_,rfl,h⟩) (SqL.of (W _ _ ea)) (O0 (m:=6) (by omega) (by decide)) (λ i hi v H9 G B KT KF t C=>⟨[some v],rfl,rfl,iteT (t rfl _ _ (Same.refl _) rfl)⟩) λ f H5 O s5 b1 fn=>?_;have M6:=(M4.same s5).new (o:=.lst O) (W.trans s5) b1;have t6:=s5.trans (Same.upd (o:=.lst O) b1);generalize upd H5 f (.lst O)=H6 at M6 t6⊢;have s6:=W.trans t6;refine pairsC ⟨w_0,λ le b0=>?_⟩;have M:=M6.new (o:=.lst []) s6 b0;have X:=Same.upd (o:=.lst []) b0;generalize upd H6 le (.lst [])=H7 at M X⊢;have s7:=s6.trans X;refine ⟨M.c (p,.dK []) (by simp),[(.inr "held",.ref r),(.inr "under",.ref e),(.inr "next",.ref f),(.inr "events",.ref le)],rfl,(show (4:Nat)<=15 by decide),?_⟩;have M8:=Ms.set (a:=[_,_,_,_]) (o':=.dK (mergeK [] [(.inr "held",.ref r),(.inr "under",.ref e),(.inr "next",.ref f),(.inr "events",.ref le)])) M;have L:=Same.keep (o:=.dK (mergeK [] [(.inr "held",.ref r),(.inr "under",.ref e),(.inr "next",.ref f),(.inr "events",.ref le)])) s7 F;have m8:=Imm.dk (o:=.dK (mergeK [] [(.inr "held",.ref r),(.inr "under",.ref e),(.inr "next",.ref f),(.inr "events",.ref le)])) (M.c (p,.dK []) (by simp));have a5:=(Imm.of ((t4.trans t6).trans X)).trans m8;generalize upd H7 p (.dK (mergeK [] [(.inr "held",.ref r),(.inr "under",.ref e),(.inr "next",.ref f),(.inr "events",.ref le)]))=H8 at M8 L a5⊢;refine g_name ?_;refine z4b ?_;refine z2c (K:=KX w.params) (a:=a) (xs:=os) (H1:=H8) (λ _=>true) (λ _ y _=>y=.non) (λ _ _ _ _ _ z=>z) (λ R h=>⟨_,rfl,h⟩) (SqL.of (L _ _ ea)) (O0 (m:=6) (by omega) (by decide)) (λ i hi v H9 G B KT KF t C=>⟨[some v],rfl,rfl,iteT (t rfl _ _ (Same.refl _) rfl)⟩) λ d H9 I G a3 fo=>?_;have J:=(M8.same G).new (o:=.lst I) (L.trans G) a3;have t9:=G.trans (Same.upd (o:=.lst I) a3);generalize upd H9 d (.lst I)=H10 at J t9⊢;have b4:=L.trans t9;have a0:=J.c (p,.dK (mergeK [] [(.inr "held",.ref r),(.inr "under",.ref e),(.inr "next",.ref f),(.inr "events",.ref le)])) (by simp);refine ⟨_,rfl,p,_,rfl,DPut.k (k:=.inr "open") a0 (V0 (z43 [] _) (show (4:Nat) < sizeLine by decide)),?_⟩;generalize hk0:mergeK [] [(.inr "held",.ref r),(.inr "under",.ref e),(.inr "next",.ref f),(.inr "events",.ref le)]=k0 at J a0⊢;have l0:k0.length<=4:=by rw [<-hk0];exact z43 [] _
  have a1:=Ms.set (a:=[_,_,_,_,_]) (o':=.dK (putK k0 (.inr "open") (.ref d))) J;have a9:=Same.keep (o:=.dK (putK k0 (.inr "open") (.ref d))) b4 F;have a4:=Imm.dk (o:=.dK (putK k0 (.inr "open") (.ref d))) a0;generalize upd H10 p (.dK (putK k0 (.inr "open") (.ref d)))=H11 at a1 a9 a4⊢;have a7:=a1.c (p,.dK (putK k0 (.inr "open") (.ref d))) (by simp);have l1:(putK k0 (.inr "open") (.ref d)).length<=5:=O0 (z21 _ _ _) (by omega);refine z4b ⟨_,rfl,p,_,rfl,DPut.k (k:=.inr "rounds") a7 (V0 l1 (by decide)),?_⟩;have a8:=Ms.set (a:=[_,_,_,_,_]) (o':=.dK (putK (putK k0 (.inr "open") (.ref d)) (.inr "rounds") (.int 0))) a1;have b6:=Same.keep (o:=.dK (putK (putK k0 (.inr "open") (.ref d)) (.inr "rounds") (.int 0))) a9 F;have b3:=Imm.dk (o:=.dK (putK (putK k0 (.inr "open") (.ref d)) (.inr "rounds") (.int 0))) a7;have mm:=((a5.trans (Imm.of t9)).trans a4).trans b3;refine sq_ret ⟨_,rfl,q ⟨p,r,e,f,le,d⟩ _ b6 ⟨⟨putK (putK k0 (.inr "open") (.ref d)) (.inr "rounds") (.int 0),B,[],[],?_,?_,?_,.nil,.nil⟩,?_⟩⟩
  ·have U :∀{j:Key} {v:V},j≠.inr "open"->j≠.inr "rounds"->valV k0 j=some v->valV (putK (putK k0 (.inr "open") (.ref d)) (.inr "rounds") (.int 0)) j=some v:=λ t C h3=>(vp_ne C).trans ((vp_ne t).trans h3);obtain rfl:k0=putK (putK (putK (putK [] (.inr "held") (.ref r)) (.inr "under") (.ref e)) (.inr "next") (.ref f)) (.inr "events") (.ref le):=hk0.symm;exact ⟨(((((KS.nil.put (by simp [kS])).put (by simp [kS])).put (by simp [kS])).put (by simp [kS])).put (by simp [kS])).put (by simp [kS]),U (by decide +kernel) (by decide +kernel) ((vp_ne (by decide +kernel)).trans ((vp_ne (by decide +kernel)).trans ((vp_ne (by decide +kernel)).trans vp_eq))),U (by decide +kernel) (by decide +kernel) ((vp_ne (by decide +kernel)).trans ((vp_ne (by decide +kernel)).trans vp_eq)),U (by decide +kernel) (by decide +kernel) ((vp_ne (by decide +kernel)).trans vp_eq),U (by decide +kernel) (by decide +kernel) vp_eq,(vp_ne (by decide +kernel)).trans vp_eq,vp_eq⟩
  ·have e1:O=natV (u.map λ _=>0):=by rw [z94 (l:=u) fn lo.symm];unfold natV;rw [K4];rfl
   have e2:I=(u.map λ _=>none).map oeV:=by rw [z94 (l:=u) fo lo.symm,K4];rfl
   rw [zjo,F2];rw [e1,e2] at a8;exact a8.perm (List.reverse_perm _).symm
  ·refine z1n (by rw [z04 D,T2];exact List.length_replicate.symm) λ i x y t C=>?_;obtain ⟨_,_,z⟩:=z0m D C;have hx:=T0 t;rw [(List.mem_replicate.mp hx).2];exact z.imm mm
  ·show All2 _ (u.map λ _=>none) (u.map λ _=>none);exact zjx u
def z24 (K:j0):Sp:=λ vs H Q _=>∃(A:La) (a:Addr) (B:Hp) (es:List (Option OE)) (N:LM) (pl:List (List (Option Int))),vs=[.ref A.st,.ref a]/\Lw K B H A es N/\PlR H a pl/\pl.length<=6/\N.opn.length=pl.length/\N.nxt.length=pl.length/\∀l H',Same H H'->H l=none->H' l=some (.lst (natV (N.free pl)))->Q (.ref l) H'
theorem zaa (T:TX (kx w) mg):Fo P w mg base CX0 1 430 y13 ["state","plan"] (z24 (kx w)):=by
 refine (z4d w.params).ok z9x (λ vs H Q E h=>?_) (λ a3 A a2 s H vs Q E G h=>?_)
 ·obtain ⟨m,a,B,x,N,c,rfl,_⟩:=h;rfl
 ·obtain ⟨e,a,B,x,N,c,rfl,v,⟨u,W,L⟩,l6,ol,nl,q⟩:=h;refine ⟨_,(z05 (ps_ret (zft (xs:=["hand"]) (g:=gName 0) (fr:=[(0,"state"),(1,"plan")]) rfl (z15 rfl (T.no (z2s _)) (z01 (z07 (z2e (K:=KX w.params) rfl) rfl (T.no (n_len _)) G2 (z01 (pv 1) pa_nil)) pa_nil)) (by intro p j;simp only [V3,L0,or_false] at j;rcases j with rfl|rfl<;>first|exact ⟨rfl,.inl rfl⟩|exact ⟨rfl,.inr rfl⟩) (zky (ns:=["state","plan"]) (by decide +kernel) (by intro n O k;simp only [V3,L0,or_false] at O;rcases O with rfl|rfl<;>first|exact .inl rfl|exact .inr rfl)) (by intro p j;simp only [V3,L0,or_false] at j;rcases j with rfl|rfl<;>exact ⟨by decide +kernel,by first|exact .inl rfl|exact .inr rfl⟩) (by decide +kernel) rfl (by decide +kernel) (λ _ _ _ _ _=>(pg_cn (N:=["hand","state","plan"]) 0)) (λ _ _ _ _ _=>(pf_one (PW.pt (pw_and (z0a op_isN (pe_ix (z7e (K:=KX w.params) rfl) (z0d (hu_of G) (pv 1) pe_str (λ _ _=>rfl)) (pv 0) (λ _ _=>rfl)) pe_non (nomark _)) (z2w (z0a op_lt (pe_ix (z7e (K:=KX w.params) rfl) (z0d (hu_of G) (pv 1) pe_str (λ _ _=>rfl)) (pv 0) (λ _ _=>rfl)) (z07 (z2e (K:=KX w.params) rfl) rfl (T.no (n_len _)) G2 (z01 (pe_ix (z7e (K:=KX w.params) rfl) (pv 2) (pv 0) (λ _ _=>rfl)) pa_nil)) (nomark _))))))) (λ _ _ _ _ _=>(pv 0))))),?_⟩;obtain ⟨a0,hv,uv,vv,J,r,c2,c3,c4⟩:=v.ct;have F:H e.st=some (.dK a0):=r.at (a:=[]);have a1:H e.nx=some (.lst (natV N.nxt)):=r.at (a:=[_,_,_]);have Z:H e.op=some (.lst (x.map oeV)):=r.at (a:=[_,_,_,_,_]);have lo:u.length=c.length:=z04 L;have le:x.length=N.opn.length:=z04 v.oe;refine sq_ret ?_;refine z9h (S:=Same) (n:=u.length) (N.fre c) (λ k y _=>y=.int (k:Nat)) (Same.refl _) (λ _ _ _ a b=>a.trans b) (λ _ _=>Same.refl _) (λ _ _ _ _ _ z=>z) (λ R h=>⟨_,rfl,.inl ⟨a,u,rfl,.inl (SqL.of W),h⟩⟩) (O0 (m:=6) (by omega) (by decide)) (λ k hk H7 d KT KF t l=>?_) λ l7 H7 us d U fa=>?_
  ·have ko:k < N.opn.length:=by omega
   have kn:k < N.nxt.length:=by omega
   have C:N.opn[k]? = some N.opn[k]:=v0 ko;have M:N.nxt[k]? = some N.nxt[k]:=v0 kn;obtain ⟨i,X,o⟩:=z0r v.oe C;obtain ⟨y,hy,b,I,rfl,eb,Y⟩:=z0r L (v0 (show k < c.length by omega));have hP:c[k]? = some c[k]:=v0 (show k < c.length by omega);have fre:N.fre c k=((N.opn[k]).isNone && decide (N.nxt[k] < (c[k]).length)):=by unfold LM.fre;rw [C,M,hP];rfl
   rw [fre] at t l;refine ⟨[some (.int (k:Nat))],rfl,rfl,t_and ?_⟩;refine ⟨_,rfl,e.st,.ref e.op,rfl,(by rw [<-J.op];exact DGet.k (k:=.inr "open") (d _ _ F)),?_⟩;refine ⟨_,rfl,.inl ⟨e.op,_,k,oeV i,rfl,rfl,SqL.of (d _ _ Z),z08 (by rw [N0,X];rfl),rfl,_,rfl,?_⟩⟩;cases hoo:N.opn[k] with
   | some D=>
    rw [hoo] at o l;cases i with
    | none=>exact o.elim
    | some i=>exact iteN (by simp [oeV]) (iteF (l rfl _ (Same.refl _)))
   | none=>
    rw [hoo] at o t l;cases i with
    | some i=>exact o.elim
    | none=>
    refine iteP (decide_eq_true rfl) ?_;refine ⟨_,rfl,e.st,.ref e.nx,rfl,(by rw [<-J.nx];exact DGet.k (k:=.inr "next") (d _ _ F)),?_⟩;refine ⟨_,rfl,.inl ⟨e.nx,_,k,.int (N.nxt[k]:Nat),rfl,rfl,SqL.of (d _ _ a1),z08 (by unfold natV;rw [N0,M];rfl),?_⟩⟩;refine ⟨_,rfl,_,rfl,.inl ⟨a,_,k,.ref b,rfl,rfl,SqL.of (d _ _ W),z08 hy,.inl ⟨b,I,rfl,.inl (SqL.of (d _ _ eb)),_,_,rfl,rfl,_,rfl,?_⟩⟩⟩;have ly:I.length=(c[k]).length:=z04 Y;by_cases z:N.nxt[k] < (c[k]).length
    ·exact iteP (decide_eq_true (by omega)) ⟨_,rfl,t (by rw [decide_eq_true z];rfl) _ _ (Same.refl _) rfl⟩
    ·exact iteN (λ y=>z (by have:=of_decide_eq_true y;omega)) (l (by rw [decide_eq_false z];rfl) _ (Same.refl _))
  ·have e1:us=natV (N.free c):=by unfold LM.free natV;rw [<-lo];exact z1m (f:=λ (k:Nat)=>V.int (k:Nat)) fa
   rw [e1];exact q l7 _ (d.trans (Same.upd U)) (d.free U) z03
theorem StO.ghd {H:Hp} {A:La} {r:Nat} {kvs:List (Key×V)} (c:StO A r kvs) (e:H A.st=some (.dK kvs)):DGet H A.st (.str "held") (some (.ref A.hd)):=c.hd ▸ DGet.k (k:=.inr "held") e
theorem StO.gun {H:Hp} {A:La} {r:Nat} {kvs:List (Key×V)} (c:StO A r kvs) (e:H A.st=some (.dK kvs)):DGet H A.st (.str "under") (some (.ref A.un)):=c.un ▸ DGet.k (k:=.inr "under") e
theorem StO.gnx {H:Hp} {A:La} {r:Nat} {kvs:List (Key×V)} (c:StO A r kvs) (e:H A.st=some (.dK kvs)):DGet H A.st (.str "next") (some (.ref A.nx)):=c.nx ▸ DGet.k (k:=.inr "next") e
theorem StO.gev {H:Hp} {A:La} {r:Nat} {kvs:List (Key×V)} (c:StO A r kvs) (e:H A.st=some (.dK kvs)):DGet H A.st (.str "events") (some (.ref A.ev)):=c.ev ▸ DGet.k (k:=.inr "events") e
theorem StO.gop {H:Hp} {A:La} {r:Nat} {kvs:List (Key×V)} (c:StO A r kvs) (e:H A.st=some (.dK kvs)):DGet H A.st (.str "open") (some (.ref A.op)):=c.op ▸ DGet.k (k:=.inr "open") e
theorem StO.grd {H:Hp} {A:La} {r:Nat} {kvs:List (Key×V)} (c:StO A r kvs) (e:H A.st=some (.dK kvs)):DGet H A.st (.str "rounds") (some (.int r)):=c.rd ▸ DGet.k (k:=.inr "rounds") e
theorem StO.put {A:La} {r r':Nat} {kvs:List (Key×V)} (c:StO A r kvs):StO A r' (putK kvs (.inr "rounds") (.int r')):=⟨c.ks.put (by simp [kS]),(vp_ne (by decide +kernel)).trans c.hd,(vp_ne (by decide +kernel)).trans c.un,(vp_ne (by decide +kernel)).trans c.nx,(vp_ne (by decide +kernel)).trans c.ev,(vp_ne (by decide +kernel)).trans c.op,vp_eq⟩
theorem z2a :∀{es:List (Option OE)} {j:Nat} {x:Option OE} (x':Option OE),es[j]? = some x->(es.set j x').flatMap entO=(es.take j).flatMap entO++(entO x'++(es.drop (j + 1)).flatMap entO)
 | [],_,_,_,h=>by cases h
 | e :: es,0,x,x',_=>by simp
 | e :: es,j + 1,x,x',h=>by have:=z2a (es:=es) (j:=j) x' h;rw [List.set_cons_succ,List.flatMap_cons,this,List.take_succ_cons,List.flatMap_cons,List.drop_succ_cons,A2]
theorem z5n {α:Type} {l:List α} {i:Nat} {x:α} (h:l[i]? = some x):l.set i x=l:=by obtain ⟨a,rfl⟩:=List.getElem?_eq_some_iff.mp h;exact List.set_getElem_self a
theorem z61 {es:List (Option OE)} {j:Nat} {x:Option OE} (h:es[j]? = some x):es.flatMap entO=(es.take j).flatMap entO++(entO x++(es.drop (j + 1)).flatMap entO):=by
 have:=z2a x h
 rwa [z5n h] at this
theorem map_set {es:List (Option OE)} {j:Nat} {x:Option OE}:(es.set j x).map oeV=(es.map oeV).set j (oeV x):=L8
theorem Lw.setU {K:j0} {B H:Hp} {A:La} {es:List (Option OE)} {N:LM} {us:List LL} {uv':List V} (h:Lw K B H A es N) (a :∀H',Imm H H'->All2 (LLAt K H') us uv'):Lw K B (upd H A.un (.lst uv')) A es { N with under:=us }:=by obtain ⟨f,c,j,i,e,b,g,k,d⟩:=h.ct;have m:Imm H (upd H A.un (.lst uv')):=Imm.lst (b.at (a:=[_,_]));exact ⟨⟨f,c,uv',i,e,b.set (a:=[_,_]),z00 (λ _ _ z=>z.imm m) g,a _ m,z00 (λ _ _ z=>z.imm m) d⟩,z00 (λ _ _ z=>OeO.imm m z) h.oe⟩
theorem Lw.setV {K:j0} {B H:Hp} {A:La} {es:List (Option OE)} {N:LM} {us:List CEv} {uv':List V} (h:Lw K B H A es N) (a :∀H',Imm H H'->All2 (EvV H') us uv'):Lw K B (upd H A.ev (.lst uv')) A es { N with events:=us }:=by obtain ⟨f,c,d,k,e,b,g,i,j⟩:=h.ct;have m:Imm H (upd H A.ev (.lst uv')):=Imm.lst (b.at (a:=[_,_,_,_]));exact ⟨⟨f,c,d,uv',e,b.set (a:=[_,_,_,_]),z00 (λ _ _ z=>z.imm m) g,z00 (λ _ _ z=>z.imm m) i,a _ m⟩,z00 (λ _ _ z=>OeO.imm m z) h.oe⟩
theorem Lw.setS {K:j0} {B H:Hp} {A:La} {es:List (Option OE)} {N:LM} {us:List Hd} {uv':List V} (h:Lw K B H A es N) (a :∀H',Imm H H'->All2 (HdAt K H') us uv'):Lw K B (upd H A.hd (.lst uv')) A es { N with held:=us }:=by obtain ⟨f,j,c,g,e,b,k,i,d⟩:=h.ct;have m:Imm H (upd H A.hd (.lst uv')):=Imm.lst (b.at (a:=[_]));exact ⟨⟨f,uv',c,g,e,b.set (a:=[_]),a _ m,z00 (λ _ _ z=>z.imm m) i,z00 (λ _ _ z=>z.imm m) d⟩,z00 (λ _ _ z=>OeO.imm m z) h.oe⟩
theorem Lw.setN {K:j0} {B H:Hp} {A:La} {es:List (Option OE)} {N:LM} {us:List Nat} {uv':List V} (h:Lw K B H A es N) (a:uv'=natV us):Lw K B (upd H A.nx (.lst uv')) A es { N with nxt:=us }:=by subst a;obtain ⟨g,c,d,j,f,b,i,k,e⟩:=h.ct;have m:Imm H (upd H A.nx (.lst (natV us))):=Imm.lst (b.at (a:=[_,_,_]));exact ⟨⟨g,c,d,j,f,b.set (a:=[_,_,_]),z00 (λ _ _ z=>z.imm m) i,z00 (λ _ _ z=>z.imm m) k,z00 (λ _ _ z=>z.imm m) e⟩,z00 (λ _ _ z=>OeO.imm m z) h.oe⟩
theorem Lw.setR {K:j0} {B H:Hp} {A:La} {es:List (Option OE)} {N:LM} {r:Nat} {kvs:List (Key×V)} (h:Lw K B H A es N) (e:H A.st=some (.dK kvs)):Lw K B (upd H A.st (.dK (putK kvs (.inr "rounds") (.int r)))) A es { N with rounds:=r }:=by obtain ⟨l,d,f,k,i,b,j,n,g⟩:=h.ct;have c:H A.st=some (.dK l):=b.at (a:=[]);rw [e] at c;cases c;have m:Imm H (upd H A.st (.dK (putK kvs (.inr "rounds") (.int r)))):=Imm.dk e;exact ⟨⟨_,d,f,k,i.put,b.set (a:=[]),z00 (λ _ _ z=>z.imm m) j,z00 (λ _ _ z=>z.imm m) n,z00 (λ _ _ z=>z.imm m) g⟩,z00 (λ _ _ z=>OeO.imm m z) h.oe⟩
theorem z3r {α β:Type} {R:α->β->Prop} :∀{xs:List α} {ys:List β} (i:Nat) {x:α} {y:β},All2 R xs ys->R x y->All2 R (xs.set i x) (ys.set i y)
 | _,_,_,_,_,.nil,_=>.nil
 | _,_,0,_,_,.cons _ r,h=>.cons h r
 | _,_,i + 1,_,_,.cons a r,h=>.cons a (z3r i r h)
theorem Lw.setD {K:j0} {B H:Hp} {A:La} {es:List (Option OE)} {N:LM} {h:Nat} {y:OE} {D':LD} {kvs':List (Key×V)} (lw:Lw K B H A es N) (hy:es[h]? = some (some y)) (a :∀H',Imm H H'->OeAt K H' D' { y with kvs:=kvs' }):Lw K B (upd H y.d (.dK kvs')) A (es.set h (some { y with kvs:=kvs' })) { N with opn:=N.opn.set h (some D') }/\H y.d=some (.dK y.kvs)/\B y.d=none:=by
 obtain ⟨kvs,c,f,i,k,g,n,o,j⟩:=lw.ct;rw [z61 hy] at g;have b:Ms B H ((baseO A kvs c f (natV N.nxt) i (es.map oeV)++(es.take h).flatMap entO)++(y.d,.dK y.kvs) :: ((match y.l with|none=>[]|some y=>[(y.1,HO.lst y.2)])++(es.drop (h + 1)).flatMap entO)):=by rw [A2];exact g
 have m:Imm H (upd H y.d (.dK kvs')):=Imm.dk b.at;refine ⟨⟨⟨kvs,c,f,i,k,?_,z00 (λ _ _ z=>z.imm m) n,z00 (λ _ _ z=>z.imm m) o,z00 (λ _ _ z=>z.imm m) j⟩,z3r h (z00 (λ _ _ z=>OeO.imm m z) lw.oe) (show OeO K _ (some D') (some _) from a _ m)⟩,b.at,b.frA⟩;have:=b.set (o':=.dK kvs');rw [z2a _ hy,map_set];rw [A2] at this;have e:(es.map oeV).set h (oeV (some { y with kvs:=kvs' }))=es.map oeV:=by refine z5n ?_;rw [N0,hy];rfl
 rw [e];exact this
theorem Lw.setL {K:j0} {B H:Hp} {A:La} {es:List (Option OE)} {N:LM} {h:Nat} {y:OE} {D':LD} {kvs':List (Key×V)} {l:Addr} (lw:Lw K B H A es N) (hy:es[h]? = some (some y)) (hl:H l=none) (s:Same B H) (a :∀H',OeAt K H' D' ⟨y.d,kvs',some (l,[])⟩):Lw K B (upd (upd H l (.lst [])) y.d (.dK kvs')) A (es.set h (some ⟨y.d,kvs',some (l,[])⟩)) { N with opn:=N.opn.set h (some D') }:=by
 obtain ⟨f,b,c,g,p,j,r,v,k⟩:=lw.ct;rw [z61 hy] at j;have t:=Same.upd (o:=.lst []) hl;have n:=j.new (o:=.lst []) s hl;have i:Ms B (upd H l (.lst [])) (((l,.lst []) :: (baseO A f b c (natV N.nxt) g (es.map oeV)++(es.take h).flatMap entO))++(y.d,.dK y.kvs) :: ((match y.l with|none=>[]|some y=>[(y.1,HO.lst y.2)])++(es.drop (h + 1)).flatMap entO)):=by rw [List.cons_append,A2];exact n
 have m:Imm H (upd (upd H l (.lst [])) y.d (.dK kvs')):=(Imm.of t).trans (Imm.dk i.at);refine ⟨⟨f,b,c,g,p,?_,z00 (λ _ _ z=>z.imm m) r,z00 (λ _ _ z=>z.imm m) v,z00 (λ _ _ z=>z.imm m) k⟩,z3r h (z00 (λ _ _ z=>OeO.imm m z) lw.oe) (show OeO K _ (some D') (some _) from a _)⟩;have:=i.set (o':=.dK kvs');rw [z2a _ hy,map_set];have e:(es.map oeV).set h (oeV (some ⟨y.d,kvs',some (l,[])⟩))=es.map oeV:=by refine z5n ?_;rw [N0,hy];rfl
 rw [e];generalize baseO A f b c (natV N.nxt) g (es.map oeV)=b0 at this⊢;generalize (es.take h).flatMap entO=e1 at this⊢;generalize (es.drop (h + 1)).flatMap entO=e2 at this⊢;refine (this.sub (ys:=((l,.lst []) :: (b0++e1))++(y.d,.dK kvs') :: e2) ?_).perm ?_
 ·exact B8 (X8 _) (List.Sublist.cons₂ _ (j27 _ _))
 ·show List.Perm ((l,HO.lst []) :: ((b0++e1)++(y.d,HO.dK kvs') :: e2)) (b0++(e1++(y.d,HO.dK kvs') :: (l,HO.lst []) :: e2));have u:b0++(e1++(y.d,HO.dK kvs') :: (l,HO.lst []) :: e2)=((b0++e1)++[(y.d,HO.dK kvs')])++(l,HO.lst []) :: e2:=by simp
  have q:(b0++e1)++(y.d,HO.dK kvs') :: e2=((b0++e1)++[(y.d,HO.dK kvs')])++e2:=by simp
  rw [u,q];exact List.perm_middle.symm
theorem Lw.setO {K:j0} {B H:Hp} {A:La} {es:List (Option OE)} {N:LM} {h:Nat} {y:Option OE} (lw:Lw K B H A es N) (hy:es[h]? = some y):Lw K B (upd H A.op (.lst ((es.map oeV).set h .non))) A (es.set h none) { N with opn:=N.opn.set h none }:=by obtain ⟨d,b,c,f,i,e,j,k,g⟩:=lw.ct;have m:Imm H (upd H A.op (.lst ((es.map oeV).set h .non))):=Imm.lst (e.at (a:=[_,_,_,_,_]));refine ⟨⟨d,b,c,f,i,?_,z00 (λ _ _ z=>z.imm m) j,z00 (λ _ _ z=>z.imm m) k,z00 (λ _ _ z=>z.imm m) g⟩,z3r h (z00 (λ _ _ z=>OeO.imm m z) lw.oe) trivial⟩;have:Ms B _ (baseO A d b c (natV N.nxt) f ((es.map oeV).set h .non)++es.flatMap entO):=e.set (a:=[_,_,_,_,_]) (o':=.lst ((es.map oeV).set h .non));rw [z2a _ hy,map_set];rw [z61 hy] at this;refine Ms.sub this ?_;refine B8 (X8 _) ?_;exact B8 (X8 _) (j27 _ _)
theorem upd4 {H:Hp} {a l:Addr} {o1 o2 o3 o4:HO}:upd (upd (upd (upd H a o1) a o2) l o3) a o4=upd (upd H l o3) a o4:=by
 funext p;by_cases z:p=a
 ·rw [z,z03,z03]
 ·rw [upd_ne z,upd_ne z];by_cases y:p=l
  ·rw [y,z03,z03]
  ·rw [upd_ne y,upd_ne y,upd_ne z,upd_ne z]
theorem Lw.nest {K:j0} {B H:Hp} {A:La} {es:List (Option OE)} {N:LM} {h:Nat} {y:OE} (lw:Lw K B H A es N) (hy:es[h]? = some (some y)):A.st≠y.d/\H y.d=some (.dK y.kvs)/\B y.d=none:=by obtain ⟨kvs,g,i,j,l,a,m,n,k⟩:=lw.ct;have e:(y.d,HO.dK y.kvs)∈es.flatMap entO:=List.mem_flatMap.mpr ⟨some y,T0 hy,V1⟩;have f:(y.d,HO.dK y.kvs)∈baseO A kvs g i (natV N.nxt) j (es.map oeV)++es.flatMap entO:=List.mem_append.mpr (.inr e);refine ⟨λ z=>?_,a.c _ f,a.fr _ f⟩;have b:=a.nd;rw [P1] at b;exact (List.nodup_append.mp b).2.2 A.st (by simp [baseO]) y.d (List.mem_map.mpr ⟨_,e,rfl⟩) z
theorem up1 {H:Hp} {a p:Addr} {o q:HO} (n:p≠a) (e:H p=some q):upd H a o p=some q:=(upd_ne n).trans e
theorem ziu {K:j0} {H:Hp} {x:Option Hd} {a b:V} (h:stV K H x a b):(!decide (a=V.non))=x.isSome:=by
 cases x with
 | none=>rw [h.1];rfl
 | some x=>obtain ⟨q,rfl,_⟩:=h;rfl
def z3w (K:j0):Sp:=λ vs H Q _=>∃(A:La) (h:Nat) (sv wv:V) (B:Hp) (es:List (Option OE)) (N:LM) (D:LD) (y:OE) (x:Option Hd),vs=[.ref A.st,.int h,sv,wv]/\Lw K B H A es N/\N.opn[h]? = some (some D)/\es[h]? = some (some y)/\stV K H x sv wv/\(x.isSome=true->valV y.kvs (.inr "answer")=some (avD D.ans))/\N.under.length<=10000/\N.held.length<=5/\Same B H/\
 ∀es' H',Same B H'->Lw K B H' A es' (N.sent h D x)->Q .non H'
theorem zba (T:TX (kx w) mg):Fo P w mg base CX0 1 437 y14 ["state","hand","stamp","worth"] (z3w (kx w)):=by
 refine (z4t w.params).ok sc__law_sent (λ vs H Q E h=>?_) (λ c8 A b9 s H vs Q E f h=>?_)
 ·obtain ⟨A,h,I,K,B,es,N,D,y,x,rfl,_⟩:=h;rfl
 ·obtain ⟨b,h,I,K,B,es,N,D,y,x,rfl,lw,hD,Y,sx,ha,ul,c6,sB,q⟩:=h;refine ⟨_,(z02 (z3a (hu_of f) (pv 0) pe_str (pe_op opAdd (z0d (hu_of f) (pv 0) pe_str (λ _ _=>rfl)) pe_int) rfl)
   (z02 (z3a (hu_of f) (pe_ix ix_seq (z0d (hu_of f) (pv 0) pe_str (λ _ _=>rfl)) (pv 1) (λ _ _=>rfl)) pe_str (z0d (hu_of f) (pv 0) pe_str (λ _ _=>rfl)) rfl)
   (z02 (z3a (hu_of f) (pe_ix ix_seq (z0d (hu_of f) (pv 0) pe_str (λ _ _=>rfl)) (pv 1) (λ _ _=>rfl)) pe_str (z39 z6g (pv 2) pe_non (nomark _)) rfl)
   (z02 (z3a (hu_of f) (pe_ix ix_seq (z0d (hu_of f) (pv 0) pe_str (λ _ _=>rfl)) (pv 1) (λ _ _=>rfl)) pe_str (pe_lst pa_nil) rfl)
   (z05 (ps_for Y2 rfl (z15 rfl (T.no (z2s _)) (z01 (z07 z0n rfl (T.no (n_len _)) G2 (z01 (z0d (hu_of f) (pv 0) pe_str (λ _ _=>rfl)) pa_nil)) pa_nil)) (z0f (i:=4) sc__law_sent.nd rfl (K1 rfl))
   (z05 (z0h (z0p (z0d (hu_of f) (pv 0) pe_str (λ _ _=>rfl)) (z01 (pe_tup (z01 (pv 4) (z01 (pv 1) (z01 (z0d (hu_of f) (pv 0) pe_str (λ _ _=>rfl)) (z01 pe_str (z01 (pv 2) (z01 (pv 3) pa_nil))))))) pa_nil)))))))))),?_⟩
  obtain ⟨F,J,uv,vv,g,u,M,c3,U⟩:=id lw.ct;have e:H b.st=some (.dK F):=u.at (a:=[]);have l6:=g.ks.len;refine z4b ⟨_,rfl,b.st,_,rfl,g.grd e,?_⟩;refine .inl ⟨_,1,rfl,rfl,?_⟩;rw [show ((N.rounds:Int) + 1)=((N.rounds + 1:Nat):Int) by omega];refine ⟨_,rfl,b.st,_,rfl,DPut.k (k:=.inr "rounds") e (V0 l6 (by decide)),?_⟩;have S:=lw.setR (r:=N.rounds + 1) e;have a4:=Same.keep (o:=.dK (putK F (.inr "rounds") (.int ((N.rounds + 1:Nat):Int)))) sB (u.frA (a:=[]));have m1:Imm H (upd H b.st (.dK (putK F (.inr "rounds") (.int ((N.rounds + 1:Nat):Int))))):=Imm.dk e;generalize upd H b.st (.dK (putK F (.inr "rounds") (.int ((N.rounds + 1:Nat):Int))))=H1 at S a4 m1⊢;clear g u M c3 U e l6;obtain ⟨F,J,uv,vv,g,u,M,c3,U⟩:=id S.ct;obtain ⟨a0,ed,b3⟩:=S.nest Y;have e:H1 b.st=some (.dK F):=u.at (a:=[]);have L:H1 b.op=some (.lst (es.map oeV)):=u.at (a:=[_,_,_,_,_]);have a5:b.op≠y.d:=λ z=>by rw [z,ed] at L;cases L
  have a2:(es.map oeV)[h]? = some (.ref y.d):=by rw [N0,Y];rfl
  obtain ⟨D0,X,oa⟩:=z0m S.oe Y;have X:N.opn[h]? = some D0:=X;rw [hD] at X;cases X;obtain ⟨ks,v1,v2,v3,v4⟩:=(show OeAt (kx w) H1 D y from oa)
  refine z4b ⟨_,rfl,b.st,_,rfl,g.grd e,?_⟩;refine ⟨_,rfl,b.st,_,rfl,g.gop e,_,rfl,.inl ⟨b.op,_,h,.ref y.d,rfl,rfl,SqL.of L,z08 a2,y.d,_,rfl,DPut.k (k:=.inr "round") ed (V0 ks.len (by decide)),?_⟩⟩;have a7:=ks.put (k:=.inr "round") (v:=.int ((N.rounds + 1:Nat):Int)) (by simp [kD]);refine z4b ⟨_,rfl,rfl,?_⟩;refine ⟨_,rfl,b.st,_,rfl,g.gop (up1 a0 e),_,rfl,.inl ⟨b.op,_,h,.ref y.d,rfl,rfl,SqL.of (up1 a5 L),z08 a2,y.d,_,rfl,DPut.k (k:=.inr "keeps") z03 (V0 a7.len (by decide)),?_⟩⟩;rw [ziu sx];have b1:=a7.put (k:=.inr "keeps") (v:=.bl x.isSome) (by simp [kD]);refine z4b ⟨w_0,λ l C=>?_⟩;have Z:l≠y.d:=λ z=>by rw [z,z03] at C;cases C
  rw [upd_ne Z,upd_ne Z] at C;refine ⟨_,rfl,b.st,_,rfl,g.gop (up1 (λ z=>by rw [<-z,e] at C;cases C) (up1 a0 (up1 a0 e))),_,rfl,.inl ⟨b.op,_,h,.ref y.d,rfl,rfl,SqL.of (up1 (λ z=>by rw [<-z,L] at C;cases C) (up1 a5 (up1 a5 L))),z08 a2,y.d,_,rfl,DPut.k (k:=.inr "heard") (up1 Z.symm z03) (V0 b1.len (by decide)),?_⟩⟩;rw [upd4];generalize hk3:putK (putK (putK y.kvs (.inr "round") (.int ((N.rounds + 1:Nat):Int))) (.inr "keeps") (.bl x.isSome)) (.inr "heard") (.ref l)=k3;have b5:KS kD k3:=hk3 ▸ b1.put (k:=.inr "heard") (by simp [kD]);have p3 :∀{j:Key} {v:V},j≠.inr "round"->j≠.inr "keeps"->j≠.inr "heard"->valV y.kvs j=some v->valV k3 j=some v:=λ h1 h2 h3 h=>hk3 ▸ (vp_ne h3).trans ((vp_ne h2).trans ((vp_ne h1).trans h));have p4:valV k3 (.inr "round")=some (.int ((N.rounds + 1:Nat):Int)):=hk3 ▸ (vp_ne (by decide +kernel)).trans ((vp_ne (by decide +kernel)).trans vp_eq);have p5:valV k3 (.inr "keeps")=some (.bl x.isSome):=hk3 ▸ (vp_ne (by decide +kernel)).trans vp_eq;have p6:valV k3 (.inr "heard")=some (.ref l):=hk3 ▸ vp_eq;have a1:=S.setL (D':={ D with round:=N.rounds + 1,keeps:=x.isSome,heard:=[] }) Y C a4 λ R=>⟨b5,p3 (by decide +kernel) (by decide +kernel) (by decide +kernel) v1,p3 (by decide +kernel) (by decide +kernel) (by decide +kernel) v2,λ z=>p3 (by decide +kernel) (by decide +kernel) (by decide +kernel) (ha z),λ _=>⟨p4,p5,l,[],rfl,p6,.nil⟩⟩
  have b2:Same B (upd (upd H1 l (.lst [])) y.d (.dK k3)):=Same.keep (a4.trans (Same.upd C)) b3;have m2:Imm H1 (upd (upd H1 l (.lst [])) y.d (.dK k3)):=(Imm.of (Same.upd C)).trans (Imm.dk (up1 Z.symm ed));generalize upd (upd H1 l (.lst [])) y.d (.dK k3)=H5 at a1 b2 m2⊢;have b7:=sx.imm (m1.trans m2);clear g u M c3 U e;obtain ⟨F,J,uv,vv,g,u,M,c3,U⟩:=id a1.ct;have e:H5 b.st=some (.dK F):=u.at (a:=[]);have b6:H5 b.hd=some (.lst J):=u.at (a:=[_]);have lh:J.length=N.held.length:=z04 M;refine ⟨_,rfl,b.st,_,rfl,g.ghd e,.inl ⟨b.hd,J,rfl,.inl (SqL.of b6),J.length,rfl,by omega,by omega,?_⟩⟩;refine z2d (lo:=0) (n:=J.length) (λ i σ R=>Same B R/\Imm H5 R/\Lw (kx w) B R b (es.set h (some ⟨y.d,k3,some (l,[])⟩)) { N with rounds:=N.rounds + 1,opn:=N.opn.set h (some { D with round:=N.rounds + 1,keeps:=x.isSome,heard:=[] }),under:=N.under++(U0 i).map λ c=>⟨c,h,N.rounds + 1,true,x⟩ }/\∃x4,σ=[some (.ref b.st),some (.int (h:Nat)),some I,some K,x4])
   ⟨b2,Imm.of (Same.refl _),by rw [show (U0 0).map (λ c=>(⟨c,h,N.rounds + 1,true,x⟩:LL))=[] from rfl,F2];exact a1,_,rfl⟩ ?_ ?_
  ·rintro i σ O hi ⟨s6,m6,lw6,x4,rfl⟩;obtain ⟨b8,c7,W,c5,d0,d1,d2,d3,d4⟩:=id lw6.ct;have a6:O b.st=some (.dK b8):=d1.at (a:=[]);have a3:O b.un=some (.lst W):=d1.at (a:=[_,_]);refine g_name ?_;refine ⟨_,rfl,b.st,_,rfl,d0.gun a6,.inl ⟨rfl,_,SqL.of a3⟩,?_⟩;refine ⟨_,rfl,_,rfl,_,rfl,b.st,_,rfl,d0.grd a6,_,rfl,_,rfl,w_6,λ p hp=>?_⟩;rw [R7];have G:=Same.upd (o:=.tup [.int (i:Nat),.int (h:Nat),.int ((N.rounds + 1:Nat):Int),.str "to",I,K]) hp;have e7:upd O p (.tup [.int (i:Nat),.int (h:Nat),.int ((N.rounds + 1:Nat):Int),.str "to",I,K]) p=some (.tup [.int (i:Nat),.int (h:Nat),.int ((N.rounds + 1:Nat):Int),.str "to",I,K]):=z03;have lu:W.length<=10005:=by rw [z04 d3,F0,C0,T2];omega
   refine ⟨b.un,W,_,rfl,rfl,G _ _ a3,V0 lu (by decide),?_⟩;have b4:B b.un=none:=d1.frA (a:=[_,_]);have b0:=lw6.same G;have s7:=s6.trans G;have d7:=z00 (λ _ _ z=>LLAt.imm (Imm.of G) z) d3;have a8:=b7.imm (m6.trans (Imm.of G));have m7:=m6.trans (Imm.of G);have a9:=G _ _ a3;generalize upd O p (.tup [.int (i:Nat),.int (h:Nat),.int ((N.rounds + 1:Nat):Int),.str "to",I,K])=H7 at e7 b0 s7 d7 a8 m7 a9⊢;refine ⟨Same.keep s7 b4,m7.trans (Imm.lst a9),?_,_,rfl⟩;have:=b0.setU (us:=N.under++(U0 (i + 1)).map λ c=>⟨c,h,N.rounds + 1,true,x⟩) (uv':=W++[.ref p]) λ R m=>by rw [j13,P1,<-A2];exact z33 (z00 (λ _ _ z=>LLAt.imm m z) d7) (.cons ⟨p,I,K,rfl,m.t _ _ e7,a8.imm m⟩ .nil)
   exact this
  ·rintro σ O ⟨s6,m6,lw6,x4,rfl⟩;rw [lh] at lw6;exact q _ _ s6 lw6
def z4z (K:j0):Sp:=λ vs H Q _=>∃(A:La) (h:Nat) (a:Option Int) (B:Hp) (es:List (Option OE)) (N:LM) (y:OE),vs=[.ref A.st,.int h,avD a]/\Lw K B H A es N/\es[h]? = some (some y)/\N.events.length<=10000/\Same B H/\∀es' H',Same B H'->Lw K B H' A es' (N.ended h a)->Q .non H'
theorem z9s (T:TX (kx w) mg):Fo P w mg base CX0 1 444 y0w ["state","hand","answer"] (z4z (kx w)):=by
 refine (z3j w.params).ok z9j (λ V H Q E h=>?_) (λ Y A X s H V Q E x h=>?_)
 ·obtain ⟨A,h,a,B,f,N,y,rfl,_⟩:=h;rfl
 ·obtain ⟨b,h,a,B,f,N,y,rfl,G,C,K,U,q⟩:=h;refine ⟨_,(z02 (ps_asg pe_non (pg_sub (z0d (hu_of x) (pv 0) pe_str (λ _ _=>rfl)) (pv 1) z25))
   (z05 (z0h (z0p (z0d (hu_of x) (pv 0) pe_str (λ _ _=>rfl)) (z01 (pe_tup (z01 pe_str (z01 (pv 1) (z01 (pv 2) pa_nil)))) pa_nil))))),?_⟩
  obtain ⟨k,J,W,e,i,c,D,I,j⟩:=id G.ct;have g:H b.st=some (.dK k):=c.at (a:=[]);have M:H b.op=some (.lst (f.map oeV)):=c.at (a:=[_,_,_,_,_]);have O:h < (f.map oeV).length:=by rw [C0];exact (List.getElem?_eq_some_iff.mp C).1
  refine ⟨_,rfl,b.st,_,rfl,i.gop g,_,rfl,b.op,_,h,h,rfl,rfl,M,z6n O,?_⟩;have l:=G.setO C;have r:=Same.keep (o:=.lst ((f.map oeV).set h .non)) U (c.frA (a:=[_,_,_,_,_]));generalize upd H b.op (.lst ((f.map oeV).set h .non))=H1 at l r⊢;clear i c D I j g;obtain ⟨k,J,W,e,i,c,D,I,j⟩:=id l.ct;have g:H1 b.st=some (.dK k):=c.at (a:=[]);have u:H1 b.ev=some (.lst e):=c.at (a:=[_,_,_,_]);refine ⟨_,rfl,b.st,_,rfl,i.gev g,.inl ⟨rfl,_,SqL.of u⟩,?_⟩;refine ⟨_,rfl,_,rfl,w_3,λ p L=>?_⟩;have d:=Same.upd (o:=.tup [.str "end",.int (h:Nat),avD a]) L;have v:upd H1 p (.tup [.str "end",.int (h:Nat),avD a]) p=some (.tup [.str "end",.int (h:Nat),avD a]):=z03;have R:e.length<=10000:=by rw [z04 j];exact K
  refine ⟨b.ev,e,_,rfl,rfl,d _ _ u,V0 R (by decide),?_⟩;have F:=z00 (λ _ _ z=>EvV.imm (Imm.of d) z) j;have n:=l.same d;generalize upd H1 p (.tup [.str "end",.int (h:Nat),avD a])=H2 at d v F n⊢;exact q _ _ (Same.keep (r.trans d) (c.frA (a:=[_,_,_,_]))) <| n.setV (us:=N.events++[.fin h a]) (uv':=e++[.ref p]) λ S m=>z33 (z00 (λ _ _ z=>EvV.imm m z) F) (.cons (show EvV S (.fin h a) (.ref p) from ⟨p,rfl,m.t _ _ v⟩) .nil)
theorem Lw.open_ {K:j0} {B H:Hp} {A:La} {es:List (Option OE)} {N:LM} {h:Nat} {D:LD} (lw:Lw K B H A es N) (hD:N.opn[h]? = some (some D)) :∃y,es[h]? = some (some y)/\OeAt K H D y:=by
 obtain ⟨b,c,a⟩:=z0r lw.oe hD;cases b with
 | none=>exact a.elim
 | some y=>exact ⟨y,c,a⟩
theorem Lw.hear_ {K:j0} {B H:Hp} {A:La} {es:List (Option OE)} {N:LM} {h:Nat} {y:OE} {l:Addr} {hs:List V} (lw:Lw K B H A es N) (hy:es[h]? = some (some y)) (hl:y.l=some (l,hs)):H l=some (.lst hs)/\B l=none:=by obtain ⟨i,f,g,k,n,b,o,p,m⟩:=lw.ct;have j:(l,HO.lst hs)∈es.flatMap entO:=List.mem_flatMap.mpr ⟨some y,T0 hy,by show _∈(y.d,HO.dK y.kvs) :: (match y.l with|none=>[]|some y=>[(y.1,HO.lst y.2)]);rw [hl];simp⟩;have e:=List.mem_append.mpr (J1 (a:=(l,HO.lst hs)∈baseO A i f g (natV N.nxt) k (es.map oeV)) j);exact ⟨b.c _ e,b.fr _ e⟩
theorem dg {H:Hp} {a:Addr} {kvs:List (Key×V)} {k:Str} {v:V} (e:H a=some (.dK kvs)) (h:valV kvs (.inr k)=some v):DGet H a (.str k) (some v):=h ▸ DGet.k (k:=.inr k) e
theorem zf4 {N:LM} {h:Nat} {D:LD} {x:Option Hd} {o:Option LD}:LM.sent { N with opn:=N.opn.set h o } h D x=N.sent h D x:=by unfold LM.sent;rw [List.set_set]
def z3d (K:j0):Sp:=λ vs H Q _=>∃(A:La) (h:Nat) (bk:Bool) (B:Hp) (es:List (Option OE)) (N:LM) (D:LD),vs=[.ref A.st,.int h,.bl bk]/\Lw K B H A es N/\N.opn[h]? = some (some D)/\D.round≠0/\D.heard≠[]/\D.heard.length<=100/\N.under.length<=10000/\N.held.length<=5/\N.events.length<=10000/\Same B H/\
 ∀es' H',Same B H'->Lw K B H' A es' (N.goneOn bk h D)->Q .non H'
theorem z6t (T:TX (kx w) mg) (c5:Ca P w mg base "_law_sent" ["state","hand","stamp","worth"] 1 (z3w (kx w))) (c6:Ca P w mg base "_law_ended" ["state","hand","answer"] 1 (z4z (kx w))):Fo P w mg base CX0 2 451 y0e ["state","hand","back"] (z3d (kx w)):=by
 refine (z28 w.params).ok sc__law_gone_on (λ vs H Q E h=>?_) (λ b1 A a8 s H vs Q E c h=>?_)
 ·obtain ⟨A,h,bk,B,G,N,D,rfl,_⟩:=h;rfl
 ·obtain ⟨e,h,bk,B,G,N,D,rfl,v,Z,nr,nh,hl,ul,a2,vl,K,q⟩:=h;refine ⟨_,(z02 (ps_set (i:=3) sc__law_gone_on.nd rfl (K1 rfl) (pe_ix ix_seq (z0d (hu_of c) (pv 0) pe_str (λ _ _=>rfl)) (pv 1) (λ _ _=>rfl)))
   (z02 (ps_if (pt_val (z0d (hu_of c) (pv 3) pe_str (λ _ _=>rfl)) (λ _=>rfl))
   (z02 (z0h (pe_cal c6 (c.mono (by decide)) rfl (z01 (pv 0) (z01 (pv 1) (z01 (z0d (hu_of c) (pv 3) pe_str (λ _ _=>rfl)) pa_nil)))))
   (z05 z7c))
   z0e)
   (z02 (ps_asg (z07 (zbg rfl c) rfl (T.no (n_max _)) boot_max (z01 (z0d (hu_of c) (pv 3) pe_str (λ _ _=>rfl)) pa_nil)) (pg_tup rfl (z0g (z0f (i:=4) sc__law_gone_on.nd rfl (K1 rfl)) (z0g (z0f (i:=5) sc__law_gone_on.nd rfl (K1 rfl)) z42))))
   (z05 (ps_if (z0a opEq (z0d (hu_of c) (pv 3) pe_str (λ _ _=>rfl)) pe_str (nomark _))
   (z02 (z3a (hu_of c) (pv 3) pe_str pe_str rfl)
   (z05 (z0h (pe_cal c5 (c.mono (by decide)) rfl (z01 (pv 0) (z01 (pv 1) (z01 (pe_tup (z01 (pe_op opAdd (pe_ix ix_seq (pv 4) pe_int (λ _ _=>rfl)) pe_int) (z01 (pv 1) pa_nil))) (z01 (z0d (hu_of c) (pv 3) pe_str (λ _ _=>rfl)) pa_nil))))))))
   (z05 (ps_if (pt_val (pv 2) (λ _=>rfl))
   (z02 (z3a (hu_of c) (pv 3) pe_str (pv 5) rfl)
   (z05 (z0h (pe_cal c5 (c.mono (by decide)) rfl (z01 (pv 0) (z01 (pv 1) (z01 (pv 4) (z01 (pv 5) pa_nil))))))))
   (z05 (z0h (pe_cal c6 (c.mono (by decide)) rfl (z01 (pv 0) (z01 (pv 1) (z01 (pv 5) pa_nil))))))))))))),?_⟩
  obtain ⟨kvs,hv,uv,vv,c0,V,c2,c3,c4⟩:=id v.ct;have a6:H e.st=some (.dK kvs):=V.at (a:=[]);have S:H e.op=some (.lst (G.map oeV)):=V.at (a:=[_,_,_,_,_]);obtain ⟨y,g,oa⟩:=v.open_ Z;obtain ⟨a9,n,U⟩:=v.nest g;have a5:(G.map oeV)[h]? = some (.ref y.d):=by rw [N0,g];rfl
  obtain ⟨ks,X,R,v3,v4⟩:=id oa;obtain ⟨g1,g2,l,hs,g3,g4,g5⟩:=v4 nr;refine z0b ⟨_,rfl,e.st,_,rfl,c0.gop a6,_,rfl,.inl ⟨e.op,_,h,.ref y.d,rfl,rfl,SqL.of S,z08 a5,?_⟩⟩;refine g_name ?_;obtain ⟨a7,_⟩:=v.hear_ g g3;obtain ⟨ps,rfl,a0,W⟩:=z4v g5;refine sq_if ⟨_,rfl,y.d,_,rfl,dg n g2,_,rfl,?_⟩;cases hk:D.keeps with
  | true=>refine iteT ?_;refine ⟨_,rfl,_,rfl,_,rfl,y.d,_,rfl,dg n (v3 hk),e,h,D.ans,B,G,N,y,rfl,v,g,vl,K,λ C u F f=>?_⟩;exact q C u F (by rw [za2 hk];exact f)
  | false=>
   refine iteF (t_nx ?_);cases ps with
   | nil=>exact absurd a0.symm nh
   | cons m r=>
   refine z0b ⟨_,rfl,y.d,_,rfl,dg n g4,l,m,r,rfl,SqL.of a7,W,λ b hb hg=>?_⟩;have M:maxHd D.heard=b.2:=by rw [<-a0];refine zey (F7 hb) λ x hx=>?_;obtain ⟨y,g,rfl⟩:=List.mem_map.mp hx;exact hg y g
   obtain ⟨O,a4,a3⟩:=W b hb;refine ⟨b.1,_,rfl,a4,rfl,_,_,rfl,_,_,rfl,rfl,?_⟩;refine ⟨_,rfl,y.d,_,rfl,dg n X,rfl,_,rfl,?_⟩;have on :∀(a:Option Int),Lw (kx w) B (upd H y.d (.dK (putK y.kvs (.inr "answer") (avD a)))) e (G.set h (some { y with kvs:=putK y.kvs (.inr "answer") (avD a) })) { N with opn:=N.opn.set h (some { D with ans:=a }) }:=λ a=>(v.setD (D':={ D with ans:=a }) g λ u m=>⟨ks.put (by simp [kD]),(vp_ne (by decide +kernel)).trans X,(vp_ne (by decide +kernel)).trans R,λ _=>vp_eq,λ _=>⟨(vp_ne (by decide +kernel)).trans g1,(vp_ne (by decide +kernel)).trans g2,l,_,g3,(vp_ne (by decide +kernel)).trans g4,z00 (λ _ _ z=>z.imm m) g5⟩⟩).1;have Y:h < G.length:=(List.getElem?_eq_some_iff.mp g).1;have a1:h < N.opn.length:=(List.getElem?_eq_some_iff.mp Z).1;have b0:e.op≠y.d:=λ z=>by rw [z,n] at S;cases S
   have k6:=V0 ks.len (show kD.length < sizeLine by decide);cases hd:D.d with
   | some w0=>rw [hd] at R;refine iteP rfl ?_;refine z4b ⟨_,rfl,y.d,_,rfl,DPut.k (k:=.inr "answer") n k6,?_⟩;have t:=on none;have J:=Same.keep (o:=.dK (putK y.kvs (.inr "answer") (.str "ok"))) K U;have e1:upd H y.d (.dK (putK y.kvs (.inr "answer") (.str "ok"))) y.d=some (.dK (putK y.kvs (.inr "answer") (.str "ok"))):=z03;have I:Imm H (upd H y.d (.dK (putK y.kvs (.inr "answer") (.str "ok")))):=Imm.dk n;have t:Lw (kx w) B (upd H y.d (.dK (putK y.kvs (.inr "answer") (.str "ok")))) e _ _:=t;generalize upd H y.d (.dK (putK y.kvs (.inr "answer") (.str "ok")))=H1 at t J e1 I⊢;refine ⟨_,rfl,_,rfl,_,rfl,.inr (.inl ⟨O,_,0,.int b.2.1.1,rfl,rfl,I.seqT a3,z08 (j:=0) rfl,.inl ⟨_,1,rfl,rfl,?_⟩⟩)⟩;refine ⟨_,rfl,w_2,λ p hp=>?_⟩;have L:=Same.upd (o:=.tup [.int (b.2.1.1 + 1),.int (h:Nat)]) hp;have e2:upd H1 p (.tup [.int (b.2.1.1 + 1),.int (h:Nat)]) p=some (.tup [.int (b.2.1.1 + 1),.int (h:Nat)]):=z03;refine ⟨_,rfl,y.d,_,rfl,dg (L _ _ e1) ((vp_ne (by decide +kernel)).trans R),?_⟩;refine ⟨e,h,.ref p,.int w0,B,_,_,_,_,some ((b.2.1.1 + 1,(h:Int)),w0),rfl,t.same L,K0 a1,K0 Y,⟨p,rfl,SqT.of e2,rfl⟩,λ _=>vp_eq,ul,a2,J.trans L,λ C u F f=>q C u F ?_⟩;rw [zf4] at f;rw [zb3 hk hd,M];exact f
   | none=>
    refine iteN (by simp [vbD];decide +kernel) ?_;refine ⟨_,rfl,_,rfl,?_⟩;cases hb':bk with
    | true=>refine iteT ?_;refine z4b ⟨_,rfl,_,rfl,y.d,_,rfl,DPut.k (k:=.inr "answer") n k6,?_⟩;have t:=on (some b.2.2);have J:=Same.keep (o:=.dK (putK y.kvs (.inr "answer") (.int b.2.2))) K U;have I:Imm H (upd H y.d (.dK (putK y.kvs (.inr "answer") (.int b.2.2)))):=Imm.dk n;have t:Lw (kx w) B (upd H y.d (.dK (putK y.kvs (.inr "answer") (.int b.2.2)))) e _ _:=t;generalize upd H y.d (.dK (putK y.kvs (.inr "answer") (.int b.2.2)))=H1 at t J I⊢;refine ⟨_,rfl,_,rfl,_,rfl,_,rfl,e,h,.ref O,.int b.2.2,B,_,_,_,_,some b.2,rfl,t,K0 a1,K0 Y,⟨O,rfl,I.seqT a3,rfl⟩,λ _=>vp_eq,ul,a2,J,λ C u F f=>q C u F ?_⟩;rw [zf4] at f;rw [z7t hk hd,hb',if_pos rfl,M];exact f
    | false=>refine iteF ?_;refine ⟨_,rfl,_,rfl,_,rfl,e,h,some b.2.2,B,G,N,y,rfl,v,g,vl,K,λ C u F f=>q C u F ?_⟩;rw [z7t hk hd,hb',if_neg (by decide),M];exact f
theorem Lw.setH {K:j0} {B H:Hp} {A:La} {es:List (Option OE)} {N:LM} {h:Nat} {y:OE} {D':LD} {l:Addr} {hs hs':List V} (lw:Lw K B H A es N) (hy:es[h]? = some (some y)) (hl:y.l=some (l,hs)) (a :∀H',Imm H H'->OeAt K H' D' { y with l:=some (l,hs') }):Lw K B (upd H l (.lst hs')) A (es.set h (some { y with l:=some (l,hs') })) { N with opn:=N.opn.set h (some D') }:=by
 obtain ⟨g,c,f,j,n,b,o,q,k⟩:=lw.ct;rw [z61 hy] at b;have i:Ms B H ((baseO A g c f (natV N.nxt) j (es.map oeV)++(es.take h).flatMap entO++[(y.d,.dK y.kvs)])++(l,.lst hs) :: (es.drop (h + 1)).flatMap entO):=by
  have e:entO (some y)=[(y.d,.dK y.kvs),(l,.lst hs)]:=by show (y.d,HO.dK y.kvs) :: (match y.l with|none=>[]|some y=>[(y.1,HO.lst y.2)])=_;rw [hl]
  rw [e] at b;simpa using b
 have m:Imm H (upd H l (.lst hs')):=Imm.lst i.at;refine ⟨⟨g,c,f,j,n,?_,z00 (λ _ _ z=>z.imm m) o,z00 (λ _ _ z=>z.imm m) q,z00 (λ _ _ z=>z.imm m) k⟩,z3r h (z00 (λ _ _ z=>OeO.imm m z) lw.oe) (show OeO K _ (some D') (some _) from a _ m)⟩;have:=i.set (o':=.lst hs');rw [z2a _ hy,map_set];have e:(es.map oeV).set h (oeV (some { y with l:=some (l,hs') }))=es.map oeV:=by refine z5n ?_;rw [N0,hy];rfl
 rw [e];have p:entO (some { y with l:=some (l,hs') })=[(y.d,.dK y.kvs),(l,.lst hs')]:=rfl;rw [p];simpa using this
def z5m (K:j0):Sp:=λ vs H Q _=>∃(A:La) (y:V) (bk:Bool) (B:Hp) (es:List (Option OE)) (N:LM) (L:LL),vs=[.ref A.st,y,.bl bk]/\Lw K B H A es N/\LLAt K H L y/\L.copy < N.held.length/\L.hand < N.opn.length/\(L.to=false->∃x,L.x=some x)/\(∀D,N.opn[L.hand]? = some (some D)->D.round≠0/\D.heard.length<=50)/\N.under.length<=9000/\N.held.length<=5/\N.events.length<=9000/\Same B H/\
 ∀es' H',Same B H'->Lw K B H' A es' (N.come bk L)->Q .non H'
theorem za7 (T:TX (kx w) mg) (c5:Ca P w mg base "_law_gone_on" ["state","hand","back"] 2 (z3d (kx w))):Fo P w mg base CX0 3 458 y15 ["state","letter","back"] (z5m (kx w)):=by
 refine (z4u w.params).ok sc__law_come (λ vs H Q E h=>?_) (λ e8 A e6 s H vs Q E n h=>?_)
 ·obtain ⟨A,y,bk,B,v,N,L,rfl,_⟩:=h;rfl
 ·obtain ⟨b,y,bk,B,v,N,L,rfl,u,⟨pl,sv,wv,rfl,ep,K⟩,hc,hh,hx,d5,ul,c7,vl,M,q⟩:=h;refine ⟨_,(z02 (ps_asg (pv 1) (pg_tup rfl (z0g (z0f (i:=3) sc__law_come.nd rfl (K1 rfl)) (z0g (z0f (i:=4) sc__law_come.nd rfl (K1 rfl)) (z0g (z0f (i:=5) sc__law_come.nd rfl (K1 rfl)) (z0g (z0f (i:=6) sc__law_come.nd rfl (K1 rfl)) (z0g (z0f (i:=7) sc__law_come.nd rfl (K1 rfl)) (z0g (z0f (i:=8) sc__law_come.nd rfl (K1 rfl)) z42))))))))
   (z02 (ps_if (z0a opEq (pv 6) pe_str (nomark _))
   (z02 (ps_if (PW.pt (pw_and (z0a z6g (pv 7) pe_non (nomark _)) (z2w (z0a (op_gtT n) (pv 7) (pe_ix ix_seq (pe_ix ix_seq (z0d (hu_of n) (pv 0) pe_str (λ _ _=>rfl)) (pv 3) (λ _ _=>rfl)) pe_int (λ _ _=>rfl)) (nomark _)))))
   (z05 (ps_asg (pe_tup (z01 (pv 7) (z01 (pv 8) pa_nil))) (pg_sub (z0d (hu_of n) (pv 0) pe_str (λ _ _=>rfl)) (pv 3) z25)))
   z0e)
   (z02 (z0h (z0p (z0d (hu_of n) (pv 0) pe_str (λ _ _=>rfl)) (z01 (pe_op opAdd (pe_tup (z01 (pv 3) (z01 (pv 4) (z01 (pv 5) (z01 pe_str pa_nil))))) (pe_ix ix_seq (z0d (hu_of n) (pv 0) pe_str (λ _ _=>rfl)) (pv 3) (λ _ _=>rfl))) pa_nil)))
   (z05 z7c)))
   z0e)
   (z02 (ps_set (i:=9) sc__law_come.nd rfl (K1 rfl) (pe_ix ix_seq (z0d (hu_of n) (pv 0) pe_str (λ _ _=>rfl)) (pv 4) (λ _ _=>rfl)))
   (z05 (ps_if (PW.pt (pw_and (z0a z6g (pv 9) pe_non (nomark _)) (z2w (z0a opEq (z0d (hu_of n) (pv 9) pe_str (λ _ _=>rfl)) (pv 5) (nomark _)))))
   (z02 (z0h (z0p (z0d (hu_of n) (pv 9) pe_str (λ _ _=>rfl)) (z01 (pe_tup (z01 (pv 7) (z01 (pv 8) pa_nil))) pa_nil)))
   (z05 (ps_if (z0a op_gt (pe_op op_mul pe_int (z07 z0n rfl (T.no (n_len _)) G2 (z01 (z0d (hu_of n) (pv 9) pe_str (λ _ _=>rfl)) pa_nil))) (z07 z0n rfl (T.no (n_len _)) G2 (z01 (z0d (hu_of n) (pv 0) pe_str (λ _ _=>rfl)) pa_nil)) (nomark _))
   (z05 (z0h (pe_cal c5 (n.mono (by decide)) rfl (z01 (pv 0) (z01 (pv 4) (z01 (pv 2) pa_nil))))))
   z0e)))
   z0e))))),?_⟩
  obtain ⟨a5,hv,Z,vv,G,r,c2,c3,c4⟩:=id u.ct;have I:H b.st=some (.dK a5):=r.at (a:=[]);have J:H b.hd=some (.lst hv):=r.at (a:=[_]);have b9:H b.op=some (.lst (v.map oeV)):=r.at (a:=[_,_,_,_,_]);have le:v.length=N.opn.length:=z04 u.oe;refine z0b ⟨_,rfl,pl,_,rfl,SqT.of ep,rfl,_,_,rfl,_,_,rfl,_,_,rfl,_,_,rfl,_,_,rfl,_,_,rfl,rfl,?_⟩;cases hto:L.to with
  | true=>
   refine sq_if ⟨_,rfl,rfl,_,rfl,iteP (decide_eq_true rfl) ?_⟩;obtain ⟨xv,a1,xp,xq,rfl,x1,x2⟩:=z0r c2 (v0 hc);have f:N.held[L.copy]? = some N.held[L.copy]:=v0 hc;generalize N.held[L.copy]=s0 at f x1 x2;have b4:L.copy < hv.length:=(List.getElem?_eq_some_iff.mp a1).1;refine z97 (λ σ' C=>Same B C/\Imm H C/\Lw (kx w) B C b v { N with held:=N.held.set L.copy (keepH L.x s0) }/\σ'=[some (.ref b.st),some (.ref pl),some (.bl bk),some (.int L.copy),some (.int L.hand),some (.int L.turn),some (.str (sideS true)),some sv,some wv,none]) ?_ λ go=>?_;rotate_left
   ·have same:keepH L.x s0=s0->Lw (kx w) B H b v { N with held:=N.held.set L.copy (keepH L.x s0) }:=λ e=>by rw [e,z5n f];exact u
    refine t_and ⟨_,rfl,rfl,_,rfl,?_⟩;cases Y:L.x with
    | none=>rw [Y] at K same go;obtain ⟨rfl,rfl⟩:=K;exact iteN (by decide) (iteF (t_nx (go _ _ ⟨M,Imm.of (Same.refl _),same rfl,rfl⟩)))
    | some k=>
     rw [Y] at K same go;obtain ⟨F,rfl,k2,rfl⟩:=K;refine iteP (by simp) ?_;refine ⟨_,rfl,_,rfl,b.st,_,rfl,G.ghd I,_,rfl,.inl ⟨b.hd,hv,L.copy,.ref xp,rfl,rfl,SqL.of J,z08 a1,.inr (.inl ⟨xp,_,0,.ref xq,rfl,rfl,x1,z08 (j:=0) rfl,?_⟩)⟩⟩;refine ⟨F,xq,k.1,s0.1,rfl,rfl,k2,x2,_,rfl,?_⟩;by_cases gt:gtI k.1 s0.1=true
     ·refine iteP gt ?_;refine ⟨_,rfl,_,rfl,w_2,λ p X=>?_⟩;have g:=Same.upd (o:=.tup [.ref F,.int k.2]) X;have S:upd H p (.tup [.ref F,.int k.2]) p=some (.tup [.ref F,.int k.2]):=z03;refine ⟨_,rfl,b.st,_,rfl,G.ghd (g _ _ I),_,rfl,b.hd,_,L.copy,L.copy,rfl,rfl,g _ _ J,z6n b4,t_nx (go _ _ ⟨Same.keep (M.trans g) (r.frA (a:=[_])),(Imm.of g).trans (Imm.lst (g _ _ J)),?_,rfl⟩)⟩;have ek:keepH (some k) s0=k:=if_pos gt;rw [ek];exact (u.same g).setS λ C m=>z3r _ (z00 (λ _ _ z=>HdAt.imm ((Imm.of g).trans m) z) c2) ⟨p,F,rfl,SqT.of (m.t _ _ S),((Imm.of g).trans m).seqT k2⟩
     ·exact iteN gt (t_nx (go _ _ ⟨M,Imm.of (Same.refl _),same (if_neg gt),rfl⟩))
   rintro σ O ⟨s1,m1,a3,rfl⟩;clear G r c2 c3 c4 I J x1 x2 a1;obtain ⟨a5,b0,Z,vv,G,r,c2,c3,c4⟩:=id a3.ct;have I:O b.st=some (.dK a5):=r.at (a:=[]);have J:O b.hd=some (.lst b0):=r.at (a:=[_]);have a7:O b.un=some (.lst Z):=r.at (a:=[_,_]);have hk:(N.held.set L.copy (keepH L.x s0))[L.copy]? = some (keepH L.x s0):=K0 hc;obtain ⟨xv,a1,a8,U,rfl,x1,x2⟩:=z0r c2 hk;refine ⟨_,rfl,b.st,_,rfl,G.gun I,.inl ⟨rfl,_,SqL.of a7⟩,?_⟩;refine ⟨_,rfl,_,rfl,_,rfl,w_4,λ p X=>?_⟩;obtain ⟨H2,v_,g,S⟩:=newA (.tup [.int L.copy,.int L.hand,.int L.turn,.str "from"]) X;rw [<-v_];refine ⟨_,rfl,b.st,_,rfl,G.ghd (g _ _ I),_,rfl,.inl ⟨b.hd,b0,L.copy,.ref a8,rfl,rfl,SqL.of (g _ _ J),z08 a1,?_⟩⟩;refine .inr (.inr (.inr ⟨p,a8,_,_,rfl,rfl,SqT.of S,g.seqT x1,by simp,w_6,(λ z=>by cases z),λ _ W b3=>?_⟩));have t3:=Same.upd (o:=.tup ([.int L.copy,.int L.hand,.int L.turn,.str "from"]++[.ref U,.int (keepH L.x s0).2])) b3;have e3:upd H2 W (.tup ([.int L.copy,.int L.hand,.int L.turn,.str "from"]++[.ref U,.int (keepH L.x s0).2])) W=some (.tup [.int L.copy,.int L.hand,.int L.turn,.str "from",.ref U,.int (keepH L.x s0).2]):=z03;have R:=g.trans t3;generalize upd H2 W (.tup ([.int L.copy,.int L.hand,.int L.turn,.str "from"]++[.ref U,.int (keepH L.x s0).2]))=H3 at R e3⊢;have lu:Z.length<=9000:=by rw [z04 c3];exact ul
   refine ⟨b.un,Z,_,rfl,rfl,R _ _ a7,V0 lu (by decide),?_⟩;have d8:=(a3.same R).setU (us:=N.under++[⟨L.copy,L.hand,L.turn,false,some (keepH L.x s0)⟩]) (uv':=Z++[.ref W]) λ C m=>z33 (z00 (λ _ _ z=>LLAt.imm ((Imm.of R).trans m) z) c3) (.cons (show LLAt (kx w) C ⟨L.copy,L.hand,L.turn,false,some (keepH L.x s0)⟩ (.ref W) from ⟨W,.ref U,_,rfl,m.t _ _ e3,U,rfl,((Imm.of R).trans m).seqT x2,rfl⟩) .nil);refine q _ _ (Same.keep (s1.trans R) (r.frA (a:=[_,_]))) (?_:Lw (kx w) B _ b v _);have c:N.come bk L={ N with held:=N.held.set L.copy (keepH L.x s0),under:=N.under++[⟨L.copy,L.hand,L.turn,false,some (keepH L.x s0)⟩] }:=by unfold LM.come;rw [if_pos hto,f]
   rw [c];exact d8
  | false=>
   refine sq_if ⟨_,rfl,rfl,_,rfl,iteN (show ¬ decide (V.str (sideS false)=V.str "to")=true by decide +kernel) (t_nx ?_)⟩;obtain ⟨x,Y⟩:=hx hto;rw [Y] at K;obtain ⟨F,rfl,k2,rfl⟩:=K;have ho:N.opn[L.hand]? = some N.opn[L.hand]:=v0 hh;obtain ⟨oe,a2,oo⟩:=z0r u.oe ho;have c9:(v.map oeV)[L.hand]? = some (oeV oe):=by rw [N0,a2];rfl
   refine z0b ⟨_,rfl,b.st,_,rfl,G.gop I,_,rfl,.inl ⟨b.op,_,L.hand,oeV oe,rfl,rfl,SqL.of b9,z08 c9,?_⟩⟩;refine g_name ?_;have c:N.come bk L=match N.opn[L.hand]?,L.x with|some (some D),some x=>N.hear bk L D x|_,_=>N:=by unfold LM.come;exact if_neg (by rw [hto];decide)
   rw [Y,ho] at c;cases hD:N.opn[L.hand] with
   | none=>
    rw [hD] at oo c;cases oe with
    | some y=>exact oo.elim
    | none=>exact ⟨_,rfl,rfl,_,rfl,iteN (by decide) (iteF (q v _ M (by rw [c];exact u)))⟩
   | some D=>
    rw [hD] at oo c ho;cases oe with
    | none=>exact oo.elim
    | some y=>
    obtain ⟨nr,d9⟩:=d5 D ho;obtain ⟨e7,ed,e0⟩:=u.nest a2;obtain ⟨ks,v1,v2,v3,v4⟩:=(show OeAt (kx w) H D y from oo)
    obtain ⟨g1,g2,l,f,g3,g4,g5⟩:=v4 nr;obtain ⟨a9,d7⟩:=u.hear_ a2 g3;have c:N.come bk L=N.hear bk L D x:=c;unfold LM.hear at c;refine t_and ⟨_,rfl,rfl,_,rfl,iteP (by simp [oeV]) ?_⟩;refine ⟨_,rfl,y.d,_,rfl,dg ed g1,_,rfl,rfl,_,rfl,?_⟩;by_cases hrt:D.round=L.turn;rotate_left
    ·rw [if_neg hrt] at c;exact iteN (λ z=>hrt (by have:=of_decide_eq_true z;injection this with this;omega)) (q v _ M (by rw [c];exact u))
    rw [if_pos hrt] at c;refine iteP (decide_eq_true (by rw [hrt])) ?_;refine ⟨_,rfl,y.d,_,rfl,dg ed g4,.inl ⟨rfl,_,SqL.of a9⟩,?_⟩;refine ⟨_,rfl,_,rfl,w_2,λ p X=>?_⟩;obtain ⟨O,v_,t1,e1⟩:=newA (.tup [.ref F,.int x.2]) X;rw [<-v_];have b7:f.length<=50:=by rw [z04 g5];exact d9
    refine ⟨l,f,_,rfl,rfl,t1 _ _ a9,V0 b7 (by decide),t_nx ?_⟩;have a3:=u.same t1;have i1:=Imm.of t1;have a0:=a3.setH (D':=D.hear x) (hs':=f++[.ref p]) a2 g3 λ C m=>⟨ks,v1,v2,v3,λ _=>⟨g1,g2,l,_,rfl,g4,z33 (z00 (λ _ _ z=>HdAt.imm (i1.trans m) z) g5) (.cons ⟨p,F,rfl,SqT.of (m.t _ _ e1),(i1.trans m).seqT k2⟩ .nil)⟩⟩
    have s2:=Same.keep (o:=.lst (f++[.ref p])) (M.trans t1) d7;have S:upd O l (.lst (f++[.ref p])) l=some (.lst (f++[.ref p])):=z03;generalize upd O l (.lst (f++[.ref p]))=H2 at a0 s2 S⊢;obtain ⟨b5,b1,e4,e5,d0,d1,d2,d3,d4⟩:=id a0.ct;have b8:H2 b.st=some (.dK b5):=d1.at (a:=[]);have c8:H2 b.hd=some (.lst b1):=d1.at (a:=[_]);have d6:(v.set L.hand (some { y with l:=some (l,f++[.ref p]) }))[L.hand]? = some (some { y with l:=some (l,f++[.ref p]) }):=K0 (by omega);obtain ⟨_,b2,_⟩:=a0.nest d6;have a4:(f++[V.ref p]).length=(D.hear x).heard.length:=by rw [F0,z04 g5];show _=(D.heard++[x]).length;rw [F0];rfl
    have a6:b1.length=N.held.length:=z04 d2;refine ⟨_,rfl,y.d,_,rfl,dg b2 g4,.inl ⟨l,_,rfl,.inl (SqL.of S),2,_,rfl,rfl,.inl ⟨by decide,by decide⟩,?_⟩⟩;refine ⟨_,rfl,b.st,_,rfl,d0.ghd b8,.inl ⟨b.hd,_,rfl,.inl (SqL.of c8),_,_,rfl,rfl,_,rfl,?_⟩⟩;by_cases big:N.held.length < 2 * (D.hear x).heard.length
    ·rw [if_pos big] at c;refine iteP (decide_eq_true (by rw [a4,a6];omega)) ?_;refine ⟨_,rfl,_,rfl,_,rfl,b,L.hand,bk,B,_,_,D.hear x,rfl,a0,K0 hh,nr,by show D.heard++[x]≠[];simp,by rw [<-a4,F0];show f.length + 1<=100;omega,by show N.under.length<=_;omega,c7,by show N.events.length<=_;omega,s2,λ c6 C s' b6=>q c6 C s' (by rw [c];exact b6)⟩
    ·rw [if_neg big] at c;exact iteN (λ z=>big (by have:=of_decide_eq_true z;rw [a4,a6] at this;omega)) (q _ _ s2 (by rw [c];exact a0))
structure LOk (pl:List (List (Option Int))) (N:LM) (n:Nat):Prop where
 ol:N.opn.length=pl.length
 nl:N.nxt.length=pl.length
 h5:N.held.length<=5
 un :∀L∈N.under,L.copy < N.held.length/\L.hand < pl.length/\(L.to=false->∃x,L.x=some x)
 op :∀(h:Nat) (D:LD),N.opn[h]? = some (some D)->D.round≠0/\D.heard.length<=50
 ul:N.under.length<=6 * n
 vl:N.events.length<=n
theorem lok_of {pl:List (List (Option Int))} {M:CM} {N:LM} {n:Nat} (s:Sm pl M N) (wf:WfM M n):LOk pl N n:=by
 have o:N.under.length=M.letters.length:=z04 s.un;refine ⟨s.ol,s.nl,by rw [s.st];exact wf.st.2,λ L m=>?_,λ h D k=>?_,by rw [o];exact wf.ln,by rw [s.ev];exact wf.vn⟩
 ·obtain ⟨i,q⟩:=List.mem_iff_getElem?.mp m;obtain ⟨d,b,p,g,c,l,f,j,a⟩:=z0m s.un q;refine ⟨by rw [s.st,c];exact s.inb d (T0 b),by rw [f];exact (s.pa _ _ g).1,λ z=>?_⟩;rw [j] at z;cases hh:d.held with
  | none=>rw [hh] at z;cases z
  | some x=>rw [hh] at a;exact ⟨x,a⟩
 ·obtain ⟨e,p,b,g,c,l,f,j,a,r⟩:=s.cu h D k;have:=wf.st.2;exact ⟨by omega,by omega⟩
theorem Lw.newO {K:j0} {B H:Hp} {A:La} {es:List (Option OE)} {N:LM} {h:Nat} {d:Addr} {kv:List (Key×V)} {D:LD} (lw:Lw K B H A es N) (hy:es[h]? = some none) (hd:H d=none) (sB:Same B H) (a :∀H',OeAt K H' D ⟨d,kv,none⟩):Lw K B (upd (upd (upd H d (.dK [])) d (.dK kv)) A.op (.lst ((es.map oeV).set h (.ref d)))) A (es.set h (some ⟨d,kv,none⟩)) { N with opn:=N.opn.set h (some D) }:=by obtain ⟨f,b,e,g,l,p,n,q,k⟩:=lw.ct;have i:Ms B (upd (upd H d (.dK [])) d (.dK kv)) ([]++(d,.dK kv) :: (baseO A f b e (natV N.nxt) g (es.map oeV)++es.flatMap entO)):=Ms.set (a:=[]) (p.new (o:=.dK []) sB hd);have j:Ms B (upd (upd (upd H d (.dK [])) d (.dK kv)) A.op (.lst ((es.map oeV).set h (.ref d)))) ((d,.dK kv) :: (baseO A f b e (natV N.nxt) g ((es.map oeV).set h (.ref d))++es.flatMap entO)):=Ms.set (a:=[_,_,_,_,_,_]) i;have m:Imm H (upd (upd (upd H d (.dK [])) d (.dK kv)) A.op (.lst ((es.map oeV).set h (.ref d)))):=((Imm.of (Same.upd hd)).trans (Imm.dk z03)).trans (Imm.lst (i.c (A.op,.lst (es.map oeV)) (by simp [baseO])));refine ⟨⟨f,b,e,g,l,?_,z00 (λ _ _ z=>z.imm m) n,z00 (λ _ _ z=>z.imm m) q,z00 (λ _ _ z=>z.imm m) k⟩,z3r h (z00 (λ _ _ z=>OeO.imm m z) lw.oe) (show OeO K _ (some D) (some _) from a _)⟩;rw [z2a _ hy,map_set];rw [z61 hy] at j;refine j.perm ?_;show List.Perm ((d,HO.dK kv) :: (baseO A f b e (natV N.nxt) g ((es.map oeV).set h (.ref d))++((es.take h).flatMap entO++(es.drop (h + 1)).flatMap entO))) (baseO A f b e (natV N.nxt) g ((es.map oeV).set h (.ref d))++((es.take h).flatMap entO++(d,HO.dK kv) :: (es.drop (h + 1)).flatMap entO));rw [<-A2,<-A2];exact List.perm_middle.symm
def z56 (K:j0):Sp:=λ vs H Q _=>∃(A:La) (a:Addr) (n:Nat) (bk:Bool) (B:Hp) (es:List (Option OE)) (N:LM) (pl:List (List (Option Int))) (t:Nat),vs=[.ref A.st,.ref a,.int n,.bl bk]/\Lw K B H A es N/\PlR B a pl/\pl.length<=6/\(∀own∈pl,own.length<=24)/\LOk pl N t/\t<=1000/\n < (N.free pl).length + 2 * N.under.length/\Same B H/\
 ∀es' H',Same B H'->Lw K B H' A es' (N.moved pl bk n)->Q .non H'
theorem z9q (T:TX (kx w) mg) (c5:Ca P w mg base "_law_free" ["state","plan"] 1 (z24 (kx w))) (c6:Ca P w mg base "_law_sent" ["state","hand","stamp","worth"] 1 (z3w (kx w))) (c7:Ca P w mg base "_law_come" ["state","letter","back"] 3 (z5m (kx w))):Fo P w mg base CX0 4 465 y0x ["state","plan","number","back"] (z56 (kx w)):=by
 refine (z3x w.params).ok sc__law_moved (λ vs H Q E h=>?_) (λ e7 A e3 s H vs Q E C h=>?_)
 ·obtain ⟨A,a,n,bk,B,J,N,f,t,rfl,_⟩:=h;rfl
 ·obtain ⟨g,a,n,bk,B,J,N,f,t,rfl,lw,pr,l6,e6,ok,e5,hn,sB,q⟩:=h;refine ⟨_,(z02 (ps_set (i:=4) sc__law_moved.nd rfl (K1 rfl) (pe_cal c5 (C.mono (by decide)) rfl (z01 (pv 0) (z01 (pv 1) pa_nil))))
   (z02 (ps_if (z0a op_lt (pv 2) (z07 z0n rfl (T.no (n_len _)) G2 (z01 (pv 4) pa_nil)) (nomark _))
   (z02 (ps_set (i:=5) sc__law_moved.nd rfl (K1 rfl) (pe_ix ix_seq (pv 4) (pv 2) (λ _ _=>rfl)))
   (z02 (ps_asg (pe_ix ix_seq (pe_ix ix_seq (pv 1) (pv 5) (λ _ _=>rfl)) (pe_ix ix_seq (z0d (hu_of C) (pv 0) pe_str (λ _ _=>rfl)) (pv 5) (λ _ _=>rfl)) (λ _ _=>rfl)) (pg_tup rfl (z0g (z0f (i:=6) sc__law_moved.nd rfl (K1 rfl)) (z0g (z0f (i:=7) sc__law_moved.nd rfl (K1 rfl)) z42))))
   (z02 (ps_asg (pe_op opAdd (pe_ix ix_seq (z0d (hu_of C) (pv 0) pe_str (λ _ _=>rfl)) (pv 5) (λ _ _=>rfl)) pe_int) (pg_sub (z0d (hu_of C) (pv 0) pe_str (λ _ _=>rfl)) (pv 5) z25))
   (z02 (ps_asg (zie (z4o pe_str (pv 6) (z4o pe_str (pv 7) zhv)) rfl rfl (by simp) (by decide)) (pg_sub (z0d (hu_of C) (pv 0) pe_str (λ _ _=>rfl)) (pv 5) z25))
   (z02 (z0h (z0p (z0d (hu_of C) (pv 0) pe_str (λ _ _=>rfl)) (z01 (pe_tup (z01 pe_str (z01 (pv 5) (z01 pe_str (z01 (pv 6) (z01 (pv 7) pa_nil)))))) pa_nil)))
   (z02 (z0h (pe_cal c6 (C.mono (by decide)) rfl (z01 (pv 0) (z01 (pv 5) (z01 pe_non (z01 pe_non pa_nil))))))
   (z05 z7c)))))))
   z0e)
   (z02 (ps_set (i:=8) sc__law_moved.nd rfl (K1 rfl) (pe_op op_mod (pe_op op_sub (pv 2) (z07 z0n rfl (T.no (n_len _)) G2 (z01 (pv 4) pa_nil))) (z07 z0n rfl (T.no (n_len _)) G2 (z01 (z0d (hu_of C) (pv 0) pe_str (λ _ _=>rfl)) pa_nil))))
   (z02 (ps_set (i:=9) sc__law_moved.nd rfl (K1 rfl) (zew (z0d (hu_of C) (pv 0) pe_str (λ _ _=>rfl)) (z01 (pv 8) pa_nil)))
   (z05 (ps_if (z0a op_le (pe_op op_sub (pv 2) (z07 z0n rfl (T.no (n_len _)) G2 (z01 (pv 4) pa_nil))) (z07 z0n rfl (T.no (n_len _)) G2 (z01 (z0d (hu_of C) (pv 0) pe_str (λ _ _=>rfl)) pa_nil)) (nomark _))
   (z05 (z0h (pe_cal c7 (C.mono (by decide)) rfl (z01 (pv 0) (z01 (pv 9) (z01 (pv 3) pa_nil))))))
   z0e)))))),?_⟩
  have ol:=ok.ol;have nl:=ok.nl;have ul:=ok.ul;have vl:=ok.vl;refine z0b ⟨_,rfl,_,rfl,g,a,B,J,N,f,rfl,lw,pr.same sB,l6,ol,nl,λ Y R s1 d5 a2=>?_⟩;refine g_name ?_;have a7:=lw.same s1;have b3:=sB.trans s1;have a0:(natV (N.free f)).length=(N.free f).length:=C0 ..;obtain ⟨U,hv,l,I,x,j,Z,X,M⟩:=id a7.ct;have u:R g.st=some (.dK U):=j.at (a:=[]);have O:R g.un=some (.lst l):=j.at (a:=[_,_]);have b1:l.length=N.under.length:=z04 X;refine sq_if ⟨_,rfl,_,rfl,.inl ⟨Y,_,rfl,.inl (SqL.of a2),_,_,rfl,rfl,_,rfl,?_⟩⟩;by_cases hlt:n < (N.free f).length
  ·refine iteP (decide_eq_true (by rw [a0];omega)) ?_;have hf:(N.free f)[n]? = some (N.free f)[n]:=v0 hlt;have hm:(N.free f)[n]∈N.free f:=Z2 hlt;generalize (N.free f)[n]=h at hf hm;obtain ⟨m1,G⟩:=List.mem_filter.mp (show h∈(U0 f.length).filter (N.fre f) from hm);have hh:h < f.length:=List.mem_range.mp m1;have G:((N.opn[h]?.getD none).isNone && decide (N.nxt[h]?.getD 0 < (f[h]?.getD []).length))=true:=G;have a4:h < N.opn.length:=by omega
   have b7:h < N.nxt.length:=by omega
   have hN:N.nxt[h]? = some N.nxt[h]:=v0 b7;have hP:f[h]? = some f[h]:=v0 hh;have ho:N.opn[h]? = some none:=by
    have hO:N.opn[h]? = some N.opn[h]:=v0 a4;rw [hO] at G⊢;cases e:N.opn[h] with
    | none=>rfl
    | some D=>rw [e] at G;cases G
   rw [P4,decide_eq_true_iff,hN,hP] at G;have hx:N.nxt[h] < (f[h]).length:=G.2;obtain ⟨os,d9,d4⟩:=pr.same b3;obtain ⟨yv,d7,b,ys,rfl,eb,ad⟩:=z0r d4 hP;have c8:(f[h])[N.nxt[h]]? = some (f[h])[N.nxt[h]]:=v0 hx;obtain ⟨dv,e2,dp,rfl,b6⟩:=z0r ad c8;have a6:N.moved f bk n=N.begin h ((f[h])[N.nxt[h]]):=by unfold LM.moved;rw [if_pos hlt,hf];show (match (f[h]?.getD [])[N.nxt[h]?.getD 0]? with|some d=>N.begin h d|none=>N)=_;rw [hN,hP];show (match (f[h])[N.nxt[h]]? with|some d=>N.begin h d|none=>N)=_;rw [c8]
   generalize (f[h])[N.nxt[h]]=d at b6 a6;rw [a6] at q;have e0:N.nxt[h]?.getD 0=N.nxt[h]:=by rw [hN];rfl
   obtain ⟨oe,e1,oo⟩:=z0r a7.oe ho;cases oe with
   | some y=>exact oo.elim
   | none=>
   have a5:R g.nx=some (.lst (natV N.nxt)):=j.at (a:=[_,_,_]);have c9:(natV N.nxt)[h]? = some (.int (N.nxt[h]:Nat)):=by unfold natV;rw [N0,hN];rfl
   refine z0b ⟨_,rfl,_,rfl,.inl ⟨Y,_,n,.int (h:Nat),rfl,rfl,SqL.of a2,z08 (by unfold natV;rw [N0,hf];rfl),g_name ?_⟩⟩;refine z0b ⟨_,rfl,_,rfl,.inl ⟨a,os,h,.ref b,rfl,rfl,SqL.of d9,z08 d7,_,rfl,g.st,_,rfl,x.gnx u,_,rfl,.inl ⟨g.nx,_,h,_,rfl,rfl,SqL.of a5,z08 c9,.inl ⟨b,ys,N.nxt[h],.ref dp,rfl,rfl,SqL.of eb,z08 e2,dp,_,rfl,SqT.of b6,rfl,_,_,rfl,_,_,rfl,rfl,?_⟩⟩⟩⟩;refine z0b ⟨_,rfl,g.st,_,rfl,x.gnx u,_,rfl,.inl ⟨g.nx,_,h,_,rfl,rfl,SqL.of a5,z08 c9,.inl ⟨_,1,rfl,rfl,_,rfl,g.st,_,rfl,x.gnx u,_,rfl,g.nx,_,h,h,rfl,rfl,a5,z6n (by rw [show (natV N.nxt).length=N.nxt.length from C0 ..];exact b7),?_⟩⟩⟩;rw [show ((N.nxt[h]:Int) + 1)=((N.nxt[h] + 1:Nat):Int) by omega];have F:=a7.setN (us:=N.nxt.set h (N.nxt[h] + 1)) (uv':=(natV N.nxt).set h (.int ((N.nxt[h] + 1:Nat):Int))) (by unfold natV;rw [L8]);have S:=Same.keep (o:=.lst ((natV N.nxt).set h (.int ((N.nxt[h] + 1:Nat):Int)))) b3 (j.frA (a:=[_,_,_]));generalize upd R g.nx (.lst ((natV N.nxt).set h (.int ((N.nxt[h] + 1:Nat):Int))))=H2 at F S⊢;clear x j Z X M u a5 O b1 l;obtain ⟨U,hv,l,I,x,j,Z,X,M⟩:=id F.ct;have u:H2 g.st=some (.dK U):=j.at (a:=[]);have a3:H2 g.op=some (.lst (J.map oeV)):=j.at (a:=[_,_,_,_,_]);refine z0b ?_;intro K a1;refine pairsC ⟨_,rfl,pairsC ⟨_,rfl,z03,[(.inr "verb",.str (vbD d)),(.inr "worth",wvD d)],rfl,(show (2:Nat)<=15 by decide),?_⟩⟩;rw [show mergeK ([]:List (Key×V)) [(.inr "verb",.str (vbD d)),(.inr "worth",wvD d)]=putK (putK [] (.inr "verb") (.str (vbD d))) (.inr "worth") (wvD d) from rfl];have n1:g.st≠K:=λ z=>by rw [z,a1] at u;cases u
   have n2:g.op≠K:=λ z=>by rw [z,a1] at a3;cases a3
   refine ⟨_,rfl,g.st,_,rfl,x.gop (up1 n1 (up1 n1 u)),_,rfl,g.op,_,h,h,rfl,rfl,up1 n2 (up1 n2 a3),z6n (by rw [C0,show J.length=N.opn.length from z04 F.oe];exact a4),?_⟩;have k0:KS kD (putK (putK [] (.inr "verb") (.str (vbD d))) (.inr "worth") (wvD d)):=(KS.nil.put (by simp [kD])).put (by simp [kD]);have k1:valV (κ:=Key) (putK (putK [] (.inr "verb") (.str (vbD d))) (.inr "worth") (wvD d)) (.inr "verb")=some (.str (vbD d)):=(vp_ne (by decide +kernel)).trans vp_eq;have k2:valV (κ:=Key) (putK (putK [] (.inr "verb") (.str (vbD d))) (.inr "worth") (wvD d)) (.inr "worth")=some (wvD d):=vp_eq;have b4:=F.newO (D:=⟨d,0,false,[],none⟩) (kv:=putK (putK [] (.inr "verb") (.str (vbD d))) (.inr "worth") (wvD d)) e1 a1 S λ W=>⟨k0,k1,k2,(λ z=>by cases z),λ z=>absurd rfl z⟩
   have b9:Same B (upd (upd (upd H2 K (.dK [])) K (.dK (putK (putK [] (.inr "verb") (.str (vbD d))) (.inr "worth") (wvD d)))) g.op (.lst ((J.map oeV).set h (.ref K)))):=Same.keep (Same.keep (S.trans (Same.upd a1)) (S.free a1)) (j.frA (a:=[_,_,_,_,_]));generalize upd (upd (upd H2 K (.dK [])) K (.dK (putK (putK [] (.inr "verb") (.str (vbD d))) (.inr "worth") (wvD d)))) g.op (.lst ((J.map oeV).set h (.ref K)))=H3 at b4 b9⊢;clear x j Z X M u a3;obtain ⟨U,hv,l,I,x,j,Z,X,M⟩:=id b4.ct;have u:H3 g.st=some (.dK U):=j.at (a:=[]);have d2:H3 g.ev=some (.lst I):=j.at (a:=[_,_,_,_]);refine ⟨_,rfl,g.st,_,rfl,x.gev u,.inl ⟨rfl,_,SqL.of d2⟩,?_⟩;refine ⟨_,rfl,_,rfl,_,rfl,w_5,λ p hp=>?_⟩;obtain ⟨H4,v_,t4,e4⟩:=newA (.tup [.str "begin",.int (h:Nat),.str "r",.str (vbD d),wvD d]) hp;rw [<-v_];have lv:I.length<=1000:=by rw [z04 M];show N.events.length<=_;omega
   refine ⟨g.ev,I,_,rfl,rfl,t4 _ _ d2,V0 lv (by decide),t_nx ?_⟩;have d0:=(b4.same t4).setV (us:=N.events++[.beg h d]) (uv':=I++[.ref p]) λ W m=>z33 (z00 (λ _ _ z=>EvV.imm ((Imm.of t4).trans m) z) M) (.cons (show EvV W (.beg h d) (.ref p) from ⟨p,rfl,m.t _ _ e4⟩) .nil);have b8:=Same.keep (o:=.lst (I++[.ref p])) (b9.trans t4) (j.frA (a:=[_,_,_,_]));generalize upd H4 g.ev (.lst (I++[.ref p]))=H5 at d0 b8⊢;refine ⟨_,rfl,_,rfl,g,h,.non,.non,B,_,_,_,_,none,rfl,d0,K0 a4,K0 (by rw [show J.length=N.opn.length from z04 F.oe];exact a4),⟨rfl,rfl⟩,(λ z=>by cases z),by show N.under.length<=_;omega,ok.h5,b8,λ b2 W s' b0=>q b2 W s' ?_⟩;unfold LM.begin;rw [e0];exact b0
  ·refine iteN (λ z=>hlt (by have:=of_decide_eq_true z;rw [a0] at this;omega)) (t_nx ?_);have u0:0 < N.under.length:=by omega
   have ek:((n:Int) - ((natV (N.free f)).length:Nat)) % ((l.length:Nat):Int)=(((n - (N.free f).length) % N.under.length:Nat):Int):=by rw [a0,b1,show (n:Int) - ((N.free f).length:Nat)=((n - (N.free f).length:Nat):Int) by omega];exact (Int.natCast_emod _ _).symm
   have kl:(n - (N.free f).length) % N.under.length < N.under.length:=j26 _ u0;have hL:N.under[(n - (N.free f).length) % N.under.length]? = some N.under[(n - (N.free f).length) % N.under.length]:=v0 kl;have a6:N.moved f bk n=if n < (N.free f).length + N.under.length then LM.come { N with under:=N.under.eraseIdx ((n - (N.free f).length) % N.under.length) } bk N.under[(n - (N.free f).length) % N.under.length] else { N with under:=N.under.eraseIdx ((n - (N.free f).length) % N.under.length) }:=by unfold LM.moved;rw [if_neg hlt,hL]
   rw [a6] at q;refine z0b ⟨_,rfl,_,rfl,.inl ⟨Y,_,rfl,.inl (SqL.of a2),_,_,rfl,rfl,_,rfl,g.st,_,rfl,x.gun u,.inl ⟨g.un,l,rfl,.inl (SqL.of O),_,_,rfl,rfl,(by show (0:Int) < (l.length:Int);omega),?_⟩⟩⟩;show gName 8 (V.int (((n:Int) - ((natV (N.free f)).length:Nat)) % ((l.length:Nat):Int))) _ _ _;rw [ek];generalize hkk:(n - (N.free f).length) % N.under.length=k at kl hL q⊢;generalize N.under[k]=L at hL q;have a8:=ok.un L (T0 hL);refine g_name ?_;obtain ⟨v,d6,aL⟩:=z0r X hL;refine z0b ⟨_,rfl,g.st,_,rfl,x.gun u,.inl ⟨rfl,l,SqL.of O⟩,_,rfl,g.un,l,_,k,v,rfl,rfl,O,by omega,by omega,z8b (by rw [b1];exact kl),d6,?_⟩;have G:Imm R (upd R g.un (.lst (l.eraseIdx k))):=Imm.lst O;have F:=a7.setU (us:=N.under.eraseIdx k) (uv':=l.eraseIdx k) λ W m=>z5q k (z00 (λ _ _ z=>LLAt.imm m z) X);have S:=Same.keep (o:=.lst (l.eraseIdx k)) b3 (j.frA (a:=[_,_]));have d8:Y≠g.un:=λ z=>by obtain ⟨_,_,_,_,_,c,_⟩:=lw.ct;have:=c.at (a:=[_,_]);rw [<-z,d5] at this;cases this
   have b5:upd R g.un (.lst (l.eraseIdx k)) Y=some (.lst (natV (N.free f))):=up1 d8 a2;generalize upd R g.un (.lst (l.eraseIdx k))=H2 at F S b5 G⊢;refine g_name ?_;clear x j Z M u O;obtain ⟨U,hv,a9,I,x,j,Z,d3,M⟩:=id F.ct;have u:H2 g.st=some (.dK U):=j.at (a:=[]);have O:H2 g.un=some (.lst a9):=j.at (a:=[_,_]);have d1:a9.length=N.under.length - 1:=by rw [z04 d3];show (N.under.eraseIdx k).length=_;rw [j4c,if_pos kl]
   refine ⟨_,rfl,_,rfl,.inl ⟨Y,_,rfl,.inl (SqL.of b5),_,_,rfl,rfl,_,rfl,g.st,_,rfl,x.gun u,.inl ⟨g.un,a9,rfl,.inl (SqL.of O),_,_,rfl,rfl,_,rfl,?_⟩⟩⟩;by_cases hb:n < (N.free f).length + N.under.length
   ·rw [if_pos hb] at q;refine iteP (decide_eq_true (by rw [a0,d1];omega)) ?_;refine ⟨_,rfl,_,rfl,_,rfl,g,v,bk,B,J,_,L,rfl,F,aL.imm G,a8.1,by show L.hand < N.opn.length;rw [ol];exact a8.2.1,a8.2.2,λ D hD=>ok.op _ D hD,by show (N.under.eraseIdx k).length<=9000;have:=A8 N.under k;omega,ok.h5,by show N.events.length<=_;omega,S,λ b2 W s' b0=>q b2 W s' b0⟩
   ·rw [if_neg hb] at q;exact iteN (λ z=>hb (by have:=of_decide_eq_true z;rw [a0,d1] at this;omega)) (q J _ S F)
end
section
abbrev Sp2:=Int×Int
def leS (a b:Sp2):Prop:=a.1 < b.1\/(a.1=b.1/\a.2<=b.2)
def ltS (a b:Sp2):Prop:=a.1 < b.1\/(a.1=b.1/\a.2 < b.2)
instance (a b:Sp2):Decidable (leS a b):=inferInstanceAs (Decidable (_\/_))
theorem leS.refl (a:Sp2):leS a a:=.inr ⟨rfl,Int.le_refl _⟩
theorem leS.trans {a b c:Sp2} (h:leS a b) (k:leS b c):leS a c:=by unfold leS at *;omega
theorem leS.lt {a b c:Sp2} (h:leS a b) (k:ltS b c):ltS a c:=by unfold leS ltS at *;omega
theorem ltS.le {a b:Sp2} (h:ltS a b):leS a b:=by unfold leS ltS at *;omega
theorem ltS.no {a b:Sp2} (h:ltS a b) (k:leS b a):False:=by unfold leS ltS at *;omega
theorem zic (a b:Sp2):leS a b\/leS b a:=by unfold leS;omega
theorem gt_le {a b:Sp2} (h:gtI a b=true):leS b a:=by have:=gtI_iff.mp h;unfold leS;omega
theorem ng_le {a b:Sp2} (h:¬ gtI a b=true):leS a b:=by
 rcases zic a b with z|z
 ·exact z
 ·by_cases e:a=b
  ·rw [e];exact leS.refl b
  ·exfalso;refine h (gtI_iff.mpr ?_);have c:¬ (a.1=b.1/\a.2=b.2):=λ y=>e (j1h y.1 y.2);unfold leS at z;omega
def mxS (a b:Sp2):Sp2:=if leS a b then b else a
theorem mxS_l (a b:Sp2):leS a (mxS a b):=by
 unfold mxS;split
 ·assumption
 ·exact leS.refl a
theorem mxS_r (a b:Sp2):leS b (mxS a b):=by
 unfold mxS;split
 ·exact leS.refl b
 ·rename_i h;exact (zic a b).resolve_left h
theorem mxS_c (a b:Sp2):mxS a b=a\/mxS a b=b:=by
 unfold mxS;split
 ·exact .inr rfl
 ·exact .inl rfl
theorem max_le {l:List Hd} {x:Hd} (h:x∈l):leS x.1 (maxHd l).1:=by
 have d :∀(r:List Hd) (m:Hd),leS m.1 (r.foldl (λ m y=>if gtN y m=true then y else m) m).1/\∀x∈r,leS x.1 (r.foldl (λ m y=>if gtN y m=true then y else m) m).1:=by
  intro r;induction r with
  | nil=>exact λ m=>⟨leS.refl _,λ _ z=>absurd z L0⟩
  | cons y r ih=>
   intro m;rw [N3];obtain ⟨a,b⟩:=ih (if gtN y m=true then y else m);have c:leS m.1 (if gtN y m=true then y else m).1/\leS y.1 (if gtN y m=true then y else m).1:=by
    split
    ·rename_i z;refine ⟨?_,leS.refl _⟩;rcases gtN_iff.mp z with z|z
     ·exact gt_le z
     ·rw [z.1];exact leS.refl _
    ·rename_i z;exact ⟨leS.refl _,ng_le λ y=>z (gtN_iff.mpr (.inl y))⟩
   refine ⟨c.1.trans a,λ x e=>?_⟩;rcases List.mem_cons.mp e with z|z
   ·rw [z];exact c.2.trans a
   ·exact b x z
 cases l with
 | nil=>exact absurd h L0
 | cons y r=>
  obtain ⟨a,b⟩:=d r y;rcases List.mem_cons.mp h with z|z
  ·rw [z];exact a
  ·exact b x z
theorem zkv (k:Option Hd) (s:Hd):leS s.1 (keepH k s).1/\(∀x,k=some x->leS x.1 (keepH k s).1)/\(keepH k s=s\/k=some (keepH k s)):=by
 cases k with
 | none=>exact ⟨leS.refl _,λ _ z=>(by cases z),.inl rfl⟩
 | some x=>
  show leS s.1 (if gtI x.1 s.1=true then x else s).1/\(∀y,some x=some y->leS y.1 (if gtI x.1 s.1=true then x else s).1)/\((if gtI x.1 s.1=true then x else s)=s\/some x=some (if gtI x.1 s.1=true then x else s));split
  ·rename_i z;exact ⟨gt_le z,λ y e=>(by cases e;exact leS.refl _),.inr rfl⟩
  ·rename_i z;exact ⟨leS.refl _,λ y e=>(by cases e;exact ng_le z),.inl rfl⟩
def cnt (m:Nat) (p:Nat->Bool):Nat:=((U0 m).filter p).length
theorem zfl {m:Nat} {p q:Nat->Bool} (h :∀c,c < m->p c=true->q c=true):cnt m p<=cnt m q:=by unfold cnt;rw [<-E5,<-E5];exact List.countP_mono_left λ c a=>h c (List.mem_range.mp a)
theorem nd_len {α:Type} [BEq α] [LawfulBEq α] :∀{xs ys:List α},xs.Nodup->(∀x∈xs,x∈ys)->xs.length<=ys.length
 | [],_,_,_=>J2 _
 | x :: xs,ys,n,h=>by obtain ⟨c,d⟩:=List.nodup_cons.mp n;have b:x∈ys:=h x (.head _);have:=nd_len (ys:=ys.erase x) d λ y a=>(q9 (λ z:y=x=>c (by rw [<-z];exact a))).mpr (h y (.tail _ a));rw [j2i b] at this;have:=N8 b;show xs.length + 1<=_;omega
theorem nd_cnt {m:Nat} {p:Nat->Bool} {cs:List Nat} (n:cs.Nodup) (h :∀c∈cs,c < m/\p c=true):cs.length<=cnt m p:=nd_len n λ c a=>List.mem_filter.mpr ⟨List.mem_range.mpr (h c a).1,(h c a).2⟩
theorem zkm (m:Nat) (p:Nat->Bool):cnt m p + cnt m (λ c=>!p c)=m:=by
 unfold cnt;have:=List.length_eq_countP_add_countP p (l:=U0 m);rw [T2,E5,E5] at this;have e:(U0 m).filter (λ a=>decide ¬ p a=true)=(U0 m).filter (λ c=>!p c):=j03 λ c _=>by cases p c<;>rfl
 rw [e] at this;omega
theorem meet {m:Nat} {p:Nat->Bool} {cs:List Nat} (n:cs.Nodup) (hc :∀c∈cs,c < m) (h1:m < 2 * cs.length) (h2:m < 2 * cnt m p) :∃c∈cs,p c=true:=by
 by_cases z :∃c∈cs,p c=true
 ·exact z
 ·exfalso;have:=nd_cnt (p:=λ c=>!p c) n λ c h=>⟨hc c h,by cases e:p c with
   | true=>exact absurd ⟨c,h,e⟩ z
   | false=>rfl⟩
  have:=zkm m p;omega
end
section
structure PA where
 hand:Nat
 d:Option Int
 start:Nat
 stop:Option Nat
 v:Option Int
structure GA where
 hand:Nat
 d:Option Int
 start:Nat
 stop:Option Nat
 v:Option Int
 g:Sp2
 s:Option Sp2
def GA.pr (a:GA):PA:=⟨a.hand,a.d,a.start,a.stop,a.v⟩
def stepA (k:Nat) (As:List PA):CEv->List PA
 | .beg h d=>As++[⟨h,d,k,none,none⟩]
 | .fin h x=>As.map λ a=>if a.hand=h/\a.stop=none then { a with stop:=some k,v:=x } else a
def actsF (es:List CEv):List PA:=(es.foldl (λ (S:Nat×List PA) e=>(S.1 + 1,stepA S.1 S.2 e)) (0,[])).2
theorem z68 (es:List CEv) (e:CEv):actsF (es++[e])=stepA es.length (actsF es) e:=by
 have a :∀(es:List CEv) (S:Nat×List PA),(es.foldl (λ (S:Nat×List PA) e=>(S.1 + 1,stepA S.1 S.2 e)) S).1=S.1 + es.length:=by
  intro es;induction es with
  | nil=>exact λ S=>rfl
  | cons e es ih=>intro S;rw [N3,ih];show S.1 + 1 + es.length=S.1 + (es.length + 1);omega
 unfold actsF;rw [G6];show stepA (es.foldl _ (0,[])).1 _ e=_;rw [a];show stepA (0 + es.length) _ e=_;rw [O4]
def h00:Hd:=((0,-1),0)
def Kn (As:List GA) (x:Hd):Prop:=x=h00\/∃(j:Nat) (b:GA),As[j]? = some b/\b.d=some x.2/\b.s=some x.1
def Pb (bk:Bool) (a:GA):Prop:=bk=true\/a.d.isSome=true
structure AI (bk:Bool) (n:Nat) (As:List GA) (T:Sp2):Prop where
 t0:leS (0,-1) T
 st :∀(i:Nat) (a:GA),As[i]? = some a->a.start < n/\leS (0,-1) a.g/\∀e,a.stop=some e->a.start < e/\e < n
 so :∀(i j:Nat) (a b:GA),i < j->As[i]? = some a->As[j]? = some b->a.start < b.start
 hn :∀(i j:Nat) (a b:GA),i < j->As[i]? = some a->As[j]? = some b->a.hand=b.hand->∃e,a.stop=some e/\e < b.start
 pb :∀(i j:Nat) (a b:GA) e x,As[i]? = some a->As[j]? = some b->a.stop=some e->a.s=some x->Pb bk a->e < b.start->leS x b.g
 pT :∀(i:Nat) (a:GA) e x,As[i]? = some a->a.stop=some e->a.s=some x->Pb bk a->leS x T
 gs :∀(i:Nat) (a:GA) x,As[i]? = some a->a.s=some x->leS a.g x/\(a.d.isSome=true->ltS a.g x/\x.2=(a.hand:Int))
 es :∀(i:Nat) (a:GA) e,As[i]? = some a->a.stop=some e->∃x,a.s=some x/\(a.d=none->∃v,a.v=some v/\((x,v)=h00\/∃(j:Nat) (b:GA),As[j]? = some b/\b.d=some v/\b.s=some x/\b.start < e))
theorem AI.init (bk:Bool):AI bk 0 [] (0,-1):=by
 refine ⟨leS.refl _,?_,?_,?_,?_,?_,?_,?_⟩
 all_goals intros;rename_i h;first|(cases h;done)|skip
 all_goals simp at *
theorem z1q {α:Type} {o:List α} {x e:α} {i:Nat} (h:(o++[x])[i]? = some e):o[i]? = some e\/(i=o.length/\e=x):=by
 rw [List.getElem?_append] at h;split at h
 ·exact .inl h
 ·rename_i z;obtain ⟨y,_⟩:=List.getElem?_eq_some_iff.mp h;rw [E3] at y;have a:i - o.length=0:=by omega
  rw [a] at h;cases h;exact .inr ⟨by omega,rfl⟩
theorem set_at {α:Type} {l:List α} {h k:Nat} {x y:α} (e:(l.set h x)[k]? = some y):(k=h/\y=x)\/(k≠h/\l[k]? = some y):=by
 by_cases z:h=k
 ·subst z;have a:=(List.getElem?_eq_some_iff.mp e).1;rw [Q0] at a;rw [K0 a] at e;cases e;exact .inl ⟨rfl,rfl⟩
 ·rw [Y0 z] at e;exact .inr ⟨λ y=>z y.symm,e⟩
theorem z12 {α:Type} {l:List α} {i:Nat} {x:α} (h:l[i]? = some x):i < l.length:=(List.getElem?_eq_some_iff.mp h).1
theorem app_at {α:Type} {l:List α} {i:Nat} {x:α} (h:l[i]? = some x) (r:List α):(l++r)[i]? = some x:=by rw [F1 (z12 h)];exact h
theorem AI.beg {bk:Bool} {n:Nat} {As:List GA} {T:Sp2} (q:AI bk n As T) (h:Nat) (d:Option Int) (idl :∀(i:Nat) (a:GA),As[i]? = some a->a.hand=h->a.stop≠none):AI bk (n + 1) (As++[⟨h,d,n,none,none,T,none⟩]) T:=by
 refine ⟨q.t0,λ i a c=>?_,λ i j a b r c g=>?_,λ i j a b r c g e=>?_,λ i j a b e x c g f l p lt=>?_,λ i a e x c f l p=>?_,λ i a x c l=>?_,λ i a e c f=>?_⟩
 ·rcases z1q c with z|⟨_,rfl⟩
  ·obtain ⟨s,o,t⟩:=q.st i a z;exact ⟨by omega,o,λ e m=>⟨(t e m).1,K2 (t e m).2⟩⟩
  ·exact ⟨C3 _,q.t0,λ e m=>by cases m⟩
 ·rcases z1q c with z|⟨z,rfl⟩
  ·rcases z1q g with y|⟨y,rfl⟩
   ·exact q.so i j a b r z y
   ·exact (q.st i a z).1
  ·rcases z1q g with y|⟨y,_⟩
   ·have:=z12 y;omega
   ·omega
 ·rcases z1q c with z|⟨z,rfl⟩
  ·rcases z1q g with y|⟨y,rfl⟩
   ·exact q.hn i j a b r z y e
   ·have:=idl i a z e;cases f:a.stop with
    | none=>exact absurd f this
    | some k=>exact ⟨k,rfl,((q.st i a z).2.2 k f).2⟩
  ·rcases z1q g with y|⟨y,_⟩
   ·have:=z12 y;omega
   ·omega
 ·rcases z1q c with z|⟨z,rfl⟩
  ·rcases z1q g with y|⟨y,rfl⟩
   ·exact q.pb i j a b e x z y f l p lt
   ·exact q.pT i a e x z f l p
  ·cases f
 ·rcases z1q c with z|⟨z,rfl⟩
  ·exact q.pT i a e x z f l p
  ·cases f
 ·rcases z1q c with z|⟨z,rfl⟩
  ·exact q.gs i a x z l
  ·cases l
 ·rcases z1q c with z|⟨z,rfl⟩
  ·obtain ⟨x,s,o⟩:=q.es i a e z f;exact ⟨x,s,λ y=>(o y).imp λ v z=>⟨z.1,z.2.imp id λ ⟨j,b,k1,k2⟩=>⟨j,b,app_at k1 _,k2⟩⟩⟩
  ·cases f
theorem AI.stamp {bk:Bool} {n:Nat} {As:List GA} {T:Sp2} (q:AI bk n As T) {j:Nat} {a:GA} {x:Sp2} (ha:As[j]? = some a) (hs:a.stop=none) (hx:a.s=none) (h1:leS a.g x) (h2:a.d.isSome=true->ltS a.g x/\x.2=(a.hand:Int)):AI bk n (As.set j { a with s:=some x }) T:=by
 have r :∀(i:Nat) (b:GA),(As.set j { a with s:=some x })[i]? = some b->∃f,As[i]? = some f/\b.start=f.start/\b.stop=f.stop/\b.hand=f.hand/\b.g=f.g/\b.d=f.d/\(b.stop≠none->b=f):=λ i b l=>by
  rcases set_at l with ⟨rfl,rfl⟩|⟨_,z⟩
  ·exact ⟨a,ha,rfl,rfl,rfl,rfl,rfl,λ z=>absurd hs z⟩
  ·exact ⟨b,z,rfl,rfl,rfl,rfl,rfl,λ _=>rfl⟩
 have F :∀{o:Option Nat} {e:Nat},o=some e->o≠none:=λ h z=>by rw [h] at z;cases z
 refine ⟨q.t0,λ i b l=>?_,λ i k b c D l A=>?_,λ i k b c D l A e=>?_,λ i k b c e y l A hs hx p lt=>?_,λ i b e y l hs hx p=>?_,λ i b y l G=>?_,λ i b e l hs=>?_⟩
 ·obtain ⟨f,m,C,E,H,K,O,t⟩:=r i b l;rw [C,E,K];exact q.st i f m
 ·obtain ⟨f,m,C,_⟩:=r i b l;obtain ⟨u,w,B,_⟩:=r k c A;rw [C,B];exact q.so i k f u D m w
 ·obtain ⟨f,m,C,E,H,_⟩:=r i b l;obtain ⟨u,w,B,L,I,_⟩:=r k c A;rw [E,B];exact q.hn i k f u D m w (by rw [<-H,<-I];exact e)
 ·obtain ⟨f,m,_,_,_,_,_,t⟩:=r i b l;cases t (F hs);obtain ⟨u,w,B,L,I,M,_⟩:=r k c A;rw [M];exact q.pb i k b u e y m w hs hx p (by rw [<-B];exact lt)
 ·obtain ⟨f,m,_,_,_,_,_,t⟩:=r i b l;cases t (F hs);exact q.pT i b e y m hs hx p
 ·rcases set_at l with ⟨rfl,rfl⟩|⟨_,z⟩
  ·cases G;exact ⟨h1,h2⟩
  ·exact q.gs i b y z G
 ·obtain ⟨f,m,_,_,_,_,_,t⟩:=r i b l;cases t (F hs);obtain ⟨y,J,N⟩:=q.es i b e m hs;refine ⟨y,J,λ z=>(N z).imp λ v z=>⟨z.1,z.2.imp id λ ⟨k,c,n1,n2,n3,n4⟩=>?_⟩⟩;by_cases kj:k=j
  ·subst kj;rw [ha] at n1;cases n1;rw [hx] at n3;cases n3
  ·exact ⟨k,c,by rw [Y0 (λ y=>kj y.symm)];exact n1,n2,n3,n4⟩
theorem AI.fin {bk:Bool} {n:Nat} {As:List GA} {T T':Sp2} (q:AI bk n As T) {j:Nat} {a:GA} {x:Sp2} {v:Option Int} (ha:As[j]? = some a) (hs:a.stop=none) (hx:a.s=some x) (hT:leS T T') (hp:Pb bk a->leS x T') (hv:a.d=none->∃y,v=some y/\Kn As (x,y)):AI bk (n + 1) (As.set j { a with stop:=some n,v:=v }) T':=by
 have jl:=z12 ha;have sa:=q.st j a ha;have r :∀(i:Nat) (b:GA),(As.set j { a with stop:=some n,v:=v })[i]? = some b->∃l,As[i]? = some l/\b.start=l.start/\b.s=l.s/\b.hand=l.hand/\b.g=l.g/\b.d=l.d/\(b=l\/(i=j/\b.stop=some n/\b.v=v)):=λ i b f=>by
  rcases set_at f with ⟨rfl,rfl⟩|⟨_,z⟩
  ·exact ⟨a,ha,rfl,rfl,rfl,rfl,rfl,.inr ⟨rfl,rfl,rfl⟩⟩
  ·exact ⟨b,z,rfl,rfl,rfl,rfl,rfl,.inl rfl⟩
 have S :∀(y:Sp2) (w:Int) (i:Nat) (b:GA),As[i]? = some b->b.d=some w->b.s=some y->∃(i:Nat) (c:GA),(As.set j { a with stop:=some n,v:=v })[i]? = some c/\c.d=some w/\c.s=some y/\c.start=b.start:=λ y w i b f R V=>by
  by_cases E:i=j
  ·subst E;rw [ha] at f;cases f;exact ⟨i,_,K0 jl,R,V,rfl⟩
  ·exact ⟨i,b,by rw [Y0 (λ y=>E y.symm)];exact f,R,V,rfl⟩
 refine ⟨q.t0.trans hT,λ i b f=>?_,λ i k b c E f I=>?_,λ i k b c E f I e=>?_,λ i k b c e y f I t G p lt=>?_,λ i b e y f t G p=>?_,λ i b y f X=>?_,λ i b e f t=>?_⟩
 ·obtain ⟨l,h,B,u,D,C,A,m⟩:=r i b f;have:=q.st i l h;rw [B,C];refine ⟨by omega,this.2.1,λ e P=>?_⟩;rcases m with rfl|⟨_,m,_⟩
  ·have:=this.2.2 e P;omega
  ·rw [m] at P;cases P;omega
 ·obtain ⟨l,h,B,_⟩:=r i b f;obtain ⟨o,F,J,_⟩:=r k c I;rw [B,J];exact q.so i k l o E h F
 ·obtain ⟨l,h,B,u,D,C,A,m⟩:=r i b f;obtain ⟨o,F,J,W,U,_⟩:=r k c I;obtain ⟨Y,H,N⟩:=q.hn i k l o E h F (by rw [<-D,<-U];exact e);rcases m with rfl|⟨rfl,m,_⟩
  ·exact ⟨Y,H,by rw [J];exact N⟩
  ·rw [ha] at h;cases h;rw [hs] at H;cases H
 ·obtain ⟨l,h,B,u,D,C,A,m⟩:=r i b f;obtain ⟨o,F,J,W,U,l5,_⟩:=r k c I;rcases m with rfl|⟨_,m,_⟩
  ·rw [l5];exact q.pb i k b o e y h F t G p (by rw [<-J];exact lt)
  ·rw [m] at t;cases t;have:=(q.st k o F).1;omega
 ·obtain ⟨l,h,B,u,D,C,A,m⟩:=r i b f;rcases m with rfl|⟨rfl,m,_⟩
  ·exact (q.pT i b e y h t G p).trans hT
  ·rw [ha] at h;cases h;rw [u,hx] at G;cases G;exact hp (by unfold Pb at *;rw [<-A];exact p)
 ·obtain ⟨l,h,B,u,D,C,A,m⟩:=r i b f;rw [C,A,D];exact q.gs i l y h (by rw [<-u];exact X)
 ·obtain ⟨l,h,B,u,D,C,A,m⟩:=r i b f;rcases m with rfl|⟨rfl,m,k8⟩
  ·obtain ⟨y,H,N⟩:=q.es i b e h t;refine ⟨y,H,λ z=>(N z).imp λ v z=>⟨z.1,z.2.imp id λ ⟨k,c,n1,n2,n3,n4⟩=>?_⟩⟩;obtain ⟨L,o,K,M,O,Q⟩:=S y _ k c n1 n2 n3;exact ⟨L,o,K,M,O,by rw [Q];exact n4⟩
  ·rw [ha] at h;cases h;refine ⟨x,by rw [u];exact hx,λ z=>?_⟩;rw [m] at t;cases t;rw [k8];refine (hv (by rw [<-A];exact z)).imp λ Z z=>⟨z.1,z.2.imp id λ ⟨k,c,n1,n2,n3⟩=>?_⟩
   obtain ⟨L,o,K,M,O,Q⟩:=S x Z k c n1 n2 n3;exact ⟨L,o,K,M,O,by rw [Q];exact (q.st k c n1).1⟩
end
section
def lvl (hs:List Hd) (c:Nat):Sp2:=(hs[c]?.getD h00).1
def cpy (us:List LL) (r:Nat):List Nat:=(us.filter λ L=>L.turn == r).map (·.copy)
def LtX (hs:List Hd) (As:List GA) (f:Sp2) (L:LL):Prop:=
 if L.to=true then (L.x=none/\leS f (lvl hs L.copy))\/(∃x,L.x=some x/\Kn As x/\leS f x.1) else∃x,L.x=some x/\Kn As x/\leS f x.1/\leS x.1 (lvl hs L.copy)
def LQ (m:Nat) (hs:List Hd) (r:Nat) (As:List GA) (F:Nat->Nat->Sp2) (L:LL):Prop:=L.copy < m/\L.turn<=r/\LtX hs As (F L.turn L.copy) L
def HC (m:Nat) (hs:List Hd) (As:List GA) (f:Nat->Sp2) (c:Nat) (x:Hd):Prop:=c < m/\Kn As x/\leS (f c) x.1/\leS x.1 (lvl hs c)
def AC (m:Nat) (As:List GA) (f:Nat->Sp2) (h:Nat) (D:LD):Prop:=∃(j:Nat) (a:GA),As[j]? = some a/\a.hand=h/\a.stop=none/\a.d=D.d/\
 (D.keeps=false->a.s=none/\m < 2 * cnt m (λ c=>decide (leS a.g (f c))))/\(D.keeps=true->∃x,a.s=some x/\(∀c,c < m->leS x (f c))/\(∀v,D.ans=some v->Kn As (x,v))/\D.ans.isNone=D.d.isSome)
structure DQ (m:Nat) (hs:List Hd) (us:List LL) (r:Nat) (As:List GA) (F:Nat->Nat->Sp2) (h:Nat) (D:LD):Prop where
 rd:D.round<=r
 hq :∃cs:List Nat,(cs++cpy us D.round).Nodup/\All2 (HC m hs As (F D.round)) cs D.heard
 ac:AC m As (F D.round) h D
theorem zht {α β:Type} {R R':α->β->Prop} (h :∀a b,R a b->R' a b) :∀{xs:List α} {ys:List β},All2 R xs ys->All2 R' xs ys
 | _,_,.nil=>.nil
 | _,_,.cons a r=>.cons (h _ _ a) (zht h r)
theorem LtX.up {hs hs':List Hd} {As As':List GA} {f:Sp2} {L:LL} (q:LtX hs As f L) (hh:leS (lvl hs L.copy) (lvl hs' L.copy)) (hk :∀x,Kn As x->Kn As' x):LtX hs' As' f L:=by
 unfold LtX at *;split
 ·rename_i z;rw [if_pos z] at q;rcases q with ⟨e,l⟩|⟨x,e,k,l⟩
  ·exact .inl ⟨e,l.trans hh⟩
  ·exact .inr ⟨x,e,hk x k,l⟩
 ·rename_i z;rw [if_neg z] at q;obtain ⟨x,e,k,l,n⟩:=q;exact ⟨x,e,hk x k,l,n.trans hh⟩
theorem LQ.up {m:Nat} {hs hs':List Hd} {r r':Nat} {As As':List GA} {F F':Nat->Nat->Sp2} {L:LL} (q:LQ m hs r As F L) (hh :∀c,c < m->leS (lvl hs c) (lvl hs' c)) (hk :∀x,Kn As x->Kn As' x) (hr:r<=r') (hF :∀k,k<=r->F' k=F k):LQ m hs' r' As' F' L:=
 ⟨q.1,O0 q.2.1 hr,by rw [hF _ q.2.1];exact q.2.2.up (hh _ q.1) hk⟩
theorem DQ.up {m:Nat} {hs hs':List Hd} {us us':List LL} {r r':Nat} {As As':List GA} {F F':Nat->Nat->Sp2} {h:Nat} {D:LD} (q:DQ m hs us r As F h D) (hu :∀cs:List Nat,(cs++cpy us D.round).Nodup->(cs++cpy us' D.round).Nodup) (hh :∀c,c < m->leS (lvl hs c) (lvl hs' c)) (hk :∀x,Kn As x->Kn As' x) (hr:r<=r') (hF :∀k,k<=r->F' k=F k) (ha :∀(j:Nat) (a:GA),As[j]? = some a->a.hand=h->a.stop=none->As'[j]? = some a):DQ m hs' us' r' As' F' h D:=by
 obtain ⟨cs,n,g⟩:=q.hq;refine ⟨O0 q.rd hr,⟨cs,hu cs n,?_⟩,?_⟩
 ·rw [hF _ q.rd];exact zht (λ c x z=>⟨z.1,hk x z.2.1,z.2.2.1,z.2.2.2.trans (hh c z.1)⟩) g
 ·rw [hF _ q.rd];obtain ⟨j,a,o,b,d,l,i,f⟩:=q.ac;exact ⟨j,a,ha j a o b d,b,d,l,i,λ z=>(f z).elim λ x ⟨k1,k2,k3,k4⟩=>⟨x,k1,k2,λ v e=>hk _ (k3 v e),k4⟩⟩
def OpA (acts:List PA) (h j:Nat):Prop:=∃p,acts[j]? = some p/\p.hand=h/\p.stop=none/\∀(k:Nat) (q:PA),acts[k]? = some q->q.hand=h->k<=j/\(k≠j->q.stop≠none)
def WfE (es:List CEv):Prop:=∀(i h:Nat) (a:Option Int),es[i]? = some (.fin h a)->∃j,OpA (actsF (es.take i)) h j
theorem WfE.snoc {es:List CEv} {e:CEv} (w:WfE es) (z :∀h a,e=.fin h a->∃j,OpA (actsF es) h j):WfE (es++[e]):=λ i h a b=>by
 rcases z1q b with y|⟨y,y'⟩
 ·rw [List.take_append_of_le_length (T8 (z12 y))];exact w i h a y
 ·rw [y,List.take_left];exact z h a y'.symm
structure QE (m p:Nat) (bk:Bool) (N:LM) (As:List GA) (T:Sp2) (F:Nat->Nat->Sp2) (h:Option Nat):Prop where
 hl:N.held.length=m
 ol:N.opn.length=p
 hk :∀x∈N.held,Kn As x
 ht:m < 2 * cnt m (λ c=>decide (leS T (lvl N.held c)))
 un :∀L∈N.under,LQ m N.held N.rounds As F L
 op :∀k D,h≠some k->N.opn[k]? = some (some D)->DQ m N.held N.under N.rounds As F k D
 id :∀k,h≠some k->N.opn[k]?.getD none=none->∀(i:Nat) (a:GA),As[i]? = some a->a.hand=k->a.stop≠none
 ai:AI bk N.events.length As T
 ev:As.map GA.pr=actsF N.events
 wf:WfE N.events
theorem QE.ex {m p:Nat} {bk:Bool} {N:LM} {As:List GA} {T:Sp2} {F:Nat->Nat->Sp2} (q:QE m p bk N As T F none) (h:Nat):QE m p bk N As T F (some h):=⟨q.hl,q.ol,q.hk,q.ht,q.un,λ k D _=>q.op k D (by simp),λ k _=>q.id k (by simp),q.ai,q.ev,q.wf⟩
theorem zfr (us vs:List LL) (r:Nat):cpy (us++vs) r=cpy us r++cpy vs r:=by unfold cpy;rw [C6,P1]
theorem zi4 {n h r:Nat} {x:Option Hd} (k:Nat):cpy ((U0 n).map λ c=>(⟨c,h,r,true,x⟩:LL)) k=if k=r then U0 n else []:=by
 unfold cpy;split
 ·rename_i z;rw [List.filter_eq_self.mpr (λ L a=>by obtain ⟨c,_,rfl⟩:=List.mem_map.mp a;exact beq_iff_eq.mpr z.symm),K4];exact List.map_id _
 ·rename_i z;rw [List.filter_eq_nil_iff.mpr (λ L a=>by obtain ⟨c,_,rfl⟩:=List.mem_map.mp a;exact λ y=>z (beq_iff_eq.mp y).symm)];rfl
theorem zkp {us:List LL} {r:Nat} (h :∀L∈us,L.turn<=r):cpy us (r + 1)=[]:=by unfold cpy;rw [List.filter_eq_nil_iff.mpr (λ L a y=>by have:=h L a;have:=beq_iff_eq.mp y;omega)];rfl
theorem QE.sent {m p:Nat} {bk:Bool} {N:LM} {As:List GA} {T:Sp2} {F:Nat->Nat->Sp2} {h:Nat} {D:LD} {x:Option Hd} (q:QE m p bk N As T F (some h)) (hh:h < N.opn.length) (ha :∃(j:Nat) (a:GA),As[j]? = some a/\a.hand=h/\a.stop=none/\a.d=D.d/\(x=none->a.s=none/\leS a.g T)/\∀y,x=some y->a.s=some y.1/\(∀v,D.ans=some v->Kn As (y.1,v))/\D.ans.isNone=D.d.isSome) (hx :∀y,x=some y->Kn As y) :∃F',QE m p bk (N.sent h D x) As T F' none:=by
 let fl:Nat->Sp2:=λ c=>match x with|none=>lvl N.held c|some y=>y.1
 refine ⟨λ r=>if r=N.rounds + 1 then fl else F r,?_⟩;have o :∀k,k<=N.rounds->(λ r=>if r=N.rounds + 1 then fl else F r) k=F k:=λ k b=>if_neg (by omega);have un :∀L∈N.under,L.turn<=N.rounds:=λ L e=>(q.un L e).2.1;refine ⟨q.hl,by show (N.opn.set h _).length=p;rw [Q0];exact q.ol,q.hk,q.ht,λ L e=>?_,λ k i _ t=>?_,λ k _ b=>?_,q.ai,q.ev,q.wf⟩
 ·rcases List.mem_append.mp e with z|z
  ·exact (q.un L z).up (λ _ _=>leS.refl _) (λ _ z=>z) (W2 _) o
  ·obtain ⟨c,C,rfl⟩:=List.mem_map.mp z;refine ⟨by rw [<-q.hl];exact List.mem_range.mp C,J0 _,?_⟩;show LtX N.held As ((if N.rounds + 1=N.rounds + 1 then fl else F (N.rounds + 1)) c) _;rw [if_pos rfl];unfold LtX;rw [if_pos rfl];cases x with
   | none=>exact .inl ⟨rfl,leS.refl _⟩
   | some y=>exact .inr ⟨y,rfl,hx y rfl,leS.refl _⟩
 ·rcases set_at t with ⟨rfl,z⟩|⟨n,z⟩
  ·cases z;obtain ⟨j,a,A,I,B,w,l,J⟩:=ha;refine ⟨J0 _,⟨[],?_,.nil⟩,j,a,A,I,B,w,λ z=>?_,λ z=>?_⟩
   ·show (cpy (N.under++_) (N.rounds + 1)).Nodup;rw [zfr,zkp un,zi4,if_pos rfl];exact List.nodup_range
   ·have z:x.isSome=false:=z;cases x with
    | some y=>cases z
    | none=>refine ⟨(l rfl).1,Y1 q.ht (O9 2 (zfl λ c _ y=>?_))⟩;show decide (leS a.g ((if N.rounds + 1=N.rounds + 1 then fl else F (N.rounds + 1)) c))=true;rw [if_pos rfl];exact decide_eq_true ((l rfl).2.trans (of_decide_eq_true y))
   ·have z:x.isSome=true:=z;cases x with
    | none=>cases z
    | some y=>obtain ⟨E,G,u⟩:=J y rfl;refine ⟨y.1,E,λ c _=>?_,G,u⟩;show leS y.1 ((if N.rounds + 1=N.rounds + 1 then fl else F (N.rounds + 1)) c);rw [if_pos rfl];exact leS.refl _
  ·have f:=q.op k i (λ y=>n (X1 y).symm) z;refine f.up (λ K H=>?_) (λ _ _=>leS.refl _) (λ _ z=>z) (W2 _) o λ _ _ z _ _=>z;show (K++cpy (N.under++_) i.round).Nodup;rw [zfr,zi4,if_neg (by have:=f.rd;omega),F2];exact H
 ·have b:(N.opn.set h _)[k]?.getD none=none:=b;by_cases z:k=h
  ·rw [z,K0 hh] at b;cases b
  ·rw [Y0 (λ y=>z y.symm)] at b;exact q.id k (λ y=>z (X1 y).symm) b
end
section
theorem Kn.fin {As:List GA} {j:Nat} {a:GA} {k:Nat} {v:Option Int} {y:Hd} (ha:As[j]? = some a) (h:Kn As y):Kn (As.set j { a with stop:=some k,v:=v }) y:=by
 refine h.imp id λ ⟨i,b,h1,h2,h3⟩=>?_;by_cases ij:i=j
 ·subst ij;rw [ha] at h1;cases h1;exact ⟨i,_,K0 (z12 ha),h2,h3⟩
 ·exact ⟨i,b,by rw [Y0 (λ y=>ij y.symm)];exact h1,h2,h3⟩
theorem Kn.stamp {As:List GA} {j:Nat} {a:GA} {x:Sp2} {y:Hd} (ha:As[j]? = some a) (hs:a.s=none) (h:Kn As y):Kn (As.set j { a with s:=some x }) y:=by
 refine h.imp id λ ⟨i,b,h1,h2,h3⟩=>?_;by_cases ij:i=j
 ·subst ij;rw [ha] at h1;cases h1;rw [hs] at h3;cases h3
 ·exact ⟨i,b,by rw [Y0 (λ y=>ij y.symm)];exact h1,h2,h3⟩
theorem zbo {As:List GA} {j i:Nat} {a a' b:GA} {h:Nat} (ha:As[j]? = some a) (hh:a.hand≠h) (hb:As[i]? = some b) (e:b.hand=h):(As.set j a')[i]? = some b:=by
 by_cases ij:i=j
 ·subst ij;rw [ha] at hb;cases hb;exact absurd e hh
 ·rw [Y0 (λ y=>ij y.symm)];exact hb
theorem AI.only {bk:Bool} {n:Nat} {As:List GA} {T:Sp2} (q:AI bk n As T) {i j:Nat} {a b:GA} (ha:As[j]? = some a) (hs:a.stop=none) (hb:As[i]? = some b) (e:b.hand=a.hand) (ij:i≠j):b.stop≠none:=by
 rcases Nat.lt_or_gt_of_ne ij with z|z
 ·obtain ⟨k,c,_⟩:=q.hn i j b a z hb ha e;rw [c];exact λ y=>by cases y
 ·obtain ⟨k,c,_⟩:=q.hn j i a b z ha hb e.symm;rw [hs] at c;cases c
theorem QE.stamp {m p:Nat} {bk:Bool} {N:LM} {As:List GA} {T:Sp2} {F:Nat->Nat->Sp2} {h j:Nat} {a:GA} {x:Sp2} (q:QE m p bk N As T F (some h)) (ha:As[j]? = some a) (hh:a.hand=h) (hs:a.stop=none) (hx:a.s=none) (h1:leS a.g x) (h2:a.d.isSome=true->ltS a.g x/\x.2=(a.hand:Int)):QE m p bk N (As.set j { a with s:=some x }) T F (some h):=by
 refine ⟨q.hl,q.ol,λ y l=>(q.hk y l).stamp ha hx,q.ht,λ L r=>(q.un L r).up (λ _ _=>leS.refl _) (λ _ z=>z.stamp ha hx) (J0 _) λ _ _=>rfl,λ k D n f=>(q.op k D n f).up (λ _ z=>z) (λ _ _=>leS.refl _) (λ _ z=>z.stamp ha hx) (J0 _) (λ _ _=>rfl) λ i b c e _=>zbo ha (λ y=>n (by rw [<-hh,y])) c e,λ k n o i b c e=>?_,q.ai.stamp ha hs hx h1 h2,?_,q.wf⟩
 ·rcases set_at c with ⟨rfl,rfl⟩|⟨_,z⟩
  ·exact absurd (by rw [<-hh];exact congrArg some e) n
  ·exact q.id k n o i b z e
 ·rw [<-q.ev,L8];refine n8 λ i=>?_;by_cases ij:j=i
  ·subst ij;rw [K0 (by rw [C0];exact z12 ha),N0,ha];rfl
  ·rw [Y0 ij]
theorem QE.ended {m p:Nat} {bk:Bool} {N:LM} {As:List GA} {T T':Sp2} {F:Nat->Nat->Sp2} {h j:Nat} {a:GA} {x:Sp2} {v:Option Int} (q:QE m p bk N As T F (some h)) (hl:h < p) (ha:As[j]? = some a) (hh:a.hand=h) (hs:a.stop=none) (hx:a.s=some x) (hT:leS T T') (ht:m < 2 * cnt m (λ c=>decide (leS T' (lvl N.held c)))) (hp:Pb bk a->leS x T') (hv:a.d=none->∃y,v=some y/\Kn As (x,y)):QE m p bk (N.ended h v) (As.set j { a with stop:=some N.events.length,v:=v }) T' F none:=by
 have A:h < N.opn.length:=by rw [q.ol];exact hl
 refine ⟨q.hl,by show (N.opn.set h _).length=p;rw [Q0];exact q.ol,λ y u=>(q.hk y u).fin ha,ht,λ L w=>(q.un L w).up (λ _ _=>leS.refl _) (λ _ z=>z.fin ha) (J0 _) λ _ _=>rfl,λ k D _ t=>?_,λ k _ l i b f e=>?_,?_,?_,q.wf.snoc λ k y e=>?_⟩
 ·rcases set_at t with ⟨_,z⟩|⟨n,z⟩
  ·cases z
  ·exact (q.op k D (λ y=>n (X1 y).symm) z).up (λ _ z=>z) (λ _ _=>leS.refl _) (λ _ z=>z.fin ha) (J0 _) (λ _ _=>rfl) λ i b f e _=>zbo ha (λ y=>n (by rw [<-hh,y])) f e
 ·rcases set_at f with ⟨rfl,rfl⟩|⟨g,z⟩
  ·exact λ y=>by cases y
  ·by_cases kh:k=h
   ·exact q.ai.only ha hs z (by rw [e,kh,hh]) g
   ·have l:(N.opn.set h none)[k]?.getD none=none:=l;rw [Y0 (λ y=>kh y.symm)] at l;exact q.id k (λ y=>kh (X1 y).symm) l i b z e
 ·have:=q.ai.fin (v:=v) ha hs hx hT hp hv;show AI bk (N.events++[_]).length _ _;rw [F0];exact this
 ·show _=actsF (N.events++[.fin h v]);rw [z68,<-q.ev];show _=(As.map GA.pr).map _;rw [K4];refine n8 λ i=>?_;rw [N0,N0];by_cases g:j=i
  ·subst g;rw [K0 (z12 ha),ha];show some _=some (if a.hand=h/\a.stop=none then _ else _);rw [if_pos ⟨hh,hs⟩];rfl
  ·rw [Y0 g];cases f:As[i]? with
   | none=>rfl
   | some b=>show some _=some (if b.hand=h/\b.stop=none then _ else _);rw [if_neg (λ y=>q.ai.only ha hs f (by rw [y.1,hh]) (λ z=>g z.symm) y.2)]
 ·cases e;rw [<-q.ev];refine ⟨j,a.pr,by rw [N0,ha];rfl,hh,hs,λ i c o e=>?_⟩;rw [N0] at o;obtain ⟨b,f,rfl⟩:=Option.map_eq_some_iff.mp o;have e:b.hand=a.hand:=Eq.trans e hh.symm;refine ⟨?_,λ g=>q.ai.only ha hs f e g⟩;rcases j43 j i with z|z
  ·obtain ⟨_,r,_⟩:=q.ai.hn j i a b z ha f e.symm;rw [hs] at r;cases r
  ·exact z
theorem z6l {α:Type} :∀{us:List α} {i:Nat} {L:α},us[i]? = some L->us.Perm (L :: us.eraseIdx i)
 | [],i,L,h=>by cases i<;>cases h
 | u :: us,0,L,h=>by cases h;exact .refl _
 | u :: us,i + 1,L,h=>(List.Perm.cons u (z6l (us:=us) h)).trans (List.Perm.swap _ _ _)
theorem zej {us vs:List LL} (r:Nat) (h:us.Perm vs):(cpy us r).Perm (cpy vs r):=(h.filter _).map _
theorem zav (L:LL) (us:List LL) (r:Nat):cpy (L :: us) r=(if L.turn=r then [L.copy] else [])++cpy us r:=by
 unfold cpy;split
 ·rename_i z;rw [A3 (p:=λ L:LL=>L.turn == r) (beq_iff_eq.mpr z)];rfl
 ·rename_i z;rw [T3 (p:=λ L:LL=>L.turn == r) (λ y=>z (beq_iff_eq.mp y))];rfl
theorem ndS2 {cs xs ys:List Nat} (h:(cs++xs).Nodup) (s:ys.Sublist xs):(cs++ys).Nodup:=h.sublist (List.Sublist.append_left s cs)
theorem ndP2 {cs xs ys:List Nat} (h:(cs++xs).Nodup) (s:xs.Perm ys):(cs++ys).Nodup:=(s.append_left cs).nodup_iff.mp h
theorem QE.pop {m p:Nat} {bk:Bool} {N:LM} {As:List GA} {T:Sp2} {F:Nat->Nat->Sp2} (q:QE m p bk N As T F none) (i:Nat):QE m p bk { N with under:=N.under.eraseIdx i } As T F none:=by refine ⟨q.hl,q.ol,q.hk,q.ht,λ L c=>q.un L ((W6 _ _).subset c),λ k D n a=>(q.op k D n a).up (λ d b=>ndS2 b ?_) (λ _ _=>leS.refl _) (λ _ z=>z) (J0 _) (λ _ _=>rfl) λ _ _ z _ _=>z,q.id,q.ai,q.ev,q.wf⟩;exact ((W6 _ _).filter _).map _
theorem zia {hs:List Hd} {c:Nat} {x:Hd} (h:c < hs.length) (k:Nat):lvl (hs.set c x) k=if k=c then x.1 else lvl hs k:=by
 unfold lvl;by_cases z:k=c
 ·rw [if_pos z,z,K0 h];rfl
 ·rw [if_neg z,Y0 (λ y=>z y.symm)]
theorem QE.to {m p:Nat} {bk:Bool} {N:LM} {As:List GA} {T:Sp2} {F:Nat->Nat->Sp2} {i:Nat} {L:LL} {s:Hd} (q:QE m p bk N As T F none) (hL:N.under[i]? = some L) (ht:L.to=true) (hs:N.held[L.copy]? = some s):QE m p bk { N with held:=N.held.set L.copy (keepH L.x s),under:=N.under.eraseIdx i++[⟨L.copy,L.hand,L.turn,false,some (keepH L.x s)⟩] } As T F none:=by
 obtain ⟨d,t,b⟩:=q.un L (T0 hL);obtain ⟨g,A,r⟩:=zkv L.x s;have j:lvl N.held L.copy=s.1:=by unfold lvl;rw [hs];rfl
 have a:L.copy < N.held.length:=by rw [q.hl];exact d
 have up :∀c,c < m->leS (lvl N.held c) (lvl (N.held.set L.copy (keepH L.x s)) c):=λ c _=>by
  rw [zia a];split
  ·rename_i z;rw [z,j];exact g
  ·exact leS.refl _
 unfold LtX at b;rw [if_pos ht] at b;have h:Kn As (keepH L.x s):=by
  rcases r with z|z
  ·rw [z];exact q.hk s (T0 hs)
  ·rcases b with ⟨e,_⟩|⟨x,e,k,_⟩
   ·rw [e] at z;cases z
   ·have:x=keepH L.x s:=X1 (e.symm.trans z);rw [<-this];exact k
 have v:leS (F L.turn L.copy) (keepH L.x s).1:=by
  rcases b with ⟨_,l⟩|⟨x,e,_,l⟩
  ·exact (l.trans (by rw [j];exact leS.refl _)).trans g
  ·exact l.trans (A x e)
 refine ⟨by show (N.held.set _ _).length=m;rw [Q0];exact q.hl,q.ol,λ x w=>?_,Y1 q.ht (O9 2 (zfl λ c a y=>decide_eq_true ((of_decide_eq_true y).trans (up c a)))),λ M u=>?_,λ k D n o=>(q.op k D n o).up (λ C B=>ndP2 B ?_) up (λ _ z=>z) (J0 _) (λ _ _=>rfl) λ _ _ z _ _=>z,q.id,q.ai,q.ev,q.wf⟩
 ·rcases T4 w with z|z
  ·exact q.hk x z
  ·rw [z];exact h
 ·rcases List.mem_append.mp u with z|z
  ·exact (q.un M ((W6 _ _).subset z)).up up (λ _ z=>z) (J0 _) λ _ _=>rfl
  ·rw [List.mem_singleton.mp z];refine ⟨d,t,?_⟩;unfold LtX;rw [if_neg (show ¬ (false=true) by decide)];refine ⟨_,rfl,h,v,?_⟩;show leS _ (lvl (N.held.set L.copy (keepH L.x s)) L.copy);rw [zia a,if_pos rfl];exact leS.refl _
 ·have f:=zej D.round (z6l hL);rw [zav] at f;show (cpy N.under D.round).Perm (cpy (N.under.eraseIdx i++[_]) D.round);rw [zfr,zav];refine f.trans (List.perm_append_comm.trans ?_);show List.Perm (_++_) (_++((if L.turn=D.round then [L.copy] else [])++[]));rw [F2]
theorem all2_l {α β:Type} {R:α->β->Prop} :∀{xs:List α} {ys:List β},All2 R xs ys->∀x∈xs,∃y∈ys,R x y
 | _,_,.nil,_,h=>absurd h L0
 | _,_,.cons a r,x,h=>by
  rcases List.mem_cons.mp h with z|z
  ·rw [z];exact ⟨_,.head _,a⟩
  ·obtain ⟨y,c,b⟩:=all2_l r x z;exact ⟨y,.tail _ c,b⟩
theorem all2_r {α β:Type} {R:α->β->Prop} :∀{xs:List α} {ys:List β},All2 R xs ys->∀y∈ys,∃x∈xs,R x y
 | _,_,.nil,_,h=>absurd h L0
 | _,_,.cons a r,y,h=>by
  rcases List.mem_cons.mp h with z|z
  ·rw [z];exact ⟨_,.head _,a⟩
  ·obtain ⟨x,c,b⟩:=all2_r r y z;exact ⟨x,.tail _ c,b⟩
theorem QE.hear {m p:Nat} {bk:Bool} {N:LM} {As:List GA} {T:Sp2} {F:Nat->Nat->Sp2} {i:Nat} {L:LL} {x:Hd} {D:LD} (q:QE m p bk N As T F none) (hL:N.under[i]? = some L) (ht:¬ L.to=true) (hx:L.x=some x) (hD:N.opn[L.hand]? = some (some D)) (hr:D.round=L.turn):QE m p bk { N with under:=N.under.eraseIdx i,opn:=N.opn.set L.hand (some (D.hear x)) } As T F none:=by
 have d:=q.pop i;have o:=z12 hD;refine ⟨q.hl,by show (N.opn.set _ _).length=p;rw [Q0];exact q.ol,q.hk,q.ht,d.un,λ k s n u=>?_,λ k n a=>?_,q.ai,q.ev,q.wf⟩
 ·rcases set_at u with ⟨rfl,z⟩|⟨_,z⟩
  ·cases z;obtain ⟨g,w,c⟩:=q.un L (T0 hL);unfold LtX at c;rw [if_neg ht] at c;obtain ⟨y,e,j,r,h⟩:=c;rw [hx] at e;cases e;have b:=q.op _ D (by simp) hD;obtain ⟨v,t,l⟩:=b.hq;refine ⟨b.rd,⟨v++[L.copy],?_,z33 l (.cons ⟨g,j,by show leS (F D.round L.copy) x.1;rw [hr];exact r,h⟩ .nil)⟩,b.ac⟩;have f:=zej D.round (z6l hL);rw [zav,if_pos hr.symm] at f;have:=ndP2 t f;rw [<-A2] at this;exact this
  ·exact d.op k s n z
 ·have a:(N.opn.set L.hand _)[k]?.getD none=none:=a;by_cases z:k=L.hand
  ·rw [z,K0 o] at a;cases a
  ·rw [Y0 (λ y=>z y.symm)] at a;exact q.id k n a
end
section
def QI (m p:Nat) (bk:Bool) (N:LM):Prop:=∃As T F,QE m p bk N As T F none
theorem zi1 {α β:Type} {R:α->β->Prop} :∀{xs:List α} {ys:List β},All2 R xs ys->xs.length=ys.length
 | _,_,.nil=>rfl
 | _,_,.cons _ r=>congrArg Nat.succ (zi1 r)
theorem mxS_or {p:Sp2->Prop} {a b:Sp2} (h1:p a) (h2:p b):p (mxS a b):=by
 rcases mxS_c a b with z|z
 ·rw [z];exact h1
 ·rw [z];exact h2
theorem QE.goneOn {m p:Nat} {bk:Bool} {N:LM} {As:List GA} {T:Sp2} {F:Nat->Nat->Sp2} {h:Nat} {D:LD} (q:QE m p bk N As T F none) (hD:N.opn[h]? = some (some D)) (maj:m < 2 * D.heard.length):QI m p bk (N.goneOn bk h D):=by
 have B:=z12 hD;have L:h < p:=by rw [<-q.ol];exact B
 have K:=q.op h D (by simp) hD;obtain ⟨M,X,o⟩:=K.hq;obtain ⟨j,a,i,b,l,k,ask,U⟩:=K.ac;have H:M.Nodup:=(List.nodup_append.mp X).1;have J:=zi1 o;have Z :∀c∈M,c < m:=λ c n=>by obtain ⟨y,_,z⟩:=all2_l o c n;exact z.1
 have E:=q.ex h;by_cases f:D.keeps=true
 ·rw [za2 f];obtain ⟨x,S,Y,O,C⟩:=U f;have W:m < 2 * cnt m (λ c=>decide (leS x (lvl N.held c))):=by refine Y1 (by rw [<-J] at maj;exact maj) (O9 2 (nd_cnt H λ c n=>?_));obtain ⟨y,_,z⟩:=all2_l o c n;exact ⟨z.1,decide_eq_true (((Y c z.1).trans z.2.2.1).trans z.2.2.2)⟩
  refine ⟨_,mxS T x,F,E.ended L i b l S (mxS_l T x) (mxS_or (p:=λ y=>m < 2 * cnt m (λ c=>decide (leS y (lvl N.held c)))) q.ht W) (λ _=>mxS_r T x) λ z=>?_⟩;rw [k] at z;rw [z] at C;cases e:D.ans with
  | none=>rw [e] at C;cases C
  | some v=>exact ⟨v,rfl,O v e⟩
 ·have f:D.keeps=false:=by cases z:D.keeps with
   | true=>exact absurd z f
   | false=>rfl
  obtain ⟨G,am⟩:=ask f;have ne:D.heard≠[]:=λ z=>by rw [z] at maj;exact absurd maj (by simp)
  have Q:=zbi ne;have R:Kn As (maxHd D.heard):=by obtain ⟨c,_,z⟩:=all2_r o _ Q;exact z.2.1
  have I:leS a.g (maxHd D.heard).1:=by obtain ⟨c,n,y⟩:=meet H Z (by rw [J];exact maj) am;obtain ⟨x,V,z⟩:=all2_l o c n;exact ((of_decide_eq_true y).trans z.2.2.1).trans (max_le V)
  cases hdd:D.d with
  | some w=>
   rw [zb3 f hdd];have lt:ltS a.g ((maxHd D.heard).1.1 + 1,(h:Int)):=by unfold leS at I;unfold ltS;show a.g.1 < (maxHd D.heard).1.1 + 1\/_;omega
   have u:=E.stamp (x:=((maxHd D.heard).1.1 + 1,(h:Int))) i b l G lt.le λ _=>⟨lt,by rw [b]⟩
   have t:(As.set j { a with s:=some ((maxHd D.heard).1.1 + 1,(h:Int)) })[j]? = some { a with s:=some ((maxHd D.heard).1.1 + 1,(h:Int)) }:=K0 (z12 i);obtain ⟨P,r⟩:=u.sent (D:={ D with ans:=none }) (x:=some (((maxHd D.heard).1.1 + 1,(h:Int)),w)) B ⟨j,_,t,b,l,k,(λ z=>by cases z),λ y e=>by cases e;exact ⟨rfl,(λ v z=>by cases z),by show true=D.d.isSome;rw [hdd];rfl⟩⟩ λ y e=>by cases e;exact .inr ⟨j,_,t,by show a.d=some w;rw [k,hdd],rfl⟩
   exact ⟨_,_,_,r⟩
  | none=>
   rw [z7t f hdd];have u:=E.stamp (x:=(maxHd D.heard).1) i b l G I λ z=>by rw [k,hdd] at z;cases z
   have t:(As.set j { a with s:=some (maxHd D.heard).1 })[j]? = some { a with s:=some (maxHd D.heard).1 }:=K0 (z12 i);have A:Kn (As.set j { a with s:=some (maxHd D.heard).1 }) (maxHd D.heard):=R.stamp i G;split
   ·obtain ⟨P,r⟩:=u.sent (D:={ D with ans:=some (maxHd D.heard).2 }) (x:=some (maxHd D.heard)) B ⟨j,_,t,b,l,k,(λ z=>by cases z),λ y e=>by cases e;exact ⟨rfl,(λ v z=>by cases z;exact A),by show false=D.d.isSome;rw [hdd];rfl⟩⟩ λ y e=>by cases e;exact A
    exact ⟨_,_,_,r⟩
   ·rename_i nb;exact ⟨_,_,_,u.ended (v:=some (maxHd D.heard).2) L t b l rfl (leS.refl _) q.ht (λ z=>by
     rcases z with z|z
     ·exact absurd z nb
     ·rw [show a.d.isSome=D.d.isSome by rw [k],hdd] at z;cases z) λ _=>⟨_,rfl,A⟩⟩
theorem QE.come {m p:Nat} {bk:Bool} {N:LM} {As:List GA} {T:Sp2} {F:Nat->Nat->Sp2} {i:Nat} {L:LL} (q:QE m p bk N As T F none) (hL:N.under[i]? = some L):QI m p bk (LM.come { N with under:=N.under.eraseIdx i } bk L):=by
 unfold LM.come;split
 ·rename_i ht;split
  ·rename_i s hs;exact ⟨_,_,_,q.to hL ht hs⟩
  ·exact ⟨_,_,_,q.pop i⟩
 ·rename_i ht;split
  ·rename_i D x hD hx;unfold LM.hear;split
   ·rename_i hr;have a:=q.hear hL ht hx hD hr;split
    ·rename_i big;exact a.goneOn (K0 (z12 hD)) (by rw [<-q.hl];exact big)
    ·exact ⟨_,_,_,a⟩
   ·exact ⟨_,_,_,q.pop i⟩
  ·exact ⟨_,_,_,q.pop i⟩
theorem QE.begin {m p:Nat} {bk:Bool} {N:LM} {As:List GA} {T:Sp2} {F:Nat->Nat->Sp2} {h:Nat} {d:Option Int} (q:QE m p bk N As T F none) (lp:h < p) (ho:N.opn[h]?.getD none=none):QI m p bk (N.begin h d):=by
 have g :∀x,Kn As x->Kn (As++[⟨h,d,N.events.length,none,none,T,none⟩]) x:=λ x z=>z.imp (λ z=>z) λ ⟨j,b,h1,h2⟩=>⟨j,b,app_at h1 _,h2⟩
 have o:QE m p bk { N with nxt:=N.nxt.set h (N.nxt[h]?.getD 0 + 1),opn:=N.opn.set h (some ⟨d,0,false,[],none⟩),events:=N.events++[.beg h d] } (As++[⟨h,d,N.events.length,none,none,T,none⟩]) T F (some h):=by
  refine ⟨q.hl,by show (N.opn.set _ _).length=p;rw [Q0];exact q.ol,λ x u=>g x (q.hk x u),q.ht,λ L t=>(q.un L t).up (λ _ _=>leS.refl _) g (J0 _) λ _ _=>rfl,λ k D n l=>?_,λ k n c i a f e=>?_,?_,?_,q.wf.snoc λ _ _ e=>by cases e⟩
  ·rcases set_at l with ⟨z,_⟩|⟨_,z⟩
   ·exact absurd (by rw [z]) n
   ·exact (q.op k D (by simp) z).up (λ _ z=>z) (λ _ _=>leS.refl _) g (J0 _) (λ _ _=>rfl) λ i b s _ _=>app_at s _
  ·rcases z1q f with z|⟨_,rfl⟩
   ·have c:(N.opn.set h _)[k]?.getD none=none:=c;rw [Y0 (λ y=>n (by rw [y]))] at c;exact q.id k (by simp) c i a z e
   ·exact absurd (congrArg some e) n
  ·show AI bk (N.events++[_]).length _ _;rw [F0];exact q.ai.beg h d λ i a f e=>q.id h (by simp) ho i a f e
  ·show _=actsF (N.events++[.beg h d]);rw [z68,<-q.ev,P1];rfl
 obtain ⟨v,r⟩:=o.sent (D:=⟨d,0,false,[],none⟩) (x:=none) (by show h < (N.opn.set _ _).length;rw [Q0,q.ol];exact lp) ⟨As.length,_,by rw [Z0 (J0 _),R6];rfl,rfl,rfl,rfl,λ _=>⟨rfl,leS.refl _⟩,λ y e=>by cases e⟩ λ y e=>by cases e
 exact ⟨_,_,_,r⟩
theorem QI.go {m:Nat} {bk:Bool} {pl:List (List (Option Int))} {N:LM} {c:Int} (q:QI m pl.length bk N):QI m pl.length bk (N.go pl bk c):=by
 obtain ⟨f,T,F,q⟩:=q;unfold LM.go;split
 ·exact ⟨_,_,_,q⟩
 ·generalize (c % (((N.free pl).length:Int) + 2 * (N.under.length:Int))).toNat=n;unfold LM.moved;split
  ·rename_i hn;have b:(N.free pl)[n]?.getD 0∈N.free pl:=by rw [v0 hn];exact Z2 hn
   generalize (N.free pl)[n]?.getD 0=h at b;obtain ⟨e,a⟩:=List.mem_filter.mp b;have d:=List.mem_range.mp e;unfold LM.fre at a;rw [L3] at a;split
   ·exact q.begin d (Option.isNone_iff_eq_none.mp a.1)
   ·exact ⟨_,_,_,q⟩
  ·split
   ·rename_i L hL;split
    ·exact q.come hL
    ·exact ⟨_,_,_,q.pop _⟩
   ·exact ⟨_,_,_,q⟩
theorem QI.init {m:Nat} {bk:Bool} {pl:List (List (Option Int))} (m0:0 < m):QI m pl.length bk (LM.init m pl):=by
 refine ⟨[],(0,-1),λ _ _=>(0,-1),C2 ..,C0 ..,λ x g=>.inl (List.mem_replicate.mp g).2,?_,λ L f=>absurd f L0,λ k D _ e=>?_,λ k _ _ i a b=>by simp at b,AI.init bk,rfl,λ i h a e=>by simp [LM.init] at e⟩
 ·have:cnt m (λ c=>decide (leS (0,-1) (lvl (P0 m ((0,-1),0)) c)))=m:=by unfold cnt;rw [List.filter_eq_self.mpr (λ c d=>?_),T2];refine decide_eq_true ?_;unfold lvl;rw [v5,if_pos (List.mem_range.mp d)];exact leS.refl _
  show m < 2 * cnt m (λ c=>decide (leS (0,-1) (lvl (P0 m ((0,-1),0)) c)));omega
 ·have e:(pl.map λ _=>(none:Option LD))[k]? = some (some D):=e;rw [N0] at e;cases z:pl[k]? with
  | none=>rw [z] at e;cases e
  | some r=>rw [z] at e;cases e
theorem QI.walk {m:Nat} {bk:Bool} {pl:List (List (Option Int))} :∀(cs:List Int) {N:LM},QI m pl.length bk N->QI m pl.length bk (cs.foldl (λ N c=>N.go pl bk c) N)
 | [],_,v=>v
 | c :: cs,_,v=>QI.walk cs v.go
end
section
def dnB (b e:Nat) (a:PA):Bool:=a.d.isSome && decide (a.start < e) && (match a.stop with|some k=>decide (k < b)|none=>false)
def ltB (b e:Nat) (a:PA):Bool:=a.d.isSome && decide (a.start < e) && !(match a.stop with|some k=>decide (k < b)|none=>false)
def lstF (b e:Nat) (l:Int) (acts:List PA):Int:=acts.foldl (λ l a=>if dnB b e a=true then a.d.getD 0 else l) l
def letsF (b e:Nat) (acts:List PA):List Int:=(acts.filter (ltB b e)).map λ a=>a.d.getD 0
def Reg (acts:List PA):Prop:=∀(i:Nat) (r:PA) (e:Nat),acts[i]? = some r->r.d=none->r.stop=some e->∃v,r.v=some v/\(v=lstF r.start e 0 acts\/(v∈letsF r.start e acts/\r.hand≠0))
theorem zfg {b e:Nat} :∀{acts:List PA} (l:Int),(∀(j:Nat) (c:PA),acts[j]? = some c->¬ dnB b e c=true)->lstF b e l acts=l
 | [],_,_=>rfl
 | a :: acts,l,h=>by show lstF b e (if dnB b e a=true then _ else l) acts=l;rw [if_neg (h 0 a rfl)];exact zfg l λ j c d=>h (j + 1) c d
theorem zhx {b e:Nat} :∀{acts:List PA} {i:Nat} {a:PA} (l:Int),acts[i]? = some a->dnB b e a=true->(∀(j:Nat) (c:PA),i < j->acts[j]? = some c->¬ dnB b e c=true)->lstF b e l acts=a.d.getD 0
 | [],i,a,_,h,_,_=>by cases i<;>cases h
 | x :: acts,0,a,l,h,hd,later=>by cases h;show lstF b e (if dnB b e x=true then _ else l) acts=_;rw [if_pos hd];exact zfg _ λ j c f=>later (j + 1) c (Nat.succ_pos j) f
 | x :: acts,i + 1,a,l,h,hd,later=>zhx (acts:=acts) (i:=i) _ h hd λ j c g f=>later (j + 1) c (Nat.succ_lt_succ g) f
theorem dn_iff {b e:Nat} {a:PA}:dnB b e a=true↔a.d.isSome=true/\a.start < e/\∃k,a.stop=some k/\k < b:=by
 unfold dnB;cases a.stop with
 | none=>simp
 | some k=>simp [and_assoc]
theorem zag {b e:Nat} {a:PA} (h1:a.d.isSome=true) (h2:a.start < e) (h3:¬ dnB b e a=true):ltB b e a=true:=by
 unfold dnB at h3;unfold ltB;rw [h1,decide_eq_true h2] at *;cases z:(match a.stop with|some k=>decide (k < b)|none=>false) with
 | true=>rw [z] at h3;exact absurd rfl h3
 | false=>rfl
theorem reg_of {n:Nat} {As:List GA} {T:Sp2} (q:AI false n As T) (one :∀(i:Nat) (a:GA),As[i]? = some a->a.d.isSome=true->a.hand=0):Reg (As.map GA.pr):=by
 intro i Z e J C D;rw [N0] at J;obtain ⟨r,l,rfl⟩:=Option.map_eq_some_iff.mp J;have C:r.d=none:=C;have D:r.stop=some e:=D;obtain ⟨x,U,F⟩:=q.es i r e l D;obtain ⟨v,N,F⟩:=F C;have S:=(q.gs i r x l U).1;refine ⟨v,N,?_⟩;have ended :∀(k:Nat) (c:GA),As[k]? = some c->dnB r.start e c.pr=true->∃y h,c.s=some y/\c.stop=some h/\h < r.start/\leS y x/\ltS c.g y/\leS (0,-1) c.g/\c.d.isSome=true:=λ k c f m=>by obtain ⟨t,Y,h,G,K⟩:=dn_iff.mp m;have t:c.d.isSome=true:=t;obtain ⟨y,E,_⟩:=q.es k c h f G;exact ⟨y,h,E,G,K,(q.pb k i c r h y f l G E (.inr t) K).trans S,((q.gs k c y f E).2 t).1,(q.st k c f).2.1,t⟩
 rcases F with z|⟨j,b,hb,hbd,hbs,hbe⟩
 ·injection z with z1 z2;refine .inl ?_;rw [z2]
  symm
  refine zfg 0 λ k P u m=>?_;rw [N0] at u;obtain ⟨c,f,rfl⟩:=Option.map_eq_some_iff.mp u;obtain ⟨y,h,_,_,_,w,H,M,_⟩:=ended k c f m;rw [z1] at w;exact (M.lt H).no w
 ·have p:b.d.isSome=true:=by rw [hbd];rfl
  have I:=one j b hb p;by_cases m:dnB r.start e b.pr=true
  ·refine .inl ?_
   symm
   have:=zhx (acts:=As.map GA.pr) (i:=j) (a:=b.pr) (b:=r.start) (e:=e) 0 (by rw [N0,hb];rfl) m λ k P R u O=>?_
   ·rw [show r.pr.start=r.start from rfl,this,show b.pr.d=some v from hbd];rfl
   ·rw [N0] at u;obtain ⟨c,f,rfl⟩:=Option.map_eq_some_iff.mp u;obtain ⟨y,h,W,h2,X,w,H,M,Q⟩:=ended k c f O;obtain ⟨V,o,A⟩:=q.hn j k b c R hb f (by rw [I,one k c f Q]);have:=q.pb j k b c V x hb f o hbs (.inr p) A;exact (this.lt H).no w
  ·refine .inr ⟨List.mem_map.mpr ⟨b.pr,List.mem_filter.mpr ⟨List.mem_map.mpr ⟨b,T0 hb,rfl⟩,zag p hbe m⟩,by rw [show b.pr.d=some v from hbd];rfl⟩,λ B=>?_⟩;have B:r.hand=0:=B;rcases Nat.lt_trichotomy i j with z|z|z
   ·obtain ⟨L,o,A⟩:=q.hn i j r b z l hb (by rw [B,I]);rw [D] at o;cases o;omega
   ·rw [z,hb] at l;cases l;rw [C] at p;cases p
   ·obtain ⟨L,o,A⟩:=q.hn j i b r z hb l (by rw [B,I]);exact m (dn_iff.mpr ⟨p,hbe,L,o,A⟩)
def BgI (pl:List (List (Option Int))) (es:List CEv):Prop:=∀h d,CEv.beg h d∈es->d∈pl[h]?.getD []
theorem BgI.fin {pl:List (List (Option Int))} {es:List CEv} {h:Nat} {a:Option Int} (b:BgI pl es):BgI pl (es++[.fin h a]):=λ k d c=>by
 rcases List.mem_append.mp c with z|z
 ·exact b k d z
 ·exact absurd (List.mem_singleton.mp z) (by simp)
theorem BgI.gone {pl:List (List (Option Int))} {N:LM} {bk:Bool} {h:Nat} {D:LD} (b:BgI pl N.events):BgI pl (N.goneOn bk h D).events:=by
 unfold LM.goneOn;split
 ·exact b.fin
 ·split
  ·exact b
  ·split
   ·exact b
   ·exact b.fin
theorem BgI.come {pl:List (List (Option Int))} {N:LM} {bk:Bool} {L:LL} (b:BgI pl N.events):BgI pl (N.come bk L).events:=by
 unfold LM.come;split
 ·split<;>exact b
 ·split
  ·unfold LM.hear;split
   ·split
    ·exact BgI.gone (N:={ N with opn:=_ }) b
    ·exact b
   ·exact b
  ·exact b
theorem BgI.go {pl:List (List (Option Int))} {N:LM} {bk:Bool} {c:Int} (b:BgI pl N.events):BgI pl (N.go pl bk c).events:=by
 unfold LM.go LM.moved;split
 ·exact b
 ·split
  ·split
   ·rename_i d hd;intro k a e;rcases List.mem_append.mp e with z|z
    ·exact b k a z
    ·have z:=List.mem_singleton.mp z;injection z with z1 z2;rw [z1,z2];exact T0 hd
   ·exact b
  ·split
   ·split
    ·exact BgI.come (N:={ N with under:=_ }) b
    ·exact b
   ·exact b
theorem BgI.walk {pl:List (List (Option Int))} {bk:Bool} :∀(cs:List Int) {N:LM},BgI pl N.events->BgI pl (cs.foldl (λ N c=>N.go pl bk c) N).events
 | [],_,v=>v
 | c :: cs,_,v=>BgI.walk cs v.go
theorem zio (es:List CEv) :∀a∈actsF es,CEv.beg a.hand a.d∈es:=by
 have i :∀(es f:List CEv) (S:Nat×List PA),(∀a∈S.2,CEv.beg a.hand a.d∈f)->∀a∈(es.foldl (λ (S:Nat×List PA) e=>(S.1 + 1,stepA S.1 S.2 e)) S).2,CEv.beg a.hand a.d∈f++es:=by
  intro es;induction es with
  | nil=>exact λ f S h a c=>by rw [F2];exact h a c
  | cons e es ih=>
   intro f S h a c;rw [N3] at c;have:=ih (f++[e]) _ (λ a c=>?_) a c
   ·rw [A2] at this;exact this
   ·cases e with
    | beg k d=>
     rcases List.mem_append.mp c with z|z
     ·exact List.mem_append.mpr (.inl (h a z))
     ·rw [List.mem_singleton.mp z];exact List.mem_append.mpr (.inr (.head _))
    | fin k x=>obtain ⟨b,g,rfl⟩:=List.mem_map.mp c;have:=h b g;refine List.mem_append.mpr (.inl ?_);split<;>exact this
 exact i es [] (0,[]) λ a c=>absurd c L0
theorem zjj {m:Nat} {pl:List (List (Option Int))} (m0:0 < m) (ow :∀h,h≠0->∀d∈pl[h]?.getD [],d=none) (cs:List Int):Reg (actsF (cs.foldl (λ N c=>N.go pl false c) (LM.init m pl)).events)/\WfE (cs.foldl (λ N c=>N.go pl false c) (LM.init m pl)).events:=by
 obtain ⟨g,T,F,q⟩:=QI.walk (bk:=false) cs (QI.init (m:=m) (pl:=pl) (bk:=false) m0);have f:=BgI.walk (pl:=pl) (bk:=false) cs (N:=LM.init m pl) λ h d z=>absurd z L0;refine ⟨?_,q.wf⟩;rw [<-q.ev];refine reg_of q.ai λ i a e b=>?_;by_cases z:a.hand=0
 ·exact z
 ·exfalso;have:a.pr∈g.map GA.pr:=List.mem_map.mpr ⟨a,T0 e,rfl⟩;rw [q.ev] at this;have:=ow a.hand z a.d (f _ _ (zio _ _ this));rw [this] at b;cases b
end
section
variable {P:Program} {w:C1} {mg:Str->Option Value} {base:Heap}
def z49 (K:j0):Sp:=λ vs H Q _=>∃(A:La) (a:Addr) (x:Int) (su:Int) (B:Hp) (es:List (Option OE)) (N:LM) (pl:List (List (Option Int))) (t:Nat),vs=[.ref A.st,.ref a,.int x,.int su]/\Lw K B H A es N/\PlR B a pl/\pl.length<=6/\LOk pl N t/\t<=1000/\Same B H/\
 (∀H',Same H H'->(N.free pl).length + N.under.length=0->Q .non H')/\∀c H',Same H H'->(N.free pl).length + N.under.length≠0->Q (.int c) H'
theorem z8d (T:TX (kx w) mg) (c5:Ca P w mg base "_law_free" ["state","plan"] 1 (z24 (kx w))):Fo P w mg base CX0 2 472 y0l ["state","plan","x","sure"] (z49 (kx w)):=by
 refine (z34 w.params).ok sc__law_choice (λ Z H Q E h=>?_) (λ a3 A a1 s H Z Q E f h=>?_)
 ·obtain ⟨A,a,x,u,B,C,N,d,t,rfl,_⟩:=h;rfl
 ·obtain ⟨b,a,x,u,B,C,N,d,t,rfl,r,pr,v,ok,a2,W,D,q⟩:=h;refine ⟨_,(z02 (ps_set (i:=4) sc__law_choice.nd rfl (K1 rfl) (pe_op opAdd (z07 z0n rfl (T.no (n_len _)) G2 (z01 (pe_cal c5 (f.mono (by decide)) rfl (z01 (pv 0) (z01 (pv 1) pa_nil))) pa_nil)) (z07 z0n rfl (T.no (n_len _)) G2 (z01 (z0d (hu_of f) (pv 0) pe_str (λ _ _=>rfl)) pa_nil))))
   (z02 (ps_set (i:=5) sc__law_choice.nd rfl (K1 rfl) (pe_op opAdd (pv 4) (z07 z0n rfl (T.no (n_len _)) G2 (z01 (z0d (hu_of f) (pv 0) pe_str (λ _ _=>rfl)) pa_nil))))
   (z02 (ps_if (z0a opEq (pv 5) pe_int (nomark _))
   (z05 (ps_ret pe_non))
   z0e)
   (z02 (ps_set (i:=6) sc__law_choice.nd rfl (K1 rfl) (pe_op op_mod (pe_op z1r (pv 2) pe_int) (pv 4)))
   (z02 (ps_if (PW.pt (pw_and (z0a op_lt (pe_op op_mod (pv 2) pe_int) (pv 3) (nomark _)) (z2w (z0a (zl2 f) (z0d (hu_of f) (pv 0) pe_str (λ _ _=>rfl)) (pe_lst pa_nil) (nomark _)))))
   (z05 (ps_set (i:=6) sc__law_choice.nd rfl (K1 rfl) (pe_op opAdd (pv 4) (pe_op op_mod (pe_op z1r (pv 2) pe_int) (z07 z0n rfl (T.no (n_len _)) G2 (z01 (z0d (hu_of f) (pv 0) pe_str (λ _ _=>rfl)) pa_nil))))))
   z0e)
   (z05 (ps_ret (pe_op opAdd (pv 6) (pe_op op_mul (pv 5) (pe_op op_sub (pe_op op_mod (pe_op z1r (pv 2) pe_int) pe_int) pe_int)))))))))),?_⟩
  have ul:=ok.ul;refine z0b ⟨_,rfl,_,rfl,b,a,B,C,N,d,rfl,r,pr.same W,v,ok.ol,ok.nl,λ J g n a0 O=>?_⟩;have V:=r.same n;have I:(natV (N.free d)).length=(N.free d).length:=C0 ..;obtain ⟨M,hv,c,vv,l,p,c2,X,c4⟩:=id V.ct;have j:g b.st=some (.dK M):=p.at (a:=[]);have m:g b.un=some (.lst c):=p.at (a:=[_,_]);have L:c.length=N.under.length:=z04 X;have a4:(N.free d).length<=6:=O0 (L5 _ _) (by rw [T2];exact v);refine .inl ⟨J,_,rfl,.inl (SqL.of O),_,rfl,b.st,_,rfl,l.gun j,.inl ⟨b.un,c,rfl,.inl (SqL.of m),.inl ⟨_,_,rfl,rfl,g_name ?_⟩⟩⟩;refine z0b ⟨_,rfl,_,rfl,b.st,_,rfl,l.gun j,.inl ⟨b.un,c,rfl,.inl (SqL.of m),.inl ⟨_,_,rfl,rfl,g_name ?_⟩⟩⟩;rw [I,L];refine sq_if ⟨_,rfl,rfl,_,rfl,?_⟩;refine ite2 (λ z=>?_) λ z=>t_nx ?_
  ·have z:=of_decide_eq_true z;injection z with z;exact D g n (by omega)
  have R:(N.free d).length + N.under.length≠0:=λ y=>z (decide_eq_true (by congr 1;omega));have o:CDivB x 64:=⟨by decide,by decide⟩
  refine z0b ⟨_,rfl,_,_,rfl,rfl,o,_,rfl,_,_,rfl,rfl,(by omega),g_name ?_⟩;refine z97 (λ F U=>Same g U/\∃k:Int,F=[some (.ref b.st),some (.ref a),some (.int x),some (.int u),some (.int (((N.free d).length:Nat) + (N.under.length:Nat))),some (.int (((N.free d).length:Nat) + (N.under.length:Nat) + (N.under.length:Nat))),some (.int k)]) ?_ λ go=>?_;rotate_left
  ·refine t_and ⟨_,rfl,_,_,rfl,rfl,(show (0:Int) < 64 by decide),_,rfl,_,_,rfl,rfl,_,rfl,?_⟩;refine ite2 (λ _=>?_) λ _=>iteF (t_nx (go _ _ ⟨Same.refl _,_,rfl⟩));refine ⟨_,rfl,b.st,_,rfl,l.gun j,w_0,λ l9 Y=>?_⟩;obtain ⟨S,G,e,K⟩:=newA (.lst []) Y;rw [<-G];refine ⟨b.un,l9,c,rfl,rfl,SqL.of (e _ _ m),SqL.of K,_,rfl,?_⟩;refine ite2 (λ z=>?_) λ _=>t_nx (go _ _ ⟨e,_,rfl⟩);have ne:c≠[]:=of_decide_eq_true z;have up:0 < c.length:=List.length_pos_iff.mpr ne;refine ⟨_,rfl,_,rfl,_,_,rfl,rfl,o,_,rfl,b.st,_,rfl,l.gun (e _ _ j),.inl ⟨b.un,c,rfl,.inl (SqL.of (e _ _ m)),_,_,rfl,rfl,(by show (0:Int) < (c.length:Nat);omega),.inl ⟨_,_,rfl,rfl,g_name (t_nx (go _ _ ⟨e,_,rfl⟩))⟩⟩⟩
  rintro σ S ⟨e,k,rfl⟩;refine sq_ret ⟨_,rfl,_,rfl,_,rfl,_,_,rfl,rfl,(show CDivB x 65536 from ⟨by decide,by decide⟩),_,_,rfl,rfl,(show (0:Int) < 7 by decide),_,_,rfl,rfl,_,_,rfl,rfl,.inl ⟨by omega,by omega⟩,.inl ⟨_,_,rfl,rfl,q _ _ (n.trans e) R⟩⟩
theorem cut3 (ns:List Int) :∃ms:List Int,cutV (ns.map V.int) (some 3) (some 63)=ms.map V.int/\ms.length<=60:=by
 refine ⟨(ns.drop (HT.sIx (ns.map V.int).length 0 (some 3))).take (HT.sIx (ns.map V.int).length (ns.map V.int).length (some 63) - HT.sIx (ns.map V.int).length 0 (some 3)),?_,?_⟩
 ·unfold cutV;rw [List.map_take,List.map_drop]
 ·refine O0 (List.length_take_le _ _) ?_;have b:HT.sIx (ns.map V.int).length (ns.map V.int).length (some 63)=min 63 (ns.map V.int).length:=HT.sIx_nat _ _ 63;have a:HT.sIx (ns.map V.int).length 0 (some 3)=min 3 (ns.map V.int).length:=HT.sIx_nat _ _ 3;rw [b,a];omega
def z78 (K:j0):Sp:=λ vs H Q _=>∃(sc:Addr) (ns:List Int),vs=[.ref sc]/\SqL K H sc (ns.map V.int)/\ns.length<=63/\∀(l:Addr) (cs:List Int) (H':Hp),Same H H'->H l=none->H' l=some (.lst (cs.map V.int))->cs.length<=360->Q (.ref l) H'
theorem zcu (T:TX (kx w) mg):Fo P w mg base CX0 1 486 y1h ["script"] (z78 (kx w)):=by
 refine (z5r w.params).ok sc__law_raw (λ I H Q E h=>?_) (λ U A M s H I Q E L h=>?_)
 ·obtain ⟨sc,p,rfl,_⟩:=h;rfl
 ·obtain ⟨sc,p,rfl,G,S,q⟩:=h;refine ⟨_,(z02 (ps_set (i:=1) sc__law_raw.nd rfl (K1 rfl) (pe_lst pa_nil))
   (z02 (ps_for Y2 rfl (z17 (zfk slSeq (pv 0) (zc4 pe_int) (zc4 pe_int))) (z0f (i:=2) sc__law_raw.nd rfl (K1 rfl))
   (z05 (ps_for Y2 rfl (z15 rfl (T.no (z2s _)) (z01 pe_int pa_nil)) (z0f (i:=3) sc__law_raw.nd rfl (K1 rfl))
   (z02 (z0h (z0p (pv 1) (z01 (pe_op op_mod (pv 2) pe_int) pa_nil)))
   (z05 (ps_set (i:=2) sc__law_raw.nd rfl (K1 rfl) (pe_op z1r (pv 2) pe_int)))))))
   (z05 (ps_ret (pv 1))))),?_⟩
  obtain ⟨e,B,O⟩:=cut3 p;refine z0b ⟨w_0,λ d k=>g_name ?_⟩;obtain ⟨J,g,r,x⟩:=newA (.lst []) k;rw [<-g];refine ⟨_,rfl,3,rfl,63,rfl,.inl ⟨sc,_,rfl,r.seq G,λ f l=>?_⟩⟩;rw [B];obtain ⟨R,g,t,u⟩:=newA (.lst (e.map V.int)) l;rw [<-g];have D:f≠d:=λ z=>by rw [z,x] at l;cases l
  refine ⟨f,rfl,⟨_,SqL.of u⟩,?_⟩;refine z3q (K:=KX w.params) (a:=f) (xs:=e.map V.int) (λ i σ b=>∃(cs:List Int) (x2 x3:Option V),Same H b/\b f=some (.lst (e.map V.int))/\b d=some (.lst (cs.map V.int))/\cs.length<=6 * i/\σ=[some (.ref sc),some (.ref d),x2,x3]) ⟨[],_,_,r.trans t,u,t _ _ x,J2 _,rfl⟩ (λ _ σ b _ h=>by obtain ⟨_,_,_,_,h,_⟩:=h;exact SqL.of h) ?_ ?_
  ·rintro i y σ o v ⟨cs,x2,x3,s3,q3,e3,l3,rfl⟩;rw [N0] at v;obtain ⟨c,C,rfl⟩:=Option.map_eq_some_iff.mp v;have W:i < e.length:=(List.getElem?_eq_some_iff.mp C).1;refine g_name ?_;refine ⟨6,rfl,by decide,by decide,?_⟩;refine z2d (lo:=0) (n:=6) (λ j σ b=>∃(cs:List Int) (c:Int) (x3:Option V),Same H b/\b f=some (.lst (e.map V.int))/\b d=some (.lst (cs.map V.int))/\cs.length<=6 * i + j/\σ=[some (.ref sc),some (.ref d),some (.int c),x3]) ⟨cs,c,_,s3,q3,e3,l3,rfl⟩ ?_ ?_
   ·rintro j σ F N ⟨cs,c,x3,s4,q4,e4,l4,rfl⟩;refine g_name ?_;refine ⟨_,rfl,.inl ⟨rfl,_,SqL.of e4⟩,_,rfl,_,_,rfl,rfl,(show (0:Int) < 40 by decide),?_⟩;refine ⟨d,_,_,rfl,rfl,e4,V0 (m:=400) (by rw [C0];omega) (by decide),t_nx ?_⟩;refine ⟨_,rfl,_,_,rfl,rfl,(show CDivB c 40 from ⟨by decide,by decide⟩),g_name ?_⟩;exact ⟨cs++[_],_,_,Same.keep s4 k,up1 D q4,by rw [z03,P1];rfl,by rw [F0];show cs.length + 1<=_;omega,rfl⟩
   ·rintro σ F ⟨cs,c,x3,s4,q4,e4,l4,rfl⟩;exact ⟨cs,_,_,s4,q4,e4,by omega,rfl⟩
  ·rintro σ o ⟨cs,x2,x3,s3,q3,e3,l3,rfl⟩;rw [C0] at l3;exact ⟨_,rfl,q d cs o s3 k e3 (by omega)⟩
theorem go_on {pl:List (List (Option Int))} {bk:Bool} {N:LM} {c:Int} (h:(N.free pl).length + N.under.length≠0):N.go pl bk c=N.moved pl bk (c % (((N.free pl).length:Int) + 2 * (N.under.length:Int))).toNat:=if_neg h
theorem zhy {pl:List (List (Option Int))} {m:Nat} {bk:Bool} (g:PlG pl) (m35:m=3\/m=5) (cs:List Int) (hl:cs.length<=450):LOk pl (cs.foldl (λ N c=>N.go pl bk c) (LM.init m pl)) 900:=by have s:=zc8 (pl:=pl) (bk:=bk) (m:=m) (by omega) cs;have a:=zbm cs (zfa (bk:=bk) g (by omega) (by omega:m<=5));rw [O4] at a;exact lok_of s (a.m.le1 (by omega))
theorem Lw.rb {K:j0} {B H:Hp} {A:La} {es:List (Option OE)} {N:LM} {l:Addr} {o:HO} (h:Lw K B H A es N) (m:Imm H (upd H l o)) (n :∀p x,B p=none->H p=some x->p≠l):Lw K (upd B l o) (upd H l o) A es N:=by obtain ⟨f,d,e,i,k,b,q,r,j⟩:=h.ct;have g :∀p∈baseO A f d e (natV N.nxt) i (es.map oeV)++es.flatMap entO,p.1≠l:=λ p a=>n _ _ (b.fr p a) (b.c p a);exact ⟨⟨f,d,e,i,k,⟨λ p a=>by rw [upd_ne (g p a)];exact b.c p a,b.nd,λ p a=>by rw [upd_ne (g p a)];exact b.fr p a⟩,z00 (λ _ _ z=>z.imm m) q,z00 (λ _ _ z=>z.imm m) r,z00 (λ _ _ z=>z.imm m) j⟩,z00 (λ _ _ z=>OeO.imm m z) h.oe⟩
theorem Same.upd2 {B H:Hp} {l:Addr} {o:HO} (s:Same B H):Same (upd B l o) (upd H l o):=λ p x e=>by
 by_cases z:p=l
 ·subst z;rw [z03] at e⊢;exact e
 ·rw [upd_ne z] at e⊢;exact s _ _ e
def z48 (K:j0):Sp:=λ vs H Q _=>∃(sc:Addr) (ns:List Int) (m:Nat) (a:Addr) (bk:Bool) (su:Int) (pl:List (List (Option Int))),vs=[.ref sc,.int m,.ref a,.bl bk,.int su]/\SqL K H sc (ns.map V.int)/\(m=3\/m=5)/\PlR H a pl/\PlG pl/\
 ∀t lc x (cs:List Int) H',Same H H'->H' t=some (.tup [.ref lc,x])->H lc=none->H' lc=some (.lst (cs.map V.int))->cs.length<=360->Q (.ref t) H'
theorem z7u (T:TX (kx w) mg) (c5:Ca P w mg base "_law_begun" ["many","plan"] 1 (z4x (kx w))) (c6:Ca P w mg base "_law_mix" ["cell","k"] 1 z4r) (c7:Ca P w mg base "_law_choice" ["state","plan","x","sure"] 2 (z49 (kx w))) (c8:Ca P w mg base "_law_free" ["state","plan"] 1 (z24 (kx w))) (c9:Ca P w mg base "_law_moved" ["state","plan","number","back"] 4 (z56 (kx w))):Fo P w mg base CX0 5 479 y0m ["script","many","plan","back","sure"] (z48 (kx w)):=by
 refine (z2z w.params).ok sc__law_guided (λ vs H Q E h=>?_) (λ d9 A d7 s H vs Q E D h=>?_)
 ·obtain ⟨sc,ns,m,a,bk,S,b,rfl,_⟩:=h;rfl
 ·obtain ⟨sc,ns,m,a,bk,S,b,rfl,sq,b4,pr,g,q⟩:=h;refine ⟨_,(z02 (ps_set (i:=5) sc__law_guided.nd rfl (K1 rfl) (pe_cal c5 (D.mono (by decide)) rfl (z01 (pv 1) (z01 (pv 2) pa_nil))))
   (z02 (ps_set (i:=6) sc__law_guided.nd rfl (K1 rfl) (pe_lst pa_nil))
   (z02 (ps_for Y2 rfl (z17 (zfk slSeq (pv 0) (zc4 pe_int) (zc4 pe_int))) (z0f (i:=7) sc__law_guided.nd rfl (K1 rfl))
   (z05 (ps_for Y2 rfl (z15 rfl (T.no (z2s _)) (z01 pe_int pa_nil)) (z0f (i:=8) sc__law_guided.nd rfl (K1 rfl))
   (z02 (ps_set (i:=9) sc__law_guided.nd rfl (K1 rfl) (pe_cal c7 (D.mono (by decide)) rfl (z01 (pv 5) (z01 (pv 2) (z01 (pe_cal c6 (D.mono (by decide)) rfl (z01 (pv 7) (z01 (pe_op opAdd pe_int (pv 8)) pa_nil))) (z01 (pv 4) pa_nil))))))
   (z02 (ps_if (z0a op_isN (pv 9) pe_non (nomark _))
   (z05 (ps_ret (pe_tup (z01 (pv 6) (z01 (z0d (hu_of D) (pv 5) pe_str (λ _ _=>rfl)) pa_nil)))))
   z0e)
   (z02 (z0h (z0p (pv 6) (z01 (pv 9) pa_nil)))
   (z02 (ps_set (i:=10) sc__law_guided.nd rfl (K1 rfl) (pe_op opAdd (z07 z0n rfl (T.no (n_len _)) G2 (z01 (pe_cal c8 (D.mono (by decide)) rfl (z01 (pv 5) (z01 (pv 2) pa_nil))) pa_nil)) (pe_op op_mul pe_int (z07 z0n rfl (T.no (n_len _)) G2 (z01 (z0d (hu_of D) (pv 5) pe_str (λ _ _=>rfl)) pa_nil)))))
   (z05 (z0h (pe_cal c9 (D.mono (by decide)) rfl (z01 (pv 5) (z01 (pv 2) (z01 (pe_op op_mod (pv 9) (pv 10)) (z01 (pv 3) pa_nil))))))))))))))
   (z05 (ps_ret (pe_tup (z01 (pv 6) (z01 (z0d (hu_of D) (pv 5) pe_str (λ _ _=>rfl)) pa_nil)))))))),?_⟩
  obtain ⟨v,b5,ml⟩:=cut3 ns;have U:=g.n6;have d0 :∀own∈b,own.length<=24:=(zfa (bk:=bk) g (by omega:0 < m) (by omega)).m.lw;obtain ⟨os,d1,b6⟩:=id pr;refine z0b ⟨_,rfl,_,rfl,m,a,os,b,rfl,by omega,d1,z04 b6,U,λ f H1 s1 d6=>?_⟩;refine g_name ?_;refine z0b ⟨w_0,λ d a4=>g_name ?_⟩;have fl:=s1.free a4;have a1:=d6.rb (Imm.of (Same.upd (o:=.lst []) a4)) (λ p x _ e z=>by rw [z,a4] at e;cases e);have b2:Same H (upd H d (.lst [])):=Same.upd fl;have I:=Same.upd2 (l:=d) (o:=.lst []) s1;have Y:upd H d (.lst []) d=some (.lst []):=z03;generalize upd H1 d (.lst [])=H2 at a1 I⊢;generalize upd H d (.lst [])=B2 at a1 b2 I Y⊢;refine ⟨_,rfl,3,rfl,63,rfl,.inl ⟨sc,_,rfl,(b2.trans I).seq sq,λ C a0=>?_⟩⟩;rw [b5];have fq:=I.free a0;have a5:=a1.rb (Imm.of (Same.upd (o:=.lst (v.map V.int)) a0)) (λ p x _ e z=>by rw [z,a0] at e;cases e);have b3:Same B2 (upd B2 C (.lst (v.map V.int))):=Same.upd fq;have R:=Same.upd2 (l:=C) (o:=.lst (v.map V.int)) I;have a3:upd B2 C (.lst (v.map V.int)) C=some (.lst (v.map V.int)):=z03;generalize upd H2 C (.lst (v.map V.int))=H3 at a5 R⊢;generalize upd B2 C (.lst (v.map V.int))=B3 at a5 b3 R a3⊢;have nq:C≠d:=λ z=>by rw [z,Y] at fq;cases fq
  refine ⟨C,rfl,⟨_,SqL.of (R _ _ a3)⟩,?_⟩;have fin :∀{B r:Hp} {es:List (Option OE)} {cs:List Int} {N:LM} {σ:List (Option V)},Same H B->B d=some (.lst (cs.map V.int))->Same B r->Lw (kx w) B r f es N->cs.length<=360->DGet r f.st (.str "events") (some (.ref f.ev))/\∀t,r t=none->Q (.ref t) (upd r t (.tup [.ref d,.ref f.ev])):=λ {B r es cs N σ} hB el G a2 hc=>by obtain ⟨a8,hv,O,vv,c0,L,c2,c3,c4⟩:=a2.ct;refine ⟨c0.gev (L.at (a:=[])),λ t ht=>?_⟩;have u:=Same.upd (o:=.tup [.ref d,.ref f.ev]) ht;exact q t d _ cs _ ((hB.trans G).trans u) z03 fl (u _ _ (G _ _ el)) hc
  refine z3q (K:=KX w.params) (a:=C) (xs:=v.map V.int) (λ i σ r=>∃(B:Hp) (cs:List Int) (es:List (Option OE)) (x7 x8 x9 x10:Option V),Same H B/\B C=some (.lst (v.map V.int))/\B d=some (.lst (cs.map V.int))/\Same B r/\Lw (kx w) B r f es (cs.foldl (λ N c=>N.go b bk c) (LM.init m b))/\cs.length<=6 * i/\σ=[some (.ref sc),some (.int m),some (.ref a),some (.bl bk),some (.int S),some (.ref f.st),some (.ref d),x7,x8,x9,x10]) ⟨B3,[],_,_,_,_,_,b2.trans b3,a3,b3 _ _ Y,R,a5,J2 _,rfl⟩ (λ _ σ r _ h=>by obtain ⟨B,_,_,_,_,_,_,_,h,_,G,_⟩:=h;exact SqL.of (G _ _ h)) ?_ ?_
  ·rintro i y σ H4 hy ⟨B,cs,es,x7,x8,x9,x10,hB,e1,e2,s4,lw4,l4,rfl⟩;rw [N0] at hy;obtain ⟨c,hc,rfl⟩:=Option.map_eq_some_iff.mp hy;have hi:i < v.length:=(List.getElem?_eq_some_iff.mp hc).1;refine g_name ?_;refine ⟨6,rfl,by decide,by decide,?_⟩;refine z2d (lo:=0) (n:=6) (λ j σ r=>∃(B:Hp) (cs:List Int) (es:List (Option OE)) (x8 x9 x10:Option V),Same H B/\B C=some (.lst (v.map V.int))/\B d=some (.lst (cs.map V.int))/\Same B r/\Lw (kx w) B r f es (cs.foldl (λ N c=>N.go b bk c) (LM.init m b))/\cs.length<=6 * i + j/\σ=[some (.ref sc),some (.int m),some (.ref a),some (.bl bk),some (.int S),some (.ref f.st),some (.ref d),some (.int c),x8,x9,x10]) ⟨B,cs,es,_,_,_,hB,e1,e2,s4,lw4,l4,rfl⟩ ?_ ?_
   ·rintro j σ H5 hj ⟨B,cs,es,x8,x9,x10,hB,e1,e2,s5,lw5,l5,rfl⟩;have ok:=zhy (bk:=bk) g b4 cs (by omega);have F :∀k,(cs++[k]).foldl (λ N c=>N.go b bk c) (LM.init m b)=(cs.foldl (λ N c=>N.go b bk c) (LM.init m b)).go b bk k:=λ k=>by rw [G6];rfl
    generalize cs.foldl (λ N c=>N.go b bk c) (LM.init m b)=N at lw5 ok F;refine g_name ?_;have pB:=pr.same hB;have j6:j < 6:=hj;refine z0b ⟨_,rfl,_,rfl,_,rfl,_,rfl,.inl ⟨_,_,rfl,rfl,c,_,rfl,by omega,by omega,_,rfl,f,a,_,S,B,es,N,b,900,rfl,lw5,pB,U,ok,by decide,s5,λ H6 J z0=>g_name ?_,λ k H6 J nz=>g_name ?_⟩⟩
    ·obtain ⟨f1,f2⟩:=fin (σ:=[]) hB e2 (s5.trans J) (lw5.same J) (by omega);exact sq_if ⟨_,rfl,rfl,_,rfl,iteP rfl ⟨_,rfl,_,rfl,f.st,_,rfl,f1,w_2,f2⟩⟩
    refine sq_if ⟨_,rfl,rfl,_,rfl,iteN (λ z=>by cases of_decide_eq_true z) (t_nx ?_)⟩;have a6:=s5.trans J;have Z:=a6 _ _ e2;have X:=(lw5.same J).rb (l:=d) (o:=.lst (cs.map V.int++[.int k])) (Imm.lst Z) (λ p x eb _ z=>by rw [z,e2] at eb;cases eb);refine ⟨_,rfl,.inl ⟨rfl,_,SqL.of Z⟩,_,rfl,?_⟩;refine ⟨d,_,_,rfl,rfl,Z,V0 (m:=400) (by rw [C0];omega) (by decide),t_nx ?_⟩;have W:Same H (upd B d (.lst (cs.map V.int++[.int k]))):=Same.keep hB fl;have b0:upd B d (.lst (cs.map V.int++[.int k])) C=some (.lst (v.map V.int)):=up1 nq e1;have b1:upd B d (.lst (cs.map V.int++[.int k])) d=some (.lst ((cs++[k]).map V.int)):=by rw [z03,P1];rfl
    have M:=Same.upd2 (l:=d) (o:=.lst (cs.map V.int++[.int k])) a6;generalize upd H6 d (.lst (cs.map V.int++[.int k]))=H7 at X M⊢;generalize upd B d (.lst (cs.map V.int++[.int k]))=B7 at X W b0 b1 M;refine z0b ⟨_,rfl,_,rfl,f,a,B7,es,N,b,rfl,X,pr.same (W.trans M),U,ok.ol,ok.nl,λ lf H8 s8 d8 b8=>?_⟩;have a9:=X.same s8;have d4:=M.trans s8;have d2:(natV (N.free b)).length=(N.free b).length:=C0 ..;obtain ⟨a8,hv,O,vv,c0,L,c2,c3,c4⟩:=id a9.ct;have d5:H8 f.st=some (.dK a8):=L.at (a:=[]);have b9:H8 f.un=some (.lst O):=L.at (a:=[_,_]);have b7:O.length=N.under.length:=z04 c3;have ul:=ok.ul;refine .inl ⟨lf,_,rfl,.inl (SqL.of b8),_,rfl,f.st,_,rfl,c0.gun d5,.inl ⟨f.un,O,rfl,.inl (SqL.of b9),2,_,rfl,rfl,.inl ⟨by decide,by decide⟩,.inl ⟨_,_,rfl,rfl,g_name ?_⟩⟩⟩;rw [d2,b7];have a7:(0:Int) < ((N.free b).length:Nat) + 2 * (N.under.length:Nat):=by omega
    have h0:=D6 k (by omega:(((N.free b).length:Nat) + 2 * (N.under.length:Nat):Int)≠0);have h1:=C5 k a7;have ec:k % (((N.free b).length:Nat) + 2 * (N.under.length:Nat):Int)=(((k % (((N.free b).length:Int) + 2 * (N.under.length:Int))).toNat:Nat):Int):=(P9 h0).symm;have F:=F k;rw [go_on nz] at F;refine ⟨_,rfl,_,rfl,_,rfl,_,rfl,_,_,rfl,rfl,a7,?_⟩;generalize hkk:(k % (((N.free b).length:Int) + 2 * (N.under.length:Int))).toNat=kk at F ec;refine ⟨_,rfl,f,a,kk,bk,B7,es,N,b,900,?_,a9,pr.same W,U,d0,ok,by decide,by omega,d4,λ d3 r G a2=>⟨B7,cs++[k],d3,_,_,_,W,b0,b1,G,by rw [F];exact a2,by rw [F0];show cs.length + 1<=_;omega,rfl⟩⟩;rw [<-ec];rfl
   ·rintro σ H5 ⟨B,cs,es,x8,x9,x10,hB,e1,e2,s5,lw5,l5,rfl⟩;exact ⟨B,cs,es,_,_,_,_,hB,e1,e2,s5,lw5,by omega,rfl⟩
  ·rintro σ H4 ⟨B,cs,es,x7,x8,x9,x10,hB,e1,e2,s4,lw4,l4,rfl⟩;rw [C0] at l4;obtain ⟨f1,f2⟩:=fin (σ:=[]) hB e2 s4 lw4 (by omega);exact ⟨_,rfl,_,rfl,f.st,_,rfl,f1,w_2,f2⟩
theorem cm_of {m:Nat} {pl:List (List (Option Int))} (bk:Bool) (m35:m=3\/m=5) (cs:List Int):(cs.foldl CM.go (CM.init m bk pl)).events=(cs.foldl (λ N c=>N.go pl bk c) (LM.init m pl)).events:=((zc8 (by omega) cs).ev).symm
theorem ev_of {H:Hp} {e:CEv} {y:V} (h:HPd H (evP e) y):EvV H e y:=by
 cases e with
 | beg k d=>obtain ⟨p,u,rfl,j,f,q,rfl,b,g,w,rfl,l,i,n,rfl,c,s,x,rfl,o,t,r,rfl,v,m⟩:=h;cases (show r=[] from m);cases (show f=_ from b);cases (show g=_ from l);cases (show i=_ from c);cases (show s=_ from o);refine ⟨p,rfl,?_⟩;cases d<;>(cases (show t=_ from v);exact j)
 | fin k a=>obtain ⟨p,u,rfl,j,f,q,rfl,b,g,w,rfl,l,i,n,rfl,c,m⟩:=h;cases (show n=[] from m);cases (show f=_ from b);cases (show g=_ from l);refine ⟨p,rfl,?_⟩;cases a<;>(cases (show i=_ from c);exact j)
def stpV:Option Nat->V
 | none=>.non
 | some k=>.int (k:Nat)
def wAV (p:PA):V:=match p.d with
 | some w=>.int w
 | none=>(match p.stop with|none=>.non|some _=>avD p.v)
def rowV (p:PA):List V:=[.str (vbD p.d),wAV p,.int (p.start:Nat),stpV p.stop,.int (p.hand:Nat)]
def ActA (H:Hp) (p:PA) (y:V):Prop:=∃b,y=.ref b/\H b=some (.lst (rowV p))
theorem ActA.same {H H':Hp} {r:PA} {y:V} (s:Same H H') (h:ActA H r y):ActA H' r y:=h.elim λ p z=>⟨p,z.1,s _ _ z.2⟩
theorem ActA.wrote {H:Hp} {l:Addr} {o:HO} {r:PA} {y:V} (n:y≠.ref l) (h:ActA H r y):ActA (upd H l o) r y:=h.elim λ p z=>⟨p,z.1,by rw [upd_ne (λ e=>n (by rw [z.1,e]))];exact z.2⟩
def NwI (kvs:List (Key×V)) (acts:List PA):Prop:=∀(h j:Nat) (p:PA),acts[j]? = some p->p.hand=h->(∀(k:Nat) (q:PA),acts[k]? = some q->q.hand=h->k<=j)->valV kvs (.inl (h:Int))=some (.int (j:Nat))
theorem NwI.beg {kvs:List (Key×V)} {acts:List PA} (n:NwI kvs acts) (h:Nat) (p:PA) (hp:p.hand=h):NwI (putK kvs (.inl (h:Int)) (.int (acts.length:Nat))) (acts++[p]):=λ k j q c e a=>by
 rw [z7q];rcases z1q c with z|⟨z,rfl⟩
 ·by_cases kh:k=h
  ·have:=a acts.length p (by rw [Z0 (J0 _),R6];rfl) (by rw [hp,kh]);have:=z12 z;omega
  ·rw [if_neg (λ y=>kh (by injection y with y;exact Int.ofNat_inj.mp y))];exact n k j q z e λ i r d b=>a i r (app_at d _) b
 ·rw [if_pos (by rw [<-e,hp]),z]
theorem NwI.fin {kvs:List (Key×V)} {acts:List PA} (n:NwI kvs acts) (f:PA->PA) (hf :∀p,(f p).hand=p.hand):NwI kvs (acts.map f):=λ k j q a e c=>by rw [N0] at a;obtain ⟨p,d,rfl⟩:=Option.map_eq_some_iff.mp a;exact n k j p d (by rw [<-hf];exact e) λ i r g b=>c i (f r) (by rw [N0,g];rfl) (by rw [hf];exact b)
theorem zk5 (kvs:List (Key×V)) (k:Key) (v:V):(putK kvs k v).length<=kvs.length + 1:=by
 unfold putK;split
 ·rw [C0];omega
 ·rw [F0];exact J0 _
def z55 (K:j0):Sp:=λ vs H Q _=>∃(ep:Addr) (es:List CEv) (ys:List V),vs=[.ref ep]/\H ep=some (.tup ys)/\All2 (EvV H) es ys/\es.length<=1000/\WfE es/\∀l zs H',Same H H'->H' l=some (.lst zs)->All2 (ActA H') (actsF es) zs->Q (.ref l) H'
theorem z91 (T:TX (kx w) mg):Fo P w mg base CX0 1 493 y0y ["events"] (z55 (kx w)):=by
 refine (z3u w.params).ok sc__law_deeds (λ vs H Q E h=>?_) (λ d2 A c8 s H vs Q E hr h=>?_)
 ·obtain ⟨t,D,u,rfl,_⟩:=h;rfl
 ·obtain ⟨t,D,u,rfl,U,al,c9,wf,q⟩:=h;refine ⟨_,(z02 (ps_set (i:=1) sc__law_deeds.nd rfl (K1 rfl) (pe_lst pa_nil))
   (z02 (ps_set (i:=2) sc__law_deeds.nd rfl (K1 rfl) ze8)
   (z02 (ps_for Y2 rfl (z15 rfl (T.no (z2s _)) (z01 (z07 z0n rfl (T.no (n_len _)) G2 (z01 (pv 0) pa_nil)) pa_nil)) (z0f (i:=3) sc__law_deeds.nd rfl (K1 rfl))
   (z05 (ps_if (z0a opEq (pe_ix ix_seq (pe_ix ix_seq (pv 0) (pv 3) (λ _ _=>rfl)) pe_int (λ _ _=>rfl)) pe_str (nomark _))
   (z02 (z3a (hu_of hr) (pv 2) (pe_ix ix_seq (pe_ix ix_seq (pv 0) (pv 3) (λ _ _=>rfl)) pe_int (λ _ _=>rfl)) (z07 z0n rfl (T.no (n_len _)) G2 (z01 (pv 1) pa_nil)) rfl)
   (z05 (z0h (z0p (pv 1) (z01 (pe_lst (z01 (pe_ix ix_seq (pe_ix ix_seq (pv 0) (pv 3) (λ _ _=>rfl)) pe_int (λ _ _=>rfl)) (z01 (pe_ix ix_seq (pe_ix ix_seq (pv 0) (pv 3) (λ _ _=>rfl)) pe_int (λ _ _=>rfl)) (z01 (pv 3) (z01 pe_non (z01 (pe_ix ix_seq (pe_ix ix_seq (pv 0) (pv 3) (λ _ _=>rfl)) pe_int (λ _ _=>rfl)) pa_nil)))))) pa_nil)))))
   (z02 (ps_set (i:=4) sc__law_deeds.nd rfl (K1 rfl) (pe_ix ix_seq (pv 1) (z0d (hu_of hr) (pv 2) (pe_ix ix_seq (pe_ix ix_seq (pv 0) (pv 3) (λ _ _=>rfl)) pe_int (λ _ _=>rfl)) (λ _ _=>rfl)) (λ _ _=>rfl)))
   (z02 (ps_asg (pv 3) (pg_sub (pv 4) pe_int z25))
   (z05 (ps_if (z0a opEq (pe_ix ix_seq (pv 4) pe_int (λ _ _=>rfl)) pe_str (nomark _))
   (z05 (ps_asg (pe_ix ix_seq (pe_ix ix_seq (pv 0) (pv 3) (λ _ _=>rfl)) pe_int (λ _ _=>rfl)) (pg_sub (pv 4) pe_int z25)))
   z0e)))))))
   (z05 (ps_ret (pv 1)))))),?_⟩
  refine z0b ⟨w_0,λ l b5=>g_name ?_⟩;refine z0b ?_;intro d a8;have a2:l≠d:=z0q z03 a8;have c0:H d=none:=by rwa [upd_ne a2.symm] at a8
  have s2:Same H (upd (upd H l (.lst [])) d (.dK [])):=(Same.upd b5).trans (Same.upd a8);have J:upd (upd H l (.lst [])) d (.dK []) l=some (.lst []):=by rw [upd_ne a2];exact z03
  have B:upd (upd H l (.lst [])) d (.dK []) d=some (.dK []):=z03;generalize upd (upd H l (.lst [])) d (.dK [])=H2 at s2 J B⊢;have len:=z04 al;refine ⟨_,rfl,.inl ⟨t,u,rfl,.inr (SqT.of (s2 _ _ U)),_,rfl,by omega,by omega,?_⟩⟩;refine z2d (lo:=0) (n:=u.length) (λ i σ H'=>∃zs kvs,H' l=some (.lst zs)/\All2 (ActA H') (actsF (D.take i)) zs/\zs.Nodup/\(∀p,V.ref p∈zs->p≠l/\H p=none)/\zs.length<=i/\H' d=some (.dK kvs)/\kvs.length<=i/\NwI kvs (actsF (D.take i))/\Same H H'/\∃x3 x4,σ=[some (.ref t),some (.ref l),some (.ref d),x3,x4])
   ⟨[],[],J,.nil,.nil,λ _ z=>absurd z L0,J0 _,B,J0 _,λ h j p hp=>(by simp [actsF] at hp),s2,_,_,rfl⟩ ?_ ?_
  rotate_left
  ·rintro σ H3 ⟨zs,kvs,el,ar,_,_,_,_,_,_,s3,x3,x4,rfl⟩;rw [W3 (by omega)] at ar;exact ⟨_,rfl,q l zs H3 s3 el ar⟩
  rintro i σ x hi ⟨zs,kvs,el4,ar4,nd,nzl,lzi,ed4,lk,nw,s4,x3,x4,rfl⟩;rw [R7];refine g_name ?_;obtain ⟨y,C⟩ :∃y,u[i]? = some y:=⟨_,v0 hi⟩
  obtain ⟨e,he,ev⟩:=z0m al C;have d0:i < D.length:=by omega
  have tk:actsF (D.take (i + 1))=stepA i (actsF (D.take i)) e:=by rw [p9,he,show (some e).toList=[e] from rfl,z68,Y6,Nat.min_eq_left (by omega)]
  have lz:zs.length=(actsF (D.take i)).length:=z04 ar4;have b7:=ev.imm (Imm.of s4);have Y:=SqT.of (K:=KX w.params) (s4 _ _ U);rw [tk];have b1:=wf i;generalize actsF (D.take i)=acts at ar4 nw lz b1⊢;cases e with
  | beg h dd=>
   obtain ⟨c,rfl,I⟩:=b7;have R:=SqT.of (K:=KX w.params) I;refine z1j ⟨_,rfl,_,rfl,.inr (.inl ⟨t,u,i,.ref c,rfl,rfl,Y,z08 C,.inr (.inl ⟨c,_,0,.str "begin",rfl,rfl,R,z08 (j:=0) rfl,rfl,_,rfl,iteP (decide_eq_true rfl) ?_⟩)⟩)⟩;refine z4b ⟨_,rfl,.inl ⟨l,zs,rfl,.inl (SqL.of el4),_,rfl,_,rfl,_,rfl,.inr (.inl ⟨t,u,i,.ref c,rfl,rfl,Y,z08 C,.inr (.inl ⟨c,_,1,.int (h:Nat),rfl,rfl,R,z08 (j:=1) rfl,d,_,rfl,DPut.k (k:=.inl (h:Int)) ed4 (V0 (m:=1000) (by omega) (by decide)),?_⟩)⟩)⟩⟩;have S:=Same.keep (o:=.dK (putK kvs (.inl (h:Int)) (.int (zs.length:Nat)))) s4 c0;have a0:upd x d (.dK (putK kvs (.inl (h:Int)) (.int (zs.length:Nat)))) l=some (.lst zs):=by rw [upd_ne a2];exact el4
   have b4:upd x d (.dK (putK kvs (.inl (h:Int)) (.int (zs.length:Nat)))) d=some (.dK (putK kvs (.inl (h:Int)) (.int (zs.length:Nat)))):=z03;have a7:All2 (ActA (upd x d (.dK (putK kvs (.inl (h:Int)) (.int (zs.length:Nat)))))) acts zs:=z00 (λ a b z=>z.wrote (λ e=>by obtain ⟨p,J,B⟩:=z;rw [J] at e;cases e;rw [ed4] at B;cases B)) ar4;generalize upd x d (.dK (putK kvs (.inl (h:Int)) (.int (zs.length:Nat))))=H5 at S a0 b4 a7⊢;obtain ⟨d1,y',a5⟩:=ev.imm (Imm.of S);cases y';have a9:=SqT.of (K:=KX w.params) a5;have a4:=SqT.of (K:=KX w.params) (S _ _ U);refine ⟨_,rfl,.inl ⟨rfl,zs,SqL.of a0⟩,?_⟩;refine ⟨_,rfl,_,rfl,.inr (.inl ⟨t,u,i,.ref c,rfl,rfl,a4,z08 C,.inr (.inl ⟨c,_,3,_,rfl,rfl,a9,z08 (j:=3) rfl,?_⟩)⟩)⟩;refine ⟨_,rfl,_,rfl,.inr (.inl ⟨t,u,i,.ref c,rfl,rfl,a4,z08 C,.inr (.inl ⟨c,_,4,_,rfl,rfl,a9,z08 (j:=4) rfl,?_⟩)⟩)⟩;refine ⟨_,rfl,_,rfl,_,rfl,.inr (.inl ⟨t,u,i,.ref c,rfl,rfl,a4,z08 C,.inr (.inl ⟨c,_,1,_,rfl,rfl,a9,z08 (j:=1) rfl,w_5,λ G N=>?_⟩)⟩)⟩;have c1:[V.str (vbD dd),wvD dd,.int (i:Nat),.non,.int (h:Nat)]=rowV ⟨h,dd,i,none,none⟩:=by cases dd<;>rfl
   rw [c1];have O:=Same.upd (o:=.lst (rowV ⟨h,dd,i,none,none⟩)) N;have e6:upd H5 G (.lst (rowV ⟨h,dd,i,none,none⟩)) G=some (.lst (rowV ⟨h,dd,i,none,none⟩)):=z03;have fr :∀z∈zs,z≠.ref G:=λ z hz e=>by obtain ⟨m,hm⟩:=List.mem_iff_getElem?.mp hz;obtain ⟨_,_,p,J,B⟩:=z0m a7 hm;rw [J] at e;cases e;rw [N] at B;cases B
   have b0:G≠l:=λ z=>by rw [z,a0] at N;cases N
   generalize upd H5 G (.lst (rowV ⟨h,dd,i,none,none⟩))=H6 at O e6⊢;have c2:=z00 (λ a b z=>ActA.same O z) a7;refine ⟨l,zs,_,rfl,rfl,O _ _ a0,V0 (m:=1000) (by omega) (by decide),?_⟩;refine ⟨zs++[.ref G],putK kvs (.inl (h:Int)) (.int (zs.length:Nat)),z03,?_,?_,?_,?_,?_,O0 (zk5 ..) (by omega),?_,Same.keep (S.trans O) b5,_,_,rfl⟩
   ·refine z1g (z74 (λ a b hb z=>ActA.wrote (λ e=>(nzl l (e ▸ hb)).1 rfl) z) c2) ⟨G,rfl,?_⟩;rw [upd_ne b0];exact e6
   ·rw [F6];refine ⟨nd,by simp,λ a ha b hb=>?_⟩;rw [List.mem_singleton.mp hb];exact fr a ha
   ·intro p hz;rcases List.mem_append.mp hz with y|y
    ·exact nzl p y
    ·have e:=List.mem_singleton.mp y;cases e;exact ⟨b0,S.free N⟩
   ·rw [F0];show zs.length + 1<=i + 1;omega
   ·rw [upd_ne a2.symm];exact O _ _ b4
   ·rw [lz];exact nw.beg h ⟨h,dd,i,none,none⟩ rfl
  | fin h a=>
   obtain ⟨c,rfl,I⟩:=b7;have R:=SqT.of (K:=KX w.params) I;refine z1j ⟨_,rfl,_,rfl,.inr (.inl ⟨t,u,i,.ref c,rfl,rfl,Y,z08 C,.inr (.inl ⟨c,_,0,.str "end",rfl,rfl,R,z08 (j:=0) rfl,rfl,_,rfl,iteK ?_⟩)⟩)⟩;obtain ⟨j,p,a6,b3,b2,only⟩:=b1 h a he;have c6:=nw h j p a6 b3 λ k q hq e=>(only k q hq e).1;obtain ⟨yj,W,f,rfl,L⟩:=z0r ar4 a6;have c3:DGet x d (.int (h:Nat)) (some (.int (j:Nat))):=c6 ▸ DGet.k (k:=.inl (h:Int)) ed4;obtain ⟨c4,b8⟩:=nzl f (T0 W);have c7:f≠d:=λ z=>by rw [z,ed4] at L;cases L
   refine z0b ⟨_,rfl,_,rfl,_,rfl,_,rfl,.inr (.inl ⟨t,u,i,.ref c,rfl,rfl,Y,z08 C,.inr (.inl ⟨c,_,1,.int (h:Nat),rfl,rfl,R,z08 (j:=1) rfl,d,_,rfl,c3,.inl ⟨l,zs,j,.ref f,rfl,rfl,SqL.of el4,z08 W,g_name ?_⟩⟩)⟩)⟩;have c5:rowV p=[.str (vbD p.d),wAV p,.int (p.start:Nat),.non,.int (p.hand:Nat)]:=by unfold rowV;rw [b2];rfl
   rw [c5] at L;refine z0b ⟨_,rfl,_,rfl,f,_,3,3,rfl,rfl,L,rfl,?_⟩;rw [show [V.str (vbD p.d),wAV p,.int (p.start:Nat),.non,.int (p.hand:Nat)].set 3 (.int (i:Nat))=[V.str (vbD p.d),wAV p,.int (p.start:Nat),.int (i:Nat),.int (p.hand:Nat)] from rfl];have M:KeptL [f] x (upd x f (.lst [V.str (vbD p.d),wAV p,.int (p.start:Nat),.int (i:Nat),.int (p.hand:Nat)])):=KeptL.set (by simp);have Z:upd x f (.lst [V.str (vbD p.d),wAV p,.int (p.start:Nat),.int (i:Nat),.int (p.hand:Nat)]) f=some (.lst [V.str (vbD p.d),wAV p,.int (p.start:Nat),.int (i:Nat),.int (p.hand:Nat)]):=z03;generalize upd x f (.lst [V.str (vbD p.d),wAV p,.int (p.start:Nat),.int (i:Nat),.int (p.hand:Nat)])=H5 at M Z⊢;have fin :∀F,KeptL [f] x F->F f=some (.lst (rowV { p with stop:=some i,v:=a }))->∃zs kvs,F l=some (.lst zs)/\All2 (ActA F) (stepA i acts (.fin h a)) zs/\zs.Nodup/\(∀p,V.ref p∈zs->p≠l/\H p=none)/\zs.length<=i + 1/\F d=some (.dK kvs)/\kvs.length<=i + 1/\NwI kvs (stepA i acts (.fin h a))/\Same H F:=by
    intro F kx ex;refine ⟨zs,kvs,kx _ _ (by simp [c4.symm]) el4,?_,nd,nzl,by omega,kx _ _ (by simp [c7.symm]) ed4,by omega,?_,?_⟩
    ·refine z1n (by show _=(acts.map _).length;rw [C0];exact lz) λ k r y hk a1=>?_;have hk:(acts.map _)[k]? = some r:=hk;rw [N0] at hk;obtain ⟨r',a3,X⟩:=Option.map_eq_some_iff.mp hk;obtain ⟨y2,b6,p2,rfl,B⟩:=z0r ar4 a3;rw [a1] at b6;cases b6;by_cases z:k=j
     ·subst z;rw [W] at a1;cases a1;rw [a6] at a3;cases a3;rw [if_pos ⟨b3,b2⟩] at X;subst X;exact ⟨f,rfl,ex⟩
     ·rw [if_neg (λ y=>(only k r' a3 y.1).2 z y.2)] at X;subst X;refine ⟨p2,rfl,kx _ _ (λ e=>z ?_) B⟩;have e:=List.mem_singleton.mp e;subst e;have h1:j < zs.length:=(List.getElem?_eq_some_iff.mp W).1;exact ((j02 h1 nd).mp (W.trans a1.symm)).symm
    ·exact nw.fin _ λ p=>by split<;>rfl
    ·intro b o e;exact kx b o (λ z=>by rw [List.mem_singleton.mp z,b8] at e;cases e) (s4 b o e)
   have a5:=M c _ (λ z=>by rw [List.mem_singleton.mp z,L] at I;cases I) I;have b9:=M t _ (λ z=>by have:=s4 _ _ U;rw [List.mem_singleton.mp z,L] at this;cases this) (s4 _ _ U);refine z1j ⟨_,rfl,.inl ⟨f,_,0,.str (vbD p.d),rfl,rfl,SqL.of Z,z08 (j:=0) rfl,rfl,_,rfl,?_⟩⟩;cases pd:p.d with
   | none=>refine iteP (decide_eq_true rfl) ?_;refine ⟨_,rfl,_,rfl,.inr (.inl ⟨t,u,i,.ref c,rfl,rfl,SqT.of b9,z08 C,.inr (.inl ⟨c,_,2,avD a,rfl,rfl,SqT.of a5,z08 (j:=2) rfl,?_⟩)⟩)⟩;refine ⟨_,rfl,f,_,1,1,rfl,rfl,Z,rfl,?_⟩;rw [show [V.str (vbD p.d),wAV p,.int (p.start:Nat),.int (i:Nat),.int (p.hand:Nat)].set 1 (avD a)=[V.str (vbD p.d),avD a,.int (p.start:Nat),.int (i:Nat),.int (p.hand:Nat)] from rfl];obtain ⟨r1,r2,g⟩:=fin (upd H5 f (.lst [V.str (vbD p.d),avD a,.int (p.start:Nat),.int (i:Nat),.int (p.hand:Nat)])) (M.trans (KeptL.set (by simp))) (by rw [z03];unfold rowV wAV;rw [show ({ p with stop:=some i,v:=a }:PA).d=none from pd];rfl);obtain ⟨g1,g2,g3,g4,g5,g6,g7,g8,g9⟩:=g;exact ⟨r1,r2,g1,g2,g3,g4,g5,g6,g7,g8,g9,_,_,rfl⟩
   | some w0=>refine iteN (show ¬ decide (V.str "write" = V.str "read")=true by decide +kernel) ?_;obtain ⟨r1,r2,g⟩:=fin _ M (by rw [Z];unfold rowV wAV;rw [show ({ p with stop:=some i,v:=a }:PA).d=some w0 from pd];rfl);obtain ⟨g1,g2,g3,g4,g5,g6,g7,g8,g9⟩:=g;exact ⟨r1,r2,g1,g2,g3,g4,g5,g6,g7,g8,g9,_,_,rfl⟩
theorem zil {b e:Nat} {acts:List PA} {i:Nat} {p:PA} (h:acts[i]? = some p):lstF b e 0 (acts.take (i + 1))=if dnB b e p=true then p.d.getD 0 else lstF b e 0 (acts.take i):=by unfold lstF;rw [p9,h,G6];rfl
theorem zgs {b e:Nat} {acts:List PA} {i:Nat} {p:PA} (h:acts[i]? = some p):letsF b e (acts.take (i + 1))=letsF b e (acts.take i)++if ltB b e p=true then [p.d.getD 0] else []:=by
 unfold letsF;rw [p9,h,C6,P1];congr 1;show (List.filter (ltB b e) [p]).map _=_;by_cases z:ltB b e p=true
 ·rw [A3 z,if_pos z];rfl
 ·rw [T3 z,if_neg z];rfl
theorem zed (b e:Nat) (acts:List PA):(letsF b e acts).length<=acts.length:=by unfold letsF;rw [C0];exact L5 _ _
def z67 (K:j0):Sp:=λ vs H Q _=>∃(la:Addr) (acts:List PA) (zs:List V) (b e:Nat),vs=[.ref la,.int (b:Nat),.int (e:Nat)]/\H la=some (.lst zs)/\All2 (ActA H) acts zs/\acts.length<=1000/\∀r H',Same H H'->H' r=some (.lst ((lstF b e 0 acts :: letsF b e acts).map V.int))->Q (.ref r) H'
theorem zaq (T:TX (kx w) mg):Fo P w mg base CX0 1 500 y16 ["acts","begin","end"] (z67 (kx w)):=by
 refine (z4q w.params).ok sc__law_lets (λ W H Q E h=>?_) (λ a2 A a0 s H W Q E hr h=>?_)
 ·obtain ⟨j,acts,G,b,e,rfl,_⟩:=h;rfl
 ·obtain ⟨j,acts,G,b,e,rfl,B,F,a1,q⟩:=h;refine ⟨_,(z02 (ps_set (i:=3) sc__law_lets.nd rfl (K1 rfl) pe_int)
   (z02 (ps_set (i:=4) sc__law_lets.nd rfl (K1 rfl) (pe_lst pa_nil))
   (z02 (ps_for Y2 rfl (z17 (pv 0)) (pg_lst rfl (z0g (z0f (i:=5) sc__law_lets.nd rfl (K1 rfl)) (z0g (z0f (i:=6) sc__law_lets.nd rfl (K1 rfl)) (z0g (z0f (i:=7) sc__law_lets.nd rfl (K1 rfl)) (z0g (z0f (i:=8) sc__law_lets.nd rfl (K1 rfl)) (z0g (z0f (i:=9) sc__law_lets.nd rfl (K1 rfl)) z42))))))
   (z05 (ps_if (PW.pt (pw_and (z0a opEq (pv 5) pe_str (nomark _)) (z2w (z0a op_lt (pv 7) (pv 2) (nomark _)))))
   (z05 (ps_if (PW.pt (pw_and (z0a z6g (pv 8) pe_non (nomark _)) (z2w (z0a op_lt (pv 8) (pv 1) (nomark _)))))
   (z05 (ps_set (i:=3) sc__law_lets.nd rfl (K1 rfl) (pv 6)))
   (z05 (z0h (z0p (pv 4) (z01 (pv 6) pa_nil))))))
   z0e)))
   (z05 (ps_ret (pe_op opAdd (pe_lst (z01 (pv 3) pa_nil)) (pv 4))))))),?_⟩
  refine z0b (g_name ?_);refine z0b ⟨w_0,λ f l=>g_name ?_⟩;obtain ⟨H1,I,C,Y⟩:=newA (.lst []) l;rw [<-I];have len:=z04 F;refine ⟨_,rfl,j,rfl,⟨_,SqL.of (C _ _ B)⟩,?_⟩;refine z3q (K:=KX w.params) (a:=j) (xs:=G) (λ i σ u=>Same H u/\u f=some (.lst ((letsF b e (acts.take i)).map V.int))/\∃x5 x6 x7 x8 x9,σ=[some (.ref j),some (.int (b:Nat)),some (.int (e:Nat)),some (.int (lstF b e 0 (acts.take i))),some (.ref f),x5,x6,x7,x8,x9]) ⟨C,Y,_,_,_,_,_,rfl⟩ (λ _ σ u _ h=>SqL.of (h.1 _ _ B)) ?_ ?_
  ·rintro i y σ U L ⟨s2,e2,x5,x6,x7,x8,x9,rfl⟩;obtain ⟨p,o,M,rfl,O⟩:=z0m F L;have N:=s2 _ _ O;have S:=zil (b:=b) (e:=e) o;have lt:=zgs (b:=b) (e:=e) o;have v:(letsF b e (acts.take i)).length<=1000:=O0 (zed _ _ _) (O0 (List.length_take_le _ _) (by have:=z12 o;omega));rw [S,lt];refine ⟨M,_,rfl,SqL.of N,rfl,_,_,rfl,_,_,rfl,_,_,rfl,_,_,rfl,_,_,rfl,rfl,?_⟩;refine t_and ⟨_,rfl,rfl,_,rfl,?_⟩;cases pd:p.d with
   | none=>
    have c:¬ dnB b e p=true:=λ z=>by have:=(dn_iff.mp z).1;rw [pd] at this;cases this
    have n:¬ ltB b e p=true:=λ z=>by unfold ltB at z;rw [pd] at z;cases z
    rw [if_neg c,if_neg n,F2];exact iteN (show ¬ decide (V.str "read" = V.str "write")=true by decide +kernel) (iteF ⟨s2,e2,_,_,_,_,_,rfl⟩)
   | some w0=>
    have r:p.d.isSome=true:=by rw [pd];rfl
    refine iteP (show decide (V.str "write" = V.str "write")=true by decide +kernel) ?_;refine ⟨_,rfl,_,rfl,_,_,rfl,rfl,_,rfl,?_⟩;refine ite2 (λ z=>?_) λ z=>?_
    ·have z:p.start < e:=by have:=of_decide_eq_true z;omega
     have t:wAV p=.int w0:=by unfold wAV;rw [pd]
     cases ps:p.stop with
     | none=>
      have c:¬ dnB b e p=true:=λ y=>by obtain ⟨_,_,k,y,_⟩:=dn_iff.mp y;rw [ps] at y;cases y
      rw [if_neg c,if_pos (zag r z c)];refine z1j (t_and ⟨_,rfl,rfl,_,rfl,iteN (show ¬ (!decide (V.non=V.non))=true by decide) (iteF ?_)⟩);refine ⟨_,rfl,.inl ⟨rfl,_,SqL.of e2⟩,_,rfl,f,_,_,rfl,rfl,e2,V0 (m:=1000) (by rw [C0];exact v) (by decide),Same.keep s2 l,?_,_,_,_,_,_,rfl⟩;rw [z03,t,P1];rfl
     | some k=>
      refine z1j (t_and ⟨_,rfl,rfl,_,rfl,iteP (show (!decide (V.int (k:Nat)=V.non))=true by rfl) ?_⟩);refine ⟨_,rfl,_,rfl,_,_,rfl,rfl,_,rfl,?_⟩;refine ite2 (λ y=>?_) λ y=>?_
      ·have y:k < b:=by have:=of_decide_eq_true y;omega
       have g:dnB b e p=true:=dn_iff.mpr ⟨r,z,k,ps,y⟩;have Z:¬ ltB b e p=true:=λ x=>by unfold ltB at x;unfold dnB at g;rw [ps] at x g;simp only [L3] at x g;rw [g.2] at x;exact absurd x.2 (by decide)
       rw [if_pos g,if_neg Z,F2];refine ⟨_,rfl,g_name ?_⟩;rw [t];exact ⟨s2,e2,_,_,_,_,_,rfl⟩
      ·have c:¬ dnB b e p=true:=λ x=>by obtain ⟨_,_,k',x,x'⟩:=dn_iff.mp x;rw [ps] at x;cases x;exact y (decide_eq_true (by omega))
       rw [if_neg c,if_pos (zag r z c)];refine ⟨_,rfl,.inl ⟨rfl,_,SqL.of e2⟩,_,rfl,f,_,_,rfl,rfl,e2,V0 (m:=1000) (by rw [C0];exact v) (by decide),Same.keep s2 l,?_,_,_,_,_,_,rfl⟩;rw [z03,t,P1];rfl
    ·have z:¬ p.start < e:=λ y=>z (decide_eq_true (by omega));have c:¬ dnB b e p=true:=λ y=>z (dn_iff.mp y).2.1;have n:¬ ltB b e p=true:=λ y=>by unfold ltB at y;rw [decide_eq_false z,v9,P6] at y;cases y
     rw [if_neg c,if_neg n,F2];exact ⟨s2,e2,_,_,_,_,_,rfl⟩
  rintro σ U ⟨s2,e2,x5,x6,x7,x8,x9,rfl⟩;rw [len,W3 (J0 _)] at e2;rw [len,W3 (J0 _)];have v:=zed b e acts;refine ⟨_,rfl,w_1,λ J D=>⟨_,rfl,.inr (.inr (.inl ⟨J,f,_,_,rfl,rfl,z03,(Same.upd D) _ _ e2,O0 (m:=1001) (by rw [C0];show 1 + (letsF b e acts).length<=1001;omega) (by decide),λ X R=>q X _ ((s2.trans (Same.upd D)).trans (Same.upd R)) ?_⟩))⟩⟩;rw [z03];rfl
section
variable {X:Cx}
def rEqD:R2:=λ x y H Q=>∃ds,HPd H (.tuple ds) x/\HPd H (.tuple ds) y/\S4 ds<=49/\Q (.bl true) H
theorem op_eqD {k:Nat} (hr:Room k X.A):OpR X (X2 .Eq) rEqD:=by
 intro R s σ H x y u v Q I n D h;obtain ⟨m,E,t,M,q⟩:=h;have P:=hr.units;obtain ⟨a,F,rfl,J,l⟩:=E;obtain ⟨b,r,rfl,C,g⟩:=t;cases (show u=.ref a from n);cases (show v=.ref b from D);obtain ⟨c,d,p,_⟩:=I.tuple (SqT.of J);obtain ⟨i,f,z,_⟩:=I.tuple (SqT.of C);have L:=d.length;have N:=f.length;have K:=l.length;have O:=g.length;have G:SeqAt.RcAt X.A s (.ref a) (.ref b) true:=by
  have:=j32 (A:=X.A) (e:=λ _=>true) p z (by omega) (λ j B o=>?_)
  ·rw [ze9,y6] at this
   rwa [show (c.toArray.size == i.toArray.size)=true by simp;omega] at this
  ·have:=z7y I m X.A.in1 F r c i l g d f (show X.A.units + 1 + S4 m + 1 < cLine by omega) j (by simpa using B) (by simpa using o);simpa using this
 exact G X.prog X.w _ _ ⟨.bl _,H,I,rfl,q⟩
end
theorem zjl (es:List CEv):(actsF es).length<=es.length:=by
 have b :∀(es:List CEv) (S:Nat×List PA),(es.foldl (λ (S:Nat×List PA) e=>(S.1 + 1,stepA S.1 S.2 e)) S).2.length<=S.2.length + es.length:=by
  intro es;induction es with
  | nil=>exact λ S=>J0 _
  | cons e es ih=>
   intro S;rw [N3];refine O0 (ih _) ?_;have:(stepA S.1 S.2 e).length<=S.2.length + 1:=by
    cases e with
    | beg h d=>show (S.2++[_]).length<=_;rw [F0];exact J0 _
    | fin h a=>show (S.2.map _).length<=_;rw [C0];omega
   show (stepA S.1 S.2 e).length + es.length<=S.2.length + (es.length + 1);omega
 have:=b es (0,[])
 rwa [show ((0,[]):Nat×List PA).2.length=0 from rfl,O4] at this
theorem zj9 (ns:List Int):(ns.map V.int).all flatV=true:=List.all_eq_true.mpr λ y a=>by obtain ⟨c,_,rfl⟩:=List.mem_map.mp a;rfl
theorem ow_of {pl:List (List (Option Int))} (o:OwW 1 pl) :∀h,h≠0->∀d∈pl[h]?.getD [],d=none:=λ h n d a=>by
 cases e:pl[h]? with
 | none=>rw [e] at a;exact absurd a L0
 | some own=>rw [e] at a;exact o h own e (by omega) d a
def sp_law (K:j0):Sp:=λ vs H Q _=>∃(sc:Addr) (ns:List Int),vs=[.ref sc]/\SqL K H sc (ns.map V.int)/\ns.length<=63/\∀H',Q (.bl true) H'
theorem ok_law (T:TX (kx w) mg) (c0:Ca P w mg base "_law_cell_at" ["script","k"] 1 (z20 (kx w))) (c1:Ca P w mg base "_law_plan" ["script","hands","most","writers"] 3 (z5z (kx w))) (c2:Ca P w mg base "_law_raw" ["script"] 1 (z78 (kx w))) (c3:Ca P w mg base "_law_guided" ["script","many","plan","back","sure"] 5 (z48 (kx w))) (c4:CaE P w mg base "run_copies" ["many","plan","choices","back"] 9 (z53 (kx w))) (c5:Ca P w mg base "_law_deeds" ["events"] 1 (z55 (kx w))) (c6:Ca P w mg base "_law_lets" ["acts","begin","end"] 1 (z67 (kx w))):Fo P w mg base CX0 11 507 fd_law ["script"] (sp_law (kx w)):=by
 refine (F_law w.params).ok sc_law (λ vs H Q E h=>?_) (λ b9 A b7 s H vs Q E b h=>?_)
 ·obtain ⟨sc,n,rfl,_⟩:=h;rfl
 ·obtain ⟨sc,n,rfl,S,hn,q⟩:=h;refine q_of (z10 (QS.mk (ps_set (i:=1) sc_law.nd rfl (K1 rfl) (pe_op opAdd pe_int (pe_op op_mod (pe_op z1r (pe_cal c0 (b.mono (by decide)) rfl (z01 (pv 0) (z01 pe_int pa_nil))) pe_int) pe_int))))
   (z10 (QS.mk (ps_set (i:=2) sc_law.nd rfl (K1 rfl) (pe_cal c1 (b.mono (by decide)) rfl (z01 (pv 0) (z01 (pv 1) (z01 pe_int (z01 pe_int pa_nil)))))))
   (z10 (QS.mk (ps_set (i:=3) sc_law.nd rfl (K1 rfl) (pe_op opAdd pe_int (pe_op op_mul pe_int (pe_op op_mod (pe_op z1r (pe_cal c0 (b.mono (by decide)) rfl (z01 (pv 0) (z01 pe_int pa_nil))) pe_int) pe_int)))))
   (z10 (QS.mk (ps_set (i:=4) sc_law.nd rfl (K1 rfl) (pe_op op_mod (pe_op z1r (pe_cal c0 (b.mono (by decide)) rfl (z01 (pv 0) (z01 pe_int pa_nil))) pe_int) pe_int)))
   (z10 (QS.mk (ps_set (i:=5) sc_law.nd rfl (K1 rfl) (pe_cal c2 (b.mono (by decide)) rfl (z01 (pv 0) pa_nil))))
   (z10 (QS.mk (ps_if (z0a op_gt (pv 4) pe_int (nomark _))
   (z05 (ps_set (i:=5) sc_law.nd rfl (K1 rfl) (pe_ix ix_seq (pe_cal c3 (b.mono (by decide)) rfl (z01 (pv 0) (z01 (pv 3) (z01 (pv 2) (z01 pe_bl (z01 (pe_ix ix_seq (pe_lst (z01 pe_int (z01 pe_int (z01 pe_int (z01 pe_int pa_nil))))) (pv 4) (λ _ _=>rfl)) pa_nil)))))) pe_int (λ _ _=>rfl))))
   z0e))
   (z10 (QS.mk (ps_asg (zkq c4 (b.mono (by decide)) rfl (z01 (pv 3) (z01 (pv 2) (z01 (pv 5) (z01 pe_bl pa_nil))))) (pg_tup rfl (z0g (z0f (i:=6) sc_law.nd rfl (K1 rfl)) (z0g (z0f (i:=7) sc_law.nd rfl (K1 rfl)) z42)))))
   (z10 (QS.mk (ps_set (i:=8) sc_law.nd rfl (K1 rfl) (pe_cal c5 (b.mono (by decide)) rfl (z01 (pv 7) pa_nil))))
   (z10 (QS.mk (ps_for Y2 rfl (z17 (pv 8)) (pg_lst rfl (z0g (z0f (i:=9) sc_law.nd rfl (K1 rfl)) (z0g (z0f (i:=10) sc_law.nd rfl (K1 rfl)) (z0g (z0f (i:=11) sc_law.nd rfl (K1 rfl)) (z0g (z0f (i:=12) sc_law.nd rfl (K1 rfl)) (z0g (z0f (i:=13) sc_law.nd rfl (K1 rfl)) z42))))))
   (z05 (ps_if (PW.pt (pw_and (z0a opEq (pv 9) pe_str (nomark _)) (z2w (z0a z6g (pv 12) pe_non (nomark _)))))
   (z02 (ps_set (i:=14) sc_law.nd rfl (K1 rfl) (pe_cal c6 (b.mono (by decide)) rfl (z01 (pv 8) (z01 (pv 11) (z01 (pv 12) pa_nil)))))
   (z05 (ps_if (PW.pt (pw_or (z0a z6c (pv 10) (pv 14) (by with_unfolding_all rfl)) (pw_or1 (PW.pt (pw_and (z0a opEq (pv 13) pe_int (nomark _)) (z2w (z0a opNe (pv 10) (pe_ix ix_seq (pv 14) pe_int (λ _ _=>rfl)) (nomark _))))))))
   (z05 (ps_ret pe_bl))
   z0e)))
   z0e))))
   (zeq (QS.mk (ps_ret (z39 (op_eqD b) (pv 6) (pe_tup (z01 (pe_tup (z01 pe_str (z01 pe_str pa_nil))) pa_nil)) (nomark _)))))))))))))) ?_
  refine z0b ⟨_,rfl,sc,n,0,rfl,S,λ X=>⟨_,_,rfl,rfl,(show CDivB X 2 from ⟨by decide,by decide⟩),_,_,rfl,rfl,(show (0:Int) < 6 by decide),.inl ⟨_,_,rfl,rfl,g_name ?_⟩⟩⟩;obtain ⟨k,hk,k0,k6⟩ :∃k:Nat,1 + X / 2 % 6=(k:Int)/\0 < k/\k<=6:=⟨(1 + X / 2 % 6).toNat,by omega,by omega,by omega⟩
  rw [hk];refine z0b ⟨_,rfl,_,rfl,sc,n,k,24,1,rfl,S,k0,k6,by decide,by decide,λ G pl H1 s1 g lp _ ow hp=>g_name ?_⟩;have I:=s1.seq S;refine z0b ⟨_,rfl,sc,n,0,rfl,I,λ W=>⟨_,_,rfl,rfl,(show CDivB W 12 from ⟨by decide,by decide⟩),_,_,rfl,rfl,(show (0:Int) < 2 by decide),2,_,rfl,rfl,.inl ⟨by decide,by decide⟩,.inl ⟨_,_,rfl,rfl,g_name ?_⟩⟩⟩;obtain ⟨m,hm,B⟩ :∃m:Nat,3 + 2 * (W / 12 % 2)=(m:Int)/\(m=3\/m=5):=⟨(3 + 2 * (W / 12 % 2)).toNat,by omega,by omega⟩
  rw [hm];refine z0b ⟨_,rfl,sc,n,0,rfl,I,λ M=>⟨_,_,rfl,rfl,(show CDivB M 24 from ⟨by decide,by decide⟩),_,_,rfl,rfl,(show (0:Int) < 4 by decide),?_⟩⟩;obtain ⟨J,b3,b4⟩ :∃m:Nat,M / 24 % 4=(m:Int)/\m < 4:=⟨(M / 24 % 4).toNat,by omega,by omega⟩
  show gName 4 (V.int (M / 24 % 4)) _ _ _;rw [b3];refine g_name ?_;refine z0b ⟨_,rfl,sc,n,rfl,I,hn,λ lr rs H5 s5 _ C a9=>g_name ?_⟩;refine z97 (λ σ' u=>∃(l:Addr) (f:List Int),Same H1 u/\u l=some (.lst (f.map V.int))/\f.length<=360/\σ'=[some (.ref sc),some (.int k),some (.ref G),some (.int m),some (.int J),some (.ref l),none,none,none,none,none,none,none,none,none]) ?_ λ go=>?_;rotate_left
  ·refine z1j ⟨_,rfl,_,_,rfl,rfl,_,rfl,?_⟩;refine ite2 (λ _=>?_) λ _=>go _ _ ⟨lr,rs,s5,C,a9,rfl⟩;refine ⟨_,rfl,_,rfl,_,rfl,w_4,λ l4 a5=>?_⟩;obtain ⟨H6,v_,Y,e6⟩:=newA (.lst [.int 0,.int 0,.int 2,.int 9]) a5;rw [<-v_];obtain ⟨F,a8⟩ :∃F:Int,[V.int 0,.int 0,.int 2,.int 9][J]? = some (.int F):=by
    match J,b4 with
    | 0,_=>exact ⟨_,rfl⟩
    | 1,_=>exact ⟨_,rfl⟩
    | 2,_=>exact ⟨_,rfl⟩
    | 3,_=>exact ⟨_,rfl⟩
   have U:=s5.trans Y;refine ⟨_,rfl,.inl ⟨l4,_,_,.int F,rfl,rfl,SqL.of e6,z08 a8,?_⟩⟩;refine ⟨sc,n,m,G,false,F,pl,rfl,U.seq I,B,plR_of (hp.same U),g,λ t l x f H7 s7 et _ R a2=>?_⟩;exact .inr (.inl ⟨t,_,0,.ref l,rfl,rfl,SqT.of et,z08 (j:=0) rfl,g_name (go _ _ ⟨l,f,U.trans s7,R,a2,rfl⟩)⟩)
  rintro σ H6 ⟨l,f,Y,R,a2,rfl⟩;have b1:=hp.same Y;refine z0b ⟨_,rfl,_,rfl,_,rfl,m,G,l,false,f,pl,rfl,B,b1,g,R,by omega,λ t H7 s7 Z=>?_⟩;obtain ⟨O,wf⟩:=zjj (m:=m) (pl:=pl) (by omega) (ow_of ow) f;have vl:=(zhy (bk:=false) g B f (by omega)).vl;rw [cm_of false B] at Z;generalize (f.foldl (λ N c=>N.go pl false c) (LM.init m pl)).events=es at Z O wf vl;obtain ⟨tp,xs,rfl,et,x1,r1,rfl,h1,x2,r2,rfl,h2,h3⟩:=Z;cases (show r2=[] from h3);obtain ⟨ep,ys,rfl,ee,b0⟩:=h2;have al:All2 (EvV H7) es ys:=z00 (λ _ _ z=>ev_of z) (z7n b0);refine ⟨tp,_,rfl,SqT.of et,rfl,_,_,rfl,_,_,rfl,rfl,?_⟩;refine z0b ⟨_,rfl,ep,es,ys,rfl,ee,al,by omega,wf,λ D zs H8 s8 a0 L=>g_name ?_⟩;have a1:(actsF es).length<=1000:=O0 (zjl es) (by omega);generalize actsF es=acts at O L a1;have len:=z04 L;have h1:=h1.same s8;refine ⟨_,rfl,D,rfl,⟨_,SqL.of a0⟩,?_⟩;refine z3q (K:=KX w.params) (a:=D) (xs:=zs) (λ i σ u=>Same H8 u/\∃x9 x10 x11 x12 x13 x14,σ=[some (.ref sc),some (.int k),some (.ref G),some (.int m),some (.int J),some (.ref l),some x1,some (.ref ep),some (.ref D),x9,x10,x11,x12,x13,x14]) ⟨Same.refl _,_,_,_,_,_,_,rfl⟩ (λ _ σ u _ h=>SqL.of (h.1 _ _ a0)) ?_ ?_
  ·rintro i y σ H9 hy ⟨s9,x9,x10,x11,x12,x13,x14,rfl⟩;obtain ⟨p,b2,bp,rfl,eb⟩:=z0m L hy;have a7:=s9 _ _ eb;refine ⟨bp,_,rfl,SqL.of a7,rfl,_,_,rfl,_,_,rfl,_,_,rfl,_,_,rfl,_,_,rfl,rfl,?_⟩;refine t_and ⟨_,rfl,rfl,_,rfl,?_⟩;cases pd:p.d with
   | some w0=>exact iteN (show ¬ decide (V.str "write" = V.str "read")=true by decide +kernel) (iteF ⟨s9,_,_,_,_,_,_,rfl⟩)
   | none=>
    refine iteP (show decide (V.str "read" = V.str "read")=true by decide +kernel) ?_;cases ps:p.stop with
    | none=>exact ⟨_,rfl,rfl,_,rfl,iteN (show ¬ (!decide (V.non=V.non))=true by decide) ⟨s9,_,_,_,_,_,_,rfl⟩⟩
    | some e=>
     obtain ⟨v,hv,a4⟩:=O i p e b2 pd ps;have wv:wAV p=.int v:=by unfold wAV;rw [pd,ps,hv];rfl
     rw [wv];refine ⟨_,rfl,rfl,_,rfl,iteP (show (!decide (V.int (e:Nat)=V.non))=true by rfl) ?_⟩;refine z0b ⟨_,rfl,_,rfl,_,rfl,D,acts,zs,p.start,e,rfl,s9 _ _ a0,z00 (λ _ _ z=>z.same s9) L,a1,λ r b8 a3 C=>g_name ?_⟩;have b5:v∈lstF p.start e 0 acts :: letsF p.start e acts:=by
      rcases a4 with z|z
      ·rw [z];exact .head _
      ·exact .tail _ z.1
     refine z1j (t_or ⟨_,rfl,_,rfl,r,_,rfl,.inl (SqL.of C),rfl,zj9 _,_,rfl,iteN ?_ ?_⟩)
     ·show ¬ (!inV (.int v) ((lstF p.start e 0 acts :: letsF p.start e acts).map V.int))=true;rw [z5o,decide_eq_true b5];decide
     refine t_and ⟨_,rfl,rfl,_,rfl,ite2 (λ z=>?_) λ z=>iteF ⟨s9.trans a3,_,_,_,_,_,_,rfl⟩⟩;have z:p.hand=0:=by have z:=of_decide_eq_true z;injection z with z;exact Int.ofNat_inj.mp z
     have ev:v=lstF p.start e 0 acts:=by
      rcases a4 with y|y
      ·exact y
      ·exact absurd z y.2
     refine ⟨_,rfl,_,rfl,.inl ⟨r,_,0,.int (lstF p.start e 0 acts),rfl,rfl,SqL.of C,z08 (j:=0) rfl,rfl,_,rfl,iteN ?_ ⟨s9.trans a3,_,_,_,_,_,_,rfl⟩⟩⟩;rw [ev];intro y;rw [decide_eq_true rfl] at y;cases y
  rintro σ H9 ⟨s9,x9,x10,x11,x12,x13,x14,rfl⟩;refine ⟨_,rfl,w_2,λ p1 b6=>⟨w_1,λ p2 a6=>?_⟩⟩;have u1:=Same.upd (o:=.tup [.str "r",.str "register"]) b6;have u2:=Same.upd (o:=.tup [.ref p1]) a6;exact ⟨_,h1.same (s9.trans (u1.trans u2)),⟨p2,_,rfl,z03,_,_,rfl,⟨p1,_,rfl,u2 _ _ z03,_,_,rfl,rfl,_,_,rfl,rfl,rfl⟩,rfl⟩,by decide,q _⟩
end
theorem all_law {P:Program} {w:C1} {mg:Str->Option Value} {base:Heap} (T:TX (kx w) mg):Fo P w mg base CX0 11 507 fd_law ["script"] (sp_law (kx w)):=by have m:=@cal_mk P w (kx w) mg base;have k:=@zkx P w (kx w) mg base;have b:=m T (z6e _) (ze3 _) (zdo _) (zcf T );have o:=m T (z4e _) (zco _) (zcv _) (zau T b);have Z:=m T (z64 _) (ze6 _) (zds _) (zcg T o);have a:=m T (z31 _) (z99 _) (z8j _) (z82 T );have i:=m T (z7r _) (zh0 _) (zhh _) (zea T );have q:=m T (z7v _) (zha _) (zhk _) (zfu T i Z a);have r:=m T (z7j _) (zhn _) (zfz _) (zfi T );have D:=m T (z5j _) (ze0 _) (zez _) (zda T a r i);have A:=m T (z2x _) (z8r _) (z8n _) (z81 T D);have X:=m T (z8h _) (zgp _) (zgf _) (zek T b);have d:=m T (z5w _) (zf1 _) (zfo _) (zct T a X);have L:=m T (z4p _) (zcz _) (zcy _) (zap T o);have u:=m T (z66 _) (zdx _) (zfj _) (zd1 T d r q);have I:=m T (zb7 _) (zjd _) (zj2 _) (zho T d L);have Y:=m T (z2v _) (z8z _) (z92 _) (z84 T );have z:=m T (z2u _) (z9n _) (z8s _) (z7z T u I Y);have v:=m T (z4m _) (zci _) (zcd _) (zb4 T A z);have j:=m T (z83 _) (zgd _) (zhl _) (zf0 T );have s:=m T (z3h _) (zb0 _) (zay _) (z96 T a q);have a1:=m T (z89 _) (zhd _) (zhi _) (zdk T j s);have S:=k T (z3k _) (zai _) (zb5 _) (z9v T b a1 j);have e:=m T (z26 _) (z80 _) (z7h _) (z70 T );have n:=m T (z5u _) (zes _) (ze7 _) (zcr T );have M:=m T (z3l _) (zae _) (zb8 _) (z8y T n);have W:=m T (z4g _) (zcn _) (zcl _) (zaz T e M);have h:=zg3 (P:=P) (w:=w) (base:=base) T;have l:=zgk (P:=P) (w:=w) (base:=base) T;have f:=z85 (P:=P) (w:=w) (base:=base) T l;have g:=z4j (P:=P) (w:=w) (base:=base) T;have t:=z1t (P:=P) (w:=w) (base:=base) T h f g;have R:=z3s (P:=P) (w:=w) (base:=base) T g t;have C:=z2p (P:=P) (w:=w) (base:=base) T l;have U:=z6u (P:=P) (w:=w) (base:=base) T C R;have E:=z3v (P:=P) (w:=w) (base:=base) T h f;have Q:=z71 (P:=P) (w:=w) (base:=base) T E U;have x:=zhb (P:=P) (w:=w) (base:=base) T;have F:=k T (z3f _) (za5 _) (zaj _) (z8w T S x Q v);have N:=m T (z3g _) (zax _) (za8 _) (z8m T );have c:=m T (z4d _) (zd5 _) (zdc _) (zaa T );have p:=m T (z4t _) (zcc _) (zch _) (zba T );have G:=m T (z3j _) (za4 _) (zaf _) (z9s T );have V:=m T (z28 _) (z7s _) (z8c _) (z6t T p G);have y:=m T (z4u _) (zd7 _) (zck _) (za7 T V);have B:=m T (z3x _) (zbc _) (zad _) (z9q T c p y);have a0:=m T (z34 _) (z9m _) (z8l _) (z8d T c);have O:=m T (z5r _) (zet _) (zff _) (zcu T );have K:=m T (z2z _) (z9l _) (z90 _) (z7u T N n a0 c B);have H:=m T (z3u _) (za6 _) (zat _) (z91 T );have J:=m T (z4q _) (zdb _) (zcq _) (zaq T );exact ok_law T e W O K F H J
end K32
open PySem PySem.W PyProof.Rows
set_option maxRecDepth 100000 in
set_option maxHeartbeats 0 in
theorem PySem.Challenge.cw_talejudge_k32_whole_regular_without_back_holds : PySem.Challenge.rw_talejudge_k32_whole_regular_without_back.Holds := by
 w_on;o_law
 refine holds_open (q:=K32.viewX) (loose:=K32.looseX) (Xt:=K32.XtX) (XP:=XL K32.viewX []) (Yf:=Hook.obs K32.HX) (Ya:=Hook.val K32.HX) (YP:=Hook.says K32.HX) (N:=200000) K32.leftX (Hook.of K32.HX) (Hook.keeps K32.HX) (λ s e=>xl_of s (Bool.and_eq_true_iff.mp e).1) XL.keeps (by rfl) (by rfl) (by rfl) (λ s e=>recFacts_of (Bool.and_eq_true_iff.mp e).2) (by rfl) (by assumption) (by decide +kernel) ⟨rfl,rfl,rfl,rfl,rfl,by decide +kernel⟩ ?hw ?hc
 case hw=>w_witness2
 case hc=>
  refine L2.walk_of (l:=PySem.Challenge.rw_talejudge_k32_whole_regular_without_back) (n:=63) (k:=11) (x:="script") (K:=K32.KX) (CX:=λ _=>L2.CX0) (sp:=λ w=>K32.sp_law (K32.KX w.params)) rfl (by decide) rfl ⟨rfl,by decide,by decide,rfl⟩ (λ w h Y=>PySem.W.kIn_of Y) ?F ?S ?C
  case F=>intro w i o h KX G b;have T:=L2.TX.mk' KX G;have f:=b.symm.trans (T.of (K32.g_law _));cases f;exact ⟨K32.fd_law,λ s u=>.of_eq rfl,λ p r j=>K32.all_law T⟩
  case S=>exact λ w H a c d m g=>⟨a,c,rfl,g,d,λ _=>rfl⟩
  case C=>exact λ _ _ _ _ _ z=>z
