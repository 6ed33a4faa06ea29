import PyProof.Rows.All
import Wide.All
import OpenK.AllK
import Wide.FinOn
import Lean
import PyProof.EqAt
import PyProof.EqKinds
import PyProof.TupleCall
import Open.Tops
import KE.KIntText
import PyProof.ZipIter
import PyProof.ReprRoads
import PyProof.Draws
import KE.KDictSum
import KE.KSortedM
import OpenK.KRaise
import OpenK.KOwn
import PyProof.ExcBaseAll.ValueError
import KE.KTryMore
import PyProof.NsDelKeeps
import KE.KDictOf
import KE.KEqDict
import PyProof.DictWalks
import PyProof.TupleKey
import PyProof.MinMaxWalk
import KE.KSortTup
import PyProof.StrWalks
import KE.KRevIter
import KE.KListMore
import PyProof.StrLawsTight
import PyProof.StrLawsChain
import PySem.Challenge.RW_talejudge_k51_orders_explain
open PySem.W renaming Frag->b0,nsIn->N0,kia_one->A3,keepIn->K3,kia_tup->X4,fnOf->G6,findIn->v7,codeIn->E8,methodObj->D9,kitx_list->E9,kitx_dict->F9,instObj->j06,lookIn->j0h,cellsFrom_some->j22,kitx_tuple->j3f,callWith_K->j3g,specialIn->j41,kitx_none->j42,kitx_bool->j43
open PySem renaming wpAny_bind->c0,Shared->A0,wpAny_pure->C0,mainGlobals->L0,Params->M0,wpAny->Q0,World->y1,model->A1,reduceHash->F1,starEach->K1,compareOp->v2,Around->A2,wpAny_holding->B2,wpAny_newObj_type->E2,boot_len->W2,OsState->X2,wpAny_call_entry->Y2,wpAny_callSpecial?_slot->i3,wpAny_truthy_bool->B3,treeTable->F3,SetTable->G3,eval->Y3,wpAny_mono->Z3,codeAny_builtin->c4,wpAny_pyIter_tuple->C4,wpAny_typeOf->L4,binaryOp->M4,sysModules->R4,wpAny_setField->Z4,rawInt->c5,backTo->d5,wpAny_Call_Name_kw->A5,Builtin->E5,wpAny_passesOwn->L5,wpAny_attempt->N5,wpAny_setState_of->Y5,intKind->Z5,mem_of_lookup->d6,NameKind->j6,wpAny_isInstance->y6,codeAny->z6,bootBuiltins->A6,Keyword->C6,wpAny_setEntries_of->F6,attributeBase->K6,wpAny_rule->P6,tupleKind_room_in1->Q6,pyNext->R6,tupleKind->T6,sliceBounds->U6,eqIsQuiet->V6,placesWithHash->a7,wpAny_field->E7,keywordEach->F7,callSpecialIfBoundUnlessNone?->G7,importedModules->L7,codeAny_mono->S7,wpAny_seqItems->Z7,getattributeRaised->a8,wpAny_pyIter_list->u8,wpAny_pyIter_enum->z8,getItem->A8,foldedSetIterable->B8,behindInMarks->D8,wpAny_pyNext_tuple_item->Q8,swapsWith->S8,wpAny_pyNext_tuple_end->d9,strKind_is->f9,call_meets->g9,assignEach->i9,Paired->j9,IsPart->o9,wpAny_execs_nil->q9,letOwnedTupleGo->u9,getAttrByItsOwn->z9,wpAny_of_eq->O9,wpAny_fieldsOf->P9,isSubtype_type->Q9,firstArgMember->S9,boundAndCalled->V9,backToKw->Y9,atKey->Z9,valueAt->j01,setNext->j02,relabel->j03,Fin->j07,plainId_quiet->j0c,holding->j13,getAttr?->j14,fits_of_scanBound->j15,concat_meets->j16,callerA->j17,wpAny_askSetting->j1j,noFill_tuple_add->j20,wpAny_throw->j27,subscripted->j28,wpAny_ite_split->j2g,dictSet->j2i,wpAny_letOwnedTupleGo_enum->j35,typeLookup->j36,relayAll->j38,pyIter->j39,hookBehind->j3a,Thread->j3c,Result->j3e
open PySem.PyData renaming keyHash->d0,depthAll->O1,depth->B4,tuple->V4,list->N7,int->c8
open List renaming not_mem_nil->o0,length_map->D0,getElem?_eq_getElem->J0,length_append->K0,size_toArray->O0,mem_of_getElem?->R0,mem_cons->T0,getElem?_map->V0,length_cons->W0,map_cons->v1,mem_cons_self->B1,mem_append_right->D1,mem_cons_of_mem->G1,map_append->L1,range->W1,forall_mem_cons->X1,length_range->x2,length_nil->G2,replicate->J2,length_filter_le->U2,getElem?_cons_succ->Z2,getElem?_append_right->c3,getElem?_append_left->u3,append_nil->C3,getElem?_range->O3,length_replicate->Q3,length_take->R3,map_map->S3,getElem?_cons_zero->X3,lookup_cons->g4,length_drop->i4,getElem?_eq_none->y4,length_set->D4,find?_cons->E4,getElem?_mapIdx->F4,foldl_append->G4,ext_getElem?->J4,getElem_mem->N4,filter_cons->O4,drop_zero->P4,foldl_cons->i5,append_assoc->C5,mem_append_left->P5,length_eraseIdx->Q5,length->S5,getElem?_modify->U5,nodup_cons->B6,take_of_length_le->M6,nodup_append->N6,all_eq_true->Z6,all_cons->d7,length_reverse->z7,filterMap_cons->A7,map_nil->C7,length_modify->K7,reverse_cons->W7,any_cons->X7,getElem?_replicate->d8,ext_getElem->g8,range_succ->K8,getElem?_toArray->P8,take_zero->X8,take_succ->Y8,mem_of_mem_take->Z8,mem_of_mem_drop->a9,take_length->j0d,any_eq_true->j0e,of_mem_zip->j0j,forIn_cons->j10,dropLast_concat_getLast->j11,length_eraseIdx_of_lt->j1f,forIn_nil->j1g,mem_or_eq_of_mem_set->j24,drop_eq_getElem_cons->j25,pairwise_lt_range->j2j,getElem?_set_self->j30,any_map->j31,all_map->j32,take_append_drop->j3i,eraseIdx_sublist->j3j,getElem?_set_ne->j44
open PySem.Builtin.Tuple renaming tupleHashOf->u0,tupleExact->D5,tupleItemsOf->J9
open PySem.Heap renaming get?_push_of_some->B0,lt_size->P0,get?_push_size->S0,get?_update_self->V2,DictOf->P3,size_push->W3,SameBut->c6,get?_update_other->O6,ExtBut->j45
open Nat renaming le_refl->F0,le_trans->G0,ne_of_lt->Z0,lt_of_le_of_lt->C1,lt_of_lt_of_le->J1,lt_succ_of_lt->N1,zero_le->Q1,le_succ->F2,lt_succ_self->K2,ne_of_gt->E3,lt_irrefl->N3,le_of_lt->T3,zero_add->K4,succ_le_succ->T4,not_lt_zero->n5,le_succ_of_le->S6,le_of_not_lt->c7,le_add_right->n8,toDigits->F8,lt_trans->G8,le_of_eq->J8,mul_le_mul_right->n9,lt_trichotomy->j08,lt_of_succ_lt->j09,lt_of_succ_lt_succ->j3h
open Bool renaming false_ne_true->U0,and_eq_true->j3,true_and->Y7,false_and->c9,not_eq_true->j0g,and_false->j1i,or_false->j2f
open Or renaming inr->X0,inl->Y0
open PySem.Value renaming ref->E1,none->O2,type->D3,int->E6,str->X6,bool->J7,isStrOf->U7,isInt->j3b
open PySem.SetTable renaming below->P1,grown->z5,insertAt->A9,advance->j40
open Option.some renaming inj->U1
open PySem.Str renaming ofString->V1
open PySem.NameKind renaming free->Y1,cell->U8
open PyProof.Rows renaming boot_isinstance->Z1,IntsAre->v3,callWith_type1->V3,slot_tuple_getitem->u4,boot_tuple->S4,boot_dict->W6,AllBare->C8,callWith_builtin1->W8,envOfC->U9,boot_str->W9,boot_int->X9,subscriptTail->j0b,boot_bool->j21,boot_sorted->j29,tail_any->j37,Subscript_->j3d
open Array renaming length_toList->C2,getElem?_eq_none->L3,getElem?_toList->j4,getElem?_eq_getElem->A4
open PySem.PassesOwn renaming never->D2
open PySem.Obj renaming mapFields->N2,mapSeq->P7,mapDictKeys->O8,putSet->j00
open PySem.Heap.SameBut renaming update->P2
open Ne renaming symm->Q2
open Int renaming toNat_natCast->y3,toNat_of_nonneg->o6,emod_lt_of_pos->J6,emod_nonneg->B7,toNat->C9,zero_add->j0a
open Pure renaming pure->J3,pure->j2h
open Sum.inl renaming inj->M3
open ForInStep renaming yield->U3
open List.Pairwise renaming map->Q4,nil->L8
open PySem.Builtin.SmallTypes renaming nextOf->U4,ownedTupleFields->Y4
open PySem.Builtin.Slice renaming slicePlaces->j5,sliceAdjust->i7,sliceApplied->K9
open List.Perm renaming refl->u5
open Sum.inr renaming inj->B5
open PySem.W.Fast renaming tw16697807410369149715->F5,tw13926502685295537346->G5,tw13383273872528276517->J5,te14364793385576792824->K5,tw4214721358667687652->O5,tw14364793385576792824->i8
open False renaming elim->M5
open PySem.SeqAt.EqAt renaming same->V5,str_str->M8,of_refs->N8,str_int->j2a,int_str->j2b,int_int->j2c
open PySem.Builtin.Dict renaming updateFrom->X5,selfAndRest->j04,addKeywords->j05,pairItems->j0f
open PySem.F renaming slot_tuple_iterator_next->g6,plainAttrs_list->u6,args_tuple_add_2->M7,entry_tuple_add->V7,slot_tuple_add->b8,slot_dict_get->j8,plain_list_iadd->j1c,plainAttrs_dict->j1d,args_dict_get_2->j1e,entry_dict_get->j23,args_tuple_iterator_next_1->j26,slot_dict_pop->j2d,entry_tuple_iterator_next->j2e
open PySem.Calls renaming spliced_cons->D6,spliced_nil->L6,callWith_builtin->o8,evalArgs_plain->V8,Name_function_global->j1b,call_function_entry->j1h
open PySem.Shared renaming TypeIs->Y6
open PySem.SetTable.below renaming go->b7
open Option renaming map_some->u7,isSome_map->O7,map->j0i
open PySem.Code renaming builtin->D7
open PySem.Paired renaming length->Q7
open PySem.SeqAt.RcAt renaming lists->B9
open PUnit renaming unit->G9
open PySem.Builtin.List renaming listLengthHint->L9,listExtendWith->M9,listFitsIndex->N9
open PySem.Heap.IsSliceOf renaming new->j12
open PySem.SetTable.probe renaming go->j18
open PySem.SeqAt renaming EqAt->j19
open PySem.W.KIN renaming val_back->j1a
open PySem.Heap.DictOf renaming new->j33
open PySem.Around renaming under_plainId->j34
open PyProof.Rows.F renaming entry_set_update_loop->j46
open PySem.Data renaming fields->j47
set_option maxRecDepth 100000
set_option maxHeartbeats 0
namespace K51
open_shared pre for PySem.Challenge.pw_talejudge_k51_orders_explain leaving 39
end K51
set_option maxHeartbeats 200000
-- CHANGE: your row's module here,as the last of these rows
set_option Elab.async false
set_option linter.all false
namespace L2
open PySem PySem.Spec PyProof.Rows
abbrev Key:=Sum Int Str
noncomputable def keyIs:Key->Value->Bool
 | .inl k,v=>j3b k v
 | .inr x,v=>U7 x v
noncomputable def keyH (w:y1):Key->Int
 | .inl k=>hashInt k
 | .inr x=>hashStr w x
theorem z0r :∀{k:Key} {v:Value},keyIs k v=true->(∃i t,k=Sum.inl i/\v=E6 i t)\/(∃x t,k=Sum.inr x/\v=X6 x t)
 | .inl i,v,h=>by obtain ⟨t,e⟩:=Value.isInt_shape (k:=i) (v:=v) h;exact .inl ⟨i,t,rfl,e⟩
 | .inr x,v,h=>by obtain ⟨t,e⟩:=Value.isStrOf_shape (x:=x) (v:=v) h;exact .inr ⟨x,t,rfl,e⟩
theorem zgn (i:Int) (t:Tok):keyIs (.inl i) (.int i t)=true:=by simp [keyIs,j3b]
theorem zg5 (x:Str) (t:Tok):keyIs (.inr x) (.str x t)=true:=by simp [keyIs,U7]
theorem key_ll (a b:Int):decide ((Sum.inl a:Key)=Sum.inl b)=(a == b):=by
 by_cases e:a=b
 ·subst e;simp
 ·have h:¬ (Sum.inl a:Key)=Sum.inl b:=λ q=>e (M3 q);rw [decide_eq_false h];exact (beq_eq_false_iff_ne.mpr e).symm
theorem key_rr (a b:Str):decide ((Sum.inr a:Key)=Sum.inr b)=decide (a=b):=by
 by_cases e:a=b
 ·subst e;simp
 ·have h:¬ (Sum.inr a:Key)=Sum.inr b:=λ q=>e (B5 q);rw [decide_eq_false h,decide_eq_false e]
theorem key_lr (a:Int) (b:Str):decide ((Sum.inl a:Key)=Sum.inr b)=false:=decide_eq_false (λ q=>nomatch q)
theorem key_rl (a:Str) (b:Int):decide ((Sum.inr a:Key)=Sum.inl b)=false:=decide_eq_false (λ q=>nomatch q)
noncomputable def z0k (prog:Program) (w:y1):PySem.KeyKind prog w Key where
 is:=keyIs
 hash:=keyH w
 inj:=λ v a b ha hb=>by
  rcases z0r ha with ⟨i,t,rfl,rfl⟩|⟨x,t,rfl,rfl⟩
  ·rcases z0r hb with ⟨j,u,rfl,e⟩|⟨y,u,rfl,e⟩
   ·injection e with e1 _;rw [e1]
   ·exact nomatch e
  ·rcases z0r hb with ⟨j,u,rfl,e⟩|⟨y,u,rfl,e⟩
   ·exact nomatch e
   ·injection e with e1 _;rw [e1]
 byValue:=λ k v h=>by rcases z0r h with ⟨i,t,rfl,rfl⟩|⟨x,t,rfl,rfl⟩<;>rfl
 pyHash:=λ hv h=>by
  rcases z0r hv with ⟨i,t,rfl,rfl⟩|⟨x,t,rfl,rfl⟩
  ·exact wpAny_pyHash_int h
  ·exact wpAny_pyHash_str h
 eqBool:=λ hu hv h=>by
  rcases z0r hu with ⟨i,t,rfl,rfl⟩|⟨x,t,rfl,rfl⟩
  ·rcases z0r hv with ⟨j,u,rfl,rfl⟩|⟨y,u,rfl,rfl⟩
   ·rw [key_ll] at h;exact wpAny_eqBool_int h
   ·rw [key_lr] at h;exact j2b i t y u _ _ _ _ h
  ·rcases z0r hv with ⟨j,u,rfl,rfl⟩|⟨y,u,rfl,rfl⟩
   ·rw [key_rl] at h;exact j2a x t j u _ _ _ _ h
   ·rw [key_rr] at h;exact wpAny_eqBool_str h
 «strs»:=λ k x t v h=>by
  rcases z0r h with ⟨i,u,rfl,e⟩|⟨y,u,rfl,e⟩
  ·exact nomatch e
  ·injection e with e1 _;subst e1;cases v<;>rfl
theorem zcp (prog:Program) (w:y1) (i:Int) (t:Tok):(z0k prog w).is (.inl i) (.int i t)=true:=zgn i t
theorem zd0 (prog:Program) (w:y1) (x:Str) (t:Tok):(z0k prog w).is (.inr x) (.str x t)=true:=zg5 x t
inductive V where
 | non|bl (b:Bool)|int (i:Int)|str (x:Str)|byt (b:Array UInt8)|flt (b:UInt64)|ref (a:Addr)|ty (n:String)
 deriving DecidableEq
noncomputable def RelV:V->Value->Prop
 | .non,u=>u=O2
 | .bl b,u=>u=J7 b
 | .int i,u=>∃t,u=E6 i t
 | .str x,u=>∃t,u=X6 x t
 | .byt b,u=>∃t,u=Value.bytes b t
 | .flt b,u=>∃t,u=Value.float b t
 | .ref a,u=>u=E1 a
 | .ty n,u=>u=D3 n
abbrev Vals:List V->List Value->Prop:=j9 RelV
theorem Vals.length {xs:List V} {us:List Value} (r:Vals xs us):xs.length=us.length:=Q7 r
theorem Vals.get :∀{xs:List V} {us:List Value} {i:Nat} {x:V},Vals xs us->xs[i]? = some x->∃u,us[i]? = some u/\RelV x u
 | _,_,_,_,.nil,e=>by simp at e
 | _,_,0,_,.cons r _,e=>by simp at e;subst e;exact ⟨_,rfl,r⟩
 | _,_,i + 1,x,.cons _ t,e=>by obtain ⟨u,h1,h2⟩:=Vals.get (i:=i) (x:=x) t (by simpa using e);exact ⟨u,by simpa using h1,h2⟩
theorem Vals.set {x:V} {u:Value} (r:RelV x u) :∀{xs:List V} {us:List Value} (i:Nat),Vals xs us->Vals (xs.set i x) (us.set i u)
 | _,_,_,.nil=>.nil
 | _,_,0,.cons _ t=>.cons r t
 | _,_,i + 1,.cons q t=>.cons q (Vals.set r i t)
theorem Vals.append :∀{xs ys:List V} {us ws:List Value},Vals xs us->Vals ys ws->Vals (xs++ys) (us++ws)
 | _,_,_,_,.nil,s=>s
 | _,_,_,_,.cons r t,s=>.cons r (Vals.append t s)
theorem Vals.take :∀{xs:List V} {us:List Value} (n:Nat),Vals xs us->Vals (xs.take n) (us.take n)
 | _,_,0,_=>.nil
 | _,_,_ + 1,.nil=>.nil
 | _,_,n + 1,.cons r t=>.cons r (Vals.take n t)
theorem Vals.drop :∀{xs:List V} {us:List Value} (n:Nat),Vals xs us->Vals (xs.drop n) (us.drop n)
 | _,_,0,r=>r
 | _,_,_ + 1,.nil=>.nil
 | _,_,n + 1,.cons _ t=>Vals.drop n t
noncomputable def RelO:Option V->Option Value->Prop
 | some v,some u=>RelV v u
 | none,none=>True
 | _,_=>False
def KV {κ:Type}:List (κ×V)->List (κ×Value)->Prop:=j9 λ (p:κ×V) (q:κ×Value)=>p.1=q.1/\RelV p.2 q.2
noncomputable def kV:Key->V
 | .inl i=>.int i
 | .inr x=>.str x
inductive HO where
 | lst (xs:List V)
 | tup (xs:List V)
 | dK (kvs:List (Key×V))|dT (kvs:List (List Key×V))
 | set (S:Int->Bool) (n:Nat)
 | ins (C dx:Addr) (fs:List (Str×V))
 | own (x:Addr)
 | xd (fs:List (Str×V))
 | met (f x:Addr)
 | rng (lo hi:Int)
 | frz (o:Obj) (u:HO)
 | tbl (ps:Array Value)
 | ext (φ:Heap->Prop)
abbrev Hp:=Addr->Option HO
noncomputable def upd (H:Hp) (a:Addr) (o:HO):Hp:=λ b=>if b=a then some o else H b
theorem upd_same {H:Hp} {a:Addr} {o:HO}:upd H a o a=some o:=by unfold upd;rw [if_pos rfl]
theorem upd_ne {H:Hp} {a b:Addr} {o:HO} (h:b≠a):upd H a o b=H b:=by unfold upd;rw [if_neg h]
theorem ne_of {H:Hp} {a b:Addr} {o u:HO} (h:H a=some o) (h':H b=some u) (d:o≠u):a≠b:=by intro e;subst e;rw [h] at h';exact d (U1 h')
theorem z0b {H:Hp} {a b:Addr} {o:HO} (h:H a=some o) (h':H b=none):a≠b:=by intro e;subst e;rw [h] at h';cases h'
section
variable (P:Program) (w:y1)
def IsTupN (h:Heap) (a:Addr) (items:Array Value):Prop:=IsTup h a items/\∃o,h.get? a=some o/\o.dict=none
theorem IsTupN.new (h:Heap) (items:Array Value):IsTupN (h.push { cls:=.type "tuple",data:=.seq items }) h.objs.size items:=⟨IsTup.new _ _,_,S0 _ rfl,rfl⟩
noncomputable def ObjOk (H:Hp) (h:Heap) (a:Addr):HO->Prop
 | .lst xs=>xs.length<=sizeLine/\∃(its:List Value) (n:Nat),Vals xs its/\h.get? a=some { cls:=.type "list",data:=.seq its.toArray n }
 | .tup xs=>xs.length<=sizeLine/\∃its:List Value,Vals xs its/\IsTupN h a its.toArray
 | .dK kvs=>kvs.length<=sizeLine/\(a == R4)=false/\∃vs,KV kvs vs/\h.DictOf (z0k P w) a vs
 | .dT kvs=>kvs.length<=sizeLine/\(a == R4)=false/\∃xs:List (List Key×Addr×Value),
   j9 (λ (p:List Key×V) (q:List Key×Addr×Value)=>p.1=q.1/\H q.2.1=some (.tup (p.1.map kV))/\RelV p.2 q.2.2) kvs xs/\
   ∃o es ep,h.get? a=some o/\o.ExactDict/\o.data=.dict es ep/\es.toList=xs.map (entryOfKey (T6 (z0k P w)))/\(xs.map (·.1)).Nodup
 | .set S n=>h.SetOf (Z5 P w) a S n
 | .ins C dx fs=>H dx=some (.own a)/\fs.length<=1000/\dx≠a/\h.get? a=some (j06 C dx)/\
   ∃mA,h.Ns1 dx mA/\(∀f,RelO (fs.lookup f) (mA f))/\PySem.Within mA (fs.map (·.1))
 | .own _=>∃o,h.get? a=some o
 | .xd fs=>∃mA,h.Ns1 a mA/\∀f,RelO (fs.lookup f) (mA f)
 | .rng lo hi=>∃t u v,h.get? a=some { cls:=.type "range",data:=.fields #[.int lo t,.int hi u,.int 1 v] }
 | .frz o u=>h.get? a=some o/\ObjOk H h a u
 | .tbl ps=>h.get? a=some { cls:=.none,data:=.fields ps }
 | .met f x=>h.get? a=some (D9 (.ref f) (.ref x))
 | .ext φ=>φ h/\(∃o,h.get? a=some o)/\∀h1 h2:Heap,φ h1->(∀o,h1.get? a=some o->h2.get? a=some o)->φ h2
def HOk (H:Hp) (h:Heap):Prop:=∀a o,H a=some o->ObjOk P w H h a o
end
section
variable {P:Program} {w:y1} {H H':Hp} {h h':Heap} {a:Addr} {o:HO}
theorem ObjOk.lt (x:ObjOk P w H h a o):a < h.objs.size:=by
 cases o with
 | lst xs=>obtain ⟨_,_,_,_,e⟩:=x;exact P0 e
 | tup xs=>obtain ⟨_,_,_,p⟩:=x;exact p.1.lt
 | dK kvs=>obtain ⟨_,_,_,_,o,_,_,e,_⟩:=x;exact P0 e
 | dT kvs=>obtain ⟨_,_,_,_,o,_,_,e,_⟩:=x;exact P0 e
 | set S n=>obtain ⟨o,_,_,_,e,_⟩:=x;exact P0 e
 | ins C dx fs=>obtain ⟨_,_,_,e,_⟩:=x;exact P0 e
 | own y=>obtain ⟨_,e⟩:=x;exact P0 e
 | xd fs=>obtain ⟨_,⟨_,_,_,e,_⟩,_⟩:=x;exact P0 e
 | rng lo hi=>obtain ⟨_,_,_,e⟩:=x;exact P0 e
 | frz ob u=>obtain ⟨e,_⟩:=x;exact P0 e
 | tbl ps=>exact P0 (show h.get? a=some _ from x)
 | met f y=>exact P0 (show h.get? a=some _ from x)
 | ext φ=>obtain ⟨_,⟨_,e⟩,_⟩:=x;exact P0 e
theorem Paired.mapP {α β:Type} {F G:α->β->Prop} :∀{l₁:List α} {l₂:List β},j9 F l₁ l₂->(∀a b,F a b->G a b)->j9 G l₁ l₂
 | _,_,.nil,_=>.nil
 | _,_,.cons r t,f=>.cons (f _ _ r) (Paired.mapP t f)
theorem ObjOk.stay (x:ObjOk P w H h a o) (k :∀b u,(b=a\/H b=some (.own a))->h.get? b=some u->h'.get? b=some u)
  (ho :∀b,H b=some (.own a)->H' b=some (.own a)) (ht :∀b xs,H b=some (.tup xs)->H' b=some (.tup xs)):ObjOk P w H' h' a o:=by
 induction o with
 | lst xs=>obtain ⟨z,its,n,r,e⟩:=x;exact ⟨z,its,n,r,k _ _ (.inl rfl) e⟩
 | tup xs=>obtain ⟨z,its,r,⟨ob,e,c⟩,o2,e2,d2⟩:=x;exact ⟨z,its,r,⟨ob,k _ _ (.inl rfl) e,c⟩,o2,k _ _ (.inl rfl) e2,d2⟩
 | dK kvs=>obtain ⟨z,y,vs,r,ob,es,ep,e,c⟩:=x;exact ⟨z,y,vs,r,ob,es,ep,k _ _ (.inl rfl) e,c⟩
 | dT kvs=>obtain ⟨z,y,xs,r,ob,es,ep,e,c⟩:=x;exact ⟨z,y,xs,Paired.mapP r λ p q z=>⟨z.1,ht _ _ z.2.1,z.2.2⟩,ob,es,ep,k _ _ (.inl rfl) e,c⟩
 | set S n=>obtain ⟨ob,es,ep,t,e,c⟩:=x;exact ⟨ob,es,ep,t,k _ _ (.inl rfl) e,c⟩
 | ins C dx fs=>obtain ⟨d,z,ne,e,mA,⟨od,es,ep,e2,c⟩,r⟩:=x;exact ⟨ho _ d,z,ne,k _ _ (.inl rfl) e,mA,⟨od,es,ep,k _ _ (.inr d) e2,c⟩,r⟩
 | own y=>obtain ⟨ob,e⟩:=x;exact ⟨ob,k _ _ (.inl rfl) e⟩
 | xd fs=>obtain ⟨mA,⟨od,es,ep,e,c⟩,r⟩:=x;exact ⟨mA,⟨od,es,ep,k _ _ (.inl rfl) e,c⟩,r⟩
 | rng lo hi=>obtain ⟨t,u,v,e⟩:=x;exact ⟨t,u,v,k _ _ (.inl rfl) e⟩
 | frz ob u ih=>obtain ⟨e,q⟩:=x;exact ⟨k _ _ (.inl rfl) e,ih q⟩
 | tbl ps=>have e:h.get? a=some { cls:=.none,data:=.fields ps }:=x;show h'.get? a=some { cls:=.none,data:=.fields ps };exact k a _ (.inl rfl) e
 | met f y=>have e:h.get? a=some (D9 (.ref f) (.ref y)):=x;show h'.get? a=some (D9 (.ref f) (.ref y));exact k a _ (.inl rfl) e
 | ext φ=>obtain ⟨p,⟨o,e⟩,st⟩:=x;exact ⟨st _ _ p λ o q=>k _ _ (.inl rfl) q,⟨o,k _ _ (.inl rfl) e⟩,st⟩
theorem HOk.lt (x:HOk P w H h) (e:H a=some o):a < h.objs.size:=(x a o e).lt
theorem HOk.fresh (x:HOk P w H h) (e:h.objs.size<=a):H a=none:=by
 cases q:H a with
 | none=>rfl
 | some u=>exact absurd (J1 (x.lt q) e) (N3 _)
theorem HOk.kept (x:HOk P w H h) (k :∀b u,h.get? b=some u->h'.get? b=some u):HOk P w H h':=λ a o e=>(x a o e).stay (λ b u _ q=>k b u q) (λ _ q=>q) λ _ _ q=>q
theorem HOk.laid (x:HOk P w H h) (k :∀b u,h.get? b=some u->h'.get? b=some u) (hp:h.objs.size<=a) (new:ObjOk P w (upd H a o) h' a o):HOk P w (upd H a o) h':=λ b u e=>by
 have hn:=x.fresh hp;by_cases hb:b=a
 ·subst hb;rw [upd_same] at e;cases e;exact new
 ·rw [upd_ne hb] at e;exact (x b u e).stay (λ c v _ q=>k c v q) (λ c q=>by rw [upd_ne (z0b q hn)];exact q) λ c xs q=>by rw [upd_ne (z0b q hn)];exact q
end
def Rd (H:Hp) (a:Addr) (u:HO):Prop:=H a=some u\/∃o,H a=some (.frz o u)
theorem Rd.ok {P:Program} {w:y1} {H:Hp} {h:Heap} {a:Addr} {u:HO} (r:Rd H a u) (x:HOk P w H h):ObjOk P w H h a u:=by
 rcases r with r|⟨o,r⟩
 ·exact x a u r
 ·obtain ⟨_,q⟩:=x a _ r;exact q
noncomputable def Mut:Option HO->Prop
 | some (.lst _)=>True
 | some (.dK _)=>True
 | some (.dT _)=>True
 | some (.set _ _)=>True
 | some (.ins _ _ _)=>True
 | some (.ext _)=>True
 | _=>False
section
variable {P:Program} {w:y1} {H:Hp} {h h':Heap} {x e:Addr} {o':HO}
theorem HOk.write (ok:HOk P w H h) (mu:Mut (H x)) (he:e=x\/H e=some (.own x)) (k :∀b u,b≠e->h.get? b=some u->h'.get? b=some u) (heo :∃u,h'.get? e=some u)
  (new:ObjOk P w (upd H x o') h' x o'):HOk P w (upd H x o') h':=λ b u q=>by
 have nown :∀c y,H c=some (.own y)->c≠x:=λ c y r z=>by subst z;rw [r] at mu;exact mu
 have ntup :∀c xs,H c=some (.tup xs)->c≠x:=λ c xs r z=>by subst z;rw [r] at mu;exact mu
 by_cases hb:b=x
 ·subst hb;rw [upd_same] at q;cases q;exact new
 ·rw [upd_ne hb] at q;by_cases hbe:b=e
  ·have q':H b=some (.own x):=by
    rcases he with z|z
    ·exact absurd (hbe.trans z) hb
    ·rw [hbe];exact z
   rw [q] at q';cases q';obtain ⟨v,hv⟩:=heo;exact ⟨v,by rw [hbe];exact hv⟩
  ·refine (ok b u q).stay (λ c v hc r=>k c v ?_ r) (λ c r=>by rw [upd_ne (nown c b r)];exact r) λ c xs r=>by rw [upd_ne (ntup c xs r)];exact r
   rcases hc with rfl|hc
   ·exact hbe
   ·rintro rfl;rcases he with z|z
    ·exact nown c b hc z
    ·rw [hc] at z;cases z;exact hb rfl
end
structure Un (fs ex:List Addr) (H H':Hp) (h h':Heap):Prop where
 keep :∀b o,h.get? b=some o->H b=none->b∉fs->b∉ex->h'.get? b=some o
 slot :∀b o,h.get? b=some o->H b=none->b∈fs->b∉ex->∃sl,h'.get? b=some { o with slots:=sl }
 free :∀b o,h.get? b=some o->H b=none->b∉ex->H' b=none
 there :∀b o,h.get? b=some o->b∉ex->∃o',h'.get? b=some o'
 tups :∀b xs,H b=some (.tup xs)->H' b=some (.tup xs)
 frzs :∀b o u,H b=some (.frz o u)->H' b=some (.frz o u)
 tbls :∀b ps,H b=some (.tbl ps)->∃more,H' b=some (.tbl (ps++more))
section
variable {fs fs' ex ex':List Addr} {H H1 H2:Hp} {h h1 h2 h':Heap} {a x e:Addr} {o:HO}
theorem Un.any (u:Un fs ex H H1 h h1) {b:Addr} {ob:Obj} (q:h.get? b=some ob) (n:H b=none) (hx:b∉ex) :∃sl,h1.get? b=some { ob with slots:=sl }:=by
 by_cases hb:b∈fs
 ·exact u.slot b ob q n hb hx
 ·exact ⟨ob.slots,u.keep b ob q n hb hx⟩
theorem Un.kept (k :∀b u,h.get? b=some u->h'.get? b=some u):Un fs ex H H h h':=
 ⟨λ b ob q _ _ _=>k b ob q,λ b ob q _ _ _=>⟨ob.slots,k b ob q⟩,λ _ _ _ n _=>n,λ b ob q _=>⟨ob,k b ob q⟩,λ _ _ q=>q,λ _ _ _ q=>q,λ _ ps q=>⟨#[],by rw [q];simp⟩⟩
theorem Un.refl:Un fs ex H H h h:=Un.kept λ _ _ q=>q
theorem Un.laid (k :∀b u,h.get? b=some u->h'.get? b=some u) (hp:h.objs.size<=a) (hn:H a=none):Un fs ex H (upd H a o) h h' where
 keep:=λ b u q _ _ _=>k b u q
 slot:=λ b u q _ _ _=>⟨u.slots,k b u q⟩
 free:=λ b u q n _=>by rw [upd_ne (Z0 (J1 (P0 q) hp))];exact n
 there:=λ b u q _=>⟨u,k b u q⟩
 tups:=λ b xs q=>by rw [upd_ne (z0b q hn)];exact q
 frzs:=λ b u xs q=>by rw [upd_ne (z0b q hn)];exact q
 tbls:=λ b ps q=>⟨#[],by rw [upd_ne (z0b q hn),q];simp⟩
theorem Un.write (mu:Mut (H x)) (he:e=x\/H e=some (.own x)) (k :∀b u,b≠e->h.get? b=some u->h'.get? b=some u) (heo :∃u,h'.get? e=some u):Un fs ex H (upd H x o) h h':=by
 have hx :∀b,H b=none->b≠x:=λ b n z=>by subst z;rw [n] at mu;exact mu
 have hb :∀b,H b=none->b≠e:=λ b n z=>by
  subst z;rcases he with r|r
  ·exact hx b n r
  ·rw [n] at r;cases r
 have hm :∀b u,H b=some u->¬ Mut (some u)->b≠x:=λ b u q nm z=>by subst z;rw [q] at mu;exact nm mu
 refine ⟨λ b u q n _ _=>k b u (hb b n) q,λ b u q n _ _=>⟨u.slots,k b u (hb b n) q⟩,λ b u q n _=>by rw [upd_ne (hx b n)];exact n,λ b u q _=>?_,
  λ b xs q=>by rw [upd_ne (hm b _ q λ z=>z)];exact q,λ b u xs q=>by rw [upd_ne (hm b _ q λ z=>z)];exact q,λ b ps q=>⟨#[],by rw [upd_ne (hm b _ q λ z=>z),q];simp⟩⟩
 by_cases hbe:b=e
 ·subst hbe;exact heo
 ·exact ⟨u,k b u hbe q⟩
end
noncomputable def trk (h:Heap) (H:Hp):List Addr:=(W1 h.objs.size).filter λ a=>(H a).isSome
noncomputable def hidT (h:Heap) (H:Hp):Heap:=PySem.W.hideAll h (trk h H)
theorem zfy (h:Heap) (H:Hp):(hidT h H).objs.size=h.objs.size:=PySem.W.hideAll_size _ _
theorem zi6 {h:Heap} {H:Hp} {b:Addr} {o:Obj} (e:h.get? b=some o) (n:H b=none):(hidT h H).get? b=some o:=
 PySem.W.hideAll_get _ e λ hm=>by have q:(H b).isSome=true:=(List.mem_filter.mp hm).2;rw [n] at q;simp at q
theorem zjr {h:Heap} {H:Hp} {b:Addr} {o:Obj} (e:(hidT h H).get? b=some o):h.get? b=some o/\H b=none:=by
 have e':h.get? b=some o:=PySem.W.of_hideAll (trk h H) e;refine ⟨e',?_⟩;cases q:H b with
 | none=>rfl
 | some x=>have hm:b∈trk h H:=List.mem_filter.mpr ⟨List.mem_range.mpr (P0 e'),by simp [q]⟩;have z:(hidT h H).get? b=none:=PySem.W.hideAll_none (trk h H) hm;rw [z] at e;cases e
noncomputable def zk4 (g h:Heap) (L:Addr):List (Addr×Obj):=(W1 h.objs.size).filterMap λ a=>if a=L\/(g.get? a).isSome=true then none else (h.get? a).map λ o=>(a,o)
noncomputable def rest (g h:Heap) (L d:Addr):List (Addr×Obj):=(zk4 g h L).filter λ p=>decide (p.1≠d)
structure Mod (K:b0) (mg:Str->Option Value) (base:Heap):Prop where
 kin:K.In base
 glob:base.Ns L0 mg
 blt :∃mb,base.Ns builtinsNs mb/\∀x:Str,x≠"__name__"->mb x=A6 x
 nolimit:base.NoLimit
structure Cx where
 prog:Program
 w:y1
 K:b0
 mg:Str->Option Value
 base:Heap
 A:A2
 N:List Str
 s₀:A0
 H₀:Hp
 env:Env
 outer:List Env
 stack:List Env
 ex:List Addr
 fn:Str->Bool
 calm:Bool
 pn:List (Addr×Obj)
 xe:Value->A0->Prop
noncomputable def frs (l:List Env):List Addr:=l.filterMap (·.frame)
noncomputable abbrev Cx.fs (X:Cx):List Addr:=frs X.outer
def Vis (sc:Scope) (x:Str):Prop:=sc.names.lookup x=some .local\/sc.names.lookup x=some .cell\/sc.names.lookup x=some .free
def Loc (sc:Scope) (x:Str):Prop:=sc.names.lookup x=some .local\/sc.names.lookup x=some .cell
def Look (env:Env) (h:Heap) (m:Str->Option Value) (x:Str) (u:Value):Prop:=
 (env.kindOf x=some .local/\m x=some u)\/((env.kindOf x=some .cell\/env.kindOf x=some .free)/\∃c,env.cells.lookup x=some c/\h.IsCell c (some u))
structure Cx.Ok (X:Cx):Prop where
 mod:Mod X.K X.mg X.base
 kind:X.env.scope.kind=.function
 glob:X.env.globals=L0
 blt:X.env.builtins=builtinsNs
 above:X.s₀.heap.objs.size<=X.env.locals
 inj :∀x y c,X.env.cells.lookup x=some c->X.env.cells.lookup y=some c->x=y
 has :∀x,(X.env.kindOf x=some .cell\/X.env.kindOf x=some .free)->∃c,X.env.cells.lookup x=some c
 cab :∀x c,X.fn x=true->X.env.cells.lookup x=some c->X.s₀.heap.objs.size<=c
 hd:X.calm=true->X.A.handled=none
 frames:X.A.frames=some X.stack
 stk:X.stack=X.outer\/(X.stack=X.env :: X.outer/\X.env.frame=some X.env.locals)
 exf :∀b∈X.ex,b≠X.env.locals/\∀x c,X.env.cells.lookup x=some c->c≠b
 bs :∀b o,X.base.get? b=some o->X.s₀.heap.get? b=some o/\X.H₀ b=none
 bsz:X.base.objs.size<=X.s₀.heap.objs.size
 noex :∀b o,X.base.get? b=some o->b∉X.ex
 exfs :∀b∈X.ex,b∉X.fs
 funs:X.s₀.heap.FunFrames X.base X.outer
 frf :∀b∈X.fs,X.H₀ b=none
structure Inv (X:Cx) (pins:List (Addr×Obj)) (σ:List (Option V)) (H:Hp) (s:A0):Prop where
 ok:X.Ok
 os:s.os=X.s₀.os
 bare:C8 s.gens
 base:Un X.fs X.ex X.H₀ H X.s₀.heap s.heap
 loc :∃m,s.heap.Ns X.env.locals m/\∀(i:Nat) (x:Str) (v:V),X.N[i]? = some x->σ[i]? = some (some v)->Vis X.env.scope x->∃u,RelV v u/\Look X.env s.heap m x u
 cell :∀x c,X.env.cells.lookup x=some c->∃v,s.heap.IsCell c v
 free:H X.env.locals=none
 freeC :∀x c,X.env.cells.lookup x=some c->H c=none
 pin :∀p∈X.pn++pins,s.heap.get? p.1=some p.2/\H p.1=none/\p.1≠X.env.locals/\p.1∉X.fs/\∀v,p.2.data≠.cell v
 hok:HOk X.prog X.w H s.heap
 len:σ.length=X.N.length
section
variable {X:Cx} {pins:List (Addr×Obj)} {σ:List (Option V)} {H H':Hp} {s:A0} {h':Heap}
theorem Cx.Ok.nofr (ok:X.Ok) {b:Addr} {o:Obj} (e:X.base.get? b=some o):b∉X.fs:=λ hb=>by have:=(ok.funs.mem hb).1;rw [e] at this;cases this
theorem Inv.bs (I:Inv X pins σ H s) :∀b o,X.base.get? b=some o->s.heap.get? b=some o/\H b=none:=λ b o e=>⟨I.base.keep b o (I.ok.bs b o e).1 (I.ok.bs b o e).2 (I.ok.nofr e) (I.ok.noex b o e),I.base.free b o (I.ok.bs b o e).1 (I.ok.bs b o e).2 (I.ok.noex b o e)⟩
theorem Inv.bk (I:Inv X pins σ H s) :∀b o,X.base.get? b=some o->s.heap.get? b=some o:=λ b o e=>(I.bs b o e).1
theorem Inv.mod (I:Inv X pins σ H s):Mod X.K X.mg X.base:=I.ok.mod
theorem Inv.kIn (I:Inv X pins σ H s):X.K.In s.heap:=I.ok.mod.kin.keeps I.bk
theorem Inv.lt (I:Inv X pins σ H s):X.env.locals < s.heap.objs.size:=let ⟨_,hn,_⟩:=I.loc;hn.lt
theorem Inv.sz (I:Inv X pins σ H s):X.s₀.heap.objs.size<=s.heap.objs.size:=G0 I.ok.above (T3 I.lt)
theorem Inv.nofs (I:Inv X pins σ H s) {a:Addr} (h:s.heap.objs.size<=a):a∉X.fs:=λ hb=>by obtain ⟨_,o,ho,_⟩:=I.ok.funs.mem hb;exact absurd (J1 (P0 ho) (G0 I.sz h)) (N3 _)
theorem Inv.cne (I:Inv X pins σ H s) :∀x c,X.env.cells.lookup x=some c->c≠X.env.locals:=λ x c e z=>by obtain ⟨v,o,ho,hd⟩:=I.cell x c e;obtain ⟨m,⟨o',es,ep,ho',hd',_⟩,_⟩:=I.loc;rw [z,ho'] at ho;cases ho;rw [hd'] at hd;cases hd
theorem Inv.funs (I:Inv X pins σ H s):s.heap.FunFrames X.base X.outer:=by
 have all :∀(l:List Env),(∀b∈frs l,b∈X.fs)->X.s₀.heap.FunFrames X.base l->s.heap.FunFrames X.base l:=by
  intro l;induction l with
  | nil=>intro _ _;trivial
  | cons env r ih=>intro hs hl;obtain ⟨hk,⟨L,o,hf,hn,ho,hd⟩,hr⟩:=hl;have hL:L∈X.fs:=hs L (by unfold frs;rw [A7,hf];exact B1);obtain ⟨sl,e⟩:=I.base.slot L o ho (I.ok.frf L hL) hL λ z=>I.ok.exfs L z hL;exact ⟨hk,⟨L,_,hf,hn,e,hd⟩,ih (λ b hb=>hs b (by unfold frs;rw [A7,hf];exact G1 _ hb)) hr⟩
 exact all X.outer (λ _ hb=>hb) I.ok.funs
theorem Inv.stack (I:Inv X pins σ H s):s.heap.FunFrames X.base X.stack:=by
 rcases I.ok.stk with e|⟨e,hf⟩
 ·rw [e];exact I.funs
 ·rw [e];obtain ⟨m,hn,_⟩:=I.loc;refine .cons (by rw [I.ok.kind];decide) hf hn ?_ I.funs;exact Heap.get?_none_of_le (G0 I.ok.bsz I.ok.above)
theorem Inv.stkSub (I:Inv X pins σ H s) :∀b∈frs X.stack,b∈X.env.locals :: X.fs:=λ b hb=>by
 rcases I.ok.stk with e|⟨e,hf⟩
 ·rw [e] at hb;exact G1 _ hb
 ·rw [e] at hb;unfold frs at hb;rw [A7,hf] at hb;exact hb
theorem Inv.stkFree (I:Inv X pins σ H s) :∀b∈frs X.stack,H b=none:=λ b hb=>by
 rcases List.mem_cons.mp (I.stkSub b hb) with e|hb
 ·rw [e];exact I.free
 ·obtain ⟨_,o,ho,_⟩:=I.ok.funs.mem hb;exact I.base.free b o ho (I.ok.frf b hb) λ z=>I.ok.exfs b z hb
theorem Inv.step {g':Array GenState} {t':Nat} {d':Drawn} {ch:List Addr} (I:Inv X pins σ H s)
  (hch :∀b∈ch,(b∈X.ex\/X.s₀.heap.objs.size<=b)/\b≠X.env.locals/\(∀x c,X.env.cells.lookup x=some c->c≠b)/\∀p∈X.pn++pins,p.1≠b)
  (keep :∀b o,b≠X.env.locals->b∉X.fs->b∉ch->s.heap.get? b=some o->H b=none->h'.get? b=some o)
  (slot :∀b o,b≠X.env.locals->b∈X.fs->b∉ch->s.heap.get? b=some o->H b=none->∃sl,h'.get? b=some { o with slots:=sl }) (free :∀b o,b∉ch->s.heap.get? b=some o->H b=none->H' b=none)
  (there :∀b o,b∉ch->s.heap.get? b=some o->∃o',h'.get? b=some o')
  (tups :∀b xs,H b=some (.tup xs)->H' b=some (.tup xs)) (frzs :∀b o u,H b=some (.frz o u)->H' b=some (.frz o u)) (tbls :∀b ps,H b=some (.tbl ps)->∃more,H' b=some (.tbl (ps++more)))
  (ns :∀m,s.heap.Ns X.env.locals m->h'.Ns X.env.locals m) (hok:HOk X.prog X.w H' h') (hg:C8 g') :
  Inv X pins σ H' { s with heap:=h',gens:=g',drawn:=d',toks:=t' }:=by
 have neL :∀b o,X.s₀.heap.get? b=some o->b≠X.env.locals:=λ b o e=>Z0 (J1 (P0 e) I.ok.above);have neC :∀b o,X.s₀.heap.get? b=some o->b∉X.ex->b∉ch:=λ b o e hx hb=>by
  rcases (hch b hb).1 with z|z
  ·exact hx z
  ·exact absurd (J1 (P0 e) z) (N3 _)
 have cellK :∀x c,X.env.cells.lookup x=some c->∀v,s.heap.IsCell c v->h'.IsCell c v:=λ x c e v ⟨o,ho,hd⟩=>by
  have nch:c∉ch:=λ z=>(hch c z).2.2.1 x c e rfl;by_cases hc:c∈X.fs
  ·obtain ⟨sl,q⟩:=slot c o (I.cne x c e) hc nch ho (I.freeC x c e);exact ⟨_,q,hd⟩
  ·exact ⟨o,keep c o (I.cne x c e) hc nch ho (I.freeC x c e),hd⟩
 refine ⟨I.ok,I.os,hg,⟨λ b o e n hb hx=>?_,λ b o e n hb hx=>?_,λ b o e n hx=>?_,λ b o e hx=>?_,λ b xs e=>tups b xs (I.base.tups b xs e),λ b o xs e=>frzs b o xs (I.base.frzs b o xs e),λ b ps e=>?_⟩,?_,λ x c e=>?_,?_,λ x c e=>?_,λ p hp=>?_,hok,I.len⟩
 ·exact keep b o (neL b o e) hb (neC b o e hx) (I.base.keep b o e n hb hx) (I.base.free b o e n hx)
 ·obtain ⟨sl,e1⟩:=I.base.slot b o e n hb hx;obtain ⟨sl',e2⟩:=slot b _ (neL b o e) hb (neC b o e hx) e1 (I.base.free b o e n hx);exact ⟨sl',e2⟩
 ·obtain ⟨o',e1⟩:=I.base.there b o e hx;exact free b o' (neC b o e hx) e1 (I.base.free b o e n hx)
 ·obtain ⟨o',e1⟩:=I.base.there b o e hx;exact there b o' (neC b o e hx) e1
 ·obtain ⟨m1,e1⟩:=I.base.tbls b ps e;obtain ⟨m2,e2⟩:=tbls b _ e1;exact ⟨m1++m2,by rw [e2,Array.append_assoc]⟩
 ·obtain ⟨m,hn,hl⟩:=I.loc;refine ⟨m,ns m hn,λ i x v e1 e2 e3=>?_⟩;obtain ⟨u,r,l⟩:=hl i x v e1 e2 e3;refine ⟨u,r,?_⟩;rcases l with l|⟨k,c,e,z⟩
  ·exact .inl l
  ·exact .inr ⟨k,c,e,cellK x c e _ z⟩
 ·obtain ⟨v,z⟩:=I.cell x c e;exact ⟨v,cellK x c e v z⟩
 ·obtain ⟨m,⟨o,_,_,ho,_⟩,_⟩:=I.loc;exact free _ o (λ z=>(hch _ z).2.1 rfl) ho I.free
 ·obtain ⟨v,o,ho,hd⟩:=I.cell x c e;exact free c o (λ z=>(hch c z).2.2.1 x c e rfl) ho (I.freeC x c e)
 ·obtain ⟨e,n,ne,nf,d⟩:=I.pin p hp;have nch:p.1∉ch:=λ z=>(hch p.1 z).2.2.2 p hp rfl;exact ⟨keep p.1 p.2 ne nf nch e n,free p.1 p.2 nch e n,ne,nf,d⟩
theorem Inv.un {t':Nat} (I:Inv X pins σ H s) (u:Un X.fs [] H H' s.heap h') (hok:HOk X.prog X.w H' h'):Inv X pins σ H' { s with heap:=h',toks:=t' }:=by obtain ⟨m,⟨o,es,ep,ho,r⟩,_⟩:=id I.loc;obtain ⟨sl,hL⟩:=u.any ho I.free (by simp);exact I.step (g':=s.gens) (d':=s.drawn) (ch:=[]) (λ _ z=>nomatch z) (λ b o _ hb _ e n=>u.keep b o e n hb (by simp)) (λ b o _ hb _ e n=>u.slot b o e n hb (by simp)) (λ b o _ e n=>u.free b o e n (by simp)) (λ b o _ e=>u.there b o e (by simp)) u.tups u.frzs u.tbls (λ m' hm=>by obtain ⟨o',es',ep',ho',r'⟩:=hm;rw [ho] at ho';cases ho';exact ⟨_,es',ep',hL,r'⟩) hok I.bare
theorem Inv.call {g':Array GenState} {t':Nat} {d':Drawn} {ch:List Addr} (I:Inv X pins σ H s) (u:Un (frs X.stack) ch H H' s.heap h') (hok:HOk X.prog X.w H' h') (hg:C8 g')
  (hch :∀b∈ch,(b∈X.ex\/X.s₀.heap.objs.size<=b)/\b≠X.env.locals/\(∀x c,X.env.cells.lookup x=some c->c≠b)/\∀p∈X.pn++pins,p.1≠b) :
  Inv X pins σ H' { s with heap:=h',gens:=g',drawn:=d',toks:=t' }:=by
 obtain ⟨m,⟨o,es,ep,ho,r⟩,_⟩:=id I.loc;obtain ⟨sl,hL⟩:=u.any ho I.free λ z=>(hch _ z).2.1 rfl;exact I.step (ch:=ch) hch (λ b o hL hb hc e n=>u.keep b o e n (λ z=>(List.mem_cons.mp (I.stkSub b z)).elim hL hb) hc) (λ b o _ _ hc e n=>u.any e n hc) (λ b o hc e n=>u.free b o e n hc) (λ b o hc e=>u.there b o e hc) u.tups u.frzs u.tbls (λ m' hm=>by obtain ⟨o',es',ep',ho',r'⟩:=hm;rw [ho] at ho';cases ho';exact ⟨_,es',ep',hL,r'⟩) hok hg
theorem Inv.turned {t':Nat} {it:Addr} (I:Inv X pins σ H s) (k :∀b o,b≠it->s.heap.get? b=some o->h'.get? b=some o) (hn:H it=none) (hL:it≠X.env.locals)
  (h1:it∈X.ex\/X.s₀.heap.objs.size<=it) (h2 :∀x c,X.env.cells.lookup x=some c->c≠it) (h3 :∀p∈X.pn++pins,p.1≠it):Inv X pins σ H { s with heap:=h',toks:=t' }:=by
 have nit :∀b u,H b=some u->b≠it:=λ b u e z=>by rw [z,hn] at e;cases e
 refine I.step (g':=s.gens) (d':=s.drawn) (ch:=[it]) (λ b hb=>?_) (λ b o _ _ hc e _=>k b o (λ z=>hc (by simp [z])) e) (λ b o _ _ hc e _=>⟨o.slots,k b o (λ z=>hc (by simp [z])) e⟩) (λ _ _ _ _ n=>n)
  (λ b o hc e=>⟨o,k b o (λ z=>hc (by simp [z])) e⟩) (λ _ _ e=>e) (λ _ _ _ e=>e) (λ b ps e=>⟨#[],by rw [e];simp⟩) (λ m hm=>?_) (λ b u e=>?_) I.bare
 ·have e:b=it:=by simpa using hb
  subst e;exact ⟨h1,hL,h2,h3⟩
 ·obtain ⟨o,es,ep,ho,r⟩:=hm;exact ⟨o,es,ep,k _ o (Q2 hL) ho,r⟩
 ·refine (I.hok b u e).stay (λ c v hc q=>k c v ?_ q) (λ _ q=>q) λ _ _ q=>q;rcases hc with z|z
  ·rw [z];exact nit b u e
  ·exact nit c _ z
theorem Inv.tok (I:Inv X pins σ H s) (t:Nat):Inv X pins σ H { s with toks:=t }:=I.un (h':=s.heap) (t':=t) Un.refl I.hok
theorem Inv.kept {t':Nat} (I:Inv X pins σ H s) (k :∀b u,s.heap.get? b=some u->h'.get? b=some u):Inv X pins σ H { s with heap:=h',toks:=t' }:=I.un (Un.kept k) (I.hok.kept k)
theorem Inv.laid {a:Addr} {o:HO} {t':Nat} (I:Inv X pins σ H s) (k :∀b u,s.heap.get? b=some u->h'.get? b=some u) (hp:s.heap.objs.size<=a) (new:ObjOk X.prog X.w (upd H a o) h' a o) :
  Inv X pins σ (upd H a o) { s with heap:=h',toks:=t' }:=I.un (Un.laid k hp (I.hok.fresh hp)) (I.hok.laid k hp new)
theorem Inv.write {x e:Addr} {o:HO} {t':Nat} (I:Inv X pins σ H s) (mu:Mut (H x)) (he:e=x\/H e=some (.own x)) (k :∀b u,b≠e->s.heap.get? b=some u->h'.get? b=some u) (heo :∃u,h'.get? e=some u)
  (new:ObjOk X.prog X.w (upd H x o) h' x o):Inv X pins σ (upd H x o) { s with heap:=h',toks:=t' }:=I.un (Un.write mu he k heo) (I.hok.write mu he k heo new)
theorem Inv.weak {σ':List (Option V)} (I:Inv X pins σ H s) (hl:σ'.length=σ.length) (w :∀(i:Nat) v,σ'[i]? = some (some v)->σ[i]? = some (some v)):Inv X pins σ' H s:=
 ⟨I.ok,I.os,I.bare,I.base,let ⟨m,hn,hl'⟩:=I.loc;⟨m,hn,λ i x v e1 e2 e3=>hl' i x v e1 (w i v e2) e3⟩,I.cell,I.free,I.freeC,I.pin,I.hok,hl.trans I.len⟩
theorem Inv.pins_of {pins':List (Addr×Obj)} (I:Inv X pins σ H s) (h :∀p∈pins',s.heap.get? p.1=some p.2/\H p.1=none/\p.1≠X.env.locals/\p.1∉X.fs/\∀v,p.2.data≠.cell v):Inv X pins' σ H s:=
 ⟨I.ok,I.os,I.bare,I.base,I.loc,I.cell,I.free,I.freeC,λ p hp=>(List.mem_append.mp hp).elim (λ z=>I.pin p (P5 _ z)) (h p),I.hok,I.len⟩
theorem zdj {N:List Str} (hN:N.Nodup) {i j:Nat} {x:Str} (a:N[i]? = some x) (b:N[j]? = some x):i=j:=by obtain ⟨h1,e1⟩:=List.getElem?_eq_some_iff.mp a;obtain ⟨h2,e2⟩:=List.getElem?_eq_some_iff.mp b;exact (List.getElem_inj hN).mp (e1.trans e2.symm)
theorem zga {M:Model} {A:A2} {E:Value->A0->Prop} {i:Nat} {x:Str} {v:V} {u:Value} {Q:Unit->A0->Prop} (I:Inv X pins σ H s) (hN:X.N.Nodup) (hi:X.N[i]? = some x) (hx:Loc X.env.scope x) (r:RelV v u)
  (h :∀s',Inv X pins (σ.set i (some v)) H s'->(∃a,c6 a s.heap s'.heap/\(a=X.env.locals\/X.env.cells.lookup x=some a))->Q () s') (hf:X.fn x=true\/X.env.scope.names.lookup x=some .local:=by first|exact .inl rfl|exact .inr rfl|assumption):Q0 M A (storeName X.env x u) Q E s:=by
 obtain ⟨m,hn,hl⟩:=id I.loc;have hcls:(X.env.scope.kind == .class || (X.env.scope.kind == .module && X.env.locals != X.env.globals))=false:=by rw [I.ok.kind];rfl
 have hiσ:i < σ.length:=by rw [I.len];exact (List.getElem?_eq_some_iff.mp hi).1
 have cne:=I.cne;have tracked :∀{a:Addr} {h':Heap},(∃o,s.heap.get? a=some o/\H a=none)->c6 a s.heap h'->HOk X.prog X.w H h':=λ {a h'} ha hs b ob e=>by
  obtain ⟨_,_,hfree⟩:=ha;refine (I.hok b ob e).stay (λ c w' hc q=>(hs.2 c ?_).trans q) (λ _ q=>q) λ _ _ q=>q;rintro rfl;rcases hc with rfl|hc
  ·rw [hfree] at e;cases e
  ·rw [hfree] at hc;cases hc
 rcases hx with hk|hk
 ·refine wpAny_storeName_local hk hn (λ h' hn' hs=>?_) hcls;obtain ⟨oL,_,_,hoL,_⟩:=id hn;refine h _ ⟨I.ok,I.os,I.bare,⟨λ b o e n hb hx=>?_,λ b o e n hb hx=>?_,I.base.free,λ b o e hx=>?_,I.base.tups,I.base.frzs,I.base.tbls⟩,⟨_,hn',λ j y v' e1 e2 e3=>?_⟩,λ y c e=>?_,I.free,I.freeC,λ p hp=>?_,tracked ⟨oL,hoL,I.free⟩ hs,by simpa using I.len⟩ ⟨_,hs,.inl rfl⟩
  ·exact (hs.2 b (Z0 (J1 (P0 e) I.ok.above))).trans (I.base.keep b o e n hb hx)
  ·obtain ⟨sl,e1⟩:=I.base.slot b o e n hb hx;exact ⟨sl,(hs.2 b (Z0 (J1 (P0 e) I.ok.above))).trans e1⟩
  ·obtain ⟨o',e1⟩:=I.base.there b o e hx;exact ⟨o',(hs.2 b (Z0 (J1 (P0 e) I.ok.above))).trans e1⟩
  ·by_cases hj:j=i
   ·subst hj;rw [hi] at e1;cases e1;rw [j30 hiσ] at e2;cases e2;exact ⟨u,r,.inl ⟨hk,by simp⟩⟩
   ·rw [j44 (Q2 hj)] at e2;obtain ⟨u',r',q⟩:=hl j y v' e1 e2 e3;refine ⟨u',r',?_⟩;rcases q with ⟨k,e⟩|⟨k,c,e,z⟩
    ·refine .inl ⟨k,?_⟩;have:y≠x:=λ e=>hj (zdj hN e1 (e ▸ hi));simp [this,e]
    ·exact .inr ⟨k,c,e,z.sameBut hs (cne y c e)⟩
  ·obtain ⟨w',z⟩:=I.cell y c e;exact ⟨w',z.sameBut hs (cne y c e)⟩
  ·obtain ⟨e,n,ne,nf,d⟩:=I.pin p hp;exact ⟨(hs.2 p.1 ne).trans e,n,ne,nf,d⟩
 ·have hfn:X.fn x=true:=by
   rcases hf with z|z
   ·exact z
   ·rw [z] at hk;cases hk
  obtain ⟨c,hc⟩:=I.ok.has x (.inl hk);obtain ⟨w',z⟩:=I.cell x c hc;refine wpAny_storeName_cell I.ok.kind hk hc z (λ h' hc' hs=>?_);obtain ⟨oc,hoc,hocd⟩:=id z;refine h { s with heap:=h' } ⟨I.ok,I.os,I.bare,⟨λ b o e n hb hx=>?_,λ b o e n hb hx=>?_,I.base.free,λ b o e hx=>?_,I.base.tups,I.base.frzs,I.base.tbls⟩,⟨m,hn.sameBut hs (Q2 (cne x c hc)),λ j y v' e1 e2 e3=>?_⟩,λ y c' e=>?_,I.free,I.freeC,λ p hp=>?_,tracked ⟨oc,hoc,I.freeC x c hc⟩ hs,by simpa using I.len⟩ ⟨c,hs,.inr hc⟩
  ·exact (hs.2 b (Z0 (J1 (P0 e) (I.ok.cab x c hfn hc)))).trans (I.base.keep b o e n hb hx)
  ·obtain ⟨sl,e1⟩:=I.base.slot b o e n hb hx;exact ⟨sl,(hs.2 b (Z0 (J1 (P0 e) (I.ok.cab x c hfn hc)))).trans e1⟩
  ·obtain ⟨o',e1⟩:=I.base.there b o e hx;exact ⟨o',(hs.2 b (Z0 (J1 (P0 e) (I.ok.cab x c hfn hc)))).trans e1⟩
  ·by_cases hj:j=i
   ·subst hj;rw [hi] at e1;cases e1;rw [j30 hiσ] at e2;cases e2;exact ⟨u,r,.inr ⟨.inl hk,c,hc,hc'⟩⟩
   ·rw [j44 (Q2 hj)] at e2;obtain ⟨u',r',q⟩:=hl j y v' e1 e2 e3;refine ⟨u',r',?_⟩;rcases q with q|⟨k,c',e,z'⟩
    ·exact .inl q
    ·refine .inr ⟨k,c',e,z'.sameBut hs ?_⟩;rintro rfl;exact hj (zdj hN e1 (I.ok.inj _ _ _ e hc ▸ hi))
  ·by_cases hcc:c'=c
   ·subst hcc;exact ⟨_,hc'⟩
   ·obtain ⟨w2,z2⟩:=I.cell y c' e;exact ⟨w2,z2.sameBut hs hcc⟩
  ·obtain ⟨e,n,ne,nf,d⟩:=I.pin p hp;refine ⟨(hs.2 p.1 ?_).trans e,n,ne,nf,d⟩;intro q;rw [q,hoc] at e;have q':oc=p.2:=U1 e;exact d w' (by rw [<-q'];exact hocd)
theorem zfq {M:Model} {A:A2} {E:Value->A0->Prop} {i:Nat} {x:Str} {v:V} {u:Value} {Q:Unit->A0->Prop} (I:Inv X pins σ H s) (hN:X.N.Nodup) (hi:X.N[i]? = some x) (hx:Loc X.env.scope x) (r:RelV v u)
  (h :∀s',Inv X pins (σ.set i (some v)) H s'->Q () s') (hf:X.fn x=true\/X.env.scope.names.lookup x=some .local:=by first|exact .inl rfl|exact .inr rfl|assumption):Q0 M A (storeName X.env x u) Q E s:=
 zga I hN hi hx r (λ s' I' _=>h s' I') hf
theorem Inv.call' {s':A0} {ch:List Addr} (I:Inv X pins σ H s) (ho:s'.os=s.os) (u:Un (frs X.stack) ch H H' s.heap s'.heap) (hok:HOk X.prog X.w H' s'.heap) (hg:C8 s'.gens)
  (hch :∀b∈ch,(b∈X.ex\/X.s₀.heap.objs.size<=b)/\b≠X.env.locals/\(∀x c,X.env.cells.lookup x=some c->c≠b)/\∀p∈X.pn++pins,p.1≠b):Inv X pins σ H' s':=by
 obtain ⟨h',g',d',t',o'⟩:=s';have e:o'=s.os:=ho;subst e;exact I.call (g':=g') (t':=t') (d':=d') u hok hg hch
end
noncomputable abbrev XK:=Value->Option Addr->Hp->Prop
abbrev St:=List (Option V)
abbrev VK:=V->Hp->Prop
abbrev TE:=St->Hp->VK->Prop
noncomputable abbrev TT:=St->Hp->(Bool->Hp->Prop)->Prop
noncomputable abbrev TA:=St->Hp->(List V->Hp->Prop)->Prop
structure Ends where
 nx:St->Hp->Prop
 rt:VK
 bk:St->Hp->Prop:=λ _ _=>False
 ct:St->Hp->Prop:=λ _ _=>False
noncomputable abbrev TS:=Ends->St->Hp->Prop
def EP (X:Cx) (pins:List (Addr×Obj)) (σ:St) (Q:VK) (u:Value) (s':A0):Prop:=∃v H',Inv X pins σ H' s'/\RelV v u/\Q v H'
def TP (X:Cx) (pins:List (Addr×Obj)) (σ:St) (Q:Bool->Hp->Prop) (b:Bool) (s':A0):Prop:=∃H',Inv X pins σ H' s'/\Q b H'
def AP (X:Cx) (pins:List (Addr×Obj)) (σ:St) (Q:List V->Hp->Prop) (us:List Value) (s':A0):Prop:=∃vs H',Inv X pins σ H' s'/\Vals vs us/\Q vs H'
def SP (X:Cx) (pins:List (Addr×Obj)) (D:Ends) (f:Flow) (s':A0):Prop:=
 match f with
 | .next=>∃σ' H',Inv X pins σ' H' s'/\D.nx σ' H'
 | .brk=>∃σ' H',Inv X pins σ' H' s'/\D.bk σ' H'
 | .cont=>∃σ' H',Inv X pins σ' H' s'/\D.ct σ' H'
 | .ret u=>∃v σ' H',Inv X pins σ' H' s'/\RelV v u/\D.rt v H'
def PE (X:Cx) (e:Expr) (t:TE):Prop:=
 ∀(pins:List (Addr×Obj)) (s:A0) (σ:St) (H:Hp) (Q:VK),Inv X pins σ H s->t σ H Q->Q0 (A1 X.prog X.w) X.A (Y3 e X.env) (EP X pins σ Q) X.xe s
def PT (X:Cx) (e:Expr) (t:TT):Prop:=
 ∀(pins:List (Addr×Obj)) (s:A0) (σ:St) (H:Hp) (Q:Bool->Hp->Prop),Inv X pins σ H s->t σ H Q->Q0 (A1 X.prog X.w) X.A (isTrue e X.env (Y3 e X.env)) (TP X pins σ Q) X.xe s
def PW (X:Cx) (e:Expr) (t:TT):Prop:=
 ∀(whole:Sem Value) (pins:List (Addr×Obj)) (s:A0) (σ:St) (H:Hp) (Q:Bool->Hp->Prop),Inv X pins σ H s->t σ H Q->Q0 (A1 X.prog X.w) X.A (isTrue e X.env whole) (TP X pins σ Q) X.xe s
theorem PW.pt {X:Cx} {e:Expr} {t:TT} (h:PW X e t):PT X e t:=h _
def PA (X:Cx) (es:List Expr) (t:TA):Prop:=
 ∀(pos:Pos) (pins:List (Addr×Obj)) (s:A0) (σ:St) (H:Hp) (Q:List V->Hp->Prop),Inv X pins σ H s->t σ H Q->Q0 (A1 X.prog X.w) X.A (spliced (d5 pos (K1 es X.env))) (AP X pins σ Q) X.xe s
def PS (X:Cx) (st:Stmt) (t:TS):Prop:=
 ∀(pins:List (Addr×Obj)) (s:A0) (σ:St) (H:Hp) (D:Ends),Inv X pins σ H s->t D σ H->Q0 (A1 X.prog X.w) X.A (exec st X.env) (SP X pins D) X.xe s
def PSs (X:Cx) (st:List Stmt) (t:TS):Prop:=
 ∀(pins:List (Addr×Obj)) (s:A0) (σ:St) (H:Hp) (D:Ends),Inv X pins σ H s->t D σ H->Q0 (A1 X.prog X.w) X.A (execs st X.env) (SP X pins D) X.xe s
theorem thn {α:Type} {t:Sem α} {Q Q':α->A0->Prop} {M:Model} {A:A2} {E:Value->A0->Prop} {s:A0} (h:Q0 M A t Q E s) (hQ :∀a s,Q a s->Q' a s):Q0 M A t Q' E s:=Z3 h hQ λ _ _ x=>x
section
variable {X:Cx}
noncomputable def tVar (i:Nat):TE:=λ σ H Q=>∃v,σ[i]? = some (some v)/\Q v H
noncomputable def tC (v:V):TE:=λ _ H Q=>Q v H
theorem pe_var {i:Nat} {x:Str} {pos:Pos} (hN:X.N[i]? = some x) (hv:Vis X.env.scope x) (hd:(x == ("__debug__" : Str))=false:=by decide) (hcd:(x == ("__classdict__" : Str))=false:=by decide):PE X (.Name x pos) (tVar i):=by
 intro pins s σ H Q I h;obtain ⟨v,e,h⟩:=h;obtain ⟨m,hn,hl⟩:=I.loc;obtain ⟨u,r,l⟩:=hl i x v hN e hv;have fin:EP X pins σ Q u s:=⟨v,H,I,r,h⟩
 rcases l with ⟨hk,hm⟩|⟨hk,c,hc,hcell⟩
 ·exact wpAny_Name (wpAny_loadName_local I.ok.kind hk hn hm fin) hd
 ·rcases hk with hk|hk
  ·exact wpAny_Name (wpAny_loadName_cell I.ok.kind hk hc hcell fin) hd
  ·exact wpAny_Name (wpAny_loadName_free I.ok.kind hk hc hcell fin hcd) hd
theorem pe_int {i j pos}:PE X (.Constant (.int i) j pos) (tC (.int i)):=λ _ _ _ H _ I h=>wpAny_Constant_int ⟨.int i,H,I.tok _,⟨_,rfl⟩,h⟩
theorem pe_bl {b j pos}:PE X (.Constant (.bool b) j pos) (tC (.bl b)):=λ _ _ _ H _ I h=>Constant_bool ⟨.bl b,H,I,rfl,h⟩
theorem pe_non {j pos}:PE X (.Constant .none j pos) (tC .non):=λ _ _ _ H _ I h=>Constant_none ⟨.non,H,I,rfl,h⟩
theorem pe_str {x j pos}:PE X (.Constant (.str x) j pos) (tC (.str x)):=λ _ _ _ H _ I h=>Calls.Constant_str ⟨.str x,H,I.tok _,⟨_,rfl⟩,h⟩
def Gl (X:Cx) (x:Str):Prop:=X.env.kindOf x=some .globalImplicit
theorem zht {E:Value->A0->Prop} {pins:List (Addr×Obj)} {s:A0} {σ:St} {H:Hp} {x:Str} {u:Value} {pos:Pos} {Q:Value->A0->Prop} (I:Inv X pins σ H s) (hg:Gl X x) (hm:X.mg x=some u) (h:Q u s)
  (hd:(x == ("__debug__" : Str))=false:=by decide):Q0 (A1 X.prog X.w) X.A (Y3 (.Name x pos) X.env) Q E s:=
 j1b I.ok.kind hg (Calls.loadGlobal_global (by rw [I.ok.glob];exact I.mod.glob.keeps I.bk) hm h) hd
theorem ld_blt {E:Value->A0->Prop} {pins:List (Addr×Obj)} {s:A0} {σ:St} {H:Hp} {x:Str} {u:Value} {pos:Pos} {Q:Value->A0->Prop} (I:Inv X pins σ H s) (hg:Gl X x) (hm:X.mg x=none) (hv:A6 x=some u) (h:Q u s)
  (hn:x≠"__name__":=by decide) (hd:(x == ("__debug__" : Str))=false:=by decide):Q0 (A1 X.prog X.w) X.A (Y3 (.Name x pos) X.env) Q E s:=by
 obtain ⟨mb,h1,h2⟩:=I.mod.blt;exact j1b I.ok.kind hg (Calls.loadGlobal_builtin (by rw [I.ok.glob];exact I.mod.glob.keeps I.bk) hm (by rw [I.ok.blt];exact h1.keeps I.bk) ((h2 x hn).trans hv) h) hd
theorem z5w {x:Str} {v:V} {u:Value} {pos:Pos} (hg:Gl X x) (hm:X.mg x=some u) (r:RelV v u) (hd:(x == ("__debug__" : Str))=false:=by decide):PE X (.Name x pos) (tC v):=
 λ _ _ _ H _ I h=>zht I hg hm ⟨v,H,I,r,h⟩ hd
theorem z15 {x:Str} {v:V} {u:Value} {pos:Pos} (hg:Gl X x) (hm:X.mg x=none) (hv:A6 x=some u) (r:RelV v u) (hn:x≠"__name__":=by decide) (hd:(x == ("__debug__" : Str))=false:=by decide):PE X (.Name x pos) (tC v):=
 λ _ _ _ H _ I h=>ld_blt I hg hm hv ⟨v,H,I,r,h⟩ hn hd
variable {a b:Expr} {ta tb:TE} {pos:Pos}
def PC (X:Cx) (op:CmpOp) (a b:Expr) (t:TE):Prop:=
 ∀(pins:List (Addr×Obj)) (s:A0) (σ:St) (H:Hp) (Q:VK),Inv X pins σ H s->t σ H Q->
  Q0 (A1 X.prog X.w) X.A (Y3 a X.env) (λ v s₁=>Q0 (A1 X.prog X.w) X.A (Y3 b X.env) (λ u s₂=>Q0 (A1 X.prog X.w) X.A (v2 op v u) (EP X pins σ Q) X.xe s₂) X.xe s₁) X.xe s
noncomputable def tB (t:TE):TT:=λ σ H Q=>t σ H λ x H1=>∃c,x=.bl c/\Q c H1
theorem pt_cmp {op:CmpOp} {t:TE} (h:PC X op a b t) (h1:D8 op b=false:=by first|exact nobehind _ (by decide) (by decide)|rfl):PT X (.Compare a [op] [b] pos) (tB t):=by intro pins s σ H Q I hw;refine wpAny_isTrue_Compare1 (thn (h pins s σ H _ I hw) λ v s1 h1=>thn h1 λ u s2 h2=>thn h2 λ c s3 ⟨x,H1,I1,r1,q1⟩=>?_) h1;obtain ⟨d,rfl,q⟩:=q1;cases r1;exact B3 ⟨H1,I1,q⟩
theorem pt_val {e:Expr} {t:TE} (h:PE X e t) (he :∀whole,isTrue e X.env whole=(do let v <-whole;standAt e.pos;j13 [v] (truthy v)):=by intro _;rfl):PT X e (tB t):=by intro pins s σ H Q I hw;refine isTrue_plain (thn (h pins s σ H _ I hw) λ v s1 ⟨x,H1,I1,r1,q1⟩=>?_) (he _);obtain ⟨d,rfl,q⟩:=q1;cases r1;exact B3 ⟨H1,I1,q⟩
variable {tA tB':TT} {rest:List Expr}
noncomputable def tAnd (t u:TT):TT:=λ σ H Q=>t σ H λ c H1=>if c=true then u σ H1 Q else Q false H1
noncomputable def tOr (t u:TT):TT:=λ σ H Q=>t σ H λ c H1=>if c=true then Q true H1 else u σ H1 Q
noncomputable def tNot (t:TT):TT:=λ σ H Q=>t σ H λ c H1=>Q (!c) H1
theorem z6o (ha:PT X a tA):PW X (.BoolOp .And [a] pos) tA:=by
 intro wh pins s σ H Q I h;refine isTrue_and (thn (ha pins s σ H Q I h) λ c s1 e=>?_);cases c with
 | true=>exact isTrue_and_nil e
 | false=>exact e
theorem pw_or1 (ha:PT X a tA):PW X (.BoolOp .Or [a] pos) tA:=by
 intro wh pins s σ H Q I h;refine isTrue_or (thn (ha pins s σ H Q I h) λ c s1 e=>?_);cases c with
 | false=>exact isTrue_or_nil e
 | true=>exact e
theorem pw_and (ha:PT X a tA) (hb:PW X (.BoolOp .And (b :: rest) pos) tB'):PW X (.BoolOp .And (a :: b :: rest) pos) (tAnd tA tB'):=by
 intro wh pins s σ H Q I h;refine isTrue_and (thn (ha pins s σ H _ I h) λ c s1 ⟨H1,I1,q1⟩=>?_);cases c with
 | true=>exact hb wh pins s1 σ H1 Q I1 q1
 | false=>exact ⟨H1,I1,q1⟩
theorem pw_or (ha:PT X a tA) (hb:PW X (.BoolOp .Or (b :: rest) pos) tB'):PW X (.BoolOp .Or (a :: b :: rest) pos) (tOr tA tB'):=by
 intro wh pins s σ H Q I h;refine isTrue_or (thn (ha pins s σ H _ I h) λ c s1 ⟨H1,I1,q1⟩=>?_);cases c with
 | true=>exact ⟨H1,I1,q1⟩
 | false=>exact hb wh pins s1 σ H1 Q I1 q1
theorem pt_not (ha:PT X a tA):PT X (.UnaryOp .Not a pos) (tNot tA):=by intro pins s σ H Q I h;exact isTrue_not (ha pins s σ H (λ c H1=>Q (!c) H1) I h)
noncomputable def tAndV (ta tb:TE):TE:=λ σ H Q=>ta σ H λ x H1=>∃c,x=.bl c/\if c=true then tb σ H1 Q else Q (.bl false) H1
noncomputable def tOrV (ta tb:TE):TE:=λ σ H Q=>ta σ H λ x H1=>∃c,x=.bl c/\if c=true then Q (.bl true) H1 else tb σ H1 Q
noncomputable def tNotV (ta:TE):TE:=λ σ H Q=>ta σ H λ x H1=>∃c,x=.bl c/\Q (.bl (!c)) H1
theorem pe_one {op} {t:TE} (h:PE X a t):PE X (.BoolOp op [a] pos) t:=λ pins s σ H Q I hw=>BoolOp_one (h pins s σ H Q I hw)
theorem pe_and (ha:PE X a ta) (hb:PE X (.BoolOp .And (b :: rest) pos) tb):PE X (.BoolOp .And (a :: b :: rest) pos) (tAndV ta tb):=by
 intro pins s σ H Q I h;refine BoolOp_and (thn (ha pins s σ H _ I h) λ v s1 ⟨x,H1,I1,r1,q1⟩=>?_);obtain ⟨c,rfl,q1⟩:=q1;cases r1;refine B3 ?_;cases c with
 | true=>exact hb pins s1 σ H1 Q I1 q1
 | false=>exact ⟨.bl false,H1,I1,rfl,q1⟩
theorem pe_or (ha:PE X a ta) (hb:PE X (.BoolOp .Or (b :: rest) pos) tb):PE X (.BoolOp .Or (a :: b :: rest) pos) (tOrV ta tb):=by
 intro pins s σ H Q I h;refine BoolOp_or (thn (ha pins s σ H _ I h) λ v s1 ⟨x,H1,I1,r1,q1⟩=>?_);obtain ⟨c,rfl,q1⟩:=q1;cases r1;refine B3 ?_;cases c with
 | false=>exact hb pins s1 σ H1 Q I1 q1
 | true=>exact ⟨.bl true,H1,I1,rfl,q1⟩
theorem pe_not (ha:PE X a ta):PE X (.UnaryOp .Not a pos) (tNotV ta):=by intro pins s σ H Q I h;refine UnaryOp_ (thn (ha pins s σ H _ I h) λ v s1 ⟨x,H1,I1,r1,q1⟩=>?_);obtain ⟨c,rfl,q1⟩:=q1;cases r1;exact not_of (B3 ⟨.bl (!c),H1,I1,rfl,q1⟩)
noncomputable def tIf (t:TT) (ta tb:TE):TE:=λ σ H Q=>t σ H λ c H1=>if c=true then ta σ H1 Q else tb σ H1 Q
theorem zil {c:Expr} (hc:PT X c tA) (ha:PE X a ta) (hb:PE X b tb):PE X (.IfExp c a b pos) (tIf tA ta tb):=by
 intro pins s σ H Q I h;refine wpAny_IfExp (thn (hc pins s σ H _ I h) λ d s1 ⟨H1,I1,q1⟩=>?_);cases d with
 | true=>exact ha pins s1 σ H1 Q I1 q1
 | false=>exact hb pins s1 σ H1 Q I1 q1
end
def SqL (K:b0) (H:Hp) (a:Addr) (xs:List V):Prop:=
 Rd H a (.lst xs)\/
  ∃(o:Obj) (its:Array Value) (n:Nat),K.lookup a=some o/\o.cls=.type "list"/\o.dict=none/\o.data=.seq its n/\its.size<=sizeLine/\Vals xs its.toList
def SqT (K:b0) (H:Hp) (a:Addr) (xs:List V):Prop:=
 Rd H a (.tup xs)\/
  ∃(o:Obj) (its:Array Value) (n:Nat),K.lookup a=some o/\o.cls=.type "tuple"/\o.data=.seq its n/\its.size<=sizeLine/\Vals xs its.toList
noncomputable def absV:Value->Option V
 | .none=>some .non
 | .bool b=>some (.bl b)
 | .int i _=>some (.int i)
 | .str x _=>some (.str x)
 | .bytes b _=>some (.byt b)
 | .float b _=>some (.flt b)
 | .ref a=>some (.ref a)
 | .type n=>some (.ty n)
 | _=>none
theorem RelV.abs {x:V} {u:Value} (r:RelV x u):absV u=some x:=by
 cases x with
 | non=>cases r;rfl
 | bl _=>cases r;rfl
 | int _=>obtain ⟨t,rfl⟩:=r;rfl
 | str _=>obtain ⟨t,rfl⟩:=r;rfl
 | byt _=>obtain ⟨t,rfl⟩:=r;rfl
 | flt _=>obtain ⟨t,rfl⟩:=r;rfl
 | ref _=>cases r;rfl
 | ty _=>cases r;rfl
theorem RelV.inj {x y:V} {u:Value} (r:RelV x u) (q:RelV y u):x=y:=U1 (r.abs.symm.trans q.abs)
theorem Vals.inj :∀{xs ys:List V} {us:List Value},Vals xs us->Vals ys us->xs=ys
 | _,_,_,.nil,.nil=>rfl
 | _,_,_,.cons r t,.cons r' t'=>by rw [r.inj r',Vals.inj t t']
section
variable {X:Cx} {pins:List (Addr×Obj)} {σ:St} {H:Hp} {s:A0} {a:Addr} {xs ys:List V}
theorem SqL.of {K:b0} (h:H a=some (.lst xs)):SqL K H a xs:=.inl (.inl h)
theorem SqT.of {K:b0} (h:H a=some (.tup xs)):SqT K H a xs:=.inl (.inl h)
theorem Inv.list (I:Inv X pins σ H s) (h:SqL X.K H a xs) :∃its:List Value,Vals xs its/\PlainL s.heap a its.toArray/\xs.length<=sizeLine:=by
 rcases h with h|⟨o,its,n,hk,hc,hd,hs,hz,r⟩
 ·obtain ⟨z,its,n,r,e⟩:=h.ok I.hok;exact ⟨its,r,⟨_,n,e,rfl,rfl,rfl⟩,z⟩
 ·refine ⟨its.toList,r,⟨o,n,I.kIn a o hk,hc,hd,by simpa using hs⟩,?_⟩;have e:=r.length;simp only [C2] at e;omega
theorem Inv.tuple (I:Inv X pins σ H s) (h:SqT X.K H a xs) :∃its:List Value,Vals xs its/\IsTup s.heap a its.toArray/\xs.length<=sizeLine:=by
 rcases h with h|⟨o,its,n,hk,hc,hs,hz,r⟩
 ·obtain ⟨z,its,r,p⟩:=h.ok I.hok;exact ⟨its,r,p.1,z⟩
 ·refine ⟨its.toList,r,⟨o,I.kIn a o hk,hc,n,by simpa using hs⟩,?_⟩;have e:=r.length;simp only [C2] at e;omega
theorem Inv.list_inj (I:Inv X pins σ H s) (h:SqL X.K H a xs) (h':SqL X.K H a ys):xs=ys:=by
 obtain ⟨its,r,⟨o,n,e,_,_,d⟩,_⟩:=I.list h;obtain ⟨its',r',⟨o',n',e',_,_,d'⟩,_⟩:=I.list h';rw [e] at e';cases e';rw [d] at d';injection d' with d1 _;have:its=its':=by simpa using congrArg Array.toList d1
 subst this;exact r.inj r'
theorem Inv.tuple_inj (I:Inv X pins σ H s) (h:SqT X.K H a xs) (h':SqT X.K H a ys):xs=ys:=by
 obtain ⟨its,r,⟨o,e,_,n,d⟩,_⟩:=I.tuple h;obtain ⟨its',r',⟨o',e',_,n',d'⟩,_⟩:=I.tuple h';rw [e] at e';cases e';rw [d] at d';injection d' with d1 _;have:its=its':=by simpa using congrArg Array.toList d1
 subst this;exact r.inj r'
end
noncomputable abbrev Cx.wish (X:Cx) (E:Value->A0->Prop):Cx:={ X with xe:=E }
noncomputable abbrev Cx.nox (X:Cx):Cx:=X.wish λ _ _=>False
theorem Cx.Ok.wish {X:Cx} (ok:X.Ok) (E:Value->A0->Prop):(X.wish E).Ok:=
 ⟨ok.mod,ok.kind,ok.glob,ok.blt,ok.above,ok.inj,ok.has,ok.cab,ok.hd,ok.frames,ok.stk,ok.exf,ok.bs,ok.bsz,ok.noex,ok.exfs,ok.funs,ok.frf⟩
theorem Cx.Ok.unwish {X:Cx} {E:Value->A0->Prop} (ok:(X.wish E).Ok):X.Ok:=
 ⟨ok.mod,ok.kind,ok.glob,ok.blt,ok.above,ok.inj,ok.has,ok.cab,ok.hd,ok.frames,ok.stk,ok.exf,ok.bs,ok.bsz,ok.noex,ok.exfs,ok.funs,ok.frf⟩
section
variable {X:Cx} {pins:List (Addr×Obj)} {σ:St} {H:Hp} {s:A0} {E:Value->A0->Prop}
theorem Inv.wish (I:Inv X pins σ H s) (E:Value->A0->Prop):Inv (X.wish E) pins σ H s:=⟨I.ok.wish E,I.os,I.bare,I.base,I.loc,I.cell,I.free,I.freeC,I.pin,I.hok,I.len⟩
theorem Inv.unwish (I:Inv (X.wish E) pins σ H s):Inv X pins σ H s:=⟨I.ok.unwish,I.os,I.bare,I.base,I.loc,I.cell,I.free,I.freeC,I.pin,I.hok,I.len⟩
theorem SP.unwish {D:Ends} {f:Flow} {s':A0} (h:SP (X.wish E) pins D f s'):SP X pins D f s':=by
 cases f with
 | next=>obtain ⟨σ',H',I,q⟩:=h;exact ⟨σ',H',I.unwish,q⟩
 | brk=>obtain ⟨σ',H',I,q⟩:=h;exact ⟨σ',H',I.unwish,q⟩
 | cont=>obtain ⟨σ',H',I,q⟩:=h;exact ⟨σ',H',I.unwish,q⟩
 | ret u=>obtain ⟨v,σ',H',I,r,q⟩:=h;exact ⟨v,σ',H',I.unwish,r,q⟩
theorem PSs.nox {st:List Stmt} {t:TS} (h:PSs X.nox st t):PSs X st t:=λ pins s σ H D I hw=>Z3 (h pins s σ H D (I.wish _) hw) (λ _ _ q=>q.unwish) λ _ _ z=>M5 z
end
section
variable {X:Cx} {st:Stmt} {rest:List Stmt} {t u:TS} {e:Expr} {te:TE} {pos:Pos}
noncomputable def tNext:TS:=λ D σ H=>D.nx σ H
noncomputable def tSeq (t u:TS):TS:=λ D σ H=>t { D with nx:=u D } σ H
theorem z0d:PSs X [] tNext:=λ _ _ σ H _ I h=>q9 ⟨σ,H,I,h⟩
theorem z02 (h1:PS X st t) (h2:PSs X rest u):PSs X (st :: rest) (tSeq t u):=by
 intro pins s σ H D I h;refine wpAny_execs_cons (thn (h1 pins s σ H { D with nx:=u D } I h) λ f s1 q=>?_);cases f with
 | next=>obtain ⟨σ',H',I',q⟩:=q;exact h2 pins s1 σ' H' D I' q
 | ret v=>exact q
 | brk=>exact q
 | cont=>exact q
theorem z05 (h1:PS X st t):PSs X [st] t:=by
 intro pins s σ H D I h;refine wpAny_execs_cons (thn (h1 pins s σ H D I h) λ f s1 q=>?_);cases f with
 | next=>exact q9 q
 | ret v=>exact q
 | brk=>exact q
 | cont=>exact q
noncomputable def tCont:TS:=λ D σ H=>D.ct σ H
theorem zcw:PS X (.Continue pos) tCont:=λ _ _ σ H _ I h=>wpAny_Continue ⟨σ,H,I,h⟩
theorem Inv.quiet {pins:List (Addr×Obj)} {σ:St} {H:Hp} {s:A0} (I:Inv X pins σ H s):interactive X.env=false:=by simp [interactive,I.ok.kind]
noncomputable def tDrop (te:TE):TS:=λ D σ H=>te σ H λ _ H1=>D.nx σ H1
theorem z1c (he:PE X e te) (hs:S8 e none pos.line X.env=J3 false:=by rfl):PS X (.Expr e pos) (tDrop te):=by intro pins s σ H D I h;exact wpAny_Expr_any (thn (he pins s σ H _ I h) λ v s1 ⟨x,H1,I1,r1,q1⟩=>⟨σ,H1,I1,q1⟩) I.quiet hs
noncomputable def tRet (te:TE):TS:=λ D σ H=>te σ H D.rt
theorem ps_ret (he:PE X e te):PS X (.Return (some e) pos) (tRet te):=by intro pins s σ H D I h;exact wpAny_Return_some (thn (he pins s σ H _ I h) λ v s1 ⟨x,H1,I1,r1,q1⟩=>⟨x,σ,H1,I1,r1,q1⟩)
noncomputable def tIfS (c:TT) (t u:TS):TS:=λ D σ H=>c σ H λ b H1=>if b=true then t D σ H1 else u D σ H1
theorem ps_if {c:Expr} {a b:List Stmt} {tc:TT} (hc:PT X c tc) (ha:PSs X a t) (hb:PSs X b u):PS X (.If c a b pos) (tIfS tc t u):=by
 intro pins s σ H D I h;refine wpAny_If (thn (hc pins s σ H _ I h) λ d s1 ⟨H1,I1,q1⟩=>?_);cases d with
 | true=>exact ha pins s1 σ H1 D I1 q1
 | false=>exact hb pins s1 σ H1 D I1 q1
noncomputable def tNever:TS:=λ _ _ _=>False
theorem za2:PS X st tNever:=λ _ _ _ _ _ _ h=>h.elim
end
noncomputable abbrev TG:=V->St->Hp->(St->Hp->Prop)->Prop
noncomputable abbrev TGs:=List V->St->Hp->(St->Hp->Prop)->Prop
def PG (X:Cx) (target:Expr) (t:TG):Prop:=
 ∀(pins:List (Addr×Obj)) (s:A0) (σ:St) (H:Hp) (v:V) (u:Value) (Q:St->Hp->Prop),Inv X pins σ H s->RelV v u->t v σ H Q->
  Q0 (A1 X.prog X.w) X.A (assign target X.env u) (λ _ s'=>∃σ' H',Inv X pins σ' H' s'/\Q σ' H') X.xe s
def PGs (X:Cx) (ts:List Expr) (t:TGs):Prop:=
 ∀(pins:List (Addr×Obj)) (s:A0) (σ:St) (H:Hp) (vs:List V) (us:List Value) (Q:St->Hp->Prop),Inv X pins σ H s->Vals vs us->t vs σ H Q->
  Q0 (A1 X.prog X.w) X.A (assignInOrder ((i9 ts X.env).map (·.2)) us) (λ _ s'=>∃σ' H',Inv X pins σ' H' s'/\Q σ' H') X.xe s
noncomputable abbrev TSet:=V->V->V->Hp->(Hp->Prop)->Prop
def PSet (X:Cx) (t:TSet):Prop:=
 ∀(pins:List (Addr×Obj)) (s:A0) (σ:St) (H:Hp) (o i v:V) (ov iv u:Value) (Q:Hp->Prop),Inv X pins σ H s->RelV o ov->RelV i iv->RelV v u->t o i v H Q->
  Q0 (A1 X.prog X.w) X.A (setItem ov iv u) (λ _ s'=>∃H',Inv X pins σ H' s'/\Q H') X.xe s
section
variable {X:Cx} {pos:Pos}
noncomputable def gName (i:Nat):TG:=λ v σ H Q=>Q (σ.set i (some v)) H
theorem z0l {i:Nat} {x:Str} (hN:X.N.Nodup) (hi:X.N[i]? = some x) (hx:Loc X.env.scope x) (hf:X.fn x=true\/X.env.scope.names.lookup x=some .local:=by first|exact .inl rfl|exact .inr rfl|assumption):PG X (.Name x pos) (gName i):=by intro pins s σ H v u Q I r h;exact wpAny_assign_Name (zfq I hN hi hx r (λ s' I'=>⟨_,H,I',h⟩) hf)
noncomputable def gNil:TGs:=λ vs σ H Q=>vs=[]/\Q σ H
noncomputable def gCons (t:TG) (u:TGs):TGs:=λ vs σ H Q=>∃v r,vs=v :: r/\t v σ H λ σ' H'=>u r σ' H' Q
theorem z12:PGs X [] gNil:=by intro pins s σ H vs us Q I r h;obtain ⟨e,h⟩:=h;subst e;cases r;exact assignInOrder_nil ⟨σ,H,I,h⟩
theorem z0a {e:Expr} {es:List Expr} {t:TG} {u:TGs} (h1:PG X e t) (h2:PGs X es u)
  (hs:(i9 (e :: es) X.env).map (·.2)=assign e X.env :: (i9 es X.env).map (·.2):=by rfl):PGs X (e :: es) (gCons t u):=by
 intro pins s σ H vs us Q I r h;obtain ⟨v,vr,e1,h⟩:=h;subst e1;cases r with
 | cons r rr=>rw [hs];refine assignInOrder_cons (thn (h1 pins s σ H _ _ _ I r h) λ _ s1 ⟨σ1,H1,I1,q1⟩=>?_);exact h2 pins s1 σ1 H1 _ _ Q I1 rr q1
noncomputable def gTup (K:b0) (n:Nat) (t:TGs):TG:=λ v σ H Q=>∃a xs,v=.ref a/\SqT K H a xs/\xs.length=n/\t xs σ H Q
theorem pg_tup {es:List Expr} {k:Nat} {t:TGs} {n:Nat} (hc:X.calm=true) (h:PGs X es t)
  (hn:(i9 es X.env).length=n:=by rfl) (hst:(i9 es X.env).findIdx? (·.1)=none:=by rfl):PG X (.Tuple es k pos) (gTup X.K n t):=by
 intro pins s σ H v u Q I r hw;obtain ⟨a,xs,e1,hq,hl,hw⟩:=hw;subst e1;cases r;obtain ⟨its,rv,ht,hz⟩:=I.tuple hq;refine assign_Tuple_tuple (I.ok.hd hc) ht (by simp [hn,<-hl,rv.length]) hst λ h' hx=>?_;have I1:Inv X pins σ H { s with heap:=h' }:=I.kept (t':=s.toks) λ b o e=>hx b o (Z0 (P0 e)) e;exact h pins _ σ H xs _ Q I1 (by simpa using rv) hw
noncomputable def gSub (to ti:TE) (t:TSet):TG:=λ v σ H Q=>to σ H λ o H1=>ti σ H1 λ i H2=>t o i v H2 λ H3=>Q σ H3
theorem pg_sub {o i:Expr} {to ti:TE} {t:TSet} (ho:PE X o to) (hi:PE X i ti) (hs:PSet X t)
  (ha :∀v,assign (.Subscript o i pos) X.env v=(do
   let ov <-j13 [v] (Y3 o X.env)
   let iv <-j13 [v,ov] (Y3 i X.env)
   standAt pos
   j13 [v,ov,iv] (setItem ov iv v)
   release [v,ov,iv] []):=by intro _;rfl):PG X (.Subscript o i pos) (gSub to ti t):=by
 intro pins s σ H v u Q I r h;rw [ha];refine c0 (B2 (thn (ho pins s σ H _ I h) λ ov s1 ⟨x,H1,I1,r1,q1⟩=>?_));refine c0 (B2 (thn (hi pins s1 σ H1 _ I1 q1) λ iv s2 ⟨y,H2,I2,r2,q2⟩=>?_));refine c0 (wpAny_standAt (c0 (B2 (thn (hs pins s2 σ H2 x y v ov iv u _ I2 r1 r2 r q2) λ _ s3 ⟨H3,I3,q3⟩=>?_))));exact wpAny_release ⟨σ,H3,I3,q3⟩
noncomputable def tAsg (te:TE) (g:TG):TS:=λ D σ H=>te σ H λ x H1=>g x σ H1 D.nx
theorem ps_asg {tg e:Expr} {te:TE} {g:TG} (he:PE X e te) (hg:PG X tg g) (hs:swapsWithSole [tg] e pos.line X.env=J3 false:=by rfl) (hw:swappedStores [tg] e X.env=J3 none:=by rfl)
  (h1:(i9 [tg] X.env).map (·.2)=[assign tg X.env]:=by rfl):PS X (.Assign [tg] e pos) (tAsg te g):=by
 intro pins s σ H D I h;refine wpAny_Assign_stores (thn (he pins s σ H _ I h) λ v s1 ⟨x,H1,I1,r1,q1⟩=>?_) hs hw;rw [h1];exact thn (hg pins s1 σ H1 x v _ I1 r1 q1) λ _ s2 q=>q
theorem ps_set {i:Nat} {x:Str} {e:Expr} {te:TE} {pos':Pos} (hN:X.N.Nodup) (hi:X.N[i]? = some x) (hx:Loc X.env.scope x) (he:PE X e te) (hs:S8 e (some (.Name x pos')) pos.line X.env=J3 false:=by rfl) (hf:X.fn x=true\/X.env.scope.names.lookup x=some .local:=by first|exact .inl rfl|exact .inr rfl|assumption) :
  PS X (.Assign [.Name x pos'] e pos) (tAsg te (gName i)):=by
 intro pins s σ H D I h;refine wpAny_Assign_Name (thn (he pins s σ H _ I h) λ v s1 ⟨y,H1,I1,r1,q1⟩=>?_) hs;exact zfq I1 hN hi hx r1 (λ s2 I2=>⟨_,H1,I2,q1⟩) hf
noncomputable def tWhile (c:TT) (tb:TS):TS:=λ D σ H=>∃W:Nat->St->Hp->Prop,(∃m,W m σ H)/\∀m σ H,W m σ H->
 c σ H λ b H1=>if b=true then∃N:St->Hp->Prop,(∀σ' H',N σ' H'->∃m',m' < m/\W m' σ' H')/\tb { D with nx:=N,ct:=N,bk:=D.nx } σ H1 else D.nx σ H1
theorem zfm {c:Expr} {body:List Stmt} {tc:TT} {tb:TS} (hp:PassesOwn (A1 X.prog X.w) X.A X.env X.xe) (hc:PT X c tc) (hb:PSs X body tb):PS X (.While c body [] pos) (tWhile tc tb):=by
 intro pins s σ H D I h;obtain ⟨W,⟨m0,w0⟩,turn⟩:=h;refine wpAny_While (codeAny_whileLoop (λ n s'=>∃σ' H',Inv X pins σ' H' s'/\W n σ' H') ?_ m0 ⟨σ,H,I,w0⟩);rintro n s1 ⟨σ1,H1,I1,w1⟩;refine L5 hp (thn (hc pins s1 σ1 H1 _ I1 (turn n σ1 H1 w1)) λ b s2 ⟨H2,I2,q2⟩=>?_);cases b with
 | true=>
  obtain ⟨N,hN,q2⟩:=q2;rw [if_pos rfl];refine L5 hp (thn (hb pins s2 σ1 H2 _ I2 q2) λ f s3 q3=>?_);cases f with
  | next=>obtain ⟨σ3,H3,I3,n3⟩:=q3;obtain ⟨m',hm,w3⟩:=hN σ3 H3 n3;exact ⟨m',hm,σ3,H3,I3,w3⟩
  | cont=>obtain ⟨σ3,H3,I3,n3⟩:=q3;obtain ⟨m',hm,w3⟩:=hN σ3 H3 n3;exact ⟨m',hm,σ3,H3,I3,w3⟩
  | brk=>exact q3
  | ret v=>exact q3
 | false=>rw [if_neg U0];exact q9 ⟨σ1,H2,I2,q2⟩
end
structure It where
 go:Nat->Hp->Prop
 yld:Nat->Hp->V->Hp->Prop
 stop:Nat->Hp->Prop
def FpOk (X:Cx) (pins:List (Addr×Obj)) (H:Hp) (b:Addr):Prop:=
 H b=none/\b≠X.env.locals/\b∉X.fs/\(b∈X.ex\/X.s₀.heap.objs.size<=b)/\(∀x c,X.env.cells.lookup x=some c->c≠b)/\∀p∈X.pn++pins,p.1≠b
theorem Inv.fpOk {X:Cx} {pins:List (Addr×Obj)} {σ:St} {H H':Hp} {s:A0} {b:Addr} (I:Inv X pins σ H s) (hb:s.heap.objs.size<=b) (hn:H' b=none):FpOk X pins H' b:=by
 refine ⟨hn,E3 (J1 I.lt hb),I.nofs hb,.inr (G0 I.sz hb),λ x c e z=>?_,λ p hp z=>?_⟩
 ·obtain ⟨v,q⟩:=I.cell x c e;exact absurd (J1 q.lt (by rw [z];exact hb)) (N3 _)
 ·exact absurd (J1 (P0 (I.pin p hp).1) (by rw [z];exact hb)) (N3 _)
structure Turn (P:Program) (w:y1) (K:b0) (tg:Expr) (J:It) (fp:List Addr) (it:Addr) (tn:Nat->Heap->Prop):Prop where
 mem:it∈fp
 obj :∀i h,tn i h->∀b∈fp,∃o,h.get? b=some o/\∀v,o.data≠.cell v
 keep :∀i h h',tn i h->(∀b∈fp,∀o,h.get? b=some o->h'.get? b=some o)->tn i h'
 item :∀(X:Cx),X.prog=P->X.w=w->X.K=K->X.calm=true->∀(i:Nat) (pins:List (Addr×Obj)) (s:A0) (σ:St) (H:Hp) (E:Value->A0->Prop),Inv X pins σ H s->(∀b∈fp,FpOk X pins H b)->tn i s.heap->J.go i H->
  Q0 (A1 P w) X.A (R6 (.ref it)) (λ r s1=>∃u,r=some u/\
   Q0 (A1 P w) X.A (u9 tg (.ref it) u) (λ _ s2=>∃x H',Inv X pins σ H' s2/\RelV x u/\J.yld i H x H'/\tn (i + 1) s2.heap/\∀b∈fp,H' b=none) E s1) E s
 done :∀(X:Cx),X.prog=P->X.w=w->X.K=K->X.calm=true->∀(i:Nat) (pins:List (Addr×Obj)) (s:A0) (σ:St) (H:Hp) (E:Value->A0->Prop),Inv X pins σ H s->(∀b∈fp,FpOk X pins H b)->tn i s.heap->J.stop i H->
  Q0 (A1 P w) X.A (R6 (.ref it)) (λ r s1=>r=none/\Inv X pins σ H s1) E s
 self :∀(A:A2) (i:Nat) (s:A0) (Q:Value->A0->Prop) (E:Value->A0->Prop),tn i s.heap->Q (.ref it) s->Q0 (A1 P w) A (j39 (.ref it)) Q E s
noncomputable abbrev TI:=St->Hp->(It->Hp->Prop)->Prop
def PIE (X:Cx) (pins:List (Addr×Obj)) (σ:St) (tg:Expr) (R:It->Hp->Prop) (itv:Value) (s2:A0):Prop:=
 ∃(it:Addr) (fp:List Addr) (tn:Nat->Heap->Prop) (J:It) (H':Hp),itv=.ref it/\Inv X pins σ H' s2/\Turn X.prog X.w X.K tg J fp it tn/\tn 0 s2.heap/\(∀b∈fp,FpOk X pins H' b)/\R J H'
def PI (X:Cx) (tg iter:Expr) (wi:TI):Prop:=
 ∀(pins:List (Addr×Obj)) (s:A0) (σ:St) (H:Hp) (R:It->Hp->Prop),Inv X pins σ H s->wi σ H R->
  Q0 (A1 X.prog X.w) X.A (Y3 iter X.env) (λ v s1=>Q0 (A1 X.prog X.w) X.A (j39 v) (PIE X pins σ tg R) X.xe s1) X.xe s
theorem go_of {M:Model} {A:A2} {E:Value->A0->Prop} {s:A0} {tg:Expr} {it:Addr} {u:Value} {o:Obj} {n:String} {vs:Array Value} {Q:Unit->A0->Prop} (ho:s.heap.get? it=some o) (hc:o.cls=.type n) (hd:o.data=.fields vs)
    (hn:["enumerate","zip","dict_itemiterator","dict_reverseitemiterator","odict_iterator","itertools.zip_longest","itertools.pairwise"].contains n=false) (hQ:Q () s):Q0 M A (u9 tg (.ref it) u) Q E s:=by
  unfold u9;cases tg<;>first
    | exact C0 hQ
    | (cases u<;>first
        | exact C0 hQ
        | (refine c0 (wpAny_load ho ?_)
           rw [hc,hd];show Q0 M A (if (["enumerate","zip","dict_itemiterator","dict_reverseitemiterator","odict_iterator","itertools.zip_longest","itertools.pairwise"].contains n && vs[0]? == some (c5 _))=true then _ else _) Q E s;rw [if_neg (by intro h;rw [hn,c9] at h;cases h)];exact C0 hQ))
noncomputable def Itl (K:b0) (a:Addr):It:=
 ⟨λ i H=>∃xs x,SqL K H a xs/\xs[i]? = some x,λ i H x H'=>H'=H/\∀xs,SqL K H a xs->xs[i]? = some x,λ i H=>∃xs,SqL K H a xs/\xs.length<=i⟩
noncomputable def Itt (K:b0) (a:Addr):It:=
 ⟨λ i H=>∃xs x,SqT K H a xs/\xs[i]? = some x,λ i H x H'=>H'=H/\∀xs,SqT K H a xs->xs[i]? = some x,λ i H=>∃xs,SqT K H a xs/\xs.length<=i⟩
noncomputable def Itr (lo:Int) (n:Nat):It:=⟨λ i _=>i < n,λ i H x H'=>H'=H/\x=.int (lo + i),λ i _=>n<=i⟩
theorem zg8 {P:Program} {w:y1} {K:b0} {tg:Expr} (a it:Addr):Turn P w K tg (Itl K a) [it] it (λ i h=>h.IsListIter it a i) where
 mem:=by simp
 obj:=λ i h st b hb=>by
  have e:b=it:=by simpa using hb
  subst e;obtain ⟨o,e,c,d⟩:=st;exact ⟨o,e,λ v z=>by rw [d] at z;cases z⟩
 keep:=λ i h h' st k=>st.at λ o e=>k it (by simp) o e
 item:=by intro X hP hw hK hc i pins s σ H E I hf st hg;subst hP hw hK;obtain ⟨xs,x,hq,hx⟩:=hg;obtain ⟨its,rv,p,hz⟩:=I.list hq;obtain ⟨u,hu,ru⟩:=rv.get hx;obtain ⟨f0,f1,f2,f3,f4,f5⟩:=hf it (by simp);refine wpAny_pyNext_list_item st p.isList (x:=u) (by simpa using hu) λ h' st' sb=>?_;have I1:Inv X pins σ H { s with heap:=h' }:=I.turned (t':=s.toks) (λ b o hb e=>(sb.2 b hb).trans e) f0 f1 f3 f4 f5;obtain ⟨o,e,c,d⟩:=id st';exact ⟨u,rfl,go_of (s:={ s with heap:=h' }) e c d (by decide) ⟨x,H,I1,ru,⟨rfl,λ ys hy=>by rw [I.list_inj hy hq];exact hx⟩,st',λ b hb=>(hf b hb).1⟩⟩
 done:=by intro X hP hw hK hc i pins s σ H E I hf st hg;subst hP hw hK;obtain ⟨xs,hq,hx⟩:=hg;obtain ⟨its,rv,p,hz⟩:=I.list hq;obtain ⟨f0,f1,f2,f3,f4,f5⟩:=hf it (by simp);have hl:=rv.length;exact wpAny_pyNext_list_end (I.ok.hd hc) st p.isList (by simp;omega) λ h' eb=>⟨rfl,I.turned (t':=s.toks) (λ b o hb e=>eb b o hb e) f0 f1 f3 f4 f5⟩
 self:=λ _ _ _ _ _ st h=>wpAny_pyIter_listiter st h
theorem zec {P:Program} {w:y1} {K:b0} {tg:Expr} (a it:Addr):Turn P w K tg (Itt K a) [it] it (λ i h=>h.IsTupleIter it a i) where
 mem:=by simp
 obj:=λ i h st b hb=>by
  have e:b=it:=by simpa using hb
  subst e;obtain ⟨o,e,c,d⟩:=st;exact ⟨o,e,λ v z=>by rw [d] at z;cases z⟩
 keep:=λ i h h' st k=>st.at λ o e=>k it (by simp) o e
 item:=by intro X hP hw hK hc i pins s σ H E I hf st hg;subst hP hw hK;obtain ⟨xs,x,hq,hx⟩:=hg;obtain ⟨its,rv,p,hz⟩:=I.tuple hq;obtain ⟨u,hu,ru⟩:=rv.get hx;obtain ⟨f0,f1,f2,f3,f4,f5⟩:=hf it (by simp);refine Q8 st (show s.heap.IsTuple a its.toArray from p) (x:=u) (by simpa using hu) λ h' st' sb=>?_;have I1:Inv X pins σ H { s with heap:=h' }:=I.turned (t':=s.toks) (λ b o hb e=>(sb.2 b hb).trans e) f0 f1 f3 f4 f5;obtain ⟨o,e,c,d⟩:=id st';exact ⟨u,rfl,go_of (s:={ s with heap:=h' }) e c d (by decide) ⟨x,H,I1,ru,⟨rfl,λ ys hy=>by rw [I.tuple_inj hy hq];exact hx⟩,st',λ b hb=>(hf b hb).1⟩⟩
 done:=by intro X hP hw hK hc i pins s σ H E I hf st hg;subst hP hw hK;obtain ⟨xs,hq,hx⟩:=hg;obtain ⟨its,rv,p,hz⟩:=I.tuple hq;obtain ⟨f0,f1,f2,f3,f4,f5⟩:=hf it (by simp);have hl:=rv.length;exact d9 (I.ok.hd hc) st (show s.heap.IsTuple a its.toArray from p) (by simp;omega) λ h' eb=>⟨rfl,I.turned (t':=s.toks) (λ b o hb e=>eb b o hb e) f0 f1 f3 f4 f5⟩
 self:=λ _ _ _ _ _ st h=>wpAny_pyIter_tupleiter st h
theorem zfc {P:Program} {w:y1} {K:b0} {tg:Expr} (it:Addr) (lo:Int) (n:Nat):Turn P w K tg (Itr lo n) [it] it (λ i h=>IsRangeIter h it (lo + (i:Nat) * 1) ((n:Int) - (i:Nat)) 1) where
 mem:=by simp
 obj:=λ i h st b hb=>by
  have e:b=it:=by simpa using hb
  subst e;exact ⟨_,st,λ v z=>by have z':j47 _=Data.cell v:=z;cases z'⟩
 keep:=λ i h h' st k=>k it (by simp) _ st
 item:=by intro X hP hw hK hc i pins s σ H E I hf st hg;subst hP hw hK;obtain ⟨f0,f1,f2,f3,f4,f5⟩:=hf it (by simp);have W:=Walks.range (prog:=X.prog) (w:=X.w) (I.ok.hd hc) it lo 1 n;refine W.item i s _ _ hg st λ v h' tk hv st' kk=>?_;obtain ⟨t,rfl⟩:=hv;have I1:Inv X pins σ H { s with heap:=h',toks:=tk }:=I.turned (λ b o hb e=>kk b o (by simpa using hb) e) f0 f1 f3 f4 f5;refine ⟨_,rfl,go_of (s:={ s with heap:=h',toks:=tk }) (n:="range_iterator") st' rfl rfl (by decide) ⟨.int (lo + i),H,I1,⟨t,?_⟩,⟨rfl,rfl⟩,st',λ b hb=>(hf b hb).1⟩⟩;rw [Int.mul_one]
 done:=by intro X hP hw hK hc i pins s σ H E I hf st hg;subst hP hw hK;obtain ⟨f0,f1,f2,f3,f4,f5⟩:=hf it (by simp);exact wpAny_pyNext_range_end (I.ok.hd hc) st (by have:n<=i:=hg;omega) λ h' eb=>⟨rfl,I.turned (t':=s.toks) (λ b o hb e=>eb b o hb e) f0 f1 f3 f4 f5⟩
 self:=λ _ _ _ _ _ st h=>wpAny_pyIter_rangeiter st h
section
variable {X:Cx} {tg:Expr}
noncomputable def iList (K:b0) (tl:TE):TI:=λ σ H R=>tl σ H λ x H1=>∃a,x=.ref a/\(∃xs,SqL K H1 a xs)/\R (Itl K a) H1
noncomputable def iTup (K:b0) (tl:TE):TI:=λ σ H R=>tl σ H λ x H1=>∃a,x=.ref a/\(∃xs,SqT K H1 a xs)/\R (Itt K a) H1
theorem z25 {l:Expr} {tl:TE} (hl:PE X l tl):PI X tg l (iList X.K tl):=by
 intro pins s σ H R I h;refine thn (hl pins s σ H _ I h) λ v s1 ⟨x,H1,I1,r1,q1⟩=>?_;obtain ⟨a,e,⟨xs,hq⟩,q⟩:=q1;subst e;cases r1;obtain ⟨its,rv,p,hz⟩:=I1.list hq;refine u8 p.isList ?_;refine ⟨s1.heap.objs.size,[s1.heap.objs.size],_,_,H1,rfl,I1.kept (t':=s1.toks) λ b o e=>B0 _ e,zg8 a _,⟨_,S0 _ rfl,rfl,rfl⟩,λ b hb=>?_,q⟩;have e:b=s1.heap.objs.size:=by simpa using hb
 subst e;exact I1.fpOk (F0 _) (I1.hok.fresh (F0 _))
theorem pi_tup {l:Expr} {tl:TE} (hl:PE X l tl):PI X tg l (iTup X.K tl):=by
 intro pins s σ H R I h;refine thn (hl pins s σ H _ I h) λ v s1 ⟨x,H1,I1,r1,q1⟩=>?_;obtain ⟨a,e,⟨xs,hq⟩,q⟩:=q1;subst e;cases r1;obtain ⟨its,rv,p,hz⟩:=I1.tuple hq;refine C4 (show s1.heap.IsTuple a its.toArray from p) ?_;refine ⟨s1.heap.objs.size,[s1.heap.objs.size],_,_,H1,rfl,I1.kept (t':=s1.toks) λ b o e=>B0 _ e,zec a _,⟨_,S0 _ rfl,rfl,rfl⟩,λ b hb=>?_,q⟩;have e:b=s1.heap.objs.size:=by simpa using hb
 subst e;exact I1.fpOk (F0 _) (I1.hok.fresh (F0 _))
theorem zio {pins:List (Addr×Obj)} {σ:St} {H:Hp} {s:A0} {R:It->Hp->Prop} {E:Value->A0->Prop} {lo hi:Int} {t u v:Tok} {tk:Nat} (I:Inv X pins σ H s) (h1:-(2 ^ 62)<=lo) (h2:lo < 2 ^ 62) (h3:-(2 ^ 62)<=hi) (h4:hi < 2 ^ 62)
  (q:R (Itr lo (hi - lo).toNat) H):Q0 (A1 X.prog X.w) X.A (j39 (.ref s.heap.objs.size)) (PIE X pins σ tg R) E { s with heap:=s.heap.push { cls:=.type "range",data:=.fields #[.int lo t,.int hi u,.int 1 v] },toks:=tk }:=by
 refine wpAny_pyIter_range (IsRange.new ..) (small_one h1 h2 h3 h4) ?_;have I1:Inv X pins σ H { s with heap:=s.heap.push { cls:=.type "range",data:=.fields #[.int lo t,.int hi u,.int 1 v] },toks:=tk }:=I.kept λ b o e=>B0 _ e;refine ⟨(s.heap.push { cls:=.type "range",data:=.fields #[.int lo t,.int hi u,.int 1 v] }).objs.size,[(s.heap.push { cls:=.type "range",data:=.fields #[.int lo t,.int hi u,.int 1 v] }).objs.size],_,_,H,rfl,
  I1.kept (t':=tk) λ b o e=>B0 _ e,zfc _ lo (hi - lo).toNat,?_,λ b hb=>?_,q⟩
 ·have e1:lo + ((0:Nat):Int) * 1=lo:=by simp
  have e2:(((hi - lo).toNat:Nat):Int) - ((0:Nat):Int)=Builtin.Range.rangeSize lo hi 1:=by rw [rangeSize_one];split<;>omega
  show IsRangeIter _ _ (lo + ((0:Nat):Int) * 1) ((((hi - lo).toNat:Nat):Int) - ((0:Nat):Int)) 1;rw [e1,e2];exact S0 _ rfl
 ·have e:b=(s.heap.push { cls:=.type "range",data:=.fields #[.int lo t,.int hi u,.int 1 v] }).objs.size:=by simpa using hb
  subst e;exact I1.fpOk (F0 _) (I1.hok.fresh (F0 _))
noncomputable def iRng1 (ta:TA):TI:=λ σ H R=>ta σ H λ vs H1=>∃j:Int,vs=[.int j]/\-(2 ^ 62)<=j/\j < 2 ^ 62/\R (Itr 0 j.toNat) H1
theorem z2w {a:Expr} {ta:TA} {p pos:Pos} (hg:Gl X "range") (hm:X.mg "range" = none) (ha:PA X [a] ta) (hs:K1 [a] X.env=[(false,Y3 a X.env)]:=by rfl):PI X tg (.Call (.Name "range" p) [a] [] pos) (iRng1 ta):=by
 intro pins s σ H R I h;refine Call_ (ld_blt I hg hm boot_range (V3 (thn (ha pos pins s σ H _ I h) λ us s1 ⟨vs,H1,I1,r1,q1⟩=>?_) hs rfl));obtain ⟨j,e,q1,q2,q⟩:=q1;subst e;cases r1 with
 | cons r rr=>cases rr;obtain ⟨t,rfl⟩:=r;exact call_range_1 (zio I1 (by omega) (by omega) q1 q2 (by simpa using q))
noncomputable def tFor (wi:TI) (g:TG) (tb:TS):TS:=λ D σ H=>wi σ H λ J H1=>∃W:Nat->Nat->St->Hp->Prop,(∃m,W 0 m σ H1)/\∀i m σ H,W i m σ H->
 (J.stop i H/\D.nx σ H)\/(J.go i H/\∃N:St->Hp->Prop,(∀σ' H',N σ' H'->∃m',m' < m/\W (i + 1) m' σ' H')/\∀x H',J.yld i H x H'->g x σ H' λ σ2 H2=>tb { D with nx:=N,ct:=N,bk:=D.nx } σ2 H2)
noncomputable def pinsAt (fp:List Addr) (h:Heap):List (Addr×Obj):=fp.filterMap λ b=>(h.get? b).map λ o=>(b,o)
theorem z3m {fp:List Addr} {h:Heap} {b:Addr} {o:Obj} (hb:b∈fp) (e:h.get? b=some o):(b,o)∈pinsAt fp h:=List.mem_filterMap.mpr ⟨b,hb,by rw [e];rfl⟩
theorem zbm {fp:List Addr} {h:Heap} {p:Addr×Obj} (hp:p∈pinsAt fp h):p.1∈fp/\h.get? p.1=some p.2:=by
 obtain ⟨b,hb,e⟩:=List.mem_filterMap.mp hp;cases q:h.get? b with
 | none=>rw [q] at e;cases e
 | some o=>rw [q] at e;have e':(b,o)=p:=U1 e;subst e';exact ⟨hb,q⟩
theorem Inv.pinned {pins:List (Addr×Obj)} {σ:St} {H:Hp} {s:A0} {fp:List Addr} (I:Inv X pins σ H s) (hf :∀b∈fp,FpOk X pins H b) (ho :∀b∈fp,∃o,s.heap.get? b=some o/\∀v,o.data≠.cell v):Inv X (pins++pinsAt fp s.heap) σ H s:=
 I.pins_of λ p hp=>(List.mem_append.mp hp).elim (λ z=>I.pin p (D1 _ z)) λ z=>by obtain ⟨hb,e⟩:=zbm z;obtain ⟨f0,f1,f2,_⟩:=hf p.1 hb;obtain ⟨o,e',d⟩:=ho p.1 hb;rw [e] at e';cases e';exact ⟨e,f0,f1,f2,d⟩
theorem Inv.unpinned {pins pl:List (Addr×Obj)} {σ:St} {H:Hp} {s:A0} (I:Inv X (pins++pl) σ H s):Inv X pins σ H s:=I.pins_of λ p hp=>I.pin p (D1 _ (P5 _ hp))
theorem ps_for {iter:Expr} {body:List Stmt} {wi:TI} {g:TG} {tb:TS} {pos:Pos} (hp:PassesOwn (A1 X.prog X.w) X.A X.env X.xe) (hc:X.calm=true) (hi:PI X tg iter wi) (hg:PG X tg g) (hb:PSs X body tb)
  (hs :∀x,B8 iter X.env x=J3 x:=by intro _;rfl):PS X (.For tg iter body [] pos) (tFor wi g tb):=by
 intro pins s σ H D I h;refine wpAny_For (thn (hi pins s σ H _ I h) λ v s1 h1=>thn h1 λ itv s2 h2=>?_) hs;obtain ⟨it,fp,tn,J,H2,e,I2,T,st2,f2,W,⟨m0,w0⟩,turn⟩:=h2;subst e
 -- what stays true of the iterator's objects through the loop
 have stat :∀{H':Hp},(∀b∈fp,H' b=none)->∀b∈fp,FpOk X pins H' b:=λ hn b hb=>⟨hn b hb,(f2 b hb).2⟩
 refine codeAny_forLoop_any (λ n s'=>∃i σ' H',Inv X pins σ' H' s'/\tn i s'.heap/\(∀b∈fp,H' b=none)/\W i n σ' H') ?_ m0 ⟨0,σ,H2,I2,st2,λ b hb=>(f2 b hb).1,w0⟩;rintro n s3 ⟨i,σ3,H3,I3,st3,fr3,w3⟩;rcases turn i n σ3 H3 w3 with ⟨stop,qn⟩|⟨go,N,hN,step⟩
 ·refine L5 hp (thn (T.done X rfl rfl rfl hc i pins s3 σ3 H3 X.xe I3 (stat fr3) st3 stop) λ r s4 ⟨hr,I4⟩=>?_);subst hr;exact q9 ⟨σ3,H3,I4,qn⟩
 ·refine L5 hp (thn (T.item X rfl rfl rfl hc i pins s3 σ3 H3 X.xe I3 (stat fr3) st3 go) λ r s4 ⟨u,hr,h4⟩=>?_);subst hr;refine L5 hp (thn h4 λ _ s5 ⟨x,H5,I5,r5,y5,st5,fr5⟩=>?_);have I5':=I5.pinned (stat fr5) (T.obj _ _ st5);refine L5 hp (thn (hg _ s5 σ3 H5 x u _ I5' r5 (step x H5 y5)) λ _ s6 ⟨σ6,H6,I6,q6⟩=>?_);refine L5 hp (thn (hb _ s6 σ6 H6 _ I6 q6) λ f s7 q7=>?_);have again :∀{σ7:St} {H7:Hp},Inv X (pins++pinsAt fp s5.heap) σ7 H7 s7->N σ7 H7->∃m,m < n/\∃i σ' H',Inv X pins σ' H' s7/\tn i s7.heap/\(∀b∈fp,H' b=none)/\W i m σ' H':=λ {σ7 H7} I7 n7=>by obtain ⟨m',hm,w7⟩:=hN σ7 H7 n7;refine ⟨m',hm,i + 1,σ7,H7,I7.unpinned,T.keep _ _ _ st5 λ b hb o e=>(I7.pin (b,o) (D1 _ (D1 _ (z3m hb e)))).1,λ b hb=>?_,w7⟩;obtain ⟨o,e,d⟩:=T.obj _ _ st5 b hb;exact (I7.pin (b,o) (D1 _ (D1 _ (z3m hb e)))).2.1
  cases f with
  | next=>obtain ⟨σ7,H7,I7,n7⟩:=q7;exact again I7 n7
  | cont=>obtain ⟨σ7,H7,I7,n7⟩:=q7;exact again I7 n7
  | brk=>obtain ⟨σ7,H7,I7,q7⟩:=q7;exact ⟨σ7,H7,I7.unpinned,q7⟩
  | ret v=>obtain ⟨x7,σ7,H7,I7,r7,q7⟩:=q7;exact ⟨x7,σ7,H7,I7.unpinned,r7,q7⟩
end
theorem z48 {K:b0} {a:Addr} {xs:List V} {g:TG} {tb:TS} {D:Ends} {σ:St} {H:Hp} (Pv:Nat->St->Hp->Prop) (h0:Pv 0 σ H) (hl :∀i σ H,i<=xs.length->Pv i σ H->SqL K H a xs)
  (hs :∀i x σ H,xs[i]? = some x->Pv i σ H->g x σ H λ σ2 H2=>tb { D with nx:=Pv (i + 1),ct:=Pv (i + 1),bk:=D.nx } σ2 H2) (hd :∀σ H,Pv xs.length σ H->D.nx σ H) :
  ∃W:Nat->Nat->St->Hp->Prop,(∃m,W 0 m σ H)/\∀i m σ H,W i m σ H->
   ((Itl K a).stop i H/\D.nx σ H)\/((Itl K a).go i H/\∃N:St->Hp->Prop,(∀σ' H',N σ' H'->∃m',m' < m/\W (i + 1) m' σ' H')/\∀x H',(Itl K a).yld i H x H'->g x σ H' λ σ2 H2=>tb { D with nx:=N,ct:=N,bk:=D.nx } σ2 H2):=by
 refine ⟨λ i m σ H=>m=xs.length - i/\i<=xs.length/\Pv i σ H,⟨xs.length,by simp,Q1 _,h0⟩,?_⟩;rintro i m σ H ⟨rfl,hi,p⟩;have q:=hl i σ H hi p;by_cases hlt:i < xs.length
 ·refine .inr ⟨⟨xs,xs[i],q,by simp [hlt]⟩,Pv (i + 1),λ σ' H' p'=>⟨xs.length - (i + 1),by omega,rfl,hlt,p'⟩,λ x H' y=>?_⟩;obtain ⟨e,y⟩:=y;subst e;exact hs i x σ _ (y xs q) p
 ·have e:i=xs.length:=by omega
  subst e;exact .inl ⟨⟨xs,q,F0 _⟩,hd σ H p⟩
theorem z7y {lo:Int} {n:Nat} {g:TG} {tb:TS} {D:Ends} {σ:St} {H:Hp} (Pv:Nat->St->Hp->Prop) (h0:Pv 0 σ H)
  (hs :∀i σ H,i < n->Pv i σ H->g (.int (lo + i)) σ H λ σ2 H2=>tb { D with nx:=Pv (i + 1),ct:=Pv (i + 1),bk:=D.nx } σ2 H2) (hd :∀σ H,Pv n σ H->D.nx σ H) :
  ∃W:Nat->Nat->St->Hp->Prop,(∃m,W 0 m σ H)/\∀i m σ H,W i m σ H->
   ((Itr lo n).stop i H/\D.nx σ H)\/((Itr lo n).go i H/\∃N:St->Hp->Prop,(∀σ' H',N σ' H'->∃m',m' < m/\W (i + 1) m' σ' H')/\∀x H',(Itr lo n).yld i H x H'->g x σ H' λ σ2 H2=>tb { D with nx:=N,ct:=N,bk:=D.nx } σ2 H2):=by
 refine ⟨λ i m σ H=>m=n - i/\i<=n/\Pv i σ H,⟨n,by simp,Q1 _,h0⟩,?_⟩;rintro i m σ H ⟨rfl,hi,p⟩;by_cases hlt:i < n
 ·refine .inr ⟨hlt,Pv (i + 1),λ σ' H' p'=>⟨n - (i + 1),by omega,rfl,hlt,p'⟩,λ x H' y=>?_⟩;obtain ⟨e,y⟩:=y;subst e y;exact hs i σ _ hlt p
 ·have e:i=n:=by omega
  subst e;exact .inl ⟨F0 _,hd σ H p⟩
noncomputable abbrev R2:=V->V->Hp->VK->Prop
def OpR (X:Cx) (f:Value->Value->Sem Value) (r:R2):Prop:=
 ∀(pins:List (Addr×Obj)) (s:A0) (σ:St) (H:Hp) (x y:V) (v u:Value) (Q:VK),Inv X pins σ H s->RelV x v->RelV y u->r x y H Q->
  Q0 (A1 X.prog X.w) X.A (f v u) (EP X pins σ Q) X.xe s
def UnR (X:Cx) (f:Value->Sem Value) (r:V->Hp->VK->Prop):Prop:=
 ∀(pins:List (Addr×Obj)) (s:A0) (σ:St) (H:Hp) (x:V) (v:Value) (Q:VK),Inv X pins σ H s->RelV x v->r x H Q->
  Q0 (A1 X.prog X.w) X.A (f v) (EP X pins σ Q) X.xe s
def CallR (X:Cx) (f:Value) (r:List V->Hp->VK->Prop):Prop:=
 ∀(pins:List (Addr×Obj)) (s:A0) (σ:St) (H:Hp) (xs:List V) (us:List Value) (Q:VK),Inv X pins σ H s->Vals xs us->r xs H Q->
  Q0 (A1 X.prog X.w) X.A (call f us) (EP X pins σ Q) X.xe s
noncomputable def tOp (r:R2) (ta tb:TE):TE:=λ σ H Q=>ta σ H λ x H1=>tb σ H1 λ y H2=>r x y H2 Q
noncomputable def tUn (r:V->Hp->VK->Prop) (ta:TE):TE:=λ σ H Q=>ta σ H λ x H1=>r x H1 Q
noncomputable def rI (C:Int->Int->Prop) (g:Int->Int->V):R2:=λ x y H Q=>∃i j,x=.int i/\y=.int j/\C i j/\Q (g i j) H
noncomputable def rI0 (g:Int->Int->V):R2:=λ x y H Q=>∃i j,x=.int i/\y=.int j/\Q (g i j) H
def rU (g:Int->V):V->Hp->VK->Prop:=λ x H Q=>∃i,x=.int i/\Q (g i) H
section
variable {X:Cx} {a b c:Expr} {ta tb tc:TE} {pos:Pos}
theorem binT (ha:PE X a ta) (hb:PE X b tb) {pins:List (Addr×Obj)} {s:A0} {σ:St} {H:Hp} {R:V->V->Hp->Prop} (I:Inv X pins σ H s)
  (h:ta σ H λ x H1=>tb σ H1 λ y H2=>R x y H2) {Q:Value->A0->Prop} {f:Value->Value->Sem Value}
  (hf :∀v u s2 x y H2,Inv X pins σ H2 s2->RelV x v->RelV y u->R x y H2->Q0 (A1 X.prog X.w) X.A (f v u) Q X.xe s2) :
  Q0 (A1 X.prog X.w) X.A (Y3 a X.env) (λ v s₁=>Q0 (A1 X.prog X.w) X.A (Y3 b X.env) (λ u s₂=>Q0 (A1 X.prog X.w) X.A (f v u) Q X.xe s₂) X.xe s₁) X.xe s:=by
 refine thn (ha pins s σ H _ I h) λ v s1 ⟨x,H1,I1,r1,q1⟩=>?_;refine thn (hb pins s1 σ H1 _ I1 q1) λ u s2 ⟨y,H2,I2,r2,q2⟩=>?_;exact hf v u s2 x y H2 I2 r1 r2 q2
theorem pe_op {op:Operator} {r:R2} (ho:OpR X (M4 op) r) (ha:PE X a ta) (hb:PE X b tb):PE X (.BinOp a op b pos) (tOp r ta tb):=by intro pins s σ H Q I h;exact wpAny_BinOp (binT ha hb I h λ v u s2 x y H2 I2 rx ry q=>ho pins s2 σ H2 x y v u Q I2 rx ry q)
theorem pe_un {op:UnaryOp} {r:V->Hp->VK->Prop} (ho:UnR X (unaryOp op) r) (ha:PE X a ta):PE X (.UnaryOp op a pos) (tUn r ta):=by intro pins s σ H Q I h;exact UnaryOp_ (thn (ha pins s σ H _ I h) λ v s1 ⟨x,H1,I1,r1,q1⟩=>ho pins s1 σ H1 x v Q I1 r1 q1)
theorem opI {f:Value->Value->Sem Value} {C:Int->Int->Prop} {g:Int->Int->Int}
  (rule :∀(i j:Int) (t u:Tok) (s:A0) (Q:Value->A0->Prop) (E:Value->A0->Prop),C i j->Q (.int (g i j) s.toks) { s with toks:=s.toks + 1 }->Q0 (A1 X.prog X.w) X.A (f (.int i t) (.int j u)) Q E s) :
  OpR X f (rI C λ i j=>.int (g i j)):=by
 intro pins s σ H x y v u Q I rx ry h;obtain ⟨i,j,rfl,rfl,hc,q⟩:=h;obtain ⟨t,rfl⟩:=rx;obtain ⟨t',rfl⟩:=ry;exact rule i j t t' s _ _ hc ⟨.int (g i j),H,I.tok _,⟨_,rfl⟩,q⟩
theorem opI0 {f:Value->Value->Sem Value} {g:Int->Int->Int}
  (rule :∀(i j:Int) (t u:Tok) (s:A0) (Q:Value->A0->Prop) (E:Value->A0->Prop),Q (.int (g i j) s.toks) { s with toks:=s.toks + 1 }->Q0 (A1 X.prog X.w) X.A (f (.int i t) (.int j u)) Q E s) :
  OpR X f (rI0 λ i j=>.int (g i j)):=by
 intro pins s σ H x y v u Q I rx ry h;obtain ⟨i,j,rfl,rfl,q⟩:=h;obtain ⟨t,rfl⟩:=rx;obtain ⟨t',rfl⟩:=ry;exact rule i j t t' s _ _ ⟨.int (g i j),H,I.tok _,⟨_,rfl⟩,q⟩
theorem opB0 {f:Value->Value->Sem Value} {g:Int->Int->Bool}
  (rule :∀(i j:Int) (t u:Tok) (s:A0) (Q:Value->A0->Prop) (E:Value->A0->Prop),Q (.bool (g i j)) s->Q0 (A1 X.prog X.w) X.A (f (.int i t) (.int j u)) Q E s) :
  OpR X f (rI0 λ i j=>.bl (g i j)):=by
 intro pins s σ H x y v u Q I rx ry h;obtain ⟨i,j,rfl,rfl,q⟩:=h;obtain ⟨t,rfl⟩:=rx;obtain ⟨t',rfl⟩:=ry;exact rule i j t t' s _ _ ⟨.bl (g i j),H,I,rfl,q⟩
def CPow (i j:Int):Prop:=0<=j/\j<=1000000/\i.natAbs < 2 ^ 64
def CMul (i j:Int):Prop:=(-(2 ^ 64) < i/\i < 2 ^ 64)\/(-(2 ^ 64) < j/\j < 2 ^ 64)
theorem CMul.ok {i j:Int} (h:CMul i j):IntMulOk i j:=by
 rcases h with ⟨h1,h2⟩|⟨h1,h2⟩
 ·exact .of_left (intBits_le_64 h1 h2)
 ·exact .of_right (intBits_le_64 h1 h2)
theorem op_add:OpR X (M4 .Add) (rI0 λ i j=>.int (i + j)):=opI0 λ _ _ _ _ _ _ _ q=>add_int q
theorem op_sub:OpR X (M4 .Sub) (rI0 λ i j=>.int (i - j)):=opI0 λ _ _ _ _ _ _ _ q=>sub_int q
theorem op_mul:OpR X (M4 .Mult) (rI CMul λ i j=>.int (i * j)):=opI λ _ _ _ _ _ _ _ hc q=>mul_int q hc.ok
theorem op_mod:OpR X (M4 .Mod) (rI (λ _ j=>0 < j) λ i j=>.int (i % j)):=opI λ i j _ _ _ _ _ hc q=>by have h1:(0:Int) < j:=hc;exact mod_int' (by omega) (by rw [Int.fmod_eq_emod_of_nonneg i (by omega)];exact q)
theorem op_pow:OpR X (M4 .Pow) (rI CPow λ i j=>.int (i ^ j.toNat)):=opI λ _ _ _ _ _ _ _ hc q=>pow_int_small hc.1 hc.2.1 hc.2.2 q
theorem unI {f:Value->Sem Value} {g:Int->Int}
  (rule :∀(i:Int) (t:Tok) (s:A0) (Q:Value->A0->Prop) (E:Value->A0->Prop),Q (.int (g i) s.toks) { s with toks:=s.toks + 1 }->Q0 (A1 X.prog X.w) X.A (f (.int i t)) Q E s) :
  UnR X f (rU λ i=>.int (g i)):=by
 intro pins s σ H x v Q I rx h;obtain ⟨i,rfl,q⟩:=h;obtain ⟨t,rfl⟩:=rx;exact rule i t s _ _ ⟨.int (g i),H,I.tok _,⟨_,rfl⟩,q⟩
theorem un_neg:UnR X (unaryOp .USub) (rU λ i=>.int (-i)):=unI λ _ _ _ _ _ q=>neg_int q
end
noncomputable def scal:V->V->Bool
 | .non,.non=>true | .non,.int _=>true | .int _,.non=>true | .non,.bl _=>true | .bl _,.non=>true | .non,.str _=>true | .str _,.non=>true
 | .int _,.int _=>true | .bl _,.bl _=>true | .str _,.str _=>true | .byt _,.byt _=>true
 | .int _,.str _=>true | .str _,.int _=>true | .bl _,.str _=>true | .str _,.bl _=>true
 | _,_=>false
noncomputable def rEq:R2:=λ x y H Q=>scal x y=true/\Q (.bl (decide (x=y))) H
noncomputable def rNe:R2:=λ x y H Q=>scal x y=true/\Q (.bl (!decide (x=y))) H
theorem zhq {i j:Int}:decide (V.int i=V.int j)=(i == j):=by rw [Bool.eq_iff_iff];simp
theorem dec_bl {i j:Bool}:decide (V.bl i=V.bl j)=(i == j):=by rw [Bool.eq_iff_iff];simp
theorem zhl {i j:Str}:decide (V.str i=V.str j)=(i == j):=by rw [Bool.eq_iff_iff];simp
theorem zhm {i j:Array UInt8}:decide (V.byt i=V.byt j)=(i.toList == j.toList):=by rw [Bool.eq_iff_iff];cases i;cases j;simp
section
variable {X:Cx} {a b c:Expr} {ta tb tc:TE} {pos:Pos}
theorem fin_bl {pins:List (Addr×Obj)} {σ:St} {H:Hp} {s:A0} {Q:VK} {k k':Bool} (I:Inv X pins σ H s) (q:Q (.bl k) H) (e:k=k'):EP X pins σ Q (.bool k') s:=by subst e;exact ⟨.bl k,H,I,rfl,q⟩
theorem op_eq:OpR X (v2 .Eq) rEq:=by
 intro pins s σ H x y v u Q I rx ry h;obtain ⟨hs,q⟩:=h;cases x with
 | non=>
  cases rx;cases y with
  | non=>cases ry;exact PySem.EqNone.eq_none_none (fin_bl I q (by simp))
  | bl j=>cases ry;exact PySem.EqNone.eq_none_bool (fin_bl I q (by simp))
  | int j=>obtain ⟨t',rfl⟩:=ry;exact PySem.EqNone.eq_none_int (fin_bl I q (by simp))
  | str j=>obtain ⟨t',rfl⟩:=ry;exact PySem.EqNone.eq_none_str (fin_bl I q (by simp))
  | _=>exact absurd (show false=true from hs) U0
 | bl i=>
  cases rx;cases y with
  | non=>cases ry;exact PySem.EqNone.eq_bool_none (fin_bl I q (by simp))
  | bl j=>cases ry;exact eq_bool (fin_bl I q dec_bl)
  | str j=>obtain ⟨t',rfl⟩:=ry;exact PySem.EqMixed.eq_bool_str (fin_bl I q (by simp))
  | _=>exact absurd (show false=true from hs) U0
 | int i=>
  obtain ⟨t,rfl⟩:=rx;cases y with
  | non=>cases ry;exact PySem.EqNone.eq_int_none (fin_bl I q (by simp))
  | int j=>obtain ⟨t',rfl⟩:=ry;exact eq_int (fin_bl I q zhq)
  | str j=>obtain ⟨t',rfl⟩:=ry;exact PySem.EqMixed.eq_int_str (fin_bl I q (by simp))
  | _=>exact absurd (show false=true from hs) U0
 | str i=>
  obtain ⟨t,rfl⟩:=rx;cases y with
  | non=>cases ry;exact PySem.EqNone.eq_str_none (fin_bl I q (by simp))
  | bl j=>cases ry;exact PySem.EqMixed.eq_str_bool (fin_bl I q (by simp))
  | int j=>obtain ⟨t',rfl⟩:=ry;exact PySem.EqMixed.eq_str_int (fin_bl I q (by simp))
  | str j=>obtain ⟨t',rfl⟩:=ry;exact eq_str (fin_bl I q zhl)
  | _=>exact absurd (show false=true from hs) U0
 | byt i=>
  obtain ⟨t,rfl⟩:=rx;cases y with
  | byt j=>obtain ⟨t',rfl⟩:=ry;exact PySem.W.eq_bytes (fin_bl I q zhm)
  | _=>exact absurd (show false=true from hs) U0
 | _=>cases y<;>exact absurd (show false=true from hs) U0
theorem op_ne:OpR X (v2 .NotEq) rNe:=by
 intro pins s σ H x y v u Q I rx ry h;obtain ⟨hs,q⟩:=h;cases x with
 | non=>
  cases rx;cases y with
  | non=>cases ry;exact PySem.EqNone.ne_none_none (fin_bl I q (by simp))
  | bl j=>cases ry;exact PySem.EqNone.ne_none_bool (fin_bl I q (by simp))
  | int j=>obtain ⟨t',rfl⟩:=ry;exact PySem.EqNone.ne_none_int (fin_bl I q (by simp))
  | str j=>obtain ⟨t',rfl⟩:=ry;exact PySem.EqNone.ne_none_str (fin_bl I q (by simp))
  | _=>exact absurd (show false=true from hs) U0
 | bl i=>
  cases rx;cases y with
  | non=>cases ry;exact PySem.EqNone.ne_bool_none (fin_bl I q (by simp))
  | bl j=>cases ry;exact ne_bool (fin_bl I q (congrArg not dec_bl))
  | str j=>obtain ⟨t',rfl⟩:=ry;exact PySem.EqMixed.ne_bool_str (fin_bl I q (by simp))
  | _=>exact absurd (show false=true from hs) U0
 | int i=>
  obtain ⟨t,rfl⟩:=rx;cases y with
  | non=>cases ry;exact PySem.EqNone.ne_int_none (fin_bl I q (by simp))
  | int j=>obtain ⟨t',rfl⟩:=ry;exact ne_int (fin_bl I q (congrArg not zhq))
  | str j=>obtain ⟨t',rfl⟩:=ry;exact PySem.EqMixed.ne_int_str (fin_bl I q (by simp))
  | _=>exact absurd (show false=true from hs) U0
 | str i=>
  obtain ⟨t,rfl⟩:=rx;cases y with
  | non=>cases ry;exact PySem.EqNone.ne_str_none (fin_bl I q (by simp))
  | bl j=>cases ry;exact PySem.EqMixed.ne_str_bool (fin_bl I q (by simp))
  | int j=>obtain ⟨t',rfl⟩:=ry;exact PySem.EqMixed.ne_str_int (fin_bl I q (by simp))
  | str j=>obtain ⟨t',rfl⟩:=ry;exact ne_str (fin_bl I q (congrArg not zhl))
  | _=>exact absurd (show false=true from hs) U0
 | byt i=>
  obtain ⟨t,rfl⟩:=rx;cases y with
  | byt j=>obtain ⟨t',rfl⟩:=ry;exact PySem.W.ne_bytes (fin_bl I q (congrArg not zhm))
  | _=>exact absurd (show false=true from hs) U0
 | _=>cases y<;>exact absurd (show false=true from hs) U0
theorem op_lt:OpR X (v2 .Lt) (rI0 λ i j=>.bl (decide (i < j))):=opB0 λ _ _ _ _ _ _ _ q=>lt_int q
theorem op_le:OpR X (v2 .LtE) (rI0 λ i j=>.bl (decide (i<=j))):=opB0 λ _ _ _ _ _ _ _ q=>le_int q
theorem op_gt:OpR X (v2 .Gt) (rI0 λ i j=>.bl (decide (j < i))):=opB0 λ _ _ _ _ _ _ _ q=>gt_int q
theorem op_ge:OpR X (v2 .GtE) (rI0 λ i j=>.bl (decide (j<=i))):=opB0 λ _ _ _ _ _ _ _ q=>ge_int q
theorem op_isN:OpR X (v2 .Is) (λ x y H Q=>y=.non/\Q (.bl (decide (x=.non))) H):=by
 intro pins s σ H x y v u Q I rx ry h;obtain ⟨rfl,q⟩:=h;cases ry;refine is_none_gen (fin_bl I q ?_);cases x<;>first
  | (cases rx;rfl)
  | (obtain ⟨t,rfl⟩:=rx;rfl)
theorem z8n:OpR X (v2 .IsNot) (λ x y H Q=>y=.non/\Q (.bl (!decide (x=.non))) H):=by
 intro pins s σ H x y v u Q I rx ry h;obtain ⟨rfl,q⟩:=h;cases ry;refine isnot_none_gen (fin_bl I q ?_);cases x<;>first
  | (cases rx;rfl)
  | (obtain ⟨t,rfl⟩:=rx;rfl)
theorem OpR.or {f:Value->Value->Sem Value} {r r':R2} (h:OpR X f r) (h':OpR X f r'):OpR X f (λ x y H Q=>r x y H Q\/r' x y H Q):=by
 intro pins s σ H x y v u Q I rx ry q;rcases q with q|q
 ·exact h pins s σ H x y v u Q I rx ry q
 ·exact h' pins s σ H x y v u Q I rx ry q
theorem nomark (b:Expr) {op:CmpOp} (h:op≠.In:=by decide) (h2:op≠.NotIn:=by decide):D8 op b=false:=by
 have e1:(op == CmpOp.In)=false:=by cases op<;>first|rfl|exact absurd rfl h
 have e2:(op == CmpOp.NotIn)=false:=by cases op<;>first|rfl|exact absurd rfl h2
 cases b<;>simp [D8,e1,e2]
theorem z0o {op:CmpOp} {r:R2} (ho:OpR X (v2 op) r) (ha:PE X a ta) (hb:PE X b tb) (hm:D8 op b=false):PE X (.Compare a [op] [b] pos) (tOp r ta tb):=by intro pins s σ H Q I h;exact wpAny_Compare1 (binT ha hb I h λ v u s2 x y H2 I2 rx ry q=>ho pins s2 σ H2 x y v u Q I2 rx ry q) hm
noncomputable def tTest (t:TE):TT:=λ σ H Q=>t σ H λ x H'=>∃k,x=.bl k/\Q k H'
theorem z09 {op:CmpOp} {r:R2} (ho:OpR X (v2 op) r) (ha:PE X a ta) (hb:PE X b tb) (hm:D8 op b=false):PT X (.Compare a [op] [b] pos) (tTest (tOp r ta tb)):=by
 intro pins s σ H Q I h;refine wpAny_isTrue_Compare1 (thn (ha pins s σ H _ I h) λ v s1 ⟨x,H1,I1,r1,q1⟩=>thn (hb pins s1 σ H1 _ I1 q1) λ u s2 ⟨y,H2,I2,r2,q2⟩=>thn (ho pins s2 σ H2 x y v u _ I2 r1 r2 q2) λ c s3 ⟨z,H3,I3,r3,k,e,q3⟩=>?_) hm;subst e;cases r3;exact B3 ⟨H3,I3,q3⟩
noncomputable def tChain (r r':R2) (ta tb tc:TE):TE:=λ σ H Q=>ta σ H λ x H1=>tb σ H1 λ y H2=>r x y H2 λ z H3=>∃k,z=.bl k/\
 (if k=true then tc σ H3 λ w' H4=>r' y w' H4 Q else Q (.bl false) H3)
theorem zik {op op':CmpOp} {r r':R2} (ho:OpR X (v2 op) r) (ho':OpR X (v2 op') r') (ha:PE X a ta) (hb:PE X b tb) (hc:PE X c tc)
  (hm:lastMarks [op,op'] [b,c]=false:=by with_unfolding_all rfl):PE X (.Compare a [op,op'] [b,c] pos) (tChain r r' ta tb tc):=by
 intro pins s σ H Q I h;refine Compare_chain (thn (ha pins s σ H _ I h) λ v s1 ⟨x,H1,I1,r1,q1⟩=>chain_link (thn (hb pins s1 σ H1 _ I1 q1) λ u s2 ⟨y,H2,I2,r2,q2⟩=>thn (ho pins s2 σ H2 x y v u _ I2 r1 r2 q2) λ d s3 ⟨z,H3,I3,r3,k,e,q3⟩=>?_)) hm;subst e;cases r3;refine B3 ?_;cases k with
 | false=>exact ite_ff ⟨.bl false,H3,I3,rfl,q3⟩
 | true=>exact ite_tt (chain_last (thn (hc pins s3 σ H3 _ I3 q3) λ w' s4 ⟨z',H4,I4,r4,q4⟩=>ho' pins s4 σ H4 y z' u w' Q I4 r2 r4 q4))
theorem ziq {op op':CmpOp} {r r':R2} (ho:OpR X (v2 op) r) (ho':OpR X (v2 op') r') (ha:PE X a ta) (hb:PE X b tb) (hc:PE X c tc)
  (hm:lastMarks [op,op'] [b,c]=false:=by with_unfolding_all rfl):PT X (.Compare a [op,op'] [b,c] pos) (tTest (tChain r r' ta tb tc)):=by
 intro pins s σ H Q I h;refine isTrue_chain (thn (ha pins s σ H _ I h) λ v s1 ⟨x,H1,I1,r1,q1⟩=>test_link (thn (hb pins s1 σ H1 _ I1 q1) λ u s2 ⟨y,H2,I2,r2,q2⟩=>thn (ho pins s2 σ H2 x y v u _ I2 r1 r2 q2) λ d s3 ⟨z,H3,I3,r3,k,e,q3⟩=>?_)) hm;subst e;cases r3;refine B3 ?_;cases k with
 | false=>obtain ⟨k',e',q'⟩:=q3;cases e';exact ite_ff ⟨H3,I3,q'⟩
 | true=>refine ite_tt (test_last (thn (hc pins s3 σ H3 _ I3 q3) λ w' s4 ⟨z',H4,I4,r4,q4⟩=>thn (ho' pins s4 σ H4 y z' u w' _ I4 r2 r4 q4) λ d' s5 ⟨z2,H5,I5,r5,k2,e2,q5⟩=>?_));subst e2;cases r5;exact B3 ⟨H5,I5,q5⟩
theorem line63:(sizeLine:Nat) < 2 ^ 63:=by rw [sizeLine_eq];decide
theorem op_add_str:OpR X (M4 .Add) (λ x y H Q=>∃i j,x=.str i/\y=.str j/\i.length + j.length<=sizeLine/\Q (.str (i++j)) H):=by intro pins s σ H x y v u Q I rx ry h;obtain ⟨i,j,rfl,rfl,hz,q⟩:=h;obtain ⟨t,rfl⟩:=rx;obtain ⟨t',rfl⟩:=ry;exact add_str (λ t' tk=>⟨.str (i++j),H,I.tok _,⟨_,rfl⟩,q⟩) hz
theorem vals1 {x:V} {us:List Value} (r:Vals [x] us) :∃u,us=[u]/\RelV x u:=by
 cases r with
 | cons r1 r2=>cases r2;exact ⟨_,rfl,r1⟩
theorem vals2 {x y:V} {us:List Value} (r:Vals [x,y] us) :∃u w',us=[u,w']/\RelV x u/\RelV y w':=by
 cases r with
 | cons r1 r2=>
  cases r2 with
  | cons r3 r4=>cases r4;exact ⟨_,_,rfl,r1,r3⟩
theorem call_int1:CallR X (.type "int") (λ xs H Q=>(∃i,xs=[.int i]/\Q (.int i) H)\/∃k,xs=[.bl k]/\Q (.int (if k then 1 else 0)) H):=by
 intro pins s σ H xs us Q I r h;rcases h with ⟨i,rfl,q⟩|⟨k,rfl,q⟩
 ·obtain ⟨u,rfl,t,rfl⟩:=vals1 r;exact call_int_int ⟨.int i,H,I,⟨_,rfl⟩,q⟩
 ·obtain ⟨u,rfl,r1⟩:=vals1 r;cases r1;exact call_int_bool ⟨.int (if k then 1 else 0),H,I.tok _,⟨_,rfl⟩,q⟩
end
structure ObjM (h:Heap) (x dx C:Addr) (mA:Str->Option Value):Prop where
 obj:h.get? x=some (j06 C dx)
 ns:h.Ns1 dx mA
 ne:dx≠x
theorem zgh {h:Heap} {dx:Addr} {mA:Str->Option Value} (n:h.Ns1 dx mA) :∃od,h.get? dx=some od/\∀name,j0h name od=some (mA name):=by
 obtain ⟨o,es,ep,ho,hd,hk,_,hm⟩:=n;refine ⟨o,ho,λ name=>?_⟩;have e:=hm name;unfold nsFind findBy at e;rw [<-Array.find?_toList] at e;unfold j0h;rw [hd];dsimp only;split
 ·rename_i y q;rw [q] at e;exact congrArg some e
 ·rename_i q;rw [q] at e;have a:es.toList.any (·.refKey)=false:=by rw [List.any_eq_false];intro y hy;obtain ⟨z,t,hkey⟩:=hk y (Array.mem_toList_iff.mp hy);simp [DictEntry.refKey,hkey]
  have a':¬ es.toList.any (·.refKey)=true:=by rw [a];exact U0
  rw [if_neg a'];exact congrArg some e
theorem ObjM.look {h:Heap} {x dx C:Addr} {mA:Str->Option Value} (I:ObjM h x dx C mA) :∃od,PySem.W.InstAt h x (j06 C dx) C (some od)/\∀name,j0h name od=some (mA name):=
 let ⟨od,ho,hl⟩:=zgh I.ns
 ⟨od,⟨I.obj,rfl,rfl,ho⟩,hl⟩
theorem RelO.some_of {v:V} {o:Option Value} (r:RelO (some v) o) :∃u,o=some u/\RelV v u:=by
 cases o with
 | none=>exact (show False from r).elim
 | some u=>exact ⟨u,rfl,r⟩
section
variable {P:Program} {w:y1} {H H':Hp} {h h':Heap} {a C dx:Addr} {fs fs':List (Str×V)}
theorem zkf (hok:HOk P w H h) (e:H a=some (.ins C dx fs)) :∃mA,ObjM h a dx C mA/\(∀f,RelO (fs.lookup f) (mA f))/\PySem.Within mA (fs.map (·.1))/\fs.length<=1000/\H dx=some (.own a):=by
 obtain ⟨d,z,ne,ob,mA,n,r,q⟩:=(show ObjOk P w H h a (.ins C dx fs) from hok a _ e)
 exact ⟨mA,⟨ob,n,ne⟩,r,q,z,d⟩
end
structure Cls (K:b0) (C:Addr):Prop where
 pg:PySem.W.plainGet K C Str.empty=true
 hd:PySem.W.hasDictIn K C=true
 po:PySem.W.plainOver K C=true
 sa:v7 K (.ref C) "__setattr__" = some (some (.builtin "object.__setattr__"))
theorem Cls.get {K:b0} {C:Addr} (c:Cls K C) (f:Str):PySem.W.plainGet K C f=true:=c.pg
structure Con (K:b0) (C:Addr) (f:Str) (v:V) (u:Value):Prop where
 at_:v7 K (.ref C) f=some (some u)
 rel:RelV v u
 get:j41 K u "__get__" = some none
 cp:PySem.W.copiedNames.contains f=false
structure Meth (K:b0) (C:Addr) (m:Str) (f:Addr):Prop where
 at_:v7 K (.ref C) m=some (some (.ref f))
 fn:PySem.W.isFn K (.ref f)=true
 kp:K3 K (.ref f)=true
section
variable {X:Cx} {pins:List (Addr×Obj)} {σ:St} {H:Hp} {s:A0} {A:A2} {E:Value->A0->Prop} {Q:Value->A0->Prop} {c:Value} {b:Bool}
inductive TyOf (K:b0) (H:Hp):V->Value->Prop where
 | non:TyOf K H .non (.type "NoneType")
 | bl (x:Bool):TyOf K H (.bl x) (.type "bool")
 | int (i:Int):TyOf K H (.int i) (.type "int")
 | str (x:Str):TyOf K H (.str x) (.type "str")
 | flt (x:UInt64):TyOf K H (.flt x) (.type "float")
 | lst {a:Addr} {xs:List V} (e:H a=some (.lst xs)):TyOf K H (.ref a) (.type "list")
 | frz {a:Addr} {o:Obj} {xs:List V} (e:H a=some (.frz o (.lst xs))):TyOf K H (.ref a) (.type "list")
 | tup {a:Addr} {xs:List V} (e:H a=some (.tup xs)):TyOf K H (.ref a) (.type "tuple")
 | dK {a:Addr} {kvs:List (Key×V)} (e:H a=some (.dK kvs)):TyOf K H (.ref a) (.type "dict")
 | dT {a:Addr} {kvs:List (List Key×V)} (e:H a=some (.dT kvs)):TyOf K H (.ref a) (.type "dict")
 | ins {a C dx:Addr} {fs:List (Str×V)} (e:H a=some (.ins C dx fs)) (cl:Cls K C) (ha:v7 K (.ref C) "__class__" = some (some (.builtin "object.__class__")))
   (hn:j41 K (.builtin "object.__class__") "__get__" = some (some (.builtin "getset_descriptor.__get__"))) (htk:PySem.W.takesIn K (.builtin "object.__class__")=some true)
   (hm:PySem.W.mroIn K C (.type "object")=some true):TyOf K H (.ref a) (.ref C)
theorem zha {x:V} {u t:Value} (I:Inv X pins σ H s) (rx:RelV x u) (ty:TyOf X.K H x t) (e:PySem.W.kitOne X.K t c=some b) (h :∀tk,Q (.bool b) { s with toks:=tk }) :
  Q0 (A1 X.prog X.w) A (call (.builtin "isinstance") [u,c]) Q E s:=by
 cases ty with
 | non=>cases (show u=O2 from rx);exact A3 j42 I.kIn True.intro e (λ z=>nomatch z) h
 | bl y=>cases (show u=J7 y from rx);exact A3 j43 I.kIn True.intro e (λ z=>nomatch z) h
 | int i=>obtain ⟨t,q⟩:=(show∃t,u=E6 i t from rx);cases q;exact A3 PySem.W.kitx_int I.kIn True.intro e (λ z=>nomatch z) h
 | str y=>obtain ⟨t,q⟩:=(show∃t,u=X6 y t from rx);cases q;exact A3 PySem.W.kitx_str I.kIn True.intro e (λ z=>nomatch z) h
 | flt y=>obtain ⟨t,q⟩:=(show∃t,u=Value.float y t from rx);cases q;exact A3 PySem.W.kitx_float I.kIn True.intro e (λ z=>nomatch z) h
 | @lst a xs ea=>
  cases (show u=E1 a from rx);obtain ⟨_,_,n,_,h1⟩:=(show ObjOk X.prog X.w H s.heap a (.lst xs) from I.hok a _ ea)
  exact A3 E9 I.kIn ⟨_,h1,rfl⟩ e (λ z=>nomatch z) h
 | @frz a ob xs ea=>
  cases (show u=E1 a from rx);obtain ⟨_,_,_,n,_,h1⟩:=(show ObjOk X.prog X.w H s.heap a (.frz ob (.lst xs)) from I.hok a _ ea)
  exact A3 E9 I.kIn ⟨_,h1,rfl⟩ e (λ z=>nomatch z) h
 | @tup a xs ea=>
  cases (show u=E1 a from rx);obtain ⟨_,_,_,p,_⟩:=(show ObjOk X.prog X.w H s.heap a (.tup xs) from I.hok a _ ea)
  obtain ⟨o,h1,h2,_⟩:=p;exact A3 j3f I.kIn ⟨o,h1,h2⟩ e (λ z=>nomatch z) h
 | @dK a kvs ea=>
  cases (show u=E1 a from rx);obtain ⟨_,_,vs,_,p⟩:=(show ObjOk X.prog X.w H s.heap a (.dK kvs) from I.hok a _ ea)
  obtain ⟨o,es,ep,h1,h2,_⟩:=p;exact A3 F9 I.kIn ⟨o,h1,h2.1⟩ e (λ z=>nomatch z) h
 | @dT a kvs ea=>
  cases (show u=E1 a from rx);obtain ⟨_,_,xs,_,o,es,ep,h1,h2,_⟩:=(show ObjOk X.prog X.w H s.heap a (.dT kvs) from I.hok a _ ea)
  exact A3 F9 I.kIn ⟨o,h1,h2.1⟩ e (λ z=>nomatch z) h
 | @ins a C dx fs ea cl ha hn htk hm=>cases (show u=E1 a from rx);obtain ⟨mA,O,_⟩:=zkf I.hok ea;obtain ⟨od,J,_⟩:=O.look;exact A3 (PySem.W.kitx_own (cl.get _) cl.hd ha hn htk hm) I.kIn J e (λ z=>nomatch z) h
end
structure Room (k:Nat) (A:A2):Prop where
 hd:A.handled=none
 dp:A.depth + 3 * k + 5 < recursionLimit
 un:A.units + 16 * k + 200 < cLine
 gd:A.guards=some []
theorem Room.mono {j k:Nat} {A:A2} (r:Room k A) (h:j<=k):Room j A:=⟨r.hd,by have:=r.dp;omega,by have:=r.un;omega,r.gd⟩
theorem Room.deeper {k:Nat} {A:A2} (r:Room (k + 1) A) (env:Env):Room k (A.deeper env):=
 ⟨r.hd,by have:=r.dp;show A.depth + 1 + 3 * k + 5 < _;omega,by have:=r.un;show A.units + 3 + 16 * k + 200 < _;omega,r.gd⟩
theorem Room.depth {k:Nat} {A:A2} (r:Room k A):A.depth < recursionLimit:=by have:=r.dp;omega
theorem Room.units {k:Nat} {A:A2} (r:Room k A):A.units + 64 < cLine:=by have:=r.un;omega
noncomputable def tNil:TA:=λ _ H Q=>Q [] H
noncomputable def tCons (ta:TE) (tr:TA):TA:=λ σ H Q=>ta σ H λ x H1=>tr σ H1 λ xs H2=>Q (x :: xs) H2
section
variable {X:Cx} {e:Expr} {es:List Expr} {te:TE} {t:TA} {pos:Pos}
theorem pa_nil:PA X [] tNil:=λ _ _ _ _ H Q I h=>L6 ⟨[],H,I,.nil,h⟩
theorem z00 (ha:PE X e te) (hr:PA X es t) (hs:K1 (e :: es) X.env=(false,Y3 e X.env) :: K1 es X.env:=by rfl):PA X (e :: es) (tCons te t):=by intro pos pins s σ H Q I h;rw [hs];show Q0 _ _ (spliced ((false,Y3 e X.env) :: d5 pos (K1 es X.env))) _ _ s;refine D6 (thn (ha pins s σ H _ I h) λ u s1 ⟨x,H1,I1,r1,q1⟩=>?_);exact thn (hr pos pins s1 σ H1 _ I1 q1) λ us s2 ⟨xs,H2,I2,r2,q2⟩=>⟨x :: xs,H2,I2,.cons r1 r2,q2⟩
noncomputable def tTup (t:TA):TE:=λ σ H Q=>t σ H λ xs H1=>xs.length<=sizeLine/\∀p,H1 p=none->Q (.ref p) (upd H1 p (.tup xs))
noncomputable def tLst (t:TA):TE:=λ σ H Q=>t σ H λ xs H1=>xs.length<=sizeLine/\∀p,H1 p=none->Q (.ref p) (upd H1 p (.lst xs))
theorem pe_tup {x1} (h:PA X es t):PE X (.Tuple es x1 pos) (tTup t):=by intro pins s σ H Q I hq;refine wpAny_Tuple_spliced (thn (h pos pins s σ H _ I hq) λ us s1 ⟨xs,H1,I1,r,z,q⟩=>⟨by rw [<-r.length];exact z,?_⟩);have hf:H1 s1.heap.objs.size=none:=I1.hok.fresh (F0 _);refine ⟨.ref s1.heap.objs.size,upd H1 s1.heap.objs.size (.tup xs),I1.laid (t':=s1.toks) (λ b u e=>B0 _ e) (F0 _) ?_,rfl,q _ hf⟩;exact ⟨z,us,r,IsTupN.new _ _⟩
theorem pe_lst (h:PA X es t):PE X (.List es pos) (tLst t):=by intro pins s σ H Q I hq;refine wpAny_List_spliced (thn (h pos pins s σ H _ I hq) λ us s1 ⟨xs,H1,I1,r,z,q⟩=>⟨by rw [<-r.length];exact z,?_⟩);have hf:H1 s1.heap.objs.size=none:=I1.hok.fresh (F0 _);refine ⟨.ref s1.heap.objs.size,upd H1 s1.heap.objs.size (.lst xs),I1.laid (t':=s1.toks) (λ b u e=>B0 _ e) (F0 _) ?_,rfl,q _ hf⟩;exact ⟨z,us,0,r,S0 _ rfl⟩
end
noncomputable abbrev Sp:=List V->Hp->VK->XK->Prop
noncomputable abbrev CXT:=List Env->Hp->A0->XK->Value->A0->Prop
structure Env0 (P:Program) (w:y1) (K:b0) (mg:Str->Option Value) (base:Heap) (A:A2) (outer:List Env) (s:A0) (H:Hp):Prop where
 frames:A.frames=some outer
 mod:Mod K mg base
 bs :∀b o,base.get? b=some o->s.heap.get? b=some o/\H b=none
 bsz:base.objs.size<=s.heap.objs.size
 funs:s.heap.FunFrames base outer
 frf :∀b∈frs outer,H b=none
 hok:HOk P w H s.heap
 bare:C8 s.gens
def CE (outer:List Env) (P:Program) (w:y1) (H:Hp) (s:A0) (Q:VK) (u:Value) (s':A0):Prop:=
 ∃v H',s'.os=s.os/\C8 s'.gens/\Un (frs outer) [] H H' s.heap s'.heap/\HOk P w H' s'.heap/\RelV v u/\Q v H'
def CR (CX:CXT) (outer:List Env) (P:Program) (w:y1) (H:Hp) (s:A0) (Q:VK) (E:XK) (r:j3e) (s':A0):Prop:=
 match r with
 | .ok (.ret u)=>CE outer P w H s Q u s'
 | .ok _=>False
 | .error e=>CX outer H s E e s'
structure FnOk (P:Program) (w:y1) (K:b0) (mg:Str->Option Value) (base:Heap) (CX:CXT) (k:Nat) (f:Addr) (fd:FuncData) (ps:List Str) (sp:Sp):Prop where
 len :∀vs H Q E,sp vs H Q E->vs.length=ps.length
 run :∀(A:A2) (outer:List Env) (s:A0) (H:Hp) (args:Args) (us:List Value) (vs:List V) (Q:VK) (E:XK),Room k A->Env0 P w K mg base A outer s H->BindsTo s fd args (ps.zip us)->Vals vs us->sp vs H Q E->
  z6 (A1 P w) A (.call (.ref f) args) (CR CX outer P w H s Q E) s
section
variable {X:Cx} {pins:List (Addr×Obj)} {σ:St} {H:Hp} {s s':A0}
theorem Inv.env0 (I:Inv X pins σ H s):Env0 X.prog X.w X.K X.mg X.base X.A X.stack s H:=
 ⟨I.ok.frames,I.ok.mod,I.bs,G0 I.ok.bsz I.sz,I.stack,I.stkFree,I.hok,I.bare⟩
theorem Inv.after {Q:VK} {u:Value} (I:Inv X pins σ H s) (h:CE X.stack X.prog X.w H s Q u s'):EP X pins σ Q u s':=by obtain ⟨v,H',os,bare,un,hok,r,q⟩:=h;obtain ⟨hh,g,d,t,os'⟩:=s';obtain rfl:os'=s.os:=os;exact ⟨v,H',I.call (h':=hh) (g':=g) (d':=d) (t':=t) (ch:=[]) un hok bare (λ b z=>absurd z (by simp)),r,q⟩
end
noncomputable def tCall (sp:Sp) (dvs:List V) (E:XK) (t:TA):TE:=λ σ H Q=>t σ H λ vs H1=>sp (vs++dvs) H1 Q E
def Binds (K:b0) (fd:FuncData) (ps:List Str) (ds:List Value):Prop:=
 ∀(s:A0) (us:List Value),K.In s.heap->(us++ds).length=ps.length->BindsTo s fd ⟨us,[]⟩ (ps.zip (us++ds))
theorem Binds.all {K:b0} {fd:FuncData} {ps:List Str} (h :∀us:List Value,us.length=ps.length->bindArgs fd ⟨us,[]⟩=J3 (ps.zip us)):Binds K fd ps []:=λ s us _ hl=>by rw [C3] at hl⊢;exact .of_eq (h us hl)
def Passes (CX:CXT) (X:Cx) (E:XK):Prop:=∀(pins:List (Addr×Obj)) (σ:St) (H:Hp) (s:A0) (e:Value) (s':A0),Inv X pins σ H s->CX X.stack H s E e s'->X.xe e s'
section
variable {X:Cx} {CX:CXT} {k:Nat} {f C:Addr} {fd:FuncData} {ps:List Str} {sp:Sp} {dvs:List V} {ds:List Value} {E:XK} {x m:Str} {p pos apos:Pos} {e o:Expr} {es:List Expr} {ta:TE} {t:TA}
theorem run_fn {pins:List (Addr×Obj)} {σ:St} {H:Hp} {s:A0} {Q:VK} {us:List Value} {vs:List V} (F:FnOk X.prog X.w X.K X.mg X.base CX k f fd ps sp) (hr:Room k X.A) (hb:Binds X.K fd ps ds) (hd:Vals dvs ds) (hx:Passes CX X E)
  (I:Inv X pins σ H s) (r:Vals vs us) (h:sp (vs++dvs) H Q E):Q0 (A1 X.prog X.w) X.A (call (.ref f) us) (EP X pins σ Q) X.xe s:=by
 have r2:Vals (vs++dvs) (us++ds):=r.append hd;have hl:(us++ds).length=ps.length:=by rw [<-r2.length];exact F.len _ _ _ _ h
 refine wpAny_call (S7 (F.run X.A X.stack s H ⟨us,[]⟩ (us++ds) (vs++dvs) Q E hr I.env0 (hb s us I.kIn hl) r2 h) λ r s' hq=>?_);cases r with
 | error e=>exact hx pins σ H s e s' I hq
 | ok fl=>
  cases fl with
  | ret u=>exact I.after hq
  | next=>exact M5 hq
  | brk=>exact M5 hq
  | cont=>exact M5 hq
theorem zjs (F:FnOk X.prog X.w X.K X.mg X.base CX k f fd ps sp) (hr:Room k X.A) (hg:Gl X x) (hm:X.mg x=some (.ref f)) (hk:K3 X.K (.ref f)=true) (hb:Binds X.K fd ps ds) (hd:Vals dvs ds) (hx:Passes CX X E)
  (ha:PA X (e :: es) t) (hdb:(x == ("__debug__" : Str))=false:=by decide) (he:K1 (e :: es) X.env=(false,Y3 e X.env) :: K1 es X.env:=by rfl) (hpl:(d5 pos (K1 es X.env)).any (·.1)=false:=by rfl) :
  PE X (.Call (.Name x p) (e :: es) [] pos) (tCall sp dvs E t):=by
 intro pins s σ H Q I h;refine A5 (zht I hg hm ?_ hdb);refine j3g (h₀:=X.base) I.ok.mod.kin hk (thn (ha pos pins s σ H _ I h) λ us s1 ⟨vs,H1,I1,r,q⟩=>⟨I1.kIn,?_⟩) he hpl;exact run_fn F hr hb hd hx I1 r q
structure Mk (K:b0) (C f:Addr):Prop where
 makes:PySem.W.makesIn K C=true
 init:v7 K (.ref C) "__init__" = some (some (.ref f))
 fn:PySem.W.isFn K (.ref f)=true
 kp:K3 K (.ref C)=true
end
section
variable {X:Cx} {CX:CXT} {k:Nat} {f C:Addr} {fd:FuncData} {ps ks:List Str} {sp:Sp} {E:XK} {x m:Str} {p pos apos kpos:Pos} {e o:Expr} {es:List Expr} {kws:List C6} {te ta:TE} {t tk:TA} {nm:Option Str}
structure KBinds (K:b0) (fd:FuncData) (ps ks:List Str) (g:List Value->List Value->List Value) (gV:List V->List V->List V):Prop where
 to :∀(s:A0) (us ws:List Value),K.In s.heap->(g us ws).length=ps.length->BindsTo s fd ⟨us,ks.zip ws⟩ (ps.zip (g us ws))
 rel :∀{vs:List V} {us:List Value} {zs:List V} {ws:List Value},Vals vs us->Vals zs ws->Vals (gV vs zs) (g us ws)
variable {g:List Value->List Value->List Value} {gV:List V->List V->List V}
end
structure FnScope (N P:List Str) (sc:Scope):Prop where
 kind:sc.kind=.function
 co:sc.isCoroutine=false
 gen:sc.isGenerator=false
 nd:N.Nodup
 pre:N.take P.length=P
 par :∀x∈P,sc.names.lookup x=some .local\/sc.names.lookup x=some .cell
 nofree :∀y∈sc.names,y.2≠.free
theorem zbu {kindOf:Str->Option j6} {x:Str} :∀{binds:List (Str×Value)} {m:Str->Option Value},(∀v,(x,v)∉binds)->bindL kindOf binds m x=m x
 | [],_,_=>rfl
 | (n,v) :: r,m,h=>by
  unfold bindL;rw [zbu λ w hw=>h w (G1 _ hw)];split
  ·have:x≠n:=by rintro rfl;exact h v B1
   simp [this]
  ·rfl
theorem zbg {kindOf:Str->Option j6} {x:Str} :∀{binds:List (Str×Value)} {m:Str->Option Value},(∀v,(x,v)∉binds)->bindC kindOf binds m x=m x
 | [],_,_=>rfl
 | (n,v) :: r,m,h=>by
  unfold bindC;rw [zbg λ w hw=>h w (G1 _ hw)];split
  ·rfl
  ·have:x≠n:=by rintro rfl;exact h v B1
   simp [this]
theorem zc8 {kindOf:Str->Option j6} {x:Str} {v:Value} :∀{P:List Str} {vs:List Value} {i:Nat} {m:Str->Option Value},P.Nodup->P[i]? = some x->vs[i]? = some v->kindOf x=some .local->
  bindL kindOf (P.zip vs) m x=some v
 | [],_,_,_,_,h,_,_=>by simp at h
 | _ :: _,[],_,_,_,_,h,_=>by simp at h
 | p :: P,w :: vs,0,m,nd,h1,h2,hk=>by simp at h1 h2;subst h1;subst h2;show bindL kindOf ((p,w) :: P.zip vs) m p=_;unfold bindL;rw [zbu λ v hv=>(List.nodup_cons.mp nd).1 (j0j hv).1,if_pos hk];simp
 | p :: P,w :: vs,i + 1,m,nd,h1,h2,hk=>by show bindL kindOf ((p,w) :: P.zip vs) m x=_;unfold bindL;exact zc8 (i:=i) (List.nodup_cons.mp nd).2 (by simpa using h1) (by simpa using h2) hk
theorem zce {kindOf:Str->Option j6} {x:Str} {v:Value} :∀{P:List Str} {vs:List Value} {i:Nat} {m:Str->Option Value},P.Nodup->P[i]? = some x->vs[i]? = some v->kindOf x≠some .local->
  bindC kindOf (P.zip vs) m x=some v
 | [],_,_,_,_,h,_,_=>by simp at h
 | _ :: _,[],_,_,_,_,h,_=>by simp at h
 | p :: P,w :: vs,0,m,nd,h1,h2,hk=>by simp at h1 h2;subst h1;subst h2;show bindC kindOf ((p,w) :: P.zip vs) m p=_;unfold bindC;rw [zbg λ v hv=>(List.nodup_cons.mp nd).1 (j0j hv).1,if_neg hk];simp
 | p :: P,w :: vs,i + 1,m,nd,h1,h2,hk=>by show bindC kindOf ((p,w) :: P.zip vs) m x=_;unfold bindC;exact zce (i:=i) (List.nodup_cons.mp nd).2 (by simpa using h1) (by simpa using h2) hk
noncomputable def start (N:List Str) (vs:List V):St:=vs.map some++J2 (N.length - vs.length) none
noncomputable def cxOf (CX:CXT) (P:Program) (w:y1) (K:b0) (mg:Str->Option Value) (base:Heap) (N:List Str) (qual:Str) (scope:Scope) (f:Addr) (cd:Value) (A:A2) (outer:List Env) (s:A0) (H:Hp) (E:XK):Cx where
 prog:=P
 w:=w
 K:=K
 mg:=mg
 base:=base
 A:=A.deeper (U9 qual scope s.heap.objs.size f cd)
 N:=N
 s₀:=s
 H₀:=H
 env:=U9 qual scope s.heap.objs.size f cd
 outer:=outer
 stack:=U9 qual scope s.heap.objs.size f cd :: outer
 ex:=[]
 calm:=true
 fn:=λ _=>true
 pn:=[]
 xe:=λ e s'=>Q0 (A1 P w) (A.deeper (U9 qual scope s.heap.objs.size f cd)) («leaving» (U9 qual scope s.heap.objs.size f cd) e) (λ _ s''=>CX outer H s E e s'') (λ e' s''=>CX outer H s E e' s'') s'
theorem zfd {sc:Scope} {n:Nat} {x:Str} (h:sc.names.lookup x=some .cell) :∃c,(cellsFrom n sc.names []).lookup x=some c:=by have q:=j22 sc.names n [] (.inl h);exact Option.isSome_iff_exists.mp q
theorem zg2 {CX:CXT} {P:Program} {w:y1} {K:b0} {mg:Str->Option Value} {base:Heap} {N ps:List Str} {qual:Str} {scope:Scope} {f:Addr} {cd:Value} {A:A2} {outer:List Env} {s s1:A0} {H:Hp} {E:XK} {us:List Value} {vs:List V}
  (S:FnScope N ps scope) (hd:A.handled=none) (e0:Env0 P w K mg base A outer s H) (hl:vs.length=ps.length) (r:Vals vs us)
  (x:InCallC s s.heap.objs.size (bindL (U9 qual scope s.heap.objs.size f cd).kindOf (ps.zip us) λ _=>none) (cellsFrom (s.heap.objs.size + 1) scope.names []) (bindC (U9 qual scope s.heap.objs.size f cd).kindOf (ps.zip us) λ _=>none) s1) :
  Inv (cxOf CX P w K mg base N qual scope f cd A outer s H E) [] (start N vs) H s1:=by
 have hpl:ps.length<=N.length:=by have:=congrArg S5 S.pre;rw [R3] at this;omega
 obtain ⟨h1,tk,rfl,hk⟩:=x.done;have noA :∀b:Addr,b∉(cxOf CX P w K mg base N qual scope f cd A outer s H E).ex:=λ b z=>absurd (show b∈([]:List Addr) from z) (by simp);refine ⟨⟨e0.mod,S.kind,rfl,rfl,F0 _,λ y z c h1 h2=>?_,λ y hy=>?_,λ y c _ h=>?_,λ _=>hd,Around.frames_deeper e0.frames,.inr ⟨rfl,rfl⟩,λ b z=>absurd z (noA b),e0.bs,e0.bsz,λ b _ _=>noA b,λ b z=>absurd z (noA b),e0.funs,e0.frf⟩,
  rfl,e0.bare,Un.kept hk,⟨_,x.toInCall.ns,λ i y v h1 h2 h3=>?_⟩,λ y c h=>⟨_,x.cell y c h⟩,e0.hok.fresh (F0 _),λ y c h=>?_,λ p hp=>absurd (show p∈([]:List (Addr×Obj)) from hp) (by simp),e0.hok.kept hk,?_⟩
 ·exact name_of_addr x.apart (d6 h1) (d6 h2)
 ·have hy:scope.names.lookup y=some .cell\/scope.names.lookup y=some .free:=hy;rcases hy with hy|hy
  ·exact zfd hy
  ·exact absurd rfl (S.nofree _ (d6 hy))
 ·exact T3 (x.above y c (d6 h))
 ·have hi:i < vs.length:=by
   unfold start at h2;by_cases hi:i < vs.length
   ·exact hi
   ·rw [c3 (by simpa using hi)] at h2;rw [d8] at h2;split at h2<;>cases h2
  have ha:vs[i]? = some v:=by
   unfold start at h2;rw [u3 (by simpa using hi),V0] at h2;cases e:vs[i]? with
   | none=>rw [e] at h2;cases h2
   | some a=>rw [e] at h2;cases h2;rfl
  obtain ⟨u,hu,rv⟩:=r.get ha;have hp:ps[i]? = some y:=by rw [<-S.pre,List.getElem?_take_of_lt (by omega)];exact h1
  have ndP:ps.Nodup:=by rw [<-S.pre];exact S.nd.sublist (List.take_sublist _ _)
  refine ⟨u,rv,?_⟩;rcases S.par y (R0 hp) with k|k
  ·exact .inl ⟨k,zc8 ndP hp hu k⟩
  ·obtain ⟨c,e⟩:=zfd (n:=s.heap.objs.size + 1) k;refine .inr ⟨.inl k,c,e,?_⟩;have q:=x.cell y c e;rw [zce ndP hp hu (by show scope.names.lookup y≠_;rw [k];decide)] at q;exact q
 ·exact e0.hok.fresh (T3 (x.above y c (d6 h)))
 ·unfold start;show _=N.length;rw [K0,D0,Q3];omega
theorem fn_of {CX:CXT} {P:Program} {w:y1} {K:b0} {mg:Str->Option Value} {base:Heap} {k:Nat} {f:Addr} {name qual:Str} {params:Arguments} {body:List Stmt} {scope:Scope} {dV kV doc pm cdv ct oc:Value} {an od:Option Addr}
  {osl:Array (Option Value)} {N ps:List Str} {sp:Sp} (lk:K.lookup f=some ⟨oc,od,.func (G6 name qual params body scope dV kV doc pm an cdv ct),osl⟩) (hcd:E8 K cdv qual=true) (S:FnScope N ps scope)
  (len :∀vs H Q E,sp vs H Q E->vs.length=ps.length)
  (hbody :∀(A:A2) (outer:List Env) (s:A0) (H:Hp) (vs:List V) (Q:VK) (E:XK),Room k (A.deeper (U9 qual scope s.heap.objs.size f cdv))->sp vs H Q E->
   ∃t,PSs (cxOf CX P w K mg base N qual scope f cdv A outer s H E) body t/\t { nx:=λ _ H'=>Q .non H',rt:=Q } (start N vs) H) :
  FnOk P w K mg base CX (k + 1) f (G6 name qual params body scope dV kV doc pm an cdv ct) ps sp:=by
 refine ⟨len,λ A outer s H args us vs Q E hr e0 hb r hsp=>?_⟩;have hl:=len _ _ _ _ hsp;have KX:K.In s.heap:=e0.mod.kin.keeps λ b o e=>(e0.bs b o e).1;have lim:s.heap.NoLimit:=e0.mod.nolimit.keeps λ b o e=>(e0.bs b o e).1;have hkind :∀y∈ps.zip us,scope.names.lookup y.1=some .local\/(scope.names.lookup y.1=some .cell/\((cellsFrom (s.heap.objs.size + 1) scope.names []).lookup y.1).isSome=true):=λ ⟨n,v⟩ hy=>by
  rcases S.par n (j0j hy).1 with q|q
  ·exact .inl q
  ·exact .inr ⟨q,j22 _ _ _ (.inl q)⟩
 refine codeAny_call_function hr.depth (KX _ _ lk) rfl S.co S.gen rfl (PySem.W.codeRec_of KX hcd) (hb _ _ _ _ ?_);refine wpAny_newFunctionEnv_cells S.kind hkind λ env he s1 x=>?_;subst he;refine ⟨lim.keeps x.toInCall.keep,codeAny_func ?_⟩;obtain ⟨t,ht,hq⟩:=hbody A outer s H vs Q E (hr.deeper _) hsp;have I:Inv (cxOf CX P w K mg base N qual scope f cdv A outer s H E) [] (start N vs) H s1:=zg2 S hr.hd e0 hl r x;refine Z3 (ht [] s1 (start N vs) H _ I hq) (λ fl s' hs=>?_) λ e s' hs=>hs;have fin :∀{σ':St} {H':Hp} {v:V} {u:Value},Inv (cxOf CX P w K mg base N qual scope f cdv A outer s H E) [] σ' H' s'->RelV v u->Q v H'->CE outer P w H s Q u s':=
  λ {σ' H' v u} J rv q=>⟨v,H',J.os,J.bare,J.base,J.hok,rv,q⟩
 cases fl with
 | ret u=>obtain ⟨v,σ',H',J,rv,q⟩:=hs;exact fin J rv q
 | next=>obtain ⟨σ',H',J,q⟩:=hs;exact fin (v:=V.non) (u:=O2) J rfl q
 | brk=>obtain ⟨_,_,_,q⟩:=hs;exact M5 q
 | cont=>obtain ⟨_,_,_,q⟩:=hs;exact M5 q
section
variable {X:Cx} {x:Str} {p pos:Pos} {e:Expr} {es:List Expr} {t:TA} {id T:String} {r:List V->Hp->VK->Prop}
noncomputable def tCB (r:List V->Hp->VK->Prop) (t:TA):TE:=λ σ H Q=>t σ H λ vs H1=>r vs H1 Q
theorem z08 (hc:CallR X (.builtin id) r) (hg:Gl X x) (hm:X.mg x=none) (hv:A6 x=some (.builtin id)) (ha:PA X (e :: es) t) (hn:x≠"__name__":=by decide) (hdb:(x == ("__debug__" : Str))=false:=by decide)
  (he:K1 (e :: es) X.env=(false,Y3 e X.env) :: K1 es X.env:=by rfl) (hpl:(d5 pos (K1 es X.env)).any (·.1)=false:=by rfl):PE X (.Call (.Name x p) (e :: es) [] pos) (tCB r t):=by
 intro pins s σ H Q I h;refine A5 (ld_blt I hg hm hv ?_ hn hdb);exact W8 (thn (ha pos pins s σ H _ I h) λ us s1 ⟨vs,H1,I1,r1,q1⟩=>hc pins s1 σ H1 vs us Q I1 r1 q1) he hpl
theorem z0h (hc:CallR X (.type T) r) (hg:Gl X x) (hm:X.mg x=none) (hv:A6 x=some (.type T)) (ha:PA X (e :: es) t) (hn:x≠"__name__":=by decide) (hdb:(x == ("__debug__" : Str))=false:=by decide)
  (he:K1 (e :: es) X.env=(false,Y3 e X.env) :: K1 es X.env:=by rfl) (hpl:(d5 pos (K1 es X.env)).any (·.1)=false:=by rfl):PE X (.Call (.Name x p) (e :: es) [] pos) (tCB r t):=by
 intro pins s σ H Q I h;refine A5 (ld_blt I hg hm hv ?_ hn hdb);exact V3 (thn (ha pos pins s σ H _ I h) λ us s1 ⟨vs,H1,I1,r1,q1⟩=>hc pins s1 σ H1 vs us Q I1 r1 q1) he hpl
end
end L2
namespace HT
open PySem PyProof.Rows
section
variable {prog:Program} {w:y1} {A:A2} {E:Value->A0->Prop} {s:A0}
theorem cat_tup {t b:Addr} {vs ws:List Value} {Q:Value->A0->Prop} (ht:IsTup s.heap t vs.toArray) (hb:IsTup s.heap b ws.toArray) (hv:vs≠[])
  (h1:ws=[]->Q (.ref t) s) (h2:ws≠[]->Q (.ref s.heap.objs.size) { s with heap:=s.heap.push { cls:=.type "tuple",data:=.seq (vs++ws).toArray } })
  (hsz:vs.length + ws.length<=sizeLine):Q0 (A1 prog w) A (M4 .Add (.ref t) (.ref b)) Q E s:=by
 obtain ⟨⟨cls,dd,data,sl⟩,ho,hc,n,hd⟩:=id ht;obtain ⟨⟨cls2,dd2,data2,sl2⟩,ho2,hc2,n2,hd2⟩:=id hb;simp only at hc hd hc2 hd2;subst hc hd hc2 hd2;have e:vs.toArray++ws.toArray=(vs++ws).toArray:=by simp
 by_cases hw:ws=[]
 ·exact j16 ⟨_,ho,rfl⟩ ⟨_,ho2,rfl⟩ j20 seq_tuple_add b8 V7 (M7 _ _)
   (tuple_addW1 t b vs.toArray ws.toArray n n2 dd dd2 sl sl2 (by simpa using hv) (by simp [hw])) ⟨ho,ho2,h1 hw⟩
 ·refine j16 ⟨_,ho,rfl⟩ ⟨_,ho2,rfl⟩ j20 seq_tuple_add b8 V7 (M7 _ _)
   (tuple_addW2 t b vs.toArray ws.toArray n n2 dd dd2 sl sl2 (by simpa using hv) (by simpa using hw) (by rw [O0,O0];exact hsz)) ⟨ho,ho2,?_⟩
  rw [e];exact h2 hw
noncomputable def sIx (n d:Nat):Option Int->Nat
 | none=>d
 | some v=>if v < 0 then (v + (n:Int)).toNat else min v.toNat n
theorem sIx_none (n d:Nat):sIx n d none=d:=rfl
theorem sIx_nat (n d k:Nat):sIx n d (some (k:Int))=min k n:=by show (if (k:Int) < 0 then ((k:Int) + (n:Int)).toNat else min (k:Int).toNat n)=min k n;rw [if_neg (by omega),y3]
theorem sIx_le (n d:Nat) (hd:d<=n) (o:Option Int):sIx n d o<=n:=by
 cases o with
 | none=>exact hd
 | some v=>
  show (if v < 0 then (v + (n:Int)).toNat else min v.toNat n)<=n;by_cases hv:v < 0
  ·rw [if_pos hv];omega
  ·rw [if_neg hv];exact Nat.min_le_right _ _
theorem zi3 (v:Int) (n d:Nat):(if v < 0 then max (v + (n:Int)) 0 else min v (n:Int))=((sIx n d (some v):Nat):Int):=by
 show (if v < 0 then max (v + (n:Int)) 0 else min v (n:Int))=(((if v < 0 then (v + (n:Int)).toNat else min v.toNat n):Nat):Int);by_cases hv:v < 0
 ·simp only [if_pos hv];omega
 ·simp only [if_neg hv];omega
theorem ze1 (lo hi:Option Int) (n:Nat):i7 lo hi 1 (n:Int)=(((sIx n 0 lo:Nat):Int),((sIx n n hi:Nat):Int)):=by
 have h1:¬ ((1:Int) < 0):=by omega
 unfold i7;simp only [h1,if_false];refine Prod.ext ?_ ?_
 ·cases lo with
  | none=>rfl
  | some v=>exact zi3 v n 0
 ·cases hi with
  | none=>rfl
  | some v=>exact zi3 v n n
theorem zds (i j:Nat):j5 (i:Int) (j:Int) 1=j - i:=by
 unfold j5;have h1:(1:Int) > 0:=by omega
 simp only [h1,if_true,Int.ediv_one];split<;>omega
theorem z8i {v:Value} {o:Option Int} {Q:Option Int->A0->Prop} (p:o9 v o) (h:Q o s):Q0 (A1 prog w) A (Builtin.Slice.slicePartIndex v) Q E s:=by
 cases p with
 | none=>exact slicePart_none h
 | int i t=>exact slicePart_int h
theorem z2g {sl:Addr} {vl vu:Value} {lo hi:Option Int} {n:Nat} {Q:Int×Int×Nat->A0->Prop} (hs:s.heap.IsSliceOf sl vl vu .none) (pl:o9 vl lo) (pu:o9 vu hi)
  (h:Q (((sIx n 0 lo:Nat):Int),1,sIx n n hi - sIx n 0 lo) s):Q0 (A1 prog w) A (K9 (.ref sl) (J3 (n:Int))) Q E s:=by
 obtain ⟨os,hos,hcs,hds⟩:=id hs;unfold K9 Builtin.Slice.sliceFields;refine c0 (c0 (E7 hos hds (x:=vl) rfl (c0 (E7 hos hds (x:=vu) rfl (c0 (E7 hos hds (x:=.none) rfl (C0 ?_)))))));refine c0 (slicePart_none ?_);show Q0 _ _ (if ((1:Int) == 0)=true then _ else _) _ _ s;rw [if_neg (by decide)];refine c0 (z8i pl (c0 (z8i pu (c0 (C0 ?_)))));show Q0 _ _ (match i7 lo hi 1 (n:Int) with|(lo,hi)=>J3 (lo,(1:Int),j5 lo hi 1)) _ _ s;rw [ze1 lo hi n];show Q0 _ _ (J3 (((sIx n 0 lo:Nat):Int),(1:Int),j5 ((sIx n 0 lo:Nat):Int) ((sIx n n hi:Nat):Int) 1)) _ _ s;rw [zds];exact C0 h
theorem zih (xs:Array Value) (i k:Nat):((W1 k).filterMap λ (m:Nat)=>xs[((i:Int) + (m:Int) * 1).toNat]?).toArray=((xs.toList.drop i).take k).toArray:=by
 have e:(λ (m:Nat)=>xs[((i:Int) + (m:Int) * 1).toNat]?)=λ m=>xs[i + m]?:=by
  funext m;have:((i:Int) + (m:Int) * 1).toNat=i + m:=by omega
  rw [this]
 rw [e];have:=pick_run xs i k;rw [List.filterMap_map] at this;have e2:((λ x=>xs[x]?) ∘ λ x=>i + x)=λ m=>xs[i + m]?:=rfl;rw [e2] at this;rw [this]
theorem getItem_tuple_cut {t sl:Addr} {items:Array Value} {vl vu:Value} {lo hi:Option Int} {Q:Value->A0->Prop} (ht:IsTup s.heap t items) (hs:s.heap.IsSliceOf sl vl vu .none) (pl:o9 vl lo) (pu:o9 vu hi)
  (hw:¬ (sIx items.size 0 lo=0/\sIx items.size items.size hi=items.size))
  (h:Q (.ref s.heap.objs.size) { s with heap:=s.heap.push { cls:=.type "tuple",data:=.seq ((items.toList.drop (sIx items.size 0 lo)).take (sIx items.size items.size hi - sIx items.size 0 lo)).toArray } })
  (hsz:items.size<=sizeLine):Q0 (A1 prog w) A (A8 (.ref t) (.ref sl)) Q E s:=by
 have htake:sizeOk (.seq ((items.toList.drop (sIx items.size 0 lo)).take (sIx items.size items.size hi - sIx items.size 0 lo)).toArray):=by show ((items.toList.drop (sIx items.size 0 lo)).take (sIx items.size items.size hi - sIx items.size 0 lo)).toArray.size<=sizeLine;rw [O0,R3,i4,C2];omega
 have hj:sIx items.size items.size hi<=items.size:=sIx_le _ _ (F0 _) hi;obtain ⟨os,hos,hcs,hds⟩:=id hs;have hTs:s.TypeIs (.ref sl) "slice":=⟨os,hos,hcs⟩
 unfold A8
 try with_reducible refine B2 ?_
 first|refine c0 (C0 ?_)|skip
 refine c0 (wpAny_sequenceKey ht.typeIs (by decide) ?_);refine c0 (i3 (name:=V1 "__getitem__") ht.typeIs u4
  (Y2 u4 ht.typeIs entry_tuple_getitem ?_ (args_tuple_getitem _ _)))
 show Q0 _ _ (J9 (.ref t) >>= _) _ _ s;refine c0 (tupleItemsOf_ ht ?_);refine c0 (L4 hTs ?_);rw [if_pos (by decide)];refine c0 (z2g hs pl pu ?_);have hno:¬ ((((sIx items.size 0 lo:Nat):Int) == 0 && (1:Int) == 1 && (sIx items.size items.size hi - sIx items.size 0 lo) == items.size)=true):=by intro q;rw [j3,j3] at q;have q1:((sIx items.size 0 lo:Nat):Int)=0:=eq_of_beq q.1.1;have q2:sIx items.size items.size hi - sIx items.size 0 lo=items.size:=eq_of_beq q.2;exact hw ⟨by omega,by omega⟩
 show Q0 _ _ (if (((sIx items.size 0 lo:Nat):Int) == 0 && (1:Int) == 1 && (sIx items.size items.size hi - sIx items.size 0 lo) == items.size)=true then _ else _) _ _ s;rw [if_neg hno,zih];first
  | exact c0 (m:=D5 _) (E2 (C0 ⟨_,rfl,C0 h⟩) htake)
  | exact c0 (m:=D5 _) (E2 (c0 (C0 (C0 ⟨_,rfl,C0 h⟩))) htake)
  | exact c0 (c0 (m:=D5 _) (E2 (C0 (C0 ⟨_,rfl,C0 h⟩)) htake))
  | exact c0 (c0 (m:=D5 _) (E2 (C0 ⟨_,rfl,C0 h⟩) htake))
end
end HT
namespace L2
open PySem PySem.Spec PyProof.Rows
noncomputable abbrev TO:=St->Hp->(Option Int->Hp->Prop)->Prop
def PO (X:Cx) (e:Option Expr) (t:TO):Prop:=
 ∀(pins:List (Addr×Obj)) (s:A0) (σ:St) (H:Hp) (Q:Option Int->Hp->Prop),Inv X pins σ H s->t σ H Q->
  Q0 (A1 X.prog X.w) X.A (evalPart e X.env) (λ u s'=>∃o H',Inv X pins σ H' s'/\o9 u o/\Q o H') X.xe s
noncomputable def zjg:TO:=λ _ H Q=>Q none H
noncomputable def tPart (t:TE):TO:=λ σ H Q=>t σ H λ x H1=>∃i,x=.int i/\Q (some i) H1
theorem z52 {ns:List Int} :∀{us:List Value},Vals (ns.map V.int) us->v3 us ns:=by
 induction ns with
 | nil=>intro us r;rw [C7] at r;cases r;exact .nil
 | cons n ns ih=>
  intro us r;rw [v1] at r;cases r with
  | cons r1 r2=>obtain ⟨t,e⟩:=r1;subst e;exact .cons n t (ih r2)
section
variable {X:Cx} {e:Expr} {te:TE} {lo hi:Option Expr} {tl th:TO} {pos p2:Pos}
theorem z62:PO X none zjg:=by intro pins s σ H Q I h;rw [evalPart_none];exact C0 ⟨none,H,I,.none,h⟩
theorem z2t (h:PE X e te):PO X (some e) (tPart te):=by intro pins s σ H Q I hw;rw [evalPart_some];refine thn (h pins s σ H _ I hw) λ u s1 ⟨x,H1,I1,r1,q1⟩=>?_;obtain ⟨i,rfl,q⟩:=q1;obtain ⟨t,rfl⟩:=r1;exact ⟨some i,H1,I1,.int i t,q⟩
def SlR (X:Cx) (r:V->Option Int->Option Int->Hp->VK->Prop):Prop:=
 ∀(pins:List (Addr×Obj)) (s:A0) (σ:St) (H:Hp) (x:V) (v vl vu:Value) (lo hi:Option Int) (sl:Addr) (Q:VK),Inv X pins σ H s->RelV x v->s.heap.IsSliceOf sl vl vu .none->o9 vl lo->o9 vu hi->r x lo hi H Q->
  ∃T id,j36 (.type T) "__getitem__" = J3 (some (.builtin id))/\s.TypeIs v T/\Q0 (A1 X.prog X.w) X.A (A8 v (.ref sl)) (EP X pins σ Q) X.xe s
theorem SlR.or {r r':V->Option Int->Option Int->Hp->VK->Prop} (h:SlR X r) (h':SlR X r'):SlR X (λ x lo hi H Q=>r x lo hi H Q\/r' x lo hi H Q):=by
 intro pins s σ H x v vl vu lo hi sl Q I rx hs pl pu q;rcases q with q|q
 ·exact h pins s σ H x v vl vu lo hi sl Q I rx hs pl pu q
 ·exact h' pins s σ H x v vl vu lo hi sl Q I rx hs pl pu q
noncomputable def tSl (r:V->Option Int->Option Int->Hp->VK->Prop) (te:TE) (tl th:TO):TE:=λ σ H Q=>te σ H λ x H1=>tl σ H1 λ l H2=>th σ H2 λ u H3=>r x l u H3 Q
theorem z27 {r:V->Option Int->Option Int->Hp->VK->Prop} (hr:SlR X r) (he:PE X e te) (hl:PO X lo tl) (hu:PO X hi th):PE X (.Subscript e (.Slice lo hi none p2) pos) (tSl r te tl th):=by intro pins s σ H Q I h;refine j3d (thn (he pins s σ H _ I h) λ v s1 ⟨x,H1,I1,r1,q1⟩=>?_);refine wpAny_Slice (thn (hl pins s1 σ H1 _ I1 q1) λ vl s2 ⟨l,H2,I2,pl,q2⟩=>thn (hu pins s2 σ H2 _ I2 q2) λ vu s3 ⟨u,H3,I3,pu,q3⟩=>?_);rw [evalPart_none];refine C0 ?_;have I4:Inv X pins σ H3 { s3 with heap:=s3.heap.push { cls:=.type "slice",data:=.fields #[vl,vu,.none] } }:=I3.kept (t':=s3.toks) λ b ob q=>B0 _ q;obtain ⟨T,id,hT,ht,hg⟩:=hr pins { s3 with heap:=s3.heap.push { cls:=.type "slice",data:=.fields #[vl,vu,.none] } } σ H3 x v vl vu l u s3.heap.objs.size Q I4 r1 (j12 ..) pl pu q3;show Q0 (A1 X.prog X.w) X.A (j0b e (.Slice lo hi none p2) v (.ref s3.heap.objs.size)) (EP X pins σ Q) X.xe { s3 with heap:=s3.heap.push { cls:=.type "slice",data:=.fields #[vl,vu,.none] } };exact j37 (ops:=[.ref s3.heap.objs.size,v]) ht hT hg (by with_unfolding_all rfl)
noncomputable def cutV (xs:List V) (lo hi:Option Int):List V:=(xs.drop (HT.sIx xs.length 0 lo)).take (HT.sIx xs.length xs.length hi - HT.sIx xs.length 0 lo)
theorem z6r (xs:List V) (lo hi:Option Int):(cutV xs lo hi).length<=xs.length:=by unfold cutV;rw [R3,i4];omega
def rSlT (K:b0):V->Option Int->Option Int->Hp->VK->Prop:=λ x lo hi H Q=>∃a xs,x=.ref a/\SqT K H a xs/\
 ¬ (HT.sIx xs.length 0 lo=0/\HT.sIx xs.length xs.length hi=xs.length)/\∀p,H p=none->Q (.ref p) (upd H p (.tup (cutV xs lo hi)))
theorem sl_tup:SlR X (rSlT X.K):=by
 intro pins s σ H x v vl vu lo hi sl Q I rx hs pl pu h;obtain ⟨a,xs,rfl,hx,hw,q⟩:=h;cases rx;obtain ⟨its,r,ht,hz⟩:=I.tuple hx;have hlen:its.toArray.size=xs.length:=by rw [O0];exact r.length.symm
 refine ⟨"tuple",_,PyProof.Rows.slot_tuple_getitem.lookup,ht.typeIs,?_⟩;refine HT.getItem_tuple_cut ht hs pl pu (by rw [hlen];exact hw) ?_ (by rw [hlen];exact hz);rw [hlen];refine ⟨.ref s.heap.objs.size,_,I.laid (t':=s.toks) (o:=.tup (cutV xs lo hi)) (λ b ob q=>B0 _ q) (F0 _) ?_,rfl,q _ (I.hok.fresh (F0 _))⟩;exact ⟨G0 (z6r xs lo hi) hz,_,(r.drop (HT.sIx xs.length 0 lo)).take (HT.sIx xs.length xs.length hi - HT.sIx xs.length 0 lo),IsTupN.new _ _⟩
noncomputable def rCatT (K:b0):R2:=λ x y H Q=>∃a b xs ys,x=.ref a/\y=.ref b/\SqT K H a xs/\SqT K H b ys/\xs≠[]/\xs.length + ys.length<=sizeLine/\
 (ys=[]->Q (.ref a) H)/\(ys≠[]->∀p,H p=none->Q (.ref p) (upd H p (.tup (xs++ys))))
theorem Vals.nil_iff {xs:List V} {us:List Value} (r:Vals xs us):us=[]↔xs=[]:=by
 cases r with
 | nil=>simp
 | cons _ _=>simp
theorem zc7:OpR X (M4 .Add) (rCatT X.K):=by intro pins s σ H x y v u Q I rx ry h;obtain ⟨a,b,xs,ys,rfl,rfl,ha,hb,hx,hz,q1,q2⟩:=h;cases rx;cases ry;obtain ⟨its,r1,p1,_⟩:=I.tuple ha;obtain ⟨its2,r2,p2,_⟩:=I.tuple hb;refine HT.cat_tup p1 p2 (λ z=>hx (r1.nil_iff.mp z)) (λ z=>⟨.ref a,H,I,rfl,q1 (r2.nil_iff.mp z)⟩) (λ z=>?_) (by rw [<-r1.length,<-r2.length];exact hz);refine ⟨.ref s.heap.objs.size,_,I.laid (t':=s.toks) (o:=.tup (xs++ys)) (λ b ob q=>B0 _ q) (F0 _) ?_,rfl,q2 (λ w=>z (r2.nil_iff.mpr w)) _ (I.hok.fresh (F0 _))⟩;exact ⟨by rw [K0];exact hz,_,r1.append r2,IsTupN.new _ _⟩
end
noncomputable def ixN (n:Nat) (i:Int):Option Nat:=if 0<=i then (if i < n then some i.toNat else none) else if -(n:Int)<=i then some (i + n).toNat else none
noncomputable def atI {α:Type} (xs:List α) (i:Int):Option α:=(ixN xs.length i).bind λ j=>xs[j]?
theorem zhb {n:Nat} {i:Int} {j:Nat} (h:ixN n i=some j):seqIndex? i n=some j/\j < n/\-(n:Int)<=i/\i < n:=by
 unfold ixN at h;by_cases h0:0<=i
 ·rw [if_pos h0] at h;by_cases h1:i < n
  ·rw [if_pos h1] at h;have e:i.toNat=j:=U1 h;exact ⟨by rw [seqIndex_of h0 h1,e],by omega,by omega,h1⟩
  ·rw [if_neg h1] at h;cases h
 ·rw [if_neg h0] at h;by_cases h1:-(n:Int)<=i
  ·rw [if_pos h1] at h;have e:(i + n).toNat=j:=U1 h;exact ⟨by rw [seqIndex_neg (by omega) h1,e],by omega,h1,by omega⟩
  ·rw [if_neg h1] at h;cases h
theorem z9b {α:Type} {xs:List α} {i:Int} {v:α} (h:atI xs i=some v) :∃j,seqIndex? i xs.length=some j/\xs[j]? = some v/\j < xs.length/\-(xs.length:Int)<=i/\i < xs.length:=by
 unfold atI at h;cases e:ixN xs.length i with
 | none=>rw [e] at h;cases h
 | some j=>rw [e] at h;obtain ⟨h1,h2,h3,h4⟩:=zhb e;exact ⟨j,h1,h,h2,h3,h4⟩
theorem z04 {α:Type} {xs:List α} {j:Nat} {v:α} (h:xs[j]? = some v):atI xs (j:Int)=some v:=by
 have hj:j < xs.length:=(List.getElem?_eq_some_iff.mp h).1;have e:ixN xs.length (j:Int)=some j:=by unfold ixN;rw [if_pos (by omega),if_pos (by omega)];simp
 unfold atI;rw [e];exact h
def zhw (b:Expr):Prop:=∀o i,j28 b false o i=operate [o,i] (A8 o i)
def IxR (X:Cx) (r:R2):Prop:=
 ∀(value slice:Expr) (pins:List (Addr×Obj)) (s:A0) (σ:St) (H:Hp) (x y:V) (v u:Value) (Q:VK),Inv X pins σ H s->RelV x v->RelV y u->r x y H Q->
  j28 slice false v u=operate [v,u] (A8 v u)->Q0 (A1 X.prog X.w) X.A (j0b value slice v u) (EP X pins σ Q) X.xe s
def MtR (X:Cx) (id:String) (r:V->List V->Hp->VK->Prop):Prop:=
 ∀(pins:List (Addr×Obj)) (s:A0) (σ:St) (H:Hp) (x:V) (xs:List V) (v:Value) (us:List Value) (Q:VK),Inv X pins σ H s->RelV x v->Vals xs us->r x xs H Q->
  Q0 (A1 X.prog X.w) X.A (call (.builtin id) (v :: us)) (EP X pins σ Q) X.xe s
section
variable {X:Cx} {a b:Expr} {ta tb:TE} {pos:Pos}
theorem IxR.or {r r':R2} (h:IxR X r) (h':IxR X r'):IxR X (λ x y H Q=>r x y H Q\/r' x y H Q):=by
 intro value slice pins s σ H x y v u Q I rx ry q hs;rcases q with q|q
 ·exact h value slice pins s σ H x y v u Q I rx ry q hs
 ·exact h' value slice pins s σ H x y v u Q I rx ry q hs
theorem pe_ix {r:R2} (hr:IxR X r) (ha:PE X a ta) (hb:PE X b tb) (hs:zhw b):PE X (.Subscript a b pos) (tOp r ta tb):=by intro pins s σ H Q I h;exact j3d (binT ha hb I h λ v u s2 x y H2 I2 rx ry q=>hr a b pins s2 σ H2 x y v u Q I2 rx ry q (hs _ _))
noncomputable def rIxL (K:b0):R2:=λ x y H Q=>∃p xs i v,x=.ref p/\y=.int i/\SqL K H p xs/\atI xs i=some v/\Q v H
noncomputable def rIxT (K:b0):R2:=λ x y H Q=>∃p xs i v,x=.ref p/\y=.int i/\SqT K H p xs/\atI xs i=some v/\Q v H
noncomputable def rIxS:R2:=λ x y H Q=>∃z i c,x=.str z/\y=.int i/\z.length<=sizeLine/\atI z.cps.toList i=some c/\Q (.str ⟨#[c]⟩) H
theorem ix_list:IxR X (rIxL X.K):=by
 intro value slice pins s σ H x y v u Q I rx ry h hs;obtain ⟨p,xs,i,z,rfl,rfl,hq,he,q⟩:=h;cases rx;obtain ⟨t,rfl⟩:=ry;obtain ⟨its,r,pl,hz⟩:=I.list hq;obtain ⟨j,h1,h2,h3,h4,h5⟩:=z9b he;obtain ⟨w,ew,rw'⟩:=r.get h2;have hl:=r.length;have hn:=line63;have fin:EP X pins σ Q w s:=⟨z,H,I,rw',q⟩
 by_cases h0:0<=i
 ·have hj:i.toNat=j:=by rw [seqIndex_of h0 h5] at h1;exact U1 h1
  exact item_listR pl.isList h0 (by omega) (by rw [hj];simpa using ew) fin hs
 ·have hj:(i + (its.toArray.size:Int)).toNat=j:=by rw [seqIndex_neg (by omega) h4] at h1;rw [O0,<-hl];exact U1 h1
  exact subscriptTail_builtinR (x:=w) pl.isList.typeIs slot_list_getitem.lookup
   (wpAny_getItem_list_neg (Q:=λ r s'=>r=w/\EP X pins σ Q r s') pl.isList (by omega) (by rw [O0]<;>omega) (by omega) (by rw [hj];simpa using ew) ⟨rfl,fin⟩) hs
theorem ix_tup:IxR X (rIxT X.K):=by
 intro value slice pins s σ H x y v u Q I rx ry h hs;obtain ⟨p,xs,i,z,rfl,rfl,hq,he,q⟩:=h;cases rx;obtain ⟨t,rfl⟩:=ry;obtain ⟨its,r,pl,hz⟩:=I.tuple hq;obtain ⟨j,h1,h2,h3,h4,h5⟩:=z9b he;obtain ⟨w,ew,rw'⟩:=r.get h2;have hl:=r.length;have hn:=line63;have fin:EP X pins σ Q w s:=⟨z,H,I,rw',q⟩
 exact subscriptTail_builtinR (x:=w) pl.typeIs slot_tuple_getitem.lookup
  (getItem_tuple (j:=j) (Q:=λ r s'=>r=w/\EP X pins σ Q r s') pl (by omega) (by omega) (by rw [O0,<-hl];exact h1) (by simpa using ew) ⟨rfl,fin⟩) hs
theorem ix_str:IxR X rIxS:=by
 intro value slice pins s σ H x y v u Q I rx ry h hs;obtain ⟨z,i,c,rfl,rfl,hz,he,q⟩:=h;obtain ⟨t,rfl⟩:=rx;obtain ⟨t',rfl⟩:=ry;obtain ⟨j,h1,h2,h3,h4,h5⟩:=z9b he;have hl:z.cps.toList.length=z.length:=by simp [Str.length]
 rw [hl] at h1 h4 h5;have hn:=line63;exact j37 (typeIs_str s z t) slot_str_getitem.lookup (getItem_str (c:=c) (by have e1:decide (i < -(2 ^ 63:Int))=false:=decide_eq_false (by omega);have e2:decide (i ≥ 2 ^ 63)=false:=decide_eq_false (by omega);rw [e1,e2,j2f]) (by rw [h1];simpa using h2) ⟨.str ⟨#[c]⟩,H,I.tok _,⟨_,rfl⟩,q⟩) hs
noncomputable def rIx (K:b0):R2:=λ x y H Q=>rIxL K x y H Q\/rIxT K x y H Q\/rIxS x y H Q
theorem ix_seq:IxR X (rIx X.K):=ix_list.or (ix_tup.or ix_str)
theorem zem (its:List Value) (n j:Nat) (u:Value):P7 (·.setIfInBounds j u) { cls:=.type "list",data:=.seq its.toArray n }={ cls:=.type "list",data:=.seq (its.set j u).toArray n }:=by simp [P7]
theorem Inv.lst {pins:List (Addr×Obj)} {σ:St} {H:Hp} {s:A0} {p:Addr} {xs:List V} (I:Inv X pins σ H s) (h:H p=some (.lst xs)) :
  ∃(its:List Value) (n:Nat),Vals xs its/\s.heap.get? p=some { cls:=.type "list",data:=.seq its.toArray n }/\xs.length<=sizeLine:=by
 obtain ⟨z,its,n,r,e⟩:=I.hok p _ h;exact ⟨its,n,r,e,z⟩
theorem Inv.lstUpd {pins:List (Addr×Obj)} {σ:St} {H:Hp} {s:A0} {p:Addr} {xs ys:List V} {its its':List Value} {n n':Nat} {f:Obj->Obj} (I:Inv X pins σ H s) (h:H p=some (.lst xs))
  (ho:s.heap.get? p=some { cls:=.type "list",data:=.seq its.toArray n }) (hf:f { cls:=.type "list",data:=.seq its.toArray n }={ cls:=.type "list",data:=.seq its'.toArray n' }) (r:Vals ys its') (hz:ys.length<=sizeLine) (t:Nat) :
  Inv X pins σ (upd H p (.lst ys)) { s with heap:=s.heap.update p f,toks:=t }:=by
 have e:(s.heap.update p f).get? p=some { cls:=.type "list",data:=.seq its'.toArray n' }:=by rw [V2 f ho (by rw [hf]<;>rfl),hf]
 refine I.write (x:=p) (e:=p) (by rw [h];trivial) (.inl rfl) (λ b u hb q=>(O6 _ _ (Q2 hb)).trans q) ⟨_,e⟩ ?_;exact ⟨hz,its',n',r,e⟩
def rSetL:V->V->V->Hp->(Hp->Prop)->Prop:=λ o i v H Q=>∃p xs k j,o=.ref p/\i=.int k/\H p=some (.lst xs)/\ixN xs.length k=some j/\Q (upd H p (.lst (xs.set j v)))
theorem z2a:PSet X rSetL:=by
 intro pins s σ H o i v ov iv u Q I ro ri rv h;obtain ⟨p,xs,k,j,rfl,rfl,hp,hj,q⟩:=h;cases ro;obtain ⟨t,rfl⟩:=ri;obtain ⟨its,n,r,ho,hz⟩:=I.lst hp;obtain ⟨h1,h2,h3,h4⟩:=zhb hj;have hl:=r.length;have hn:=line63;have I':Inv X pins σ (upd H p (.lst (xs.set j v))) { s with heap:=s.heap.update p (P7 (·.setIfInBounds j u)) }:=
  I.lstUpd hp ho (zem its n j u) (r.set rv j) (by rw [D4];exact hz) s.toks
 by_cases h0:0<=k
 ·have hk:k.toNat=j:=by rw [seqIndex_of h0 h4] at h1;exact U1 h1
  exact PySem.W.ki_setAt ho h0 (by omega) (by rw [O0,<-hl];exact h4) (by rw [hk];exact ⟨_,I',q⟩)
 ·have hk:(k + (its.toArray.size:Int)).toNat=j:=by rw [seqIndex_neg (by omega) h3] at h1;rw [O0,<-hl];exact U1 h1
  exact PySem.W.ki_setBack ho (by omega) (by rw [O0,<-hl];exact h3) (by omega) (by rw [hk];exact ⟨_,I',q⟩)
theorem za5 (lo hi:Option Int) (n:Nat):(U6 lo hi none n).1=((HT.sIx n 0 lo:Nat):Int)/\(U6 lo hi none n).2.1=((HT.sIx n n hi:Nat):Int)/\(U6 lo hi none n).2.2=1:=by
 refine ⟨?_,?_,rfl⟩
 ·cases lo with
  | none=>simp [U6,HT.sIx]
  | some i=>
   simp only [U6,HT.sIx,Option.getD_none,show (1:Int) > 0 by decide,if_true];by_cases h:i < 0
   ·simp only [h,if_true]<;>omega
   ·simp only [h,if_false]<;>omega
 ·cases hi with
  | none=>simp [U6,HT.sIx]
  | some i=>
   simp only [U6,HT.sIx,Option.getD_none,show (1:Int) > 0 by decide,if_true];by_cases h:i < 0
   ·simp only [h,if_true]<;>omega
   ·simp only [h,if_false]<;>omega
theorem z9u (its:List Value) (lo hi:Option Int):slicePick its.toArray lo hi none=((its.drop (HT.sIx its.length 0 lo)).take (HT.sIx its.length its.length hi - HT.sIx its.length 0 lo)).toArray:=by obtain ⟨h1,h2,h3⟩:=za5 lo hi its.toArray.size;unfold slicePick;rw [h1,h2,h3];simp only [sliceRange_one,pick_run,O0]<;>rfl
def rSlL (K:b0):V->Option Int->Option Int->Hp->VK->Prop:=λ x lo hi H Q=>∃a xs,x=.ref a/\SqL K H a xs/\∀p,H p=none->Q (.ref p) (upd H p (.lst (cutV xs lo hi)))
theorem sl_list:SlR X (rSlL X.K):=by intro pins s σ H x v vl vu lo hi sl Q I rx hs pl pu h;obtain ⟨a,xs,rfl,hx,q⟩:=h;cases rx;obtain ⟨its,r,ht,hz⟩:=I.list hx;have hlen:=r.length;refine ⟨"list",_,slot_list_getitem.lookup,ht.isList.typeIs,?_⟩;refine wpAny_getItem_list_slice ht.isList hs pl pu .none (by simp) ?_ (by rw [O0]<;>omega);rw [z9u,<-hlen];refine ⟨.ref s.heap.objs.size,_,I.laid (t':=s.toks) (o:=.lst (cutV xs lo hi)) (λ b ob q=>B0 _ q) (F0 _) ?_,rfl,q _ (I.hok.fresh (F0 _))⟩;exact ⟨G0 (z6r xs lo hi) hz,_,0,(r.drop (HT.sIx xs.length 0 lo)).take (HT.sIx xs.length xs.length hi - HT.sIx xs.length 0 lo),S0 _ rfl⟩
noncomputable def flatV:V->Bool
 | .non=>true
 | .bl _=>true
 | .int _=>true
 | .str _=>true
 | _=>false
noncomputable def eqV:V->V->Bool
 | .non,.non=>true
 | .bl a,.bl b=>a == b
 | .bl a,.int b=>(if a then 1 else 0) == b
 | .int a,.bl b=>a == (if b then 1 else 0)
 | .int a,.int b=>a == b
 | .str a,.str b=>a == b
 | _,_=>false
theorem eqAt_V {A:A2} {s:A0} {y x:V} {u v:Value} (ry:RelV y u) (rx:RelV x v) (fy:flatV y=true) (fx:flatV x=true):j19 A s u v (eqV y x):=by
 cases y with
 | non=>
  cases ry;cases x with
  | non=>cases rx;exact V5 _
  | bl b=>cases rx;exact SeqAt.EqAt.none_bool b
  | int b=>obtain ⟨t,rfl⟩:=rx;exact SeqAt.EqAt.none_int b t
  | str b=>obtain ⟨t,rfl⟩:=rx;exact SeqAt.EqAt.none_str b t
  | _=>exact absurd (show false=true from fx) U0
 | bl a=>
  cases ry;cases x with
  | non=>cases rx;exact SeqAt.EqAt.bool_none a
  | bl b=>cases rx;exact SeqAt.EqAt.bool_bool a b
  | int b=>obtain ⟨t,rfl⟩:=rx;exact SeqAt.EqAt.bool_int a b t
  | str b=>obtain ⟨t,rfl⟩:=rx;exact SeqAt.EqAt.bool_str a b t
  | _=>exact absurd (show false=true from fx) U0
 | int a=>
  obtain ⟨t',rfl⟩:=ry;cases x with
  | non=>cases rx;exact SeqAt.EqAt.int_none a t'
  | bl b=>cases rx;exact SeqAt.EqAt.int_bool a t' b
  | int b=>obtain ⟨t,rfl⟩:=rx;exact j2c a t' b t
  | str b=>obtain ⟨t,rfl⟩:=rx;exact j2b a t' b t
  | _=>exact absurd (show false=true from fx) U0
 | str a=>
  obtain ⟨t',rfl⟩:=ry;cases x with
  | non=>cases rx;exact SeqAt.EqAt.str_none a t'
  | bl b=>cases rx;exact SeqAt.EqAt.str_bool a t' b
  | int b=>obtain ⟨t,rfl⟩:=rx;exact j2a a t' b t
  | str b=>obtain ⟨t,rfl⟩:=rx;exact M8 a t' b t
  | _=>exact absurd (show false=true from fx) U0
 | _=>exact absurd (show false=true from fy) U0
noncomputable def eqU (x:V) (u:Value):Bool:=match u with
 | .none=>eqV .non x
 | .bool b=>eqV (.bl b) x
 | .int i _=>eqV (.int i) x
 | .str z _=>eqV (.str z) x
 | _=>false
theorem eqU_of {x y:V} {u:Value} (r:RelV y u) (f:flatV y=true):eqU x u=eqV y x:=by
 cases y with
 | non=>cases r;rfl
 | bl b=>cases r;rfl
 | int i=>obtain ⟨t,rfl⟩:=r;rfl
 | str z=>obtain ⟨t,rfl⟩:=r;rfl
 | _=>exact absurd (show false=true from f) U0
theorem z8u {x:V} :∀{xs:List V} {us:List Value},Vals xs us->xs.all flatV=true->us.any (eqU x)=xs.any λ y=>eqV y x
 | _,_,.nil,_=>rfl
 | y :: xs,u :: us,.cons r t,f=>by rw [d7,j3] at f;rw [X7,X7,eqU_of r f.1,z8u t f.2]
theorem z66 {A:A2} {s:A0} {x:V} {v:Value} (rx:RelV x v) (fx:flatV x=true) :∀{xs:List V} {us:List Value},Vals xs us->xs.all flatV=true->∀u∈us,j19 A s u v (eqU x u)
 | _,_,.nil,_=>λ u hu=>by cases hu
 | y :: xs,u :: us,.cons r t,f=>λ u' hu=>by
  rw [d7,j3] at f;rcases List.mem_cons.mp hu with rfl|hu
  ·rw [eqU_of r f.1];exact eqAt_V r rx f.1 fx
  ·exact z66 rx fx t f.2 u' hu
noncomputable def inV (x:V) (xs:List V):Bool:=xs.any λ y=>eqV y x
noncomputable def rIn (K:b0) (neg:Bool):R2:=λ x y H Q=>∃p xs,y=.ref p/\(SqL K H p xs\/SqT K H p xs)/\flatV x=true/\xs.all flatV=true/\Q (.bl (if neg then !inV x xs else inV x xs)) H
theorem z1z:OpR X (v2 .In) (rIn X.K false):=by
 intro pins s σ H x y v u Q I rx ry h;obtain ⟨p,xs,rfl,hq,fx,fs,q⟩:=h;cases ry;rcases hq with hq|hq
 ·obtain ⟨its,r,pl,hz⟩:=I.list hq;refine SeqAt.in_listAt (eqU x) pl.isList (λ w hw=>z66 rx fx r fs w (by simpa using hw)) ⟨.bl _,H,I,rfl,?_⟩;rw [show its.toArray.any (eqU x)=its.any (eqU x) by simp,z8u r fs];exact q
 ·obtain ⟨its,r,pl,hz⟩:=I.tuple hq;refine SeqAt.in_tupleAt (eqU x) pl (λ w hw=>z66 rx fx r fs w (by simpa using hw)) ⟨.bl _,H,I,rfl,?_⟩;rw [show its.toArray.any (eqU x)=its.any (eqU x) by simp,z8u r fs];exact q
theorem z3g:OpR X (v2 .NotIn) (rIn X.K true):=by
 intro pins s σ H x y v u Q I rx ry h;obtain ⟨p,xs,rfl,hq,fx,fs,q⟩:=h;cases ry;rcases hq with hq|hq
 ·obtain ⟨its,r,pl,hz⟩:=I.list hq;refine SeqAt.notIn_listAt (eqU x) pl.isList (λ w hw=>z66 rx fx r fs w (by simpa using hw)) ⟨.bl _,H,I,rfl,?_⟩;rw [show its.toArray.any (eqU x)=its.any (eqU x) by simp,z8u r fs];exact q
 ·obtain ⟨its,r,pl,hz⟩:=I.tuple hq;refine SeqAt.notIn_tupleAt (eqU x) pl (λ w hw=>z66 rx fx r fs w (by simpa using hw)) ⟨.bl _,H,I,rfl,?_⟩;rw [show its.toArray.any (eqU x)=its.any (eqU x) by simp,z8u r fs];exact q
theorem call_len_seq:CallR X (.builtin "len") (λ xs H Q=>∃p ys,xs=[.ref p]/\(SqL X.K H p ys\/SqT X.K H p ys)/\Q (.int ys.length) H):=by
 intro pins s σ H xs us Q I r h;obtain ⟨p,ys,rfl,hq,q⟩:=h;obtain ⟨u,rfl,rx⟩:=vals1 r;cases rx;have hn:=line63;rcases hq with hq|hq
 ·obtain ⟨its,r',pl,hz⟩:=I.list hq;have hlen:=r'.length;exact Calls.call_len_list pl.isList (by simp only [O0]<;>omega) ⟨.int ys.length,H,I.tok _,⟨s.toks + 1,by rw [O0,hlen]⟩,q⟩
 ·obtain ⟨its,r',pl,hz⟩:=I.tuple hq;have hlen:=r'.length;exact len_tuple pl (by simp only [O0]<;>omega) ⟨.int ys.length,H,I.tok _,⟨s.toks + 1,by rw [O0,hlen]⟩,q⟩
theorem zaq:CallR X (.builtin "len") (λ xs H Q=>∃z,xs=[.str z]/\z.length<=sizeLine/\Q (.int z.length) H):=by intro pins s σ H xs us Q I r h;obtain ⟨z,rfl,hz,q⟩:=h;obtain ⟨u,rfl,t,rfl⟩:=vals1 r;have hn:=line63;exact len_str (by omega) ⟨.int z.length,H,I.tok _,⟨_,rfl⟩,q⟩
theorem CallR.or {f:Value} {r r':List V->Hp->VK->Prop} (h:CallR X f r) (h':CallR X f r'):CallR X f (λ xs H Q=>r xs H Q\/r' xs H Q):=by
 intro pins s σ H xs us Q I rs q;rcases q with q|q
 ·exact h pins s σ H xs us Q I rs q
 ·exact h' pins s σ H xs us Q I rs q
theorem z5c:CallR X (.type "list") (λ xs H Q=>∃p ys,xs=[.ref p]/\(SqL X.K H p ys\/SqT X.K H p ys)/\∀l,H l=none->Q (.ref l) (upd H l (.lst ys))):=by
 intro pins s σ H xs us Q I r h;obtain ⟨p,ys,rfl,hq,q⟩:=h;obtain ⟨u,rfl,rx⟩:=vals1 r;cases rx;have fin :∀(its:List Value),Vals ys its->ys.length<=sizeLine->∀(h':Heap) (c':Nat),(∀b o',s.heap.get? b=some o'->h'.get? b=some o')->
   h'.get? s.heap.objs.size=some { cls:=.type "list",dict:=none,data:=.seq its.toArray c',slots:=#[] }->EP X pins σ Q (.ref s.heap.objs.size) { s with heap:=h' }:=λ its r' hz h' c' kp e=>
  ⟨.ref s.heap.objs.size,_,I.laid (t':=s.toks) kp (F0 _) (show ObjOk X.prog X.w _ h' _ (.lst ys) from ⟨hz,its,c',r',e⟩),rfl,q _ (I.hok.fresh (F0 _))⟩
 rcases hq with hq|hq
 ·obtain ⟨its,r',pl,hz⟩:=I.list hq;have hlen:=r'.length;obtain ⟨o,ho,hc,n,hd⟩:=pl.isList;exact call_list_seq p (.inl rfl) ho hc hd (λ h' c' kp e=>fin its r' hz h' c' kp e) (by simp only [O0]<;>omega)
 ·obtain ⟨its,r',pl,hz⟩:=I.tuple hq;have hlen:=r'.length;obtain ⟨o,ho,hc,n,hd⟩:=pl;exact call_list_seq p (.inr rfl) ho hc hd (λ h' c' kp e=>fin its r' hz h' c' kp e) (by simp only [O0]<;>omega)
theorem z0p:CallR X (.type "tuple") (λ xs H Q=>∃p ys,xs=[.ref p]/\((SqL X.K H p ys/\∀l,H l=none->Q (.ref l) (upd H l (.tup ys)))\/(SqT X.K H p ys/\Q (.ref p) H))):=by
 intro pins s σ H xs us Q I r h;obtain ⟨p,ys,rfl,h⟩:=h;obtain ⟨u,rfl,rx⟩:=vals1 r;cases rx;rcases h with ⟨hq,q⟩|⟨hq,q⟩
 ·obtain ⟨its,r',pl,hz⟩:=I.list hq;have hlen:=r'.length;refine call_tuple_list pl.isList (λ h' kp=>?_) (by simp only [O0]<;>omega);have I1:Inv X pins σ H { s with heap:=h' }:=I.kept (t':=s.toks) kp;have I2:Inv X pins σ (upd H h'.objs.size (.tup ys)) { s with heap:=h'.push { cls:=.type "tuple",data:=.seq its.toArray } }:=
   I1.laid (t':=s.toks) (λ b o e=>B0 _ e) (F0 _) (show ObjOk X.prog X.w _ _ _ (.tup ys) from ⟨hz,its,r',IsTupN.new _ _⟩)
  exact ⟨.ref h'.objs.size,_,I2,rfl,q _ (I1.hok.fresh (F0 _))⟩
 ·obtain ⟨its,r',pl,hz⟩:=I.tuple hq;exact call_tuple_same pl ⟨.ref p,H,I,rfl,q⟩
def tyV (K:b0) (T:String) (x:V) (H:Hp):Prop:=match x with
 | .str _=>T = "str"
 | .int _=>T = "int"
 | .ref p=>(T = "list"/\∃xs,SqL K H p xs)\/(T = "tuple"/\∃o,K.lookup p=some o/\o.cls=.type "tuple"/\o.dict=none)\/
   (T = "dict"/\((∃kvs,H p=some (.dK kvs))\/∃kvs,H p=some (.dT kvs)))\/(T = "set"/\∃S n,H p=some (.set S n))
 | _=>False
theorem tyV_is {pins:List (Addr×Obj)} {σ:St} {H:Hp} {s:A0} {T:String} {x:V} {v:Value} (I:Inv X pins σ H s) (r:RelV x v) (ty:tyV X.K T x H) :
  s.TypeIs v T/\∀a,v=.ref a->∃ob,s.heap.get? a=some ob/\ob.dict=none:=by
 cases x with
 | str z=>obtain ⟨t,rfl⟩:=r;cases (show T = "str" from ty);exact ⟨typeIs_str s z t,λ _ e=>nomatch e⟩
 | int i=>obtain ⟨t,rfl⟩:=r;cases (show T = "int" from ty);exact ⟨typeIs_int s i t,λ _ e=>nomatch e⟩
 | ref p=>
  cases r;rcases ty with ⟨rfl,xs,hq⟩|⟨rfl,o,hk,hc,hd⟩|⟨rfl,hk⟩|⟨rfl,S,n,hk⟩
  ·obtain ⟨its,_,pl,_⟩:=I.list hq;refine ⟨pl.isList.typeIs,λ a e=>?_⟩;cases e;obtain ⟨o,n,e,c,hd,_⟩:=pl;exact ⟨o,e,hd⟩
  ·refine ⟨⟨o,I.kIn p o hk,hc⟩,λ a e=>?_⟩;cases e;exact ⟨o,I.kIn _ o hk,hd⟩
  ·have z :∃o,s.heap.get? p=some o/\o.ExactDict:=by
    rcases hk with ⟨kvs,hk⟩|⟨kvs,hk⟩
    ·obtain ⟨_,_,_,_,o,_,_,e,ex,_⟩:=I.hok p _ hk;exact ⟨o,e,ex⟩
    ·obtain ⟨_,_,_,_,o,_,_,e,ex,_⟩:=I.hok p _ hk;exact ⟨o,e,ex⟩
   obtain ⟨o,e,ex⟩:=z;refine ⟨⟨o,e,ex.1⟩,λ a e2=>?_⟩;cases e2;exact ⟨o,e,ex.2.1⟩
  ·obtain ⟨o,_,_,_,e,ex,_⟩:=I.hok p _ hk;refine ⟨⟨o,e,ex.1⟩,λ a e2=>?_⟩;cases e2;exact ⟨o,e,ex.2.1⟩
 | _=>exact M5 ty
noncomputable def tBM (K:b0) (T:String) (r:V->List V->Hp->VK->Prop) (to:TE) (t:TA):TE:=λ σ H Q=>to σ H λ x H1=>tyV K T x H1/\t σ H1 λ xs H2=>r x xs H2 Q
variable {o e:Expr} {es:List Expr} {to:TE} {t:TA} {name:Str} {apos cpos:Pos} {T id:String} {r:V->List V->Hp->VK->Prop}
theorem pe_bm (pa:PlainAttrs T) (slot:Slot T name id) (hty:typeOf (.builtin id)=J3 (.type "method_descriptor")) (hm:MtR X id r) (ho:PE X o to) (ha:PA X (e :: es) t)
  (hbase:K6 o name X.env (Y3 o X.env)=Y3 o X.env:=by rfl)
  (hfew:((d5 cpos (K1 (e :: es) X.env)).all (λ x=>!x.1) && (Y9 cpos (F7 [] X.env)).all (λ x=>x.1.isSome)
   && decide ((e :: es).length + ([]:List C6).length + (if ([]:List C6).isEmpty then 0 else 1) < 30))=true:=by rfl)
  (hline:(apos.endLine == cpos.line)=true:=by rfl) (hs:K1 (e :: es) X.env=(false,Y3 e X.env) :: K1 es X.env:=by rfl) (hplain:(d5 cpos (K1 es X.env)).any (·.1)=false:=by rfl) :
  PE X (.Call (.Attribute o name apos) (e :: es) [] cpos) (tBM X.K T r to t):=by
 intro pins s σ H Q I h;refine wpAny_Call_method_late hbase hfew hline rfl (thn (ho pins s σ H _ I h) λ v s1 ⟨x,H1,I1,r1,ty,q1⟩=>?_);obtain ⟨h1,h2⟩:=tyV_is I1 r1 ty;refine ⟨T,id,pa,slot,hty,h1,h2,?_⟩;have hA:=ha cpos pins s1 σ H1 _ I1 q1;rw [hs] at hA⊢;refine o8 (by show (false || (d5 cpos (K1 es X.env)).any (·.1))=false;rw [hplain]<;>rfl) (V8 ?_);exact thn hA λ us s2 ⟨vs,H2,I2,r2,q2⟩=>hm pins s2 σ H2 x vs v us Q I2 r1 r2 q2
end
def MtM (X:Cx) (id:String) (r:V->List V->Hp->VK->Prop):Prop:=
 ∀(pins:List (Addr×Obj)) (s:A0) (σ:St) (H:Hp) (x:V) (xs:List V) (v:Value) (us:List Value) (Q:VK),Inv X pins σ H s->RelV x v->Vals xs us->r x xs H Q->
  Q0 (A1 X.prog X.w) X.A (call (.builtin id) (v :: us)) (EP X pins σ Q) X.xe s
theorem Vals.one :∀{x:V} {us:List Value},Vals [x] us->∃u,us=[u]/\RelV x u
 | _,_,.cons r .nil=>⟨_,rfl,r⟩
theorem Vals.two :∀{x y:V} {us:List Value},Vals [x,y] us->∃u v,us=[u,v]/\RelV x u/\RelV y v
 | _,_,_,.cons r (.cons q .nil)=>⟨_,_,rfl,r,q⟩
theorem Vals.eraseIdx :∀{xs:List V} {us:List Value} (i:Nat),Vals xs us->Vals (xs.eraseIdx i) (us.eraseIdx i)
 | _,_,_,.nil=>.nil
 | _,_,0,.cons _ t=>t
 | _,_,i + 1,.cons r t=>.cons r (Vals.eraseIdx i t)
theorem zbk {α:Type} :∀(l:List α) (i:Nat),(l.eraseIdx i).length<=l.length
 | [],_=>F0 _
 | _ :: _,0=>F2 _
 | _ :: r,i + 1=>T4 (zbk r i)
section
variable {X:Cx} {pins:List (Addr×Obj)} {σ:St} {H:Hp} {s:A0} {l b:Addr} {xs ys zs:List V}
theorem Inv.lset {its its':List Value} {n:Nat} {f:Array Value->Array Value} {t':Nat} (I:Inv X pins σ H s) (hH:H l=some (.lst xs))
  (e:s.heap.get? l=some { cls:=.type "list",data:=.seq its.toArray n }) (hf:f its.toArray=its'.toArray) (hv:Vals ys its') (hz:ys.length<=sizeLine) :
  Inv X pins σ (upd H l (.lst ys)) { s with heap:=s.heap.update l (P7 f),toks:=t' }:=by
 have q:=PySem.IsL.update e f;rw [hf] at q;refine I.write (x:=l) (e:=l) (by rw [hH];exact trivial) (.inl rfl) (λ b' u hb hu=>(O6 s.heap (P7 f) (Q2 hb)).trans hu) ⟨_,q⟩ ?_;exact ⟨hz,its',_,hv,q⟩
theorem Inv.lnew {its:List Value} {t':Nat} (I:Inv X pins σ H s) (hv:Vals ys its) (hz:ys.length<=sizeLine) :
  Inv X pins σ (upd H s.heap.objs.size (.lst ys)) { s with heap:=s.heap.push { cls:=.type "list",data:=.seq its.toArray },toks:=t' }:=
 I.laid (λ _ _ q=>B0 _ q) (F0 _) ⟨hz,its,0,hv,S0 _ rfl⟩
theorem Inv.fresh (I:Inv X pins σ H s):H s.heap.objs.size=none:=I.hok.fresh (F0 _)
theorem Inv.lstM (I:Inv X pins σ H s) (hH:H l=some (.lst xs)):xs.length<=sizeLine/\∃(its:List Value) (n:Nat),Vals xs its/\xs.length=its.length/\s.heap.get? l=some { cls:=.type "list",data:=.seq its.toArray n }:=by obtain ⟨z,its,n,r,e⟩:=I.hok l _ hH;exact ⟨z,its,n,r,r.length,e⟩
end
section
variable {X:Cx}
def zhc:V->List V->Hp->VK->Prop:=λ x vs H Q=>∃l xs y,x=.ref l/\vs=[y]/\H l=some (.lst xs)/\xs.length < sizeLine/\Q .non (upd H l (.lst (xs++[y])))
theorem zg6:MtM X "list.append" zhc:=by intro pins s σ H x vs v us Q I rx rv h;obtain ⟨l,xs,y,rfl,rfl,hH,hz,q⟩:=h;cases rx;obtain ⟨u,rfl,ru⟩:=rv.one;obtain ⟨z,its,n,r,hl,e⟩:=I.lstM hH;refine g9 F.slot_list_append ⟨_,e,rfl⟩ F.entry_list_append (F.args_list_append_2 _ _) (PySem.list_append l its.toArray n u (by rw [O0];omega)) ⟨e,?_⟩;refine ⟨.non,_,I.lset (its':=its++[u]) hH e (by simp) (r.append (.cons ru .nil)) ?_,rfl,q⟩;rw [K0,List.length_singleton];omega
def rPopAt:V->List V->Hp->VK->Prop:=λ x vs H Q=>∃l xs i k y,x=.ref l/\vs=[.int i]/\H l=some (.lst xs)/\-(2 ^ 63)<=i/\i < 2 ^ 63/\seqIndex? i xs.length=some k/\xs[k]? = some y/\Q y (upd H l (.lst (xs.eraseIdx k)))
theorem zib:MtM X "list.pop" rPopAt:=by
 intro pins s σ H x vs v us Q I rx rv h;obtain ⟨l,xs,i,k,y,rfl,rfl,hH,h1,h2,hk,hy,q⟩:=h;cases rx;obtain ⟨u,rfl,ru⟩:=rv.one;obtain ⟨t,rfl⟩:=ru;obtain ⟨z,its,n,r,hl,e⟩:=I.lstM hH;obtain ⟨w,hw,rw'⟩:=r.get hy;refine g9 F.slot_list_pop ⟨_,e,rfl⟩ F.entry_list_pop (F.args_list_pop_2 _ _)
  (MeetsSeq.list_pop_at l its.toArray n i t k w (fitsIndex_both h1 h2) (by rw [O0,<-hl];exact hk) (by rw [<-j4];exact hw) (by rw [O0];omega)) ⟨e,?_⟩
 refine ⟨y,_,I.lset (its':=its.eraseIdx k) hH e ?_ (r.eraseIdx k) ?_,rw',q⟩
 ·show its.toArray.eraseIdxIfInBounds k=(its.eraseIdx k).toArray;rw [List.eraseIdxIfInBounds_toArray]
 ·have:=zbk xs k;omega
noncomputable def rCat:R2:=λ x y H Q=>∃l b xs zs,x=.ref l/\y=.ref b/\H l=some (.lst xs)/\H b=some (.lst zs)/\xs.length + zs.length<=sizeLine/\∀p,H p=none->Q (.ref p) (upd H p (.lst (xs++zs)))
theorem op_cat:OpR X (M4 .Add) rCat:=by
 intro pins s σ H x y v u Q I rx ry h;obtain ⟨l,b,xs,zs,rfl,rfl,hH,hB,hz,q⟩:=h;cases rx;cases ry;obtain ⟨z,its,n,r,hl,e⟩:=I.lstM hH;obtain ⟨z2,its2,n2,r2,hl2,e2⟩:=I.lstM hB;refine PySem.P.add_list e e2 ?_ (by rw [O0,O0];omega);have ea:its.toArray++its2.toArray=(its++its2).toArray:=by simp
 rw [ea];exact ⟨.ref _,_,I.lnew (t':=s.toks) (r.append r2) (by rw [K0];omega),rfl,q _ I.fresh⟩
end
section
variable {prog:Program} {w:y1} {A:A2} {E:Value->A0->Prop} {s:A0}
set_option maxRecDepth 100000 in
end
section
variable {κ:Type} [DecidableEq κ]
noncomputable def valV (kvs:List (κ×V)) (k:κ):Option V:=(kvs.find? λ kv=>decide (kv.1=k)).map (·.2)
noncomputable def putK (kvs:List (κ×V)) (k:κ) (v:V):List (κ×V):=
 if (kvs.any λ kv=>decide (kv.1=k))=true then kvs.map (λ kv=>if kv.1=k then (kv.1,v) else kv) else kvs++[(k,v)]
noncomputable def dropK (kvs:List (κ×V)) (k:κ):List (κ×V):=kvs.filter λ kv=>decide (kv.1≠k)
theorem z0y {p:κ×V} {r:List (κ×V)} {k:κ} (e:p.1=k):valV (p :: r) k=some p.2:=by simp [valV,E4,e]
theorem z0t {p:κ×V} {r:List (κ×V)} {k:κ} (e:¬ p.1=k):valV (p :: r) k=valV r k:=by simp [valV,E4,e]
theorem z79 (k:κ) :∀kvs:List (κ×V),(kvs.any λ kv=>decide (kv.1=k))=(valV kvs k).isSome
 | []=>rfl
 | p :: r=>by
  rw [X7];by_cases e:p.1=k
  ·simp only [z0y e,decide_eq_true e,Bool.true_or,Option.isSome_some]
  ·rw [z0t e,decide_eq_false e,Bool.false_or];exact z79 k r
theorem zf5 (k j:κ) (y:V) :∀kvs:List (κ×V),valV (kvs.map λ kv=>if kv.1=k then (kv.1,y) else kv) j=(valV kvs j).map λ x=>if j=k then y else x
 | []=>rfl
 | p :: r=>by
  have ih:=zf5 k j y r;rw [v1];by_cases h:p.1=k
  ·rw [if_pos h];by_cases e:p.1=j
   ·rw [z0y (p:=(p.1,y)) e,z0y e,u7,if_pos (e.symm.trans h)]
   ·rw [z0t (p:=(p.1,y)) e,z0t e,ih]
  ·rw [if_neg h];by_cases e:p.1=j
   ·rw [z0y (p:=p) e,z0y e,u7,if_neg (λ z=>h (e.trans z))]
   ·rw [z0t (p:=p) e,z0t e,ih]
theorem zbn (k j:κ) (y:V) :∀kvs:List (κ×V),valV kvs k=none->valV (kvs++[(k,y)]) j=if j=k then some y else valV kvs j
 | [],_=>by
  by_cases e:k=j
  ·rw [if_pos e.symm];exact z0y (p:=(k,y)) e
  ·rw [if_neg (λ z=>e z.symm)];exact z0t (p:=(k,y)) e
 | p :: r,hn=>by
  rw [List.cons_append];have hk:¬ p.1=k:=λ z=>by rw [z0y z] at hn;cases hn
  rw [z0t hk] at hn;have ih:=zbn k j y r hn;by_cases e:p.1=j
  ·rw [z0y e,z0y e,if_neg (λ z=>hk (e.trans z))]
  ·rw [z0t e,z0t e,ih]
theorem z1a (kvs:List (κ×V)) (k j:κ) (y:V):valV (putK kvs k y) j=if j=k then some y else valV kvs j:=by
 unfold putK;by_cases a:(kvs.any λ kv=>decide (kv.1=k))=true
 ·rw [if_pos a,zf5];rw [z79] at a;by_cases e:j=k
  ·obtain ⟨x,hx⟩:=Option.isSome_iff_exists.mp a;rw [if_pos e,e,hx,u7,if_pos rfl]
  ·rw [if_neg e];cases valV kvs j with
   | none=>rfl
   | some x=>rw [u7,if_neg e]
 ·rw [if_neg a];refine zbn k j y kvs ?_;rw [z79] at a;cases q:valV kvs k with
  | none=>rfl
  | some x=>rw [q] at a;exact (a rfl).elim
theorem z2y (kvs:List (κ×V)) (k:κ) (v:V):(putK kvs k v).length<=kvs.length + 1:=by
 unfold putK;split
 ·rw [D0];omega
 ·rw [K0,W0,G2];omega
theorem RelO.isSome_eq {o:Option V} {u:Option Value} (r:RelO o u):o.isSome=u.isSome:=by
 cases o with
 | none=>cases u with
  | none=>rfl
  | some _=>exact (show False from r).elim
 | some _=>cases u with
  | none=>exact (show False from r).elim
  | some _=>rfl
theorem RelO.getD {o:Option V} {u:Option Value} {d:V} {d':Value} (r:RelO o u) (rd:RelV d d'):RelV (o.getD d) (u.getD d'):=by
 cases o with
 | none=>cases u with
  | none=>exact rd
  | some _=>exact (show False from r).elim
 | some _=>cases u with
  | none=>exact (show False from r).elim
  | some _=>exact r
theorem KV.val {kvs:List (κ×V)} {vs:List (κ×Value)} (r:KV kvs vs) (k:κ):RelO (valV kvs k) (j01 vs k):=by
 unfold KV at r;induction r with
 | nil=>exact True.intro
 | @cons p q ps qs h t ih=>
  obtain ⟨h1,h2⟩:=h;by_cases e:p.1=k
  ·have e':q.1=k:=h1.symm.trans e;have b:j01 (q :: qs) k=some q.2:=by simp [j01,E4,e']
   rw [z0y e,b];exact h2
  ·have e':¬ q.1=k:=λ z=>e (h1.trans z);have b:j01 (q :: qs) k=j01 qs k:=by simp [j01,E4,e']
   rw [z0t e,b];exact ih
theorem KV.any {kvs:List (κ×V)} {vs:List (κ×Value)} (r:KV kvs vs) (k:κ):(kvs.any λ kv=>decide (kv.1=k))=vs.any λ kv=>decide (kv.1=k):=by
 unfold KV at r;induction r with
 | nil=>rfl
 | cons h t ih=>rw [X7,X7,ih,h.1]
theorem KV.repl {kvs:List (κ×V)} {vs:List (κ×Value)} (r:KV kvs vs) (k:κ) {y:V} {u:Value} (ry:RelV y u) :
  KV (kvs.map λ kv=>if kv.1=k then (kv.1,y) else kv) (vs.map λ kv=>if kv.1=k then (kv.1,u) else kv):=by
 unfold KV at r⊢;induction r with
 | nil=>exact .nil
 | @cons p q ps qs h t ih=>
  rw [v1,v1];refine .cons ?_ ih;obtain ⟨h1,h2⟩:=h;by_cases e:p.1=k
  ·rw [if_pos e,if_pos (h1.symm.trans e)];exact ⟨h1,ry⟩
  ·rw [if_neg e,if_neg (λ z=>e (h1.trans z))];exact ⟨h1,h2⟩
theorem KV.put {kvs:List (κ×V)} {vs:List (κ×Value)} (r:KV kvs vs) (k:κ) {y:V} {u:Value} (ry:RelV y u):KV (putK kvs k y) (stored vs k u):=by
 unfold putK stored;rw [r.any k];by_cases e:(vs.any λ kv=>decide (kv.1=k))=true
 ·rw [if_pos e,if_pos e];exact r.repl k ry
 ·rw [if_neg e,if_neg e];exact Paired.snoc r ⟨rfl,ry⟩
theorem KV.drop {kvs:List (κ×V)} {vs:List (κ×Value)} (r:KV kvs vs) (k:κ):KV (dropK kvs k) (without vs k):=by
 unfold KV at r⊢;unfold dropK without;induction r with
 | nil=>exact .nil
 | @cons p q ps qs h t ih=>
  obtain ⟨h1,h2⟩:=h;rw [O4,O4];by_cases e:p.1=k
  ·have a:¬ decide (p.1≠k)=true:=by simp [e]
   have b:¬ decide (q.1≠k)=true:=by simp [h1.symm.trans e]
   rw [if_neg a,if_neg b];exact ih
  ·have e':¬ q.1=k:=λ z=>e (h1.trans z);have a:decide (p.1≠k)=true:=by simp [e]
   have b:decide (q.1≠k)=true:=by simp [e']
   rw [if_pos a,if_pos b];exact .cons ⟨h1,h2⟩ ih
theorem KV.keys {kvs:List (κ×V)} {vs:List (κ×Value)} (r:KV kvs vs):kvs.map (·.1)=vs.map (·.1):=by
 unfold KV at r;induction r with
 | nil=>rfl
 | cons h t ih=>rw [v1,v1,ih,h.1]
theorem KV.length {kvs:List (κ×V)} {vs:List (κ×Value)} (r:KV kvs vs):kvs.length=vs.length:=Q7 r
theorem zii (kvs:List (κ×V)) (k:κ):(dropK kvs k).length<=kvs.length:=U2 _ _
end
theorem kV_is {P:Program} {w:y1} {k:Key} {u:Value} (r:RelV (kV k) u):(z0k P w).is k u=true:=by
 cases k with
 | inl i=>obtain ⟨t,e⟩:=(show∃t,u=E6 i t from r);subst e;exact zcp P w i t
 | inr x=>obtain ⟨t,e⟩:=(show∃t,u=X6 x t from r);subst e;exact zd0 P w x t
theorem zbz {P:Program} {w:y1} :∀{ks:List Key} {us:List Value},Vals (ks.map kV) us->ItemsAre (z0k P w) ks us
 | [],_,r=>by rw [C7] at r;cases r;exact .nil
 | k :: ks,_,r=>by
  rw [v1] at r;cases r with
  | cons h t=>exact .cons (kV_is h) (zbz t)
abbrev KT (H:Hp):List (List Key×V)->List (List Key×Addr×Value)->Prop:=j9 λ p q=>p.1=q.1/\H q.2.1=some (.tup (p.1.map kV))/\RelV p.2 q.2.2
theorem KT.val {H:Hp} {kvs:List (List Key×V)} {xs:List (List Key×Addr×Value)} (r:KT H kvs xs) (k:List Key):RelO (valV kvs k) ((Z9 xs k).map (·.2)):=by
 induction r with
 | nil=>exact True.intro
 | @cons p q ps qs h t ih=>
  obtain ⟨h1,_,h2⟩:=h;by_cases e:p.1=k
  ·have e':q.1=k:=h1.symm.trans e;have b:Z9 (q :: qs) k=some q.2:=by simp [Z9,E4,e']
   rw [z0y e,b];exact h2
  ·have e':¬ q.1=k:=λ z=>e (h1.trans z);have b:Z9 (q :: qs) k=Z9 qs k:=by simp [Z9,E4,e']
   rw [z0t e,b];exact ih
theorem KT.repl {H:Hp} {kvs:List (List Key×V)} {xs:List (List Key×Addr×Value)} (r:KT H kvs xs) (k:List Key) {y:V} {u:Value} (ry:RelV y u) :
  KT H (kvs.map λ kv=>if kv.1=k then (kv.1,y) else kv) (xs.map (putAt k u)):=by
 induction r with
 | nil=>exact .nil
 | @cons p q ps qs h t ih=>
  rw [v1,v1];refine .cons ?_ ih;obtain ⟨h1,h2,h3⟩:=h;unfold putAt;by_cases e:p.1=k
  ·rw [if_pos e,if_pos (h1.symm.trans e)];exact ⟨h1,h2,ry⟩
  ·rw [if_neg e,if_neg (λ z=>e (h1.trans z))];exact ⟨h1,h2,h3⟩
theorem KT.put {H:Hp} {kvs:List (List Key×V)} {xs:List (List Key×Addr×Value)} (r:KT H kvs xs) (k:List Key) {b:Addr} {y:V} {u:Value} (hb:H b=some (.tup (k.map kV))) (ry:RelV y u) :
  KT H (putK kvs k y) (storedH xs k b u):=by
 have e:(kvs.any λ kv=>decide (kv.1=k))=(Z9 xs k).isSome:=by rw [z79,(r.val k).isSome_eq,O7]
 unfold putK storedH;rw [e];by_cases q:(Z9 xs k).isSome=true
 ·rw [if_pos q,if_pos q];exact r.repl k ry
 ·rw [if_neg q,if_neg q];exact Paired.snoc r ⟨rfl,hb,ry⟩
theorem KT.keeps {H H':Hp} {kvs:List (List Key×V)} {xs:List (List Key×Addr×Value)} (r:KT H kvs xs) (ht :∀b ys,H b=some (.tup ys)->H' b=some (.tup ys)):KT H' kvs xs:=
 Paired.mapP r λ _ _ z=>⟨z.1,ht _ _ z.2.1,z.2.2⟩
section
variable {P:Program} {w:y1} {H:Hp} {h:Heap} {a:Addr}
theorem rd_of {u:HO} (ok:HOk P w H h) (e:Rd H a u):ObjOk P w H h a u:=e.ok ok
theorem dk_rd {kvs:List (Key×V)} (ok:HOk P w H h) (e:Rd H a (.dK kvs)):kvs.length<=sizeLine/\(a == R4)=false/\∃vs,KV kvs vs/\h.DictOf (z0k P w) a vs:=
 show ObjOk P w H h a (.dK kvs) from rd_of ok e
theorem dk_of {kvs:List (Key×V)} (ok:HOk P w H h) (e:H a=some (.dK kvs)):kvs.length<=sizeLine/\(a == R4)=false/\∃vs,KV kvs vs/\h.DictOf (z0k P w) a vs:=dk_rd ok (.inl e)
theorem key_of {ks:List Key} (ok:HOk P w H h) (e:H a=some (.tup (ks.map kV))):(T6 (z0k P w)).is h ks a:=by
 obtain ⟨_,its,r,⟨o,h1,h2,n,h3⟩,_⟩:=(show ObjOk P w H h a (.tup (ks.map kV)) from ok a _ e)
 exact ⟨o,its.toArray,n,h1,h2,h3,by simpa using zbz r⟩
theorem dt_rd {kvs:List (List Key×V)} (ok:HOk P w H h) (e:Rd H a (.dT kvs)):kvs.length<=sizeLine/\(a == R4)=false/\
  ∃xs,KT H kvs xs/\h.DictOfH (T6 (z0k P w)) a xs:=by
 obtain ⟨z,y,xs,r,o,es,ep,h1,h2,h3,h4,h5⟩:=(show ObjOk P w H h a (.dT kvs) from rd_of ok e)
 refine ⟨z,y,xs,r,o,es,ep,h1,h2,h3,h4,λ x hx=>?_,h5⟩;have all :∀{l:List (List Key×V)} {m:List (List Key×Addr×Value)},KT H l m->∀x∈m,(T6 (z0k P w)).is h x.1 x.2.1:=by
  intro l m q;induction q with
  | nil=>intro x hx;exact nomatch hx
  | @cons p q ps qs hq t ih=>
   intro x hx;rcases List.mem_cons.mp hx with e|hx
   ·subst e;exact key_of ok (by rw [<-hq.1];exact hq.2.1)
   ·exact ih x hx
 exact all r x hx
theorem dt_of {kvs:List (List Key×V)} (ok:HOk P w H h) (e:H a=some (.dT kvs)):kvs.length<=sizeLine/\(a == R4)=false/\
  ∃xs,KT H kvs xs/\h.DictOfH (T6 (z0k P w)) a xs:=dt_rd ok (.inl e)
end
def DGet (H:Hp) (a:Addr) (y:V) (r:Option V):Prop:=
 (∃kvs k,Rd H a (.dK kvs)/\y=kV k/\r=valV kvs k)\/∃kvs k b,Rd H a (.dT kvs)/\y=.ref b/\H b=some (.tup (k.map kV))/\r=valV kvs k
def DPut (H:Hp) (a:Addr) (y v:V) (H':Hp):Prop:=
 (∃kvs k,H a=some (.dK kvs)/\y=kV k/\kvs.length < sizeLine/\H'=upd H a (.dK (putK kvs k v)))\/
 ∃kvs k b,H a=some (.dT kvs)/\y=.ref b/\H b=some (.tup (k.map kV))/\kvs.length < sizeLine/\H'=upd H a (.dT (putK kvs k v))
theorem DGet.k {H:Hp} {a:Addr} {kvs:List (Key×V)} {k:Key} (e:H a=some (.dK kvs)):DGet H a (kV k) (valV kvs k):=.inl ⟨kvs,k,.inl e,rfl,rfl⟩
theorem DPut.k {H:Hp} {a:Addr} {kvs:List (Key×V)} {k:Key} {v:V} (e:H a=some (.dK kvs)) (hl:kvs.length < sizeLine):DPut H a (kV k) v (upd H a (.dK (putK kvs k v))):=.inl ⟨kvs,k,e,rfl,hl,rfl⟩
section
variable {X:Cx} {pins:List (Addr×Obj)} {σ:St} {H:Hp} {s:A0} {a:Addr} {y v:V} {u r:Value} {o:Option V} {A:A2} {E:Value->A0->Prop}
theorem Inv.big (I:Inv X pins σ H s):R4 < s.heap.objs.size:=by have h:L0 < s.heap.objs.size:=(I.mod.glob.keeps I.bk).lt;exact G8 (by decide) h
theorem zfx {Q:Value->A0->Prop} (hu:A.units + 1 < cLine) (I:Inv X pins σ H s) (g:DGet H a y (some v)) (ry:RelV y u) (h :∀w' s',Inv X pins σ H s'->RelV v w'->Q w' s') :
  Q0 (A1 X.prog X.w) A (A8 (.ref a) u) Q E s:=by
 rcases g with ⟨kvs,k,e,ey,l⟩|⟨kvs,k,b,e,ey,eb,l⟩
 ·subst ey;obtain ⟨z,hd,vs,rel,dd⟩:=dk_rd I.hok e;obtain ⟨w',hw,rw'⟩:=RelO.some_of (v:=v) (o:=j01 vs k) (by rw [l];exact rel.val k);exact wpAny_getItem_of (kV_is ry) dd.mapOf hw (h w' _ (I.tok _) rw')
 ·subst ey;cases (show u=E1 b from ry);obtain ⟨z,hd,xs,rel,dd⟩:=dt_rd I.hok e;obtain ⟨w',hw,rw'⟩:=RelO.some_of (v:=v) (o:=(Z9 xs k).map (·.2)) (by rw [l];exact rel.val k);obtain ⟨p,hp,hp2⟩:=Option.map_eq_some_iff.mp hw;refine wpAny_getItem_heap (Q6 hu) (key_of I.hok eb) dd hp ?_;rw [hp2];exact h w' _ (I.tok _) rw'
theorem d_in {Q:Value->A0->Prop} (hu:A.units + 1 < cLine) (I:Inv X pins σ H s) (g:DGet H a y o) (ry:RelV y u) (h :∀s',Inv X pins σ H s'->Q (.bool o.isSome) s') :
  Q0 (A1 X.prog X.w) A (v2 .In u (.ref a)) Q E s:=by
 rcases g with ⟨kvs,k,e,ey,l⟩|⟨kvs,k,b,e,ey,eb,l⟩
 ·subst ey;obtain ⟨z,hd,vs,rel,dd⟩:=dk_rd I.hok e;refine wpAny_in_of (kV_is ry) hd dd.mapOf ?_;rw [<-(rel.val k).isSome_eq,<-l];exact h _ (I.tok _)
 ·subst ey;cases (show u=E1 b from ry);obtain ⟨z,hd,xs,rel,dd⟩:=dt_rd I.hok e;refine wpAny_in_heap (Q6 hu) (key_of I.hok eb) hd dd ?_;have q:=(rel.val k).isSome_eq;rw [O7] at q;rw [<-q,<-l];exact h _ (I.tok _)
theorem zkc {Q:Value->A0->Prop} (hu:A.units + 1 < cLine) (I:Inv X pins σ H s) (g:DGet H a y o) (ry:RelV y u) (h :∀s',Inv X pins σ H s'->Q (.bool (!o.isSome)) s') :
  Q0 (A1 X.prog X.w) A (v2 .NotIn u (.ref a)) Q E s:=by
 rcases g with ⟨kvs,k,e,ey,l⟩|⟨kvs,k,b,e,ey,eb,l⟩
 ·subst ey;obtain ⟨z,hd,vs,rel,dd⟩:=dk_rd I.hok e;refine wpAny_notIn_of (kV_is ry) hd dd.mapOf ?_;rw [<-(rel.val k).isSome_eq,<-l];exact h _ (I.tok _)
 ·subst ey;cases (show u=E1 b from ry);obtain ⟨z,hd,xs,rel,dd⟩:=dt_rd I.hok e;refine wpAny_notIn_heap (Q6 hu) (key_of I.hok eb) hd dd ?_;have q:=(rel.val k).isSome_eq;rw [O7] at q;rw [<-q,<-l];exact h _ (I.tok _)
theorem zcc {h':Heap} {t':Nat} {ob:HO} (I:Inv X pins σ H s) (mu:Mut (H a)) (hs:c6 a s.heap h') (he :∃q,h'.get? a=some q) (new:ObjOk X.prog X.w (upd H a ob) h' a ob) :
  Inv X pins σ (upd H a ob) { s with heap:=h',toks:=t' }:=
 I.write (x:=a) (e:=a) mu (.inl rfl) (λ b q hb z=>(hs.2 b hb).trans z) he new
theorem dk_new {P:Program} {w:y1} {H':Hp} {h':Heap} {kvs:List (Key×V)} {vs:List (Key×Value)} (z:kvs.length<=sizeLine) (hd:(a == R4)=false) (rel:KV kvs vs) (dd:h'.DictOf (z0k P w) a vs) :
  ObjOk P w H' h' a (.dK kvs):=⟨z,hd,vs,rel,dd⟩
theorem zc0 {H':Hp} {Q:Unit->A0->Prop} (hu:A.units + 1 < cLine) (I:Inv X pins σ H s) (g:DPut H a y v H') (ry:RelV y u) (rv:RelV v r) (h :∀s',Inv X pins σ H' s'->Q () s') :
  Q0 (A1 X.prog X.w) A (setItem (.ref a) u r) Q E s:=by
 rcases g with ⟨kvs,k,e,ey,l,eH⟩|⟨kvs,k,b,e,ey,eb,l,eH⟩
 ·subst ey eH;obtain ⟨z,hd,vs,rel,dd⟩:=dk_of I.hok e;have hz:vs.length<=sizeLine:=by rw [<-rel.length];exact z
  have hl:(putK kvs k v).length<=sizeLine:=by have:=z2y kvs k v;omega
  refine wpAny_setItem_pairs (hsz:=hz) (kV_is ry) dd λ h' dd' hs=>h _ ?_;have he :∃q,h'.get? a=some q:=let ⟨q,_,_,hq,_⟩:=dd';⟨q,hq⟩;exact zcc I (by rw [e];exact True.intro) hs he (dk_new hl hd (rel.put k rv) dd')
 ·subst ey eH;cases (show u=E1 b from ry);obtain ⟨z,hd,xs,rel,dd⟩:=dt_of I.hok e;have hz:xs.length<=sizeLine:=by rw [<-Q7 rel];exact z
  have hl:(putK kvs k v).length<=sizeLine:=by have:=z2y kvs k v;omega
  refine wpAny_setItem_heap (hsz:=hz) (Q6 hu) (key_of I.hok eb) dd λ h' dd' hs=>h _ ?_;obtain ⟨q,es,ep,hq,h2,h3,h4,_,h5⟩:=dd';refine zcc I (by rw [e];exact True.intro) hs ⟨q,hq⟩ ⟨hl,hd,_,(rel.put k eb rv).keeps λ c ys ec=>?_,q,es,ep,hq,h2,h3,h4,h5⟩;rw [upd_ne (ne_of ec e (λ z=>nomatch z))];exact ec
end
section
variable {X:Cx} {pins:List (Addr×Obj)} {σ:St} {H:Hp} {s:A0} {a:Addr} {kvs:List (Key×V)} {k:Key} {u:Value} {A:A2} {E:Value->A0->Prop}
theorem d_pop {v:V} {more:List Value} {Q:Value->A0->Prop} (I:Inv X pins σ H s) (e:H a=some (.dK kvs)) (ry:RelV (kV k) u) (l:valV kvs k=some v) (hm:more=[]\/∃x,more=[x])
  (h :∀w' s',Inv X pins σ (upd H a (.dK (dropK kvs k))) s'->RelV v w'->Q w' s'):Q0 (A1 X.prog X.w) A (call (.builtin "dict.pop") (.ref a :: u :: more)) Q E s:=by
 obtain ⟨z,hd,vs,rel,dd⟩:=dk_of I.hok e;obtain ⟨w',hw,rw'⟩:=RelO.some_of (v:=v) (o:=j01 vs k) (by rw [<-l];exact rel.val k);have hp:(keyPart u).isSome=true:=by
  cases k with
  | inl i=>obtain ⟨t,q⟩:=(show∃t,u=E6 i t from ry);subst q;rfl
  | inr x=>obtain ⟨t,q⟩:=(show∃t,u=X6 x t from ry);subst q;rfl
 have ha:argsOk "dict.pop" ⟨.ref a :: u :: more,[]⟩:=by
  rcases hm with q|⟨x,q⟩
  ·subst q;exact PySem.F.args_dict_pop_2 _ _
  ·subst q;exact PySem.F.args_dict_pop_3 _ _ _
 refine call_meetsIn j2d dd.typeIs PySem.F.entry_dict_pop ha (meets_dict_pop_there (z0k X.prog X.w) a (kV_is ry) more hm hp)
  ⟨vs,w',dd,by rw [<-rel.length];exact z,hw,λ h' dd' hs=>h w' _ ?_ rw'⟩
 have he :∃q,h'.get? a=some q:=let ⟨q,_,_,hq,_⟩:=dd';⟨q,hq⟩;exact zcc I (by rw [e];exact True.intro) hs he (dk_new (G0 (zii kvs k) z) hd (rel.drop k) dd')
theorem d_len {Q:Value->A0->Prop} (I:Inv X pins σ H s) (e:Rd H a (.dK kvs)) (h :∀t s',Inv X pins σ H s'->Q (.int kvs.length t) s'):Q0 (A1 X.prog X.w) A (call (.builtin "len") [.ref a]) Q E s:=by obtain ⟨z,hd,vs,rel,dd⟩:=dk_rd I.hok e;refine call_len_dict hd dd (by rw [<-rel.length];rw [sizeLine_eq] at z;omega) ?_;rw [<-rel.length];exact h _ _ (I.tok _)
end
def NoSl (i:Expr):Prop:=∀ov iv,j28 i false ov iv=operate [ov,iv] (A8 ov iv)
theorem zk9 {prog:Program} {w:y1} {A:A2} {E:Value->A0->Prop} {s:A0} {env:Env} {value slice:Expr} {pos:Pos} {T id:String} {Q:Value->A0->Prop}
  (hl:j36 (.type T) "__getitem__" = J3 (some (.builtin id))) (hs:NoSl slice)
  (h:Q0 (A1 prog w) A (Y3 value env) (λ o s₁=>Q0 (A1 prog w) A (Y3 slice env) (λ i s₂=>s₂.TypeIs o T/\Q0 (A1 prog w) A (A8 o i) Q E s₂) E s₁) E s) :
  Q0 (A1 prog w) A (Y3 (.Subscript value slice pos) env) Q E s:=by
 refine j3d (Z3 h (λ o s₁ h₁=>Z3 h₁ (λ i s₂ h₂=>?_) λ _ _ x=>x) λ _ _ x=>x);obtain ⟨hT,h₂⟩:=h₂;unfold j0b;refine c0 ?_;rw [getitemInPython_of_ne hT.not_modules];refine c0 (wpAny_specialOf hT hl ?_);have fin:Q0 (A1 prog w) A (j28 slice false o i) (λ r s₃=>Q0 (A1 prog w) A (letTemporaryGo value o r >>= λ _=>J3 r) Q E s₃) E s₂:=by rw [hs o i];exact wpAny_operating (Z3 h₂ (λ r s₃ h₃=>c0 (wpAny_letTemporaryGo (C0 h₃))) λ _ _ x=>x)
 first
  | exact C0 (c0 fin)
  | exact c0 (C0 (c0 fin))
  | exact c0 fin
theorem zd6 {X:Cx} {pins:List (Addr×Obj)} {σ:St} {H:Hp} {s:A0} {a:Addr} {y:V} {o:Option V} (I:Inv X pins σ H s) (g:DGet H a y o):s.TypeIs (.ref a) "dict":=by
 rcases g with ⟨kvs,k,e,_,_⟩|⟨kvs,k,b,e,_,_,_⟩
 ·obtain ⟨_,_,vs,_,dd⟩:=dk_rd I.hok e;exact dd.typeIs
 ·obtain ⟨_,_,xs,_,dd⟩:=dt_rd I.hok e;exact dd.typeIs
noncomputable def tDGet (td ty:TE):TE:=λ σ H Q=>td σ H λ x H1=>ty σ H1 λ y H2=>∃a v,x=.ref a/\DGet H2 a y (some v)/\Q v H2
noncomputable def tDIn (ty td:TE):TE:=λ σ H Q=>ty σ H λ y H1=>td σ H1 λ x H2=>∃a o,x=.ref a/\DGet H2 a y o/\Q (.bl o.isSome) H2
noncomputable def zk3 (ty td:TE):TE:=λ σ H Q=>ty σ H λ y H1=>td σ H1 λ x H2=>∃a o,x=.ref a/\DGet H2 a y o/\Q (.bl (!o.isSome)) H2
noncomputable def sDPut (td ty tv:TE):TS:=λ D σ H=>tv σ H λ v H1=>td σ H1 λ x H2=>ty σ H2 λ y H3=>∃a H4,x=.ref a/\DPut H3 a y v H4/\D.nx σ H4
section
variable {X:Cx} {o i e value:Expr} {pos pos' tpos:Pos} {td ty tv:TE}
theorem z24 (hu:X.A.units + 1 < cLine) (ho:PE X o td) (hi:PE X i ty) (hs:NoSl i):PE X (.Subscript o i pos) (tDGet td ty):=by intro pins s σ H Q I h;refine zk9 PySem.F.slot_dict_getitem.lookup hs (thn (ho pins s σ H _ I h) λ u s1 ⟨x,H1,I1,rx,q1⟩=>thn (hi pins s1 σ H1 _ I1 q1) λ iv s2 ⟨y,H2,I2,ry,a,v,ex,g,q2⟩=>?_);subst ex;obtain rfl:u=E1 a:=rx;exact ⟨zd6 I2 g,zfx hu I2 g ry λ w' s3 I3 rw'=>⟨v,H2,I3,rw',q2⟩⟩
theorem pc_din (hu:X.A.units + 1 < cLine) (hi:PE X i ty) (ho:PE X o td):PC X .In i o (tDIn ty td):=by intro pins s σ H Q I h;refine thn (hi pins s σ H _ I h) λ iv s1 ⟨y,H1,I1,ry,q1⟩=>thn (ho pins s1 σ H1 _ I1 q1) λ u s2 ⟨x,H2,I2,rx,a,ov,ex,g,q2⟩=>?_;subst ex;obtain rfl:u=E1 a:=rx;exact d_in hu I2 g ry λ s3 I3=>⟨.bl ov.isSome,H2,I3,rfl,q2⟩
theorem zg1 (hu:X.A.units + 1 < cLine) (hi:PE X i ty) (ho:PE X o td):PC X .NotIn i o (zk3 ty td):=by intro pins s σ H Q I h;refine thn (hi pins s σ H _ I h) λ iv s1 ⟨y,H1,I1,ry,q1⟩=>thn (ho pins s1 σ H1 _ I1 q1) λ u s2 ⟨x,H2,I2,rx,a,ov,ex,g,q2⟩=>?_;subst ex;obtain rfl:u=E1 a:=rx;exact zkc hu I2 g ry λ s3 I3=>⟨.bl (!ov.isSome),H2,I3,rfl,q2⟩
theorem z97 (hu:X.A.units + 1 < cLine) (ho:PE X o td) (hi:PE X i ty) (hv:PE X value tv) (hs:S8 value (some (.Subscript o i pos')) pos.line X.env=J3 false) :
  PS X (.Assign [.Subscript o i pos'] value pos) (sDPut td ty tv):=by
 intro pins s σ H D I h;refine wpAny_Assign_Subscript (thn (hv pins s σ H _ I h) λ r s1 ⟨v,H1,I1,rv,q1⟩=>thn (ho pins s1 σ H1 _ I1 q1) λ u s2 ⟨x,H2,I2,rx,q2⟩=>thn (hi pins s2 σ H2 _ I2 q2) λ iv s3 ⟨y,H3,I3,ry,a,H4,ex,g,q3⟩=>?_) hs;subst ex;obtain rfl:u=E1 a:=rx;exact zc0 hu I3 g ry rv λ s4 I4=>⟨σ,H4,I4,q3⟩
end
theorem zek {P:Program} {w:y1} {H:Hp} (h:Heap) (hb:R4 < h.objs.size):ObjOk P w H (h.push { cls:=.type "dict",data:=.dict #[] }) h.objs.size (.dK []):=
 ⟨Q1 _,beq_eq_false_iff_ne.mpr (Q2 (Z0 hb)),[],.nil,j33 h⟩
noncomputable def tDNewK:TE:=λ _ H Q=>∀p,H p=none->Q (.ref p) (upd H p (.dK []))
section
variable {X:Cx} {pos:Pos}
theorem z5m:PE X (.Dict [] [] pos) tDNewK:=λ pins s σ H Q I h=>wpAny_Dict_empty ⟨.ref s.heap.objs.size,_,I.laid (a:=s.heap.objs.size) (o:=.dK []) (t':=s.toks) (λ _ _ q=>B0 _ q) (F0 _) (zek s.heap I.big),rfl,h _ (I.hok.fresh (F0 _))⟩
end
noncomputable def tPairs:List (TE×TE)->St->Hp->(List (V×V)->Hp->Prop)->Prop
 | [],_,H,Q=>Q [] H
 | (tk,tv) :: r,σ,H,Q=>tk σ H λ x H1=>tv σ H1 λ y H2=>tPairs r σ H2 λ ps H3=>Q ((x,y) :: ps) H3
abbrev VV:List (V×V)->List (Value×Value)->Prop:=j9 λ p q=>RelV p.1 q.1/\RelV p.2 q.2
def PPs (X:Cx) (pos:Pos) (keys:List (Option Expr)) (values:List Expr) (trs:List (TE×TE)):Prop:=
 ∀(pins:List (Addr×Obj)) (s:A0) (σ:St) (H:Hp) (Q:List (V×V)->Hp->Prop),Inv X pins σ H s->tPairs trs σ H Q->
  Q0 (A1 X.prog X.w) X.A (evalPairs (pairTrees keys values X.env pos)) (λ vs s'=>∃ps H',Inv X pins σ H' s'/\VV ps vs/\Q ps H') X.xe s
theorem zk6 {X:Cx} {pos:Pos}:PPs X pos [] [] []:=λ pins s σ H Q I h=>pairTrees_nil_walk ⟨[],H,I,.nil,h⟩
theorem zjb {X:Cx} {pos:Pos} {k v:Expr} {ks:List (Option Expr)} {vs:List Expr} {tk tv:TE} {trs:List (TE×TE)} (hk:PE X k tk) (hv:PE X v tv) (hr:PPs X pos ks vs trs) :
  PPs X pos (some k :: ks) (v :: vs) ((tk,tv) :: trs):=λ pins s σ H Q I h=>
 pairTrees_cons_walk (thn (hk pins s σ H _ I h) λ u s1 ⟨x,H1,I1,rx,q1⟩=>thn (hv pins s1 σ H1 _ I1 q1) λ w2 s2 ⟨y,H2,I2,ry,q2⟩=>thn (hr pins s2 σ H2 _ I2 q2) λ ws s3 ⟨ps,H3,I3,rel,q3⟩=>⟨(x,y) :: ps,H3,I3,.cons ⟨rx,ry⟩ rel,q3⟩)
noncomputable def mergeK (kvs more:List (Key×V)):List (Key×V):=more.foldl (λ acc kv=>putK acc kv.1 kv.2) kvs
theorem KV.merge :∀{more:List (Key×V)} {rs:List (Key×Value)} {kvs:List (Key×V)} {vs:List (Key×Value)},KV more rs->KV kvs vs->KV (mergeK kvs more) (merged vs rs):=by
 intro more rs kvs vs r;unfold KV at r;induction r generalizing kvs vs with
 | nil=>intro q;exact q
 | @cons p q ps qs h t ih=>
  intro r0;have e:KV (putK kvs p.1 p.2) (stored vs q.1 q.2):=by have:=r0.put p.1 h.2;rw [<-h.1];exact this
  exact ih e
theorem z4m :∀(more kvs:List (Key×V)),(mergeK kvs more).length<=kvs.length + more.length
 | [],kvs=>by show kvs.length<=kvs.length + 0;omega
 | p :: r,kvs=>by have h1:=z4m r (putK kvs p.1 p.2);have h2:=z2y kvs p.1 p.2;show (mergeK (putK kvs p.1 p.2) r).length<=_;rw [W0];omega
theorem z8c {P:Program} {w:y1} :∀{kvs:List (Key×V)} {ws:List (Value×Value)},VV (kvs.map λ kv=>(kV kv.1,kv.2)) ws->∃rs,Carries (z0k P w) ws rs/\KV kvs rs
 | [],_,r=>by rw [C7] at r;cases r;exact ⟨[],True.intro,.nil⟩
 | p :: kvs,_,r=>by
  rw [v1] at r;cases r with
  | @cons a b as bs h t=>obtain ⟨rs,c,q⟩:=z8c (P:=P) (w:=w) t;obtain ⟨b1,b2⟩:=b;exact ⟨(p.1,b2) :: rs,⟨kV_is h.1,rfl,c⟩,.cons ⟨rfl,h.2⟩ q⟩
noncomputable def tDisp (trs:List (TE×TE)):TE:=λ σ H Q=>∀p,H p=none->tPairs trs σ (upd H p (.dK [])) λ ps H2=>H2 p=some (.dK [])/\∃kvs:List (Key×V),ps=kvs.map (λ kv=>(kV kv.1,kv.2))/\kvs.length<=15/\Q (.ref p) (upd H2 p (.dK (mergeK [] kvs)))
theorem zkj {X:Cx} {pos:Pos} {keys:List (Option Expr)} {values:List Expr} {trs:List (TE×TE)} (h:PPs X pos keys values trs) (hall:keys.all (·.isSome)=true) (hl:keys.length=values.length) (h0:keys≠[])
  (h15:keys.length<=15):PE X (.Dict keys values pos) (tDisp trs):=by
 intro pins s σ H Q I q;have hn:=I.hok.fresh (F0 s.heap.objs.size);have I1:=I.laid (a:=s.heap.objs.size) (o:=.dK []) (h':=s.heap.push { cls:=.type "dict",data:=.dict #[] }) (t':=s.toks) (λ _ _ q=>B0 _ q) (F0 _) (zek s.heap I.big);refine wpAny_Dict_walk (knd:=z0k X.prog X.w) hall hl h0 h15 (thn (h pins _ σ _ _ I1 (q _ hn)) λ ws s2 ⟨ps,H2,I2,rel,e,kvs,ep,lk,q2⟩=>?_);subst ep;obtain ⟨rs,c,rk⟩:=z8c (P:=X.prog) (w:=X.w) rel;obtain ⟨z,hd,vs0,r0,dd⟩:=dk_of I2.hok e;cases r0;refine ⟨rs,c,dd,λ h' dd' hs=>⟨.ref s.heap.objs.size,_,?_,rfl,q2⟩⟩;have hz:(mergeK [] kvs).length<=sizeLine:=by have h1:=z4m kvs [];rw [G2] at h1;rw [sizeLine_eq];omega
 have he :∃q,h'.get? s.heap.objs.size=some q:=let ⟨q,_,_,hq,_⟩:=dd';⟨q,hq⟩;exact zcc I2 (by rw [e];exact True.intro) hs he (dk_new hz hd (rk.merge .nil) dd')
structure M1 (X:Cx) (o:Expr) (m:Str) (apos:Pos) (e:Expr) (cpos:Pos):Prop where
 base:K6 o m X.env (Y3 o X.env)=Y3 o X.env
 few:((d5 cpos (K1 [e] X.env)).all (λ x=>!x.1) && (Y9 cpos (F7 [] X.env)).all (λ x=>x.1.isSome)
  && decide (([e]:List Expr).length + ([]:List C6).length + (if ([]:List C6).isEmpty then 0 else 1) < 30))=true
 line:(apos.endLine == cpos.line)=true
 trees:d5 cpos (K1 [e] X.env)=[(false,Y3 e X.env)]
structure M2 (X:Cx) (o:Expr) (m:Str) (apos:Pos) (e f:Expr) (cpos:Pos):Prop where
 base:K6 o m X.env (Y3 o X.env)=Y3 o X.env
 few:((d5 cpos (K1 [e,f] X.env)).all (λ x=>!x.1) && (Y9 cpos (F7 [] X.env)).all (λ x=>x.1.isSome)
  && decide (([e,f]:List Expr).length + ([]:List C6).length + (if ([]:List C6).isEmpty then 0 else 1) < 30))=true
 line:(apos.endLine == cpos.line)=true
 trees:d5 cpos (K1 [e,f] X.env)=[(false,Y3 e X.env),(false,Y3 f X.env)]
def IsD (H:Hp) (a:Addr):Prop:=(∃kvs,Rd H a (.dK kvs))\/∃kvs,Rd H a (.dT kvs)
theorem isD_at {X:Cx} {pins:List (Addr×Obj)} {σ:St} {H:Hp} {s:A0} {a:Addr} (I:Inv X pins σ H s) (d:IsD H a) :
  s.TypeIs (.ref a) "dict"/\(∀b,E1 a=.ref b->∃ob,s.heap.get? b=some ob/\ob.dict=none)/\(a == R4)=false:=by
 rcases d with ⟨kvs,e⟩|⟨kvs,e⟩
 ·obtain ⟨_,hd,vs,_,dd⟩:=dk_rd I.hok e;refine ⟨dd.typeIs,λ b q=>?_,hd⟩;cases q;obtain ⟨ob,_,_,h1,h2,_⟩:=dd;exact ⟨ob,h1,h2.2.1⟩
 ·obtain ⟨_,hd,xs,_,dd⟩:=dt_rd I.hok e;refine ⟨dd.typeIs,λ b q=>?_,hd⟩;cases q;obtain ⟨ob,_,_,h1,h2,_⟩:=dd;exact ⟨ob,h1,h2.2.1⟩
section
variable {X:Cx} {pins:List (Addr×Obj)} {σ:St} {H:Hp} {s:A0} {a:Addr} {y d:V} {u r:Value} {o:Option V} {A:A2} {E:Value->A0->Prop}
theorem d_get1 {Q:Value->A0->Prop} (hu:A.units + 1 < cLine) (I:Inv X pins σ H s) (g:DGet H a y o) (ry:RelV y u) (h :∀w' s',Inv X pins σ H s'->RelV (o.getD .non) w'->Q w' s') :
  Q0 (A1 X.prog X.w) A (call (.builtin "dict.get") [.ref a,u]) Q E s:=by
 rcases g with ⟨kvs,k,e,ey,l⟩|⟨kvs,k,b,e,ey,eb,l⟩
 ·subst ey;obtain ⟨z,hd,vs,rel,dd⟩:=dk_rd I.hok e;refine call_meetsIn j8 dd.typeIs j23 (j1e _ _) (meets_dict_get (z0k X.prog X.w) a (kV_is ry) hd) ⟨_,dd.mapOf,h _ _ (I.tok _) ?_⟩;rw [l];exact (rel.val k).getD rfl
 ·subst ey;cases (show u=E1 b from ry);obtain ⟨z,hd,xs,rel,dd⟩:=dt_rd I.hok e;refine call_meetsIn j8 dd.typeIs j23 (j1e _ _) (meetsH_dict_get (T6 (z0k X.prog X.w)) a b hd) ⟨Q6 hu,k,xs,key_of I.hok eb,dd,h _ _ (I.tok _) ?_⟩;rw [l];exact (rel.val k).getD rfl
end
noncomputable def tDGet1 (td ty:TE):TE:=λ σ H Q=>td σ H λ x H1=>∃a,x=.ref a/\IsD H1 a/\ty σ H1 λ y H2=>∃o,DGet H2 a y o/\Q (o.getD .non) H2
noncomputable def tDPop1 (td ty:TE):TE:=λ σ H Q=>td σ H λ x H1=>∃a,x=.ref a/\IsD H1 a/\ty σ H1 λ y H2=>∃kvs k v,H2 a=some (.dK kvs)/\y=kV k/\valV kvs k=some v/\Q v (upd H2 a (.dK (dropK kvs k)))
section
variable {X:Cx} {o e f:Expr} {apos cpos:Pos} {td ty tx:TE}
theorem zif (hu:X.A.units + 1 < cLine) (ho:PE X o td) (he:PE X e ty) (m:M1 X o "get" apos e cpos):PE X (.Call (.Attribute o "get" apos) [e] [] cpos) (tDGet1 td ty):=by intro pins s σ H Q I h;refine wpAny_Call_method m.base m.few m.line j1d j8 PySem.F.type_dict_get (thn (ho pins s σ H _ I h) λ u s1 ⟨x,H1,I1,rx,a,ex,d,q1⟩=>?_);subst ex;obtain rfl:u=E1 a:=rx;obtain ⟨t1,t2,_⟩:=isD_at I1 d;refine ⟨t1,t2,?_⟩;rw [m.trees];refine o8 rfl (V8 (D6 (thn (he pins s1 σ H1 _ I1 q1) λ iv s2 ⟨y,H2,I2,ry,ov,g,q2⟩=>L6 ?_)));exact d_get1 hu I2 g ry λ w' s3 I3 rw'=>⟨_,H2,I3,rw',q2⟩
theorem zdl (ho:PE X o td) (he:PE X e ty) (m:M1 X o "pop" apos e cpos):PE X (.Call (.Attribute o "pop" apos) [e] [] cpos) (tDPop1 td ty):=by intro pins s σ H Q I h;refine wpAny_Call_method m.base m.few m.line j1d j2d PySem.F.type_dict_pop (thn (ho pins s σ H _ I h) λ u s1 ⟨x,H1,I1,rx,a,ex,d,q1⟩=>?_);subst ex;obtain rfl:u=E1 a:=rx;obtain ⟨t1,t2,_⟩:=isD_at I1 d;refine ⟨t1,t2,?_⟩;rw [m.trees];refine o8 rfl (V8 (D6 (thn (he pins s1 σ H1 _ I1 q1) λ iv s2 ⟨y,H2,I2,ry,kvs,k,v,ea,ey,l,q2⟩=>L6 ?_)));subst ey;exact d_pop I2 ea ry l (.inl rfl) λ w' s3 I3 rw'=>⟨v,_,I3,rw',q2⟩
end
end L2
namespace Att
open PySem PySem.W PySem.Calls PyProof.Rows
theorem z6c {P:M0} {h:Heap} :∀(ns:List Int) (vs:List Value),WellAll P h vs (ns.map WData.int)->v3 vs ns:=by
 intro ns;induction ns with
 | nil=>intro vs w;rw [C7] at w;cases w;exact .nil
 | cons n ns ih=>
  intro vs w;rw [v1] at w;cases w with
  | cons a b=>cases a;exact .cons _ _ (ih _ b)
theorem zg0 {l:OpenLaw} {n:Nat} (hn:l.most=some n) {P:M0} {h:Heap} {args:List WData} {vals:List Value}
  (hpre:l.row.toRowW.claim.pre args=true) (hwl:WellAll P h vals args) :
  ∃a vs ns,vals=[E1 a]/\args=[WData.list (ns.map WData.int)]/\h.get? a=some { cls:=.type "list",data:=.seq vs.toArray }/\v3 vs ns/\ns.length<=n:=by
 have hsh:WShape.hasAll [] args [.list .int]=true:=(pre_splitW hpre).1;have hc:l.pre.holds [] { args:=args }=true:=(pre_splitW hpre).2;obtain ⟨d,r,rfl,h1,h2⟩:=hasAllW_cons hsh;obtain rfl:=hasAllW_nil h2;obtain ⟨xs,rfl,h3⟩:=hasW_list h1;obtain ⟨ns,rfl⟩:=items_int h3;have hlen:ns.length<=n:=by
  unfold OpenLaw.pre at hc;have h4:(WTm.not (.lt (.lit (.int (n:Int))) (.len (.arg 0)))).holds [] { args:=[.list (ns.map .int)] }=true:=by have h4:=(holds_andW hc).1;rw [hn] at h4;exact h4
  have h5:=condW_of h4 (w_not (w_lt w_lit (w_len_list (w_arg rfl))));rw [D0] at h5;refine c7 λ q=>?_;have q':(n:Int) < ((ns.length:Nat):Int):=by omega
  first
   | (rw [decide_eq_true q'] at h5;exact absurd h5 (by decide))
   | (simp at h5;omega)
 cases hwl with
 | cons w1 w2=>
  cases w2;cases w1 with
  | list ho hall=>exact ⟨_,_,ns,rfl,rfl,ho,z6c ns _ hall,hlen⟩
theorem zgo (l:OpenLaw) (args:List WData):l.row.toRowW.claim.post args (.bool true) args=true:=
 postW_of (r:=l.row.toRowW) (X:=(true == true))
  (show WShape.has [] (.bool true) .bool=true by first|rfl|decide|simp [WShape.has,WShape.arms,WShape.armsAll])
  (show (WTm.eq .res (.lit (.bool true))).value [] { args:=args,res:=some (.bool true),after:=args }=some (.bool (true == true)) from w_eq_bool (w_res rfl) w_lit) rfl
theorem attach_call {l:OpenLaw} {n:Nat} {q:Program} {loose:List Str} {XP:(Str->Option Value)->Heap->Prop} {YP:y1->Heap->Prop} {d:DefRec}
  (hn:l.most=some n) (hdf:d.params.defaults=[])
  (call :∀(w:y1) (s₀ s₁:A0) (mg mb:Str->Option Value) (fa:Addr) (o:Obj) (pm cd doc:Value) (a:Addr) (vs:List Value) (ns:List Int),
   Ground q loose [] XP w s₀ mg mb s₁.heap->YP w s₁.heap->
   s₁.heap.get? fa=some o->o.data=.func (docDef d.name d.params d.body d.scope pm cd doc)->s₁.heap.CodeRec cd d.name->mg d.name=some (.ref fa)->
   s₁.heap.get? a=some { cls:=.type "list",data:=.seq vs.toArray }->v3 vs ns->ns.length<=n->s₁.gens = #[]->
   z6 (A1 l.prog w) j17 (.call (.ref fa) ⟨[.ref a],[]⟩) (λ r s'=>r=.ok (.ret (.bool true))/\OldK s₁.heap s'.heap/\s'.os=s₁.os/\C8 s'.gens) s₁) :
  WalkO q loose XP YP l.row.toRowW d [] (λ f vs=>PySem.call f vs):=by
 intro w s₀ s₁ mg mb G Y fa o pm cd doc dV kV ho hd hcd hD hmg hg args vals as hpre hlay hrd hwl hlo;obtain rfl:dV=.none:=Dflts.none hD hdf;obtain rfl:kV=.none:=Dflts.noKw hD;obtain ⟨a,vs,ns,rfl,rfl,hobj,hints,hlen⟩:=zg0 hn hpre hwl;refine enter_call (S7 (call w s₀ s₁ mg mb fa o pm cd doc a vs ns G Y ho (fd_plain hd) hcd hmg hobj hints hlen hg) λ r s' hq=>?_);obtain ⟨rfl,h2,h3,h4⟩:=hq;exact ⟨.inl ⟨.bool true,.bool true,[],rfl,λ _=>rfl,.bool true,zgo l _,λ _=>⟨L8,λ _ hm=>(nomatch hm)⟩⟩,h2,h3,h4⟩
end Att
namespace L2
open PySem PySem.Spec PyProof.Rows
theorem z7v :∀{vs:List Value} {ns:List Int},v3 vs ns->Vals (ns.map V.int) vs
 | _,_,.nil=>.nil
 | _,_,.cons n t h=>.cons ⟨t,rfl⟩ (z7v h)
def Only (H:Hp):Prop:=∀b,H b=none\/∃o xs,H b=some (.frz o (.lst xs))
theorem ziv {P:Program} {w:y1} {K:b0} {mg mb:Str->Option Value} {CX:CXT} {k:Nat} {fa a:Addr} {fd:FuncData} {x:Str} {sp:Sp} {s₁:A0} {vs:List Value} {ns:List Int}
  (KX:K.In s₁.heap) (hns:s₁.heap.Ns L0 mg) (hb:s₁.heap.Ns builtinsNs mb) (hbb :∀x:Str,x≠"__name__"->mb x=A6 x) (hlim:s₁.heap.NoLimit) (hg:s₁.gens = #[])
  (ha:s₁.heap.get? a=some { cls:=.type "list",data:=.seq vs.toArray }) (hi:v3 vs ns) (hl:ns.length<=sizeLine) (hr:Room k j17)
  (F :∀base:Heap,K.In base->base.Ns L0 mg->FnOk P w K mg base CX k fa fd [x] sp) (hbind :∀(s:A0) (u:Value),BindsTo s fd ⟨[u],[]⟩ [(x,u)])
  (hsp :∀H:Hp,Only H->SqL K H a (ns.map V.int)->sp [.ref a] H (λ v _=>v=.bl true) λ _ _ _=>False)
  (hCX :∀H e s',CX [] H s₁ (λ _ _ _=>False) e s'->False) :
  z6 (A1 P w) j17 (.call (.ref fa) ⟨[.ref a],[]⟩) (λ r s'=>r=.ok (.ret (.bool true))/\OldK s₁.heap s'.heap/\s'.os=s₁.os/\C8 s'.gens) s₁:=by
 have rv:=z7v hi;have lenV:=hi.length
 -- from an abstract heap in which nothing but the script may be tracked
 have core :∀H:Hp,Only H->SqL K H a (ns.map V.int)->HOk P w H s₁.heap->(∀b,H b≠none->b=a)->(H a≠none->K.lookup a=none)->
   z6 (A1 P w) j17 (.call (.ref fa) ⟨[.ref a],[]⟩) (λ r s'=>r=.ok (.ret (.bool true))/\OldK s₁.heap s'.heap/\s'.os=s₁.os/\C8 s'.gens) s₁:=by
  intro H hO hS hok hA hK;have base_of :∀{b:Addr} {o:Obj},s₁.heap.get? b=some o->H b=none->(hidT s₁.heap H).get? b=some o:=λ e n=>zi6 e n;have noA :∀{b:Addr} {o:Obj} {es:Array DictEntry} {ep:Nat},s₁.heap.get? b=some o->o.data=.dict es ep->H b=none:=λ {b o es ep} e d=>by
   cases q:H b with
   | none=>rfl
   | some u=>have e':b=a:=hA b (by rw [q];simp);subst e';rw [ha] at e;cases e;have d':Data.seq vs.toArray _=Data.dict es ep:=d;cases d'
  have nsK :∀{b:Addr} {m:Str->Option Value},s₁.heap.Ns b m->(hidT s₁.heap H).Ns b m:=λ {b m} ⟨o,es,ep,e,d,r⟩=>⟨o,es,ep,base_of e (noA e d),d,r⟩
  have hKb:K.In (hidT s₁.heap H):=λ b o e=>base_of (KX b o e) (by
   cases q:H b with
   | none=>rfl
   | some u=>have e':b=a:=hA b (by rw [q];simp);subst e';rw [hK (by rw [q];simp)] at e;cases e)
  have hM:Mod K mg (hidT s₁.heap H):=⟨hKb,nsK hns,⟨mb,nsK hb,hbb⟩,let ⟨mc,h1,h2⟩:=hlim;⟨mc,nsK h1,h2⟩⟩
  have e0:Env0 P w K mg (hidT s₁.heap H) j17 [] s₁ H:=⟨rfl,hM,λ b o e=>zjr e,J8 (zfy _ _),trivial,λ b hb=>absurd (show b∈([]:List Addr) from hb) (by simp),hok,.of_eq hg⟩
  refine S7 ((F _ hKb (nsK hns)).run j17 [] s₁ H ⟨[.ref a],[]⟩ [.ref a] [.ref a] _ _ hr e0 (hbind s₁ (.ref a)) (.cons rfl .nil) (hsp H hO hS)) λ r s' h=>?_;cases r with
  | error e=>exact (hCX H e s' h).elim
  | ok fl=>
   cases fl with
   | next=>exact M5 h
   | brk=>exact M5 h
   | cont=>exact M5 h
   | ret u=>
    obtain ⟨v,H',os,bare,un,hok',r',q⟩:=h;have q':v=.bl true:=q;subst q';obtain rfl:u=J7 true:=r';refine ⟨rfl,OldK.of_keep λ b o e=>?_,os,bare⟩;cases q:H b with
    | none=>exact un.keep b o e q (by intro z;exact absurd (show b∈([]:List Addr) from z) (by simp)) (by simp)
    | some u=>
     rcases hO b with z|⟨ob,xs,z⟩
     ·rw [q] at z;cases z
     ·have z2:=un.frzs b ob _ z;obtain ⟨e1,_⟩:=hok b _ z;obtain ⟨e2,_⟩:=hok' b _ z2;rw [e] at e1;cases e1;exact e2
 cases hk:K.lookup a with
 | some o=>
  -- the script is one of the module's own objects
  have e:=KX a o hk;rw [ha] at e;cases e;refine core (λ _=>none) (λ _=>.inl rfl) (.inr ⟨_,vs.toArray,_,hk,rfl,rfl,rfl,by rw [O0,lenV];exact hl,by simpa using rv⟩) (λ b u z=>by have z':(none:Option HO)=some u:=z;cases z') (λ b z=>absurd rfl z) λ z=>absurd rfl z
 | none=>
  refine core (λ b=>if b=a then some (.frz { cls:=.type "list",data:=.seq vs.toArray } (.lst (ns.map V.int))) else none) (λ b=>?_) (.inl (.inr ⟨{ cls:=.type "list",data:=.seq vs.toArray },if_pos rfl⟩)) (λ b u z=>?_) (λ b z=>?_) λ _=>hk
  ·by_cases hb:b=a
   ·exact .inr ⟨_,_,if_pos hb⟩
   ·exact .inl (if_neg hb)
  ·by_cases hb:b=a
   ·have z':=(if_pos hb).symm.trans z;cases z';subst hb;exact ⟨ha,by rw [D0];exact hl,vs,_,rv,ha⟩
   ·have z':=(if_neg hb).symm.trans z;cases z'
  ·by_cases hb:b=a
   ·exact hb
   ·exact absurd (if_neg hb) z
theorem walk_of {l:PySem.W.OpenLaw} {n k:Nat} {q:Program} {loose:List Str} {XP:(Str->Option Value)->Heap->Prop} {YP:y1->Heap->Prop} {d:DefRec} {K:M0->b0} {CX:y1->CXT} {sp:y1->Sp} {x:Str}
  (hn:l.most=some n) (hn2:n<=sizeLine) (hdf:d.params.defaults=[]) (hr:Room k j17)
  (hY :∀(w:y1) (h:Heap),YP w h->(K w.params).In h)
  (F :∀(w:y1) (mg:Str->Option Value) (fa:Addr) (h:Heap),(K w.params).In h->h.Ns L0 mg->mg d.name=some (.ref fa)->
   ∃fd:FuncData,(∀(s:A0) (u:Value),BindsTo s fd ⟨[u],[]⟩ [(x,u)])/\
    ∀base:Heap,(K w.params).In base->base.Ns L0 mg->FnOk l.prog w (K w.params) mg base (CX w) k fa fd [x] (sp w))
  (hsp :∀(w:y1) (H:Hp) (a:Addr) (ns:List Int),ns.length<=n->Only H->SqL (K w.params) H a (ns.map V.int)->sp w [.ref a] H (λ v _=>v=.bl true) λ _ _ _=>False)
  (hCX :∀(w:y1) (H:Hp) (s:A0) (e:Value) (s':A0),CX w [] H s (λ _ _ _=>False) e s'->False) :
  PySem.W.WalkO q loose XP YP l.row.toRowW d [] (λ f vs=>PySem.call f vs):=by
 refine Att.attach_call hn hdf λ w s₀ s₁ mg mb fa o pm cd doc a vs ns G Y ho hd hcd hmg hobj hints hlen hg=>?_;have KX:=hY w _ Y;obtain ⟨fd,hb,hF⟩:=F w mg fa _ KX G.T.g hmg;exact ziv KX G.T.g G.T.b G.T.builtins G.T.nolimit hg hobj hints (G0 hlen hn2) hr hF hb (λ H hO hS=>hsp w H a ns hlen hO hS) λ H e s'=>hCX w H s₁ e s'
noncomputable def z9i (s:Stmt):Arguments:=match s with
 | .FunctionDef _ a _ _ _ _ _ _ _ _=>a
 | _=>{ posonlyargs:=[],args:=[],vararg:=none,kwonlyargs:=[],kw_defaults:=[],kwarg:=none,defaults:=[] }
noncomputable def z6z (s:Stmt):List Stmt:=match s with
 | .FunctionDef _ _ b _ _ _ _ _ _ _=>b
 | _=>[]
noncomputable def z07 (s:Stmt):Scope:=match s with
 | .FunctionDef _ _ _ _ _ _ sc _ _ _=>sc
 | _=>{ kind:=.function,names:=[],isGenerator:=false,isCoroutine:=false }
noncomputable abbrev CX0:CXT:=λ _ _ _ _ _ _=>False
noncomputable abbrev E0:XK:=λ _ _ _=>False
theorem pass0 {X:Cx}:Passes CX0 X E0:=λ _ _ _ _ _ _ _ h=>h.elim
structure Fun (K:b0) (x qual:Str) (st:Stmt) (f:Addr) (fd:FuncData):Prop where
 ex :∃(oc:Value) (od:Option Addr) (kV doc pm:Value) (an:Option Addr) (cdv ct:Value) (osl:Array (Option Value)),
  fd=G6 x qual (z9i st) (z6z st) (z07 st) .none kV doc pm an cdv ct/\K.lookup f=some ⟨oc,od,.func fd,osl⟩/\E8 K cdv qual=true
 kp:K3 K (.ref f)=true
section
variable {P:Program} {w:y1} {K:b0} {mg:Str->Option Value} {base:Heap}
theorem Fun.ok {x qual:Str} {st:Stmt} {f:Addr} {fd:FuncData} {N ps:List Str} {k:Nat} {sp:Sp} (F:Fun K x qual st f fd) (S:FnScope N ps (z07 st)) (len :∀vs H Q E,sp vs H Q E->vs.length=ps.length)
  (hbody :∀(cdv:Value) (A:A2) (outer:List Env) (s:A0) (H:Hp) (vs:List V) (Q:VK) (E:XK),Room k (A.deeper (U9 qual (z07 st) s.heap.objs.size f cdv))->sp vs H Q E->
   ∃t,PSs (cxOf CX0 P w K mg base N qual (z07 st) f cdv A outer s H E).nox (z6z st) t/\t { nx:=λ _ H'=>Q .non H',rt:=Q } (start N vs) H):FnOk P w K mg base CX0 (k + 1) f fd ps sp:=by
 obtain ⟨oc,od,kV,doc,pm,an,cdv,ct,osl,rfl,lk,hcd⟩:=F.ex;refine fn_of lk hcd S len λ A outer s H vs Q E hr hsp=>?_;obtain ⟨t,h,q⟩:=hbody cdv A outer s H vs Q E hr hsp;exact ⟨t,h.nox,q⟩
theorem Fun.binds {x qual:Str} {st:Stmt} {f:Addr} {fd:FuncData} {ps:List Str} (F:Fun K x qual st f fd)
  (h :∀(kV doc pm:Value) (an:Option Addr) (cdv ct:Value) (us:List Value),us.length=ps.length->bindArgs (G6 x qual (z9i st) (z6z st) (z07 st) .none kV doc pm an cdv ct) ⟨us,[]⟩=J3 (ps.zip us)):Binds K fd ps []:=by
 obtain ⟨oc,od,kV,doc,pm,an,cdv,ct,osl,rfl,lk,hcd⟩:=F.ex;exact .all (h kV doc pm an cdv ct)
theorem fun_mk {x qual:Str} {st:Stmt} {f:Addr} {oc:Value} {od an:Option Addr} {osl:Array (Option Value)} {kV doc pm cdv ct:Value} (l:K.lookup f=some ⟨oc,od,.func (G6 x qual (z9i st) (z6z st) (z07 st) .none kV doc pm an cdv ct),osl⟩)
  (c:E8 K cdv qual=true) (k:K3 K (.ref f)=true):Fun K x qual st f (G6 x qual (z9i st) (z6z st) (z07 st) .none kV doc pm an cdv ct):=⟨⟨oc,od,kV,doc,pm,an,cdv,ct,osl,rfl,l,c⟩,k⟩
end
theorem hu_of {A:A2} {k:Nat} (hr:Room k A):A.units + 1 < cLine:=C1 (Nat.add_le_add_left (by decide:1<=64) _) hr.units
section
variable {X:Cx}
theorem pv (i:Nat) {x:Str} {pos:Pos} (hN:X.N[i]? = some x:=by rfl) (hv:Vis X.env.scope x:=by first|exact Y0 rfl|exact X0 (Y0 rfl)|exact X0 (X0 rfl)) (hd:(x == ("__debug__" : Str))=false:=by decide)
  (hcd:(x == ("__classdict__" : Str))=false:=by decide):PE X (.Name x pos) (tVar i):=pe_var hN hv hd hcd
end
theorem iteF {A B:Prop} (h:B):if false=true then A else B:=by rw [if_neg U0];exact h
theorem iteT {A B:Prop} (h:A):if true=true then A else B:=by rw [if_pos rfl];exact h
theorem ite2 {c A B:Prop} [Decidable c] (h1:c->A) (h2:¬ c->B):if c then A else B:=by
 by_cases h:c
 ·rw [if_pos h];exact h1 h
 ·rw [if_neg h];exact h2 h
def Same (H H':Hp):Prop:=∀b o,H b=some o->H' b=some o
theorem Same.refl (H:Hp):Same H H:=λ _ _ h=>h
theorem Same.trans {H H1 H2:Hp} (a:Same H H1) (b:Same H1 H2):Same H H2:=λ c o h=>b c o (a c o h)
theorem Same.free {H H':Hp} (e:Same H H') {l:Addr} (h:H' l=Option.none):H l=Option.none:=by
 cases q:H l with
 | none=>rfl
 | some o=>rw [e l o q] at h;cases h
theorem Same.seq {K:b0} {H H':Hp} {a:Addr} {xs:List V} (e:Same H H') (h:SqL K H a xs):SqL K H' a xs:=by
 rcases h with (h|⟨o,h⟩)|h
 ·exact .inl (.inl (e _ _ h))
 ·exact .inl (.inr ⟨o,e _ _ h⟩)
 ·exact .inr h
section
variable {X:Cx}
theorem z7m:CallR X (.builtin "len") (λ xs H Q=>∃a kvs,xs=[V.ref a]/\H a=some (.dK kvs)/\Q (.int kvs.length) H):=by intro pins s σ H xs us Q I r h;obtain ⟨a,kvs,rfl,ha,q⟩:=h;obtain ⟨u,rfl,ru⟩:=vals1 r;cases ru;exact d_len I (.inl ha) λ t s' I'=>⟨.int kvs.length,H,I',⟨t,rfl⟩,q⟩
end
section
variable {κ:Type} [DecidableEq κ]
theorem zbh {p:κ×V} {r:List (κ×V)} {k:κ} (e:p.1=k):dropK (p :: r) k=dropK r k:=by unfold dropK;rw [O4,if_neg (by simp [e])]
theorem zcd {p:κ×V} {r:List (κ×V)} {k:κ} (e:¬ p.1=k):dropK (p :: r) k=p :: dropK r k:=by unfold dropK;rw [O4,if_pos (by simp [e])]
end
end L2
set_option maxHeartbeats 4000000
namespace L2
open PySem PySem.Spec PyProof.Rows
section
variable {prog:Program} {w:y1} {A:A2} {R:j3e->A0->Prop} {s:A0}
theorem zgb {elt target iter:Expr} {ifs:List Expr} {scope:Scope} {pos:Pos} {it acc:Value} {env:Env} (J:Nat->A0->Prop)
  (turn :∀n s,J n s->Q0 (A1 prog w) A (R6 it) (λ r s₁=>match r with
   | none=>R (.ok .next) s₁
   | some v=>Q0 (A1 prog w) A (u9 target it v) (λ _ s₂=>Q0 (A1 prog w) A (assign target env v) (λ _ s₃=>
     Q0 (A1 prog w) A (forIn ifs true λ c r=>if r=true then do let ok <-isTrue c env (Y3 c env);J3 (U3 ok) else J3 (U3 r)) (λ ok s₄=>
      if ok=true then Q0 (A1 prog w) A (Y3 elt env) (λ x s₅=>Q0 (A1 prog w) A (call (.builtin "list.append") [acc,x]) (λ _ s₆=>∃m,m < n/\J m s₆) (λ _ _=>False) s₅) (λ _ _=>False) s₄
      else∃m,m < n/\J m s₄) (λ _ _=>False) s₃) (λ _ _=>False) s₂) (λ _ _=>False) s₁) (λ _ _=>False) s)
  (n:Nat) (h:J n s):z6 (A1 prog w) A (.compLoop (.ListComp elt [⟨target,iter,ifs,0⟩] scope pos) 0 it acc env) R s:=by
 refine codeAny_loop rfl J (λ n s hJ=>?_) n h;show Q0 _ A ((compTurn (.ListComp elt [⟨target,iter,ifs,0⟩] scope pos) 0 it acc env).onRaise (λ x=>do noteFrame x env;theTreesLotGoes x)) _ _ s;refine wpAny_noted ?_;rw [compTurn_list];refine c0 (wpAny_standAt (c0 (Z3 (turn n s hJ) (λ r s₁ h₁=>?_) λ _ _ f=>f.elim)));cases r with
 | none=>exact C0 h₁
 | some v=>
  refine c0 (Z3 h₁ (λ _ s₂ h₂=>c0 (Z3 h₂ (λ _ s₃ h₃=>c0 (Z3 h₃ (λ ok s₄ h₄=>?_) λ _ _ f=>f.elim)) λ _ _ f=>f.elim)) λ _ _ f=>f.elim);cases ok with
  | false=>exact C0 ⟨rfl,h₄⟩
  | true=>exact c0 (c0 (Z3 h₄ (λ x s₅ h₅=>c0 (Z3 h₅ (λ _ s₆ h₆=>C0 (C0 ⟨rfl,h₆⟩)) λ _ _ f=>f.elim)) λ _ _ f=>f.elim))
end
theorem z3k {env:Env} :∀(names:List (Str×j6)) (acc:List (Str×Addr)),(∀y∈names,y.2=Y1->∃c,env.cells.lookup y.1=some c)->(∀y c,acc.lookup y=some c->env.cells.lookup y=some c)->
  ∃cl,(forIn names acc λ (x:Str×j6) (r:List (Str×Addr))=>(match x with
    | (name,kind)=>if (kind == Y1)=true then do let c <-cellOf env name;J3 (U3 ((name,c) :: r)) else J3 (U3 r):Sem (ForInStep (List (Str×Addr)))))=J3 cl/\
   (∀y c,cl.lookup y=some c->env.cells.lookup y=some c)/\(∀y,((y,Y1)∈names\/∃c,acc.lookup y=some c)->∃c,cl.lookup y=some c)
 | [],acc,_,ha=>⟨acc,by rw [j1g],ha,λ y h=>h.elim (λ z=>nomatch z) id⟩
 | (n,k) :: r,acc,hf,ha=>by
  rw [j10];dsimp only;by_cases hk:k=Y1
  ·subst hk;obtain ⟨c,hc⟩:=hf (n,.free) B1 rfl;have e:cellOf env n=J3 c:=by unfold cellOf;rw [hc]
   rw [if_pos (by rfl),e];obtain ⟨cl,h1,h2,h3⟩:=z3k r ((n,c) :: acc) (λ y hy=>hf y (G1 _ hy)) (λ y d hd=>by
    rw [g4] at hd;by_cases hy:(y == n)=true
    ·rw [hy] at hd;have:=eq_of_beq hy;subst this;cases hd;exact hc
    ·rw [j0g] at hy;rw [hy] at hd;exact ha y d hd)
   refine ⟨cl,h1,h2,λ y hy=>h3 y ?_⟩;rcases hy with hy|⟨d,hd⟩
   ·rcases List.mem_cons.mp hy with z|z
    ·cases z;exact .inr ⟨c,by rw [g4];simp⟩
    ·exact .inl z
   ·refine .inr ?_;rw [g4];by_cases hy:(y == n)=true
    ·rw [hy];exact ⟨c,rfl⟩
    ·rw [j0g] at hy;rw [hy];exact ⟨d,hd⟩
  ·rw [if_neg (by simpa using hk)];obtain ⟨cl,h1,h2,h3⟩:=z3k r acc (λ y hy=>hf y (G1 _ hy)) ha;refine ⟨cl,h1,h2,λ y hy=>h3 y ?_⟩;rcases hy with hy|hy
   ·rcases List.mem_cons.mp hy with z|z
    ·cases z;exact absurd rfl hk
    ·exact .inl z
   ·exact .inr hy
theorem zes {scope:Scope} {env:Env} (hf :∀y∈scope.names,y.2=Y1->∃c,env.cells.lookup y.1=some c) :
  ∃cl,closureFor scope env=J3 cl/\(∀y c,cl.lookup y=some c->env.cells.lookup y=some c)/\(∀y,(y,Y1)∈scope.names->∃c,cl.lookup y=some c):=by
 obtain ⟨cl,h1,h2,h3⟩:=z3k (env:=env) scope.names [] hf (λ _ _ z=>nomatch z);refine ⟨cl,?_,h2,λ y hy=>h3 y (.inl hy)⟩;simp only [closureFor];rw [h1];rfl
theorem mem_of_lookup {κ:Type} {y:Str} {k:κ} :∀{l:List (Str×κ)},l.lookup y=some k->(y,k)∈l
 | (n,c) :: r,h=>by
  rw [g4] at h;by_cases hy:(y == n)=true
  ·rw [hy] at h;cases h;rw [eq_of_beq hy];exact B1
  ·rw [j0g] at hy;rw [hy] at h;exact G1 _ (mem_of_lookup h)
theorem z65 {scope:Scope} {env:Env} (hcell :∀y∈scope.names,y.2≠U8) {y:Str} {k:j6} (h:(j03 scope env).names.lookup y=some k) (hk:k=.cell\/k=.free):(y,Y1)∈scope.names:=by
 have m:=mem_of_lookup h;unfold j03 at m;obtain ⟨⟨n,c⟩,hm,e⟩:=List.mem_map.mp m;dsimp only at e;by_cases hc:(c == Y1)=true
 ·have:=eq_of_beq hc;subst this;split at e<;>(injection e with e1 e2;subst e1;exact hm)
 ·rw [if_neg (by simp [hc])] at e;injection e with e1 e2;subst e1 e2;rcases hk with rfl|rfl
  ·exact absurd rfl (hcell _ hm)
  ·exact absurd rfl hc
noncomputable abbrev cxComp (X:Cx) (scope:Scope) (cl:List (Str×Addr)) (N:List Str) (C:Addr) (s₂:A0) (H₂:Hp) (fp:List Addr):Cx:=
 { X with N:=N,s₀:=s₂,H₀:=H₂,env:=compEnvC scope cl C X.env,outer:=X.stack,stack:=X.stack,ex:=fp,fn:=λ _=>false,pn:=[],xe:=λ _ _=>False }
def PF (X:Cx) (ifs:List Expr) (t:TT):Prop:=
 ∀(pins:List (Addr×Obj)) (s:A0) (σ:St) (H:Hp) (Q:Bool->Hp->Prop),Inv X pins σ H s->t σ H Q->
  Q0 (A1 X.prog X.w) X.A (forIn ifs true λ c r=>if r=true then do let ok <-isTrue c X.env (Y3 c X.env);J3 (U3 ok) else J3 (U3 r)) (TP X pins σ Q) X.xe s
theorem pf_nil {X:Cx}:PF X [] (λ _ H Q=>Q true H):=λ _ _ _ H _ I h=>wpAny_tests_nil ⟨H,I,h⟩
theorem pf_one {X:Cx} {c:Expr} {t:TT} (h:PT X c t):PF X [c] t:=λ pins s σ H Q I q=>wpAny_tests_one (h pins s σ H Q I q)
theorem Vals.snoc {xs:List V} {us:List Value} {x:V} {u:Value} (r:Vals xs us) (q:RelV x u):Vals (xs++[x]) (us++[u]):=Vals.append r (.cons q .nil)
def TagOf (H:Hp) (x:V) (T:String):Prop:=match x with
 | .non=>T = "NoneType"
 | .bl _=>T = "bool"
 | .int _=>T = "int"
 | .str _=>T = "str"
 | .ref a=>((∃xs,H a=some (.lst xs))/\T = "list")\/((∃xs,H a=some (.tup xs))/\T = "tuple")\/((∃kvs,H a=some (.dK kvs))/\T = "dict")
 | _=>False
noncomputable def instB (T C:String):Bool:=T == C || (T == "bool" && C == "int")
theorem TagOf.ty {K:b0} {H:Hp} {x:V} {T:String} (h:TagOf H x T):TyOf K H x (.type T):=by
 cases x with
 | non=>cases (show T = "NoneType" from h);exact .non
 | bl b=>cases (show T = "bool" from h);exact .bl b
 | int i=>cases (show T = "int" from h);exact .int i
 | str z=>cases (show T = "str" from h);exact .str z
 | ref a=>
  rcases h with ⟨⟨xs,e⟩,rfl⟩|⟨⟨xs,e⟩,rfl⟩|⟨⟨xs,e⟩,rfl⟩
  ·exact .lst e
  ·exact .tup e
  ·exact .dK e
 | _=>exact h.elim
theorem TagOf.one {H:Hp} {x:V} {T:String} (h:TagOf H x T):T = "NoneType"\/T = "bool"\/T = "int"\/T = "str"\/T = "list"\/T = "tuple"\/T = "dict":=by
 cases x with
 | non=>exact .inl h
 | bl b=>exact .inr (.inl h)
 | int i=>exact .inr (.inr (.inl h))
 | str z=>exact .inr (.inr (.inr (.inl h)))
 | ref a=>rcases h with ⟨_,rfl⟩|⟨_,rfl⟩|⟨_,rfl⟩<;>simp
 | _=>exact h.elim
noncomputable def isiC:List String:=["int","str","bool","tuple","list"]
theorem kit_of (K:b0) {T C:String} (h:T = "NoneType"\/T = "bool"\/T = "int"\/T = "str"\/T = "list"\/T = "tuple"\/T = "dict") (hC:C∈isiC):PySem.W.kitOne K (.type T) (.type C)=some (instB T C):=by
 have hC:C = "int"\/C = "str"\/C = "bool"\/C = "tuple"\/C = "list":=by simpa [isiC] using hC
 rcases h with rfl|rfl|rfl|rfl|rfl|rfl|rfl<;>rcases hC with rfl|rfl|rfl|rfl|rfl<;>kernel_rfl
section
variable {X:Cx}
theorem z0i:CallR X (.builtin "isinstance") (λ xs H Q=>∃x C T,xs=[x,.ty C]/\TagOf H x T/\C∈isiC/\Q (.bl (instB T C)) H):=by intro pins s σ H xs us Q I r h;obtain ⟨x,C,T,rfl,ht,hC,q⟩:=h;obtain ⟨u,w',rfl,rx,ry⟩:=vals2 r;cases (show w'=D3 C from ry);exact zha I rx ht.ty (kit_of X.K ht.one hC) λ tk=>⟨.bl _,H,I.tok tk,rfl,q⟩
theorem zgm {ys:List V} {its:List Value} (rv:Vals ys its) (hb :∀y∈ys,∃b,y=V.bl b):((W1 its.length).all λ i=>decide (ys[i]? = some (V.bl true)))=ys.all λ y=>decide (y=V.bl true):=by
 have hl:=rv.length;rw [Bool.eq_iff_iff,Z6,Z6];constructor
 ·intro h y hy;obtain ⟨i,hi,rfl⟩:=List.getElem_of_mem hy;have:=h i (List.mem_range.mpr (by omega));simpa [hi] using this
 ·intro h i hi;have hi':i < ys.length:=by have:=List.mem_range.mp hi;omega
  have:=h ys[i] (N4 hi');simpa [hi'] using this
theorem z4w (hc:X.calm=true):CallR X (.builtin "all") (λ xs H Q=>∃p ys,xs=[.ref p]/\SqL X.K H p ys/\(∀y∈ys,∃b,y=V.bl b)/\Q (.bl (ys.all λ y=>decide (y=V.bl true))) H):=by
 intro pins s σ H xs us Q I r h;obtain ⟨p,ys,rfl,hq,hb,q⟩:=h;obtain ⟨u,rfl,rx⟩:=vals1 r;cases rx;obtain ⟨its,rv,pl,hz⟩:=I.list hq;have hne:p≠s.heap.objs.size:=by obtain ⟨o,e,_⟩:=pl.isList;exact Z0 (P0 e)
 refine call_all_walk (u8 pl.isList ?_);refine ⟨s.heap.objs.size,_,_,_,_,_,λ i=>decide (ys[i]? = some (V.bl true)),rfl,Walks.list (show X.A.in1.handled=none from I.ok.hd hc) s.heap.objs.size p hne its.toArray,⟨⟨_,S0 _ rfl,rfl,rfl⟩,pl.isList.at λ o e=>B0 _ e⟩,?_,?_⟩
 ·intro i v s' Q' E' hv hQ';have hv:its[i]? = some v:=by simpa using hv
  obtain ⟨hi,e⟩:=List.getElem?_eq_some_iff.mp hv;have hi':i < ys.length:=by rw [rv.length];exact hi
  obtain ⟨b,eb⟩:=hb ys[i] (N4 hi');obtain ⟨u,e1,e2⟩:=rv.get (i:=i) (x:=ys[i]) (by simp [hi']);rw [hv] at e1;cases e1;rw [eb] at e2;cases (show v=J7 b from e2);have:decide (ys[i]? = some (V.bl true))=b:=by rw [J0 hi',eb];cases b<;>simp
  exact B3 (this ▸ hQ')
 ·intro h' tk hk;have e:=zgm rv hb;rw [<-O0] at e;refine ⟨.bl _,H,I.kept (t':=tk) λ b o z=>hk b o ?_ (B0 _ z),rfl,e.symm ▸ q⟩;intro hb';rw [List.mem_singleton.mp hb'] at z;exact absurd (P0 z) (N3 _)
def CDivB (i j:Int):Prop:=0 < j/\j < 2 ^ 64
theorem ze6:OpR X (M4 .FloorDiv) (rI CDivB λ i j=>.int (i / j)):=opI λ i j _ _ _ _ _ hc q=>by
 obtain ⟨h0,h1⟩:=hc;refine floordiv_int (by omega) ?_ (.inl (PyProof.noPylong_of_log2 ?_))
 ·rw [Int.fdiv_eq_ediv_of_nonneg _ (by omega)];exact q
 ·have:j.natAbs.log2 < 64:=(Nat.log2_lt (by omega)).mpr (by omega);omega
structure KDict (K:b0) (P:M0) (a:Addr) (kvs:List (Str×V)):Prop where
 ex :∃es n,K.lookup a=some ⟨.type "dict",none,.dict es n,#[]⟩/\j9 (λ (p:Str×V) (e:DictEntry)=>(∃t,e.key=.str p.1 t)/\e.hash=d0 P p.1/\RelV p.2 e.val) kvs es.toList
 lo:(a == R4)=false
theorem zh6 {kvs:List (Str×V)} {P:M0} :∀{es:List DictEntry},j9 (λ (p:Str×V) (e:DictEntry)=>(∃t,e.key=.str p.1 t)/\e.hash=d0 P p.1/\RelV p.2 e.val) kvs es->∀z,
  RelO (kvs.lookup z) (findBy U7 es.toArray z):=by
 intro es r;induction r with
 | nil=>intro z;exact True.intro
 | @cons p e kvs es h t ih=>
  intro z;obtain ⟨⟨tk,hk⟩,hh,hv⟩:=h;have ih:=ih z;unfold findBy at ih⊢;rw [List.find?_toArray] at ih⊢;rw [E4,g4];have e1:U7 z e.key=(z == p.1):=by rw [hk];show (p.1 == z)=_;rw [Bool.eq_iff_iff,beq_iff_eq,beq_iff_eq];exact ⟨λ q=>q.symm,λ q=>q.symm⟩
  cases hz:(z == p.1) with
  | true=>rw [e1,hz];exact hv
  | false=>rw [e1,hz];exact ih
theorem KDict.mapOf {a:Addr} {kvs:List (Str×V)} (D:KDict X.K X.w.params a kvs) {h:Heap} (k:X.K.In h) :∃f,h.MapOf (strKind X.prog X.w) a f/\∀z,RelO (kvs.lookup z) (f z):=by
 obtain ⟨es,n,hl,r⟩:=D.ex;have hk:PySem.W.KeysLit X.w.params es.toList:=by
  clear hl D;generalize es.toList=l at r;induction r with
  | nil=>exact True.intro
  | cons h t ih=>obtain ⟨⟨tk,hk⟩,hh,hv⟩:=h;exact ⟨⟨_,tk,hk,hh⟩,ih⟩
 have r' :∀z,RelO (kvs.lookup z) (findBy U7 es.toList.toArray z):=zh6 r;exact ⟨_,PySem.W.mapOf_K (prog:=X.prog) k hl hk,λ z=>by simpa using r' z⟩
theorem zia {a:Addr} {kvs:List (Str×V)} (D:KDict X.K X.w.params a kvs):OpR X (v2 .In) (λ x y H Q=>∃z,x=.str z/\y=.ref a/\Q (.bl (kvs.lookup z).isSome) H):=by intro pins s σ H x y v u Q I rx ry h;obtain ⟨z,rfl,rfl,q⟩:=h;obtain ⟨t,rfl⟩:=rx;cases ry;obtain ⟨f,hm,hf⟩:=D.mapOf I.kIn;refine wpAny_in_of (f9 X.prog X.w z t) D.lo hm ⟨.bl _,H,I.tok _,rfl,?_⟩;have:=hf z;rw [RelO.isSome_eq this] at q;exact q
theorem ix_kd {a:Addr} {kvs:List (Str×V)} (D:KDict X.K X.w.params a kvs):IxR X (λ x y H Q=>∃z v,x=.ref a/\y=.str z/\kvs.lookup z=some v/\Q v H):=by
 intro value slice pins s σ H x y v u Q I rx ry h hs;obtain ⟨z,r,rfl,rfl,e,q⟩:=h;cases rx;obtain ⟨t,rfl⟩:=ry;obtain ⟨f,hm,hf⟩:=D.mapOf I.kIn;have hz:=hf z;rw [e] at hz;cases ef:f z with
 | none=>rw [ef] at hz;exact hz.elim
 | some u=>rw [ef] at hz;exact j37 hm.typeIs slot_dict_getitem.lookup (wpAny_getItem_of (f9 X.prog X.w z t) hm ef ⟨r,H,I.tok _,hz,q⟩) hs
structure KDictT (K:b0) (P:M0) (a:Addr) (kvs:List ((Str×Str)×V)):Prop where
 ex :∃es n,K.lookup a=some ⟨.type "dict",none,.dict es n,#[]⟩/\j9 (λ (p:(Str×Str)×V) (e:DictEntry)=>(∃(b:Addr) (t t':Tok) (m:Nat),e.key=.ref b/\K.lookup b=some ⟨.type "tuple",none,.seq #[.str p.1.1 t,.str p.1.2 t'] m,#[]⟩)/\
  e.hash=F1 (u0 [d0 P p.1.1,d0 P p.1.2])/\RelV p.2 e.val) kvs es.toList
 nd:(kvs.map (·.1)).Nodup
 lo:(a == R4)=false
theorem zg7 {prog:Program} {w:y1} {K:b0} {h:Heap} (k:K.In h) :∀{kvs:List ((Str×Str)×V)} {es:List DictEntry},
  j9 (λ (p:(Str×Str)×V) (e:DictEntry)=>(∃(b:Addr) (t t':Tok) (m:Nat),e.key=.ref b/\K.lookup b=some ⟨.type "tuple",none,.seq #[.str p.1.1 t,.str p.1.2 t'] m,#[]⟩)/\
   e.hash=F1 (u0 [d0 w.params p.1.1,d0 w.params p.1.2])/\RelV p.2 e.val) kvs es->
  ∃xs:List (List Str×Addr×Value),es=xs.map (entryOfKey (T6 (strKind prog w)))/\(∀x∈xs,(T6 (strKind prog w)).is h x.1 x.2.1)/\xs.map (·.1)=kvs.map (λ p=>[p.1.1,p.1.2])/\
   ∀a b,RelO (kvs.lookup (a,b)) ((Z9 xs [a,b]).map (·.2)):=by
 intro kvs es r;induction r with
 | nil=>exact ⟨[],rfl,λ x hx=>absurd hx o0,rfl,λ a b=>True.intro⟩
 | @cons p e kvs es hpe t ih=>
  obtain ⟨xs,h1,h2,h3,h4⟩:=ih;obtain ⟨⟨b,t1,t2,m,hk,hl⟩,hh,hv⟩:=hpe;refine ⟨([p.1.1,p.1.2],b,e.val) :: xs,?_,?_,?_,?_⟩
  ·rw [v1,<-h1];congr 1;obtain ⟨eh,ek,ev⟩:=e;have hk:ek=.ref b:=hk;have hh:eh=_:=hh;subst hk hh;rfl
  ·intro x hx;rcases List.mem_cons.mp hx with rfl|hx
   ·exact ⟨_,_,m,k _ _ hl,rfl,rfl,.cons (f9 prog w _ _) (.cons (f9 prog w _ _) .nil)⟩
   ·exact h2 x hx
  ·rw [v1,v1,h3]
  ·intro c d;have:=h4 c d;rw [g4];unfold Z9 at this⊢;rw [E4];by_cases hcd:(c,d)=p.1
   ·have e1:((c,d) == p.1)=true:=by rw [beq_iff_eq];exact hcd
    rw [e1];have e2:decide ([p.1.1,p.1.2]=[c,d])=true:=by rw [<-hcd];simp
    rw [e2];exact hv
   ·have e1:((c,d) == p.1)=false:=by rw [beq_eq_false_iff_ne];exact hcd
    rw [e1];have e2:decide ([p.1.1,p.1.2]=[c,d])=false:=by rw [decide_eq_false_iff_not];intro z;injection z with z1 z;injection z with z2 _;exact hcd (Prod.ext z1.symm z2.symm)
    rw [e2];exact this
theorem z6m :∀{l:List (Str×Str)},l.Nodup->(l.map λ p=>[p.1,p.2]).Nodup
 | [],_=>List.nodup_nil
 | p :: r,h=>by obtain ⟨h1,h2⟩:=List.nodup_cons.mp h;rw [v1];refine List.nodup_cons.mpr ⟨λ m=>h1 ?_,z6m h2⟩;obtain ⟨q,hq,e⟩:=List.mem_map.mp m;injection e with e1 e;injection e with e2 _;have:q=p:=Prod.ext e1 e2;exact this ▸ hq
theorem KDictT.dict {a:Addr} {kvs:List ((Str×Str)×V)} (D:KDictT X.K X.w.params a kvs) {h:Heap} (k:X.K.In h) :∃xs,h.DictOfH (T6 (strKind X.prog X.w)) a xs/\∀c d,RelO (kvs.lookup (c,d)) ((Z9 xs [c,d]).map (·.2)):=by obtain ⟨es,n,hl,r⟩:=D.ex;obtain ⟨xs,h1,h2,h3,h4⟩:=zg7 (prog:=X.prog) (w:=X.w) k r;refine ⟨xs,⟨_,es,n,k _ _ hl,⟨rfl,rfl,rfl⟩,rfl,h1,h2,?_⟩,h4⟩;rw [h3];have:=z6m D.nd;rw [S3] at this;exact this
theorem zhk {pins:List (Addr×Obj)} {σ:St} {H:Hp} {s:A0} {p:Addr} {c d:Str} (I:Inv X pins σ H s) (hp:H p=some (.tup [.str c,.str d])):(T6 (strKind X.prog X.w)).is s.heap [c,d] p:=by
 obtain ⟨_,its,rv,⟨o,ho,hc,n,hd⟩,_⟩:=(show ObjOk X.prog X.w H s.heap p (.tup [.str c,.str d]) from I.hok p _ hp)
 cases rv with
 | cons r1 rv=>
  cases rv with
  | cons r2 rv=>cases rv;obtain ⟨t1,rfl⟩:=r1;obtain ⟨t2,rfl⟩:=r2;exact ⟨o,_,n,ho,hc,hd,.cons (f9 X.prog X.w _ _) (.cons (f9 X.prog X.w _ _) .nil)⟩
theorem zb1 {a:Addr} {kvs:List ((Str×Str)×V)} (hu:X.A.units + 1 < cLine) (D:KDictT X.K X.w.params a kvs) :
  OpR X (v2 .NotIn) (λ x y H Q=>∃p c d,x=.ref p/\H p=some (.tup [.str c,.str d])/\y=.ref a/\Q (.bl (!(kvs.lookup (c,d)).isSome)) H):=by
 intro pins s σ H x y v u Q I rx ry h;obtain ⟨p,c,d,rfl,hp,rfl,q⟩:=h;cases rx;cases ry;obtain ⟨xs,hm,hf⟩:=D.dict I.kIn;refine wpAny_notIn_heap (k:=[c,d]) hu (zhk I hp) D.lo hm ⟨.bl _,H,I.tok _,rfl,?_⟩;have:=RelO.isSome_eq (hf c d);rw [O7] at this;rw [this] at q;exact q
theorem ix_kdt {a:Addr} {kvs:List ((Str×Str)×V)} (hu:X.A.units + 1 < cLine) (D:KDictT X.K X.w.params a kvs) :
  IxR X (λ x y H Q=>∃p c d v,x=.ref a/\y=.ref p/\H p=some (.tup [.str c,.str d])/\kvs.lookup (c,d)=some v/\Q v H):=by
 intro value slice pins s σ H x y v u Q I rx ry h hs;obtain ⟨p,c,d,r,rfl,rfl,hp,e,q⟩:=h;cases rx;cases ry;obtain ⟨xs,hm,hf⟩:=D.dict I.kIn;have hz:=hf c d;rw [e] at hz;cases ef:Z9 xs [c,d] with
 | none=>rw [ef] at hz;exact hz.elim
 | some z=>rw [ef] at hz;exact j37 hm.typeIs slot_dict_getitem.lookup (wpAny_getItem_heap (k:=[c,d]) hu (zhk I hp) hm ef ⟨r,H,I.tok _,hz,q⟩) hs
end
structure Cal (P:Program) (w:y1) (K:b0) (mg:Str->Option Value) (base:Heap) (x:Str) (ps:List Str) (k:Nat) (sp:Sp):Prop where
 ex :∃f fd,FnOk P w K mg base CX0 k f fd ps sp/\mg x=some (.ref f)/\K3 K (.ref f)=true/\Binds K fd ps []
section
variable {X:Cx} {x:Str} {ps:List Str} {k:Nat} {sp:Sp} {e:Expr} {es:List Expr} {t:TA} {p pos:Pos}
theorem pe_cal (c:Cal X.prog X.w X.K X.mg X.base x ps k sp) (hr:Room k X.A) (hg:Gl X x) (ha:PA X (e :: es) t) (hn:x≠"__name__":=by decide) (hdb:(x == ("__debug__" : Str))=false:=by decide)
  (he:K1 (e :: es) X.env=(false,Y3 e X.env) :: K1 es X.env:=by rfl) (hpl:(d5 pos (K1 es X.env)).any (·.1)=false:=by rfl):PE X (.Call (.Name x p) (e :: es) [] pos) (tCall sp [] E0 t):=by
 obtain ⟨f,fd,F,hm,hk,hb⟩:=c.ex;exact zjs F hr hg hm hk hb .nil pass0 ha hdb he hpl
end
structure TX (K:b0) (mg:Str->Option Value):Prop where
 of :∀{n:Str} {v:Value},N0 K L0 n=some (some v)->mg n=some v
 no :∀{n:Str},N0 K L0 n=some none->mg n=none
theorem TX.mk' {K:b0} {mg:Str->Option Value} {h:Heap} (X:K.In h) (G:h.Ns L0 mg):TX K mg:=⟨λ e=>PySem.W.mg_of X G e,λ e=>PySem.W.mg_none_of X G e⟩
section
variable {X:Cx}
noncomputable def rAdd4 (K:b0):R2:=λ x y H Q=>(∃i j,x=.int i/\y=.int j/\Q (.int (i + j)) H)\/(∃i j,x=.str i/\y=.str j/\i.length + j.length<=sizeLine/\Q (.str (i++j)) H)\/rCat x y H Q\/rCatT K x y H Q
theorem opAdd:OpR X (M4 .Add) (rAdd4 X.K):=op_add.or (op_add_str.or (op_cat.or zc7))
theorem opEq:OpR X (v2 .Eq) rEq:=op_eq
theorem opNe:OpR X (v2 .NotEq) rNe:=op_ne
theorem z0w:CallR X (.builtin "len") (λ xs H Q=>(∃p ys,xs=[.ref p]/\(SqL X.K H p ys\/SqT X.K H p ys)/\Q (.int ys.length) H)\/∃z,xs=[.str z]/\z.length<=sizeLine/\Q (.int z.length) H):=call_len_seq.or zaq
end
noncomputable def z17 (x:V) (g:Int):Bool:=match x with
 | .int i=>decide (-g<=i) && decide (i<=g)
 | _=>false
noncomputable def tupOf (H:Hp) (x:V):Option (List V):=match x with
 | .ref a=>(match H a with|some (.tup xs)=>some xs|_=>none)
 | _=>none
theorem zeo {H H':Hp} {x:V} {T:String} (t:TagOf H x T) (e:Same H H'):tupOf H' x=tupOf H x:=by
 cases x with
 | ref a=>rcases t with ⟨⟨xs,h⟩,_⟩|⟨⟨xs,h⟩,_⟩|⟨⟨xs,h⟩,_⟩<;>(unfold tupOf;dsimp only;rw [h,e a _ h])
 | _=>rfl
theorem TagOf.same {H H':Hp} {x:V} {T:String} (t:TagOf H x T) (e:Same H H'):TagOf H' x T:=by
 cases x with
 | ref a=>
  rcases t with ⟨⟨xs,h⟩,z⟩|⟨⟨xs,h⟩,z⟩|⟨⟨xs,h⟩,z⟩
  ·exact .inl ⟨⟨xs,e a _ h⟩,z⟩
  ·exact .inr (.inl ⟨⟨xs,e a _ h⟩,z⟩)
  ·exact .inr (.inr ⟨⟨xs,e a _ h⟩,z⟩)
 | _=>exact t
theorem TagOf.tuple {H:Hp} {x:V} (t:TagOf H x "tuple") :∃a xs,x=.ref a/\H a=some (.tup xs):=by
 cases x with
 | ref a=>
  rcases t with ⟨_,z⟩|⟨⟨xs,h⟩,_⟩|⟨_,z⟩
  ·exact absurd z (by decide)
  ·exact ⟨a,xs,rfl,h⟩
  ·exact absurd z (by decide)
 | non=>exact absurd (show "tuple" = "NoneType" from t) (by decide)
 | bl b=>exact absurd (show "tuple" = "bool" from t) (by decide)
 | int i=>exact absurd (show "tuple" = "int" from t) (by decide)
 | str z=>exact absurd (show "tuple" = "str" from t) (by decide)
 | _=>exact t.elim
theorem TagOf.int {H:Hp} {x:V} (t:TagOf H x "int") :∃i,x=.int i:=by
 cases x with
 | ref a=>rcases t with ⟨_,z⟩|⟨_,z⟩|⟨_,z⟩<;>exact absurd z (by decide)
 | non=>exact absurd (show "int" = "NoneType" from t) (by decide)
 | bl b=>exact absurd (show "int" = "bool" from t) (by decide)
 | int i=>exact ⟨i,rfl⟩
 | str z=>exact absurd (show "int" = "str" from t) (by decide)
 | _=>exact t.elim
theorem TagOf.str {H:Hp} {x:V} (t:TagOf H x "str") :∃z,x=.str z:=by
 cases x with
 | ref a=>rcases t with ⟨_,z⟩|⟨_,z⟩|⟨_,z⟩<;>exact absurd z (by decide)
 | non=>exact absurd (show "str" = "NoneType" from t) (by decide)
 | bl b=>exact absurd (show "str" = "bool" from t) (by decide)
 | int i=>exact absurd (show "str" = "int" from t) (by decide)
 | str z=>exact ⟨z,rfl⟩
 | _=>exact t.elim
theorem noInt {H:Hp} {x:V} {T:String} (t:TagOf H x T) (h:T≠"int") (g:Int):z17 x g=false:=by
 cases x with
 | int i=>exact absurd t h
 | _=>rfl
theorem noTup {H:Hp} {x:V} {T:String} (t:TagOf H x T) (h:T≠"tuple"):tupOf H x=none:=by
 cases x with
 | ref a=>
  rcases t with ⟨⟨xs,e⟩,_⟩|⟨_,z⟩|⟨⟨xs,e⟩,_⟩
  ·unfold tupOf;dsimp only;rw [e]
  ·exact absurd z h
  ·unfold tupOf;dsimp only;rw [e]
 | _=>rfl
theorem z80 {H:Hp} {x:V} {T:String} (t:TagOf H x T) {C:String} (h:C≠"int"):instB T C=decide (T=C):=by
 unfold instB;have:(C == "int")=false:=by simpa using h
 rw [this,j1i,j2f,Bool.beq_eq_decide_eq]
def Flat (H:Hp) (x:V):Prop:=∀xs,tupOf H x=some xs->xs.length<=1000/\∀y∈xs,∃T,TagOf H y T
theorem zas {α β:Type} [BEq α] [LawfulBEq α] {l:List (α×β)} {a:α} {b:β} (h:l.lookup a=some b):(a,b)∈l:=by
 induction l with
 | nil=>cases h
 | cons p r ih=>
  obtain ⟨c,d⟩:=p;rw [g4] at h;cases hc:(a == c) with
  | true=>rw [hc] at h;cases h;rw [eq_of_beq hc];exact B1
  | false=>rw [hc] at h;exact G1 _ (ih h)
theorem z1e {names:List (Str×j6)} {Q:Str×j6->Prop} (h:(names.all λ y=>y.2 != Y1)=true) :∀y∈names,y.2=Y1->Q y:=λ y hy e=>by have:=List.all_eq_true.mp h y hy;rw [e] at this;exact absurd this (by decide)
theorem Same.upd {H:Hp} {p:Addr} {o:HO} (h:H p=none):Same H (upd H p o):=λ b u e=>by rw [upd_ne (z0b e h)];exact e
theorem Same.seqT {K:b0} {H H':Hp} {a:Addr} {xs:List V} (e:Same H H') (h:SqT K H a xs):SqT K H' a xs:=by
 rcases h with (h|⟨o,h⟩)|h
 ·exact .inl (.inl (e _ _ h))
 ·exact .inl (.inr ⟨o,e _ _ h⟩)
 ·exact .inr h
theorem zfr {H:Hp} {x:V} {xs:List V} (h:tupOf H x=some xs) :∃a,x=.ref a/\H a=some (.tup xs):=by
 unfold tupOf at h;cases x with
 | ref a=>
  dsimp only at h;split at h
  ·rename_i ys e;exact ⟨a,rfl,by rw [e,U1 h]⟩
  ·cases h
 | _=>cases h
end L2
namespace L2
open PySem PySem.Spec PyProof.Rows
open Builtin.Str (occurrences partsBetween strKind)
section
variable {X:Cx}
theorem zby {vl:Value} {lo:Option Int} (p:o9 vl lo) :∃l:Option (Int×Tok),vl=partValue l/\l.map (·.1)=lo:=by
 cases p with
 | none=>exact ⟨none,rfl,rfl⟩
 | int i t=>exact ⟨some (i,t),rfl,rfl⟩
end
end L2
namespace L2
open PySem PySem.Spec PyProof.Rows
section
variable {X:Cx}
theorem op_isB:OpR X (v2 .Is) (λ x y H Q=>∃b c,x=.bl b/\y=.bl c/\Q (.bl (b == c)) H):=by intro pins s σ H x y v u Q I rx ry h;obtain ⟨b,c,rfl,rfl,q⟩:=h;cases rx;cases ry;refine wpAny_is_plain rfl (fin_bl I q ?_);cases b<;>cases c<;>rfl
def rSlS:V->Option Int->Option Int->Hp->VK->Prop:=λ x lo hi H Q=>∃z,x=.str z/\z.length<=sizeLine/\Q (.str (Txt.slice z lo hi)) H
theorem sl_str:SlR X rSlS:=by
 intro pins s σ H x v vl vu lo hi sl Q I rx hs pl pu h;obtain ⟨z,rfl,hz,q⟩:=h;obtain ⟨t,rfl⟩:=rx;obtain ⟨l,rfl,el⟩:=zby pl;obtain ⟨u,rfl,eu⟩:=zby pu;subst el eu;refine ⟨"str",_,F.slot_str_getitem.lookup,typeIs_str _ _ _,wpAny_getItem_str_slice (l:=l) (u:=u) (st:=none) hs rfl
  (post_val_or_str ⟨G0 (Txt.slice_le z _ _) hz,λ t' k=>⟨.str (Txt.slice z _ _),H,I.tok k,⟨t',rfl⟩,q⟩⟩)⟩
theorem slSeq:SlR X (λ x lo hi H Q=>rSlL X.K x lo hi H Q\/rSlT X.K x lo hi H Q\/rSlS x lo hi H Q):=sl_list.or (sl_tup.or sl_str)
theorem zgc:CallR X (.type "int") (λ xs H Q=>∃z n,xs=[.str z]/\PySem.intText? z=some n/\z.length<=640/\Q (.int n) H):=by intro pins s σ H xs us Q I r h;obtain ⟨z,n,rfl,hn,hl,q⟩:=h;obtain ⟨u,rfl,t,rfl⟩:=vals1 r;exact PySem.W.KIN.call_text hn hl ⟨.int n,H,I.tok _,⟨_,rfl⟩,q⟩
theorem z5q:CallR X (.type "int") (λ xs H Q=>((∃i,xs=[.int i]/\Q (.int i) H)\/∃k,xs=[.bl k]/\Q (.int (if k then 1 else 0)) H)\/∃z n,xs=[.str z]/\PySem.intText? z=some n/\z.length<=640/\Q (.int n) H):=call_int1.or zgc
end
def RowAt (H:Hp) (r:Addr):Prop:=∃a b c:Int,H r=some (.lst [.int a,.int b,.int c])/\0<=c/\c < 536870909
def Kept (r:Addr) (H H':Hp):Prop:=∀b o,b≠r->H b=some o->H' b=some o
theorem Kept.refl {r:Addr} {H:Hp}:Kept r H H:=λ _ _ _ h=>h
theorem Kept.trans {r:Addr} {H H1 H2:Hp} (a:Kept r H H1) (b:Kept r H1 H2):Kept r H H2:=λ c o n h=>b c o n (a c o n h)
theorem Same.kept {r:Addr} {H H':Hp} (s:Same H H'):Kept r H H':=λ b o _ h=>s b o h
theorem Kept.set {r:Addr} {H:Hp} {o:HO}:Kept r H (upd H r o):=λ b u n h=>by rw [upd_ne n];exact h
structure Rw (r:Addr) (H H':Hp):Prop where
 k:Kept r H H'
 r:RowAt H' r
theorem atI_of {α:Type} {xs:List α} {t:Int} (h0:0<=t) (h1:t < xs.length) :∃v,atI xs t=some v/\v∈xs:=by
 have hl:t.toNat < xs.length:=by omega
 refine ⟨xs[t.toNat],?_,N4 hl⟩;have:=z04 (xs:=xs) (j:=t.toNat) (v:=xs[t.toNat]) (by simp [hl]);rw [o6 h0] at this;exact this
section
variable {r:Addr} {σ:St} {H0:Hp} {K:b0}
theorem g_name {i:Nat} {v:V} {σ:St} {H:Hp} {Q:St->Hp->Prop} (h:Q (σ.set i (some v)) H):gName i v σ H Q:=h
theorem t_nx {nx ct bk:St->Hp->Prop} {rt:VK} {σ:St} {H:Hp} (h:nx σ H):Ends.nx { nx:=nx,rt:=rt,bk:=bk,ct:=ct } σ H:=h
theorem t_next {nx ct bk:St->Hp->Prop} {rt:VK} {σ:St} {H:Hp} (h:nx σ H):tNext { nx:=nx,rt:=rt,bk:=bk,ct:=ct } σ H:=h
end
end L2
namespace L2
open PySem
section
variable {prog:Program} {w:y1} {A:A2} {E:Value->A0->Prop} {s:A0}
theorem tupOn {it t:Addr} {i:Nat} {its:Array Value} {x:Value} {Q:Value->A0->Prop} (a:s.heap.IsTupleIter it t i) (b:s.heap.IsTuple t its) (c:its[i]? = some x)
  (q :∀h',h'.IsTupleIter it t (i + 1)->c6 it s.heap h'->Q x { s with heap:=h' }):Q0 (A1 prog w) A (U4 (.ref it)) Q E s:=by
 obtain ⟨o,o1,o2,o3⟩:=id a;obtain ⟨p,p1,_,n,p2⟩:=b;unfold U4;refine c0 (i3 (name:=V1 "__next__") a.typeIs g6 (Y2 g6 a.typeIs j2e (show Q0 _ _ (field (.ref it) 0 >>= _) _ _ s from c0 (E7 o1 o3 (x:=.ref t) rfl ?_)) (j26 _)));show Q0 _ _ (if (E1 t == O2)=true then _ else (field (.ref it) 1 >>= _)) _ _ s;rw [if_neg (by exact U0)];refine c0 (E7 o1 o3 (x:=.int i 0) rfl (show Q0 _ _ (seqItems? (.ref t) >>= _) _ _ s from c0 (Z7 p1 p2 ?_)));simp only [y3,c];refine c0 (Z4 o1 o3 (by simp) (C0 ⟨x,rfl,C0 (q _ ⟨_,V2 _ o1 (Obj.isFreed_of_fields (Obj.data_mapFields o3 _)),(Obj.cls_mapFields ..).trans o2,?_⟩ (P2 ..))⟩));rw [Obj.data_mapFields o3];simp [c5]
theorem tupOff {it t:Addr} {i:Nat} {its:Array Value} {Q:Value->A0->Prop} (hh:A.handled=none) (a:s.heap.IsTupleIter it t i) (b:s.heap.IsTuple t its) (c:its[i]? = none)
  (q :∀h' e,j45 it s.heap h'->(∃o,h'.get? e=some o/\o.cls=.type "StopIteration")->E (.ref e) { s with heap:=h' }):Q0 (A1 prog w) A (U4 (.ref it)) Q E s:=by
 obtain ⟨o,o1,o2,o3⟩:=id a;obtain ⟨p,p1,_,n,p2⟩:=b;unfold U4;refine c0 (i3 (name:=V1 "__next__") a.typeIs g6 (Y2 g6 a.typeIs j2e (show Q0 _ _ (field (.ref it) 0 >>= _) _ _ s from c0 (E7 o1 o3 (x:=.ref t) rfl ?_)) (j26 _)));show Q0 _ _ (if (E1 t == O2)=true then _ else (field (.ref it) 1 >>= _)) _ _ s;rw [if_neg (by exact U0)];refine c0 (E7 o1 o3 (x:=.int i 0) rfl (show Q0 _ _ (seqItems? (.ref t) >>= _) _ _ s from c0 (Z7 p1 p2 ?_)));simp only [y3,c];refine c0 (P6 (c0 (Z4 o1 o3 (by simp) (show Q0 _ _ (newExc (.type "StopIteration") [] >>= _) _ _ _ from c0 ?_))));simp only [newExc,newTuple];refine c0 (E2 (c0 (m:=S9 _ _) (O9 (a:=O2) (by first|rfl|(simp only [S9];rfl)) (E2 ?_ (by size_fits)))) (by size_fits));simp only [raiseNew];refine c0 (wpAny_handled ?_);first|rw [show A.in1.handled=none from hh]|rw [hh]
 exact c0 (C0 (j27 (q _ _ (((P2 ..).extBut.push _).push _) ⟨_,S0 _ rfl,rfl⟩)))
structure ZApart (z T U i j a b:Addr):Prop where
 dis:[z,T,U,i,j].Nodup
 fa:a∉[z,T,U,i,j]
 fb:b∉[z,T,U,i,j]
structure ZAt (h:Heap) (z T U i j a b:Addr) (n:Nat) (f:Value):Prop where
 z:IsZip h z T U f
 t:IsPair h T (.ref i) (.ref j)
 u :∃p q,IsPair h U p q
 i:h.IsTupleIter i a n
 j:h.IsTupleIter j b n
end
end L2
namespace L2
open PySem PySem.Spec PyProof.Rows
inductive Dt where
 | non|bl (b:Bool)|int (i:Int)|str (z:Str)|tup (ds:List Dt)
mutual
noncomputable def IsDt (K:b0) (H:Hp):Dt->V->Prop
 | .non,v=>v=.non
 | .bl b,v=>v=.bl b
 | .int i,v=>v=.int i
 | .str z,v=>v=.str z
 | .tup ds,v=>∃a xs,v=.ref a/\SqT K H a xs/\IsDts K H ds xs
noncomputable def IsDts (K:b0) (H:Hp):List Dt->List V->Prop
 | [],xs=>xs=[]
 | d :: ds,xs=>∃x r,xs=x :: r/\IsDt K H d x/\IsDts K H ds r
end
mutual
theorem IsDt.same' {K:b0} {H H':Hp} (s:Same H H') :∀(d:Dt) (v:V),IsDt K H d v->IsDt K H' d v
 | .non,v,h=>h
 | .bl b,v,h=>h
 | .int i,v,h=>h
 | .str z,v,h=>h
 | .tup ds,v,h=>by obtain ⟨a,xs,rfl,e,r⟩:=h;exact ⟨a,xs,rfl,s.seqT e,IsDts.same' s ds xs r⟩
theorem IsDts.same' {K:b0} {H H':Hp} (s:Same H H') :∀(d:List Dt) (v:List V),IsDts K H d v->IsDts K H' d v
 | [],xs,h=>h
 | d :: ds,xs,h=>by obtain ⟨x,r,rfl,a,b⟩:=h;exact ⟨x,r,rfl,IsDt.same' s d x a,IsDts.same' s ds r b⟩
end
theorem IsDt.same {K:b0} {H H':Hp} {d:Dt} {v:V} (h:IsDt K H d v) (s:Same H H'):IsDt K H' d v:=IsDt.same' s d v h
theorem IsDts.mk2 {K:b0} {H:Hp} {d e:Dt} {x y:V} (a:IsDt K H d x) (b:IsDt K H e y):IsDts K H [d,e] [x,y]:=⟨x,[y],rfl,a,y,[],rfl,b,rfl⟩
theorem IsDt.mkT {K:b0} {H:Hp} {p:Addr} {xs:List V} {ds:List Dt} (h:H p=some (.tup xs)) (r:IsDts K H ds xs):IsDt K H (.tup ds) (.ref p):=⟨p,xs,rfl,SqT.of h,r⟩
mutual
noncomputable def Dt.deep:Dt->Nat
 | .tup ds=>Dt.deeps ds + 1
 | _=>0
noncomputable def Dt.deeps:List Dt->Nat
 | []=>0
 | d :: ds=>max d.deep (Dt.deeps ds)
noncomputable def Dt.plain:Dt->Bool
 | .int _=>true
 | .str _=>true
 | .tup ds=>Dt.plains ds
 | _=>false
noncomputable def Dt.plains:List Dt->Bool
 | []=>true
 | d :: ds=>d.plain && Dt.plains ds
end
noncomputable def tagD:Dt->String
 | .non=>"NoneType"
 | .bl _=>"bool"
 | .int _=>"int"
 | .str _=>"str"
 | .tup _=>"tuple"
section
variable {X:Cx}
theorem zjd {i:Nat} {x:Str} {p pos:Pos} {e:Expr} {es:List Expr} {t:TA} (tb:Addr->Sp->Prop) (hN:X.N[i]? = some x) (hv:Vis X.env.scope x)
  (G :∀f sp,tb f sp->∃k fd ps,FnOk X.prog X.w X.K X.mg X.base CX0 k f fd ps sp/\Room k X.A/\K3 X.K (.ref f)=true/\Binds X.K fd ps [])
  (ha:PA X (e :: es) t) (hd:(x == ("__debug__" : Str))=false:=by decide) (hcd:(x == ("__classdict__" : Str))=false:=by decide)
  (he:K1 (e :: es) X.env=(false,Y3 e X.env) :: K1 es X.env:=by rfl) (hpl:(d5 pos (K1 es X.env)).any (·.1)=false:=by rfl) :
  PE X (.Call (.Name x p) (e :: es) [] pos) (λ σ H Q=>∃f sp,σ[i]? = some (some (.ref f))/\tb f sp/\t σ H λ vs H1=>sp vs H1 Q E0):=by
 intro pins s σ H Q I h;obtain ⟨f,sp,e1,e2,h⟩:=h;obtain ⟨k,fd,ps,F,hr,hk,hb⟩:=G f sp e2;refine A5 (thn (pe_var hN hv hd hcd pins s σ H (λ v H'=>v=.ref f/\H'=H) I ⟨_,e1,rfl,rfl⟩) λ u s0 ⟨v,H0,I0,r0,ev,eH⟩=>?_);subst ev eH;obtain rfl:u=E1 f:=r0;refine j3g (h₀:=X.base) I0.ok.mod.kin hk (thn (ha pos pins s0 σ _ _ I0 h) λ us s1 ⟨vs,H1,I1,r,q⟩=>⟨I1.kIn,?_⟩) he hpl;exact run_fn F hr hb .nil pass0 I1 r (by rw [C3];exact q)
theorem Inv.turnedL {pins:List (Addr×Obj)} {σ:St} {H:Hp} {s:A0} {h':Heap} {t':Nat} {fp:List Addr} (I:Inv X pins σ H s) (k :∀b o,b∉fp->s.heap.get? b=some o->h'.get? b=some o) (hf :∀b∈fp,FpOk X pins H b) :
  Inv X pins σ H { s with heap:=h',toks:=t' }:=by
 have nit :∀b u,H b=some u->b∉fp:=λ b u e z=>by have:=(hf b z).1;rw [this] at e;cases e
 refine I.step (g':=s.gens) (d':=s.drawn) (ch:=fp) (λ b hb=>⟨(hf b hb).2.2.2.1,(hf b hb).2.1,(hf b hb).2.2.2.2.1,(hf b hb).2.2.2.2.2⟩) (λ b o _ _ hc e _=>k b o hc e) (λ b o _ _ hc e _=>⟨o.slots,k b o hc e⟩) (λ _ _ _ _ n=>n)
  (λ b o hc e=>⟨o,k b o hc e⟩) (λ _ _ e=>e) (λ _ _ _ e=>e) (λ b ps e=>⟨#[],by rw [e];simp⟩) (λ m hm=>?_) (λ b u e=>?_) I.bare
 ·obtain ⟨o,es,ep,ho,r⟩:=hm;exact ⟨o,es,ep,k _ o (λ z=>(hf _ z).2.1 rfl) ho,r⟩
 ·refine (I.hok b u e).stay (λ c v hc q=>k c v ?_ q) (λ _ q=>q) λ _ _ q=>q;rcases hc with z|z
  ·rw [z];exact nit b u e
  ·exact nit c _ z
theorem Inv.turnedLaid {pins:List (Addr×Obj)} {σ:St} {H:Hp} {s:A0} {h':Heap} {t':Nat} {fp:List Addr} {a:Addr} {o:HO} (I:Inv X pins σ H s) (k :∀b o,b∉fp->s.heap.get? b=some o->h'.get? b=some o) (hf :∀b∈fp,FpOk X pins H b)
  (hp:s.heap.objs.size<=a) (new:ObjOk X.prog X.w (upd H a o) h' a o):Inv X pins σ (upd H a o) { s with heap:=h',toks:=t' }:=by
 have hn:H a=none:=I.hok.fresh hp;have nit :∀b u,H b=some u->b∉fp:=λ b u e z=>by have:=(hf b z).1;rw [this] at e;cases e
 have old :∀b u,H b=some u->upd H a o b=some u:=λ b u e=>by rw [upd_ne (z0b e hn)];exact e
 refine I.step (g':=s.gens) (d':=s.drawn) (ch:=fp) (λ b hb=>⟨(hf b hb).2.2.2.1,(hf b hb).2.1,(hf b hb).2.2.2.2.1,(hf b hb).2.2.2.2.2⟩) (λ b o _ _ hc e _=>k b o hc e) (λ b o _ _ hc e _=>⟨o.slots,k b o hc e⟩)
  (λ b u _ e n=>by rw [upd_ne (λ z=>by subst z;exact absurd (P0 e) (Nat.not_lt.mpr hp))];exact n)
  (λ b o hc e=>⟨o,k b o hc e⟩) (λ _ _ e=>old _ _ e) (λ _ _ _ e=>old _ _ e) (λ b ps e=>⟨#[],by rw [old _ _ e];simp⟩) (λ m hm=>?_) (λ b u e=>?_) I.bare
 ·obtain ⟨o,es,ep,ho,r⟩:=hm;exact ⟨o,es,ep,k _ o (λ z=>(hf _ z).2.1 rfl) ho,r⟩
 ·by_cases hb:b=a
  ·subst hb;rw [upd_same] at e;cases e;exact new
  ·rw [upd_ne hb] at e;refine (I.hok b u e).stay (λ c v hc q=>k c v ?_ q) (λ c q=>old _ _ q) λ c xs q=>old _ _ q;rcases hc with z|z
   ·rw [z];exact nit b u e
   ·exact nit c _ z
theorem zie:OpR X (M4 .Add) (λ x y H Q=>∃a b ys,x=.ref a/\y=.ref b/\SqT X.K H a []/\SqT X.K H b ys/\Q (.ref b) H):=by intro pins s σ H x y v u Q I rx ry h;obtain ⟨a,b,ys,rfl,rfl,ha,hb,q⟩:=h;cases rx;cases ry;obtain ⟨ia,ra,pa,_⟩:=I.tuple ha;obtain ⟨ib,rb,pb,_⟩:=I.tuple hb;cases ra;obtain ⟨⟨c1,d1,t1,l1⟩,g1,h1,n1,k1⟩:=id pa;obtain ⟨⟨c2,d2,t2,l2⟩,g2,h2,n2,k2⟩:=id pb;simp only at h1 k1 h2 k2;subst h1 k1 h2 k2;exact j16 ⟨_,g1,rfl⟩ ⟨_,g2,rfl⟩ j20 seq_tuple_add b8 V7 (M7 _ _) (tuple_addW0 a b ([]:List Value).toArray ib.toArray n1 n2 d1 d2 l1 l2 (by simp)) ⟨g1,g2,⟨.ref b,H,I,rfl,q⟩⟩
noncomputable def rCatS (K:b0):R2:=λ x y H Q=>∃a b xs ys,x=.ref a/\y=.ref b/\SqT K H a xs/\SqT K H b ys/\ys≠[]/\xs.length + ys.length<=sizeLine/\∀p H',Same H H'->SqT K H' p (xs++ys)->Q (.ref p) H'
theorem op_catS:OpR X (M4 .Add) (rCatS X.K):=by
 intro pins s σ H x y v u Q I rx ry h;obtain ⟨a,b,xs,ys,rfl,rfl,ha,hb,hn,hz,q⟩:=h;cases xs with
 | nil=>exact zie pins s σ H _ _ v u Q I rx ry ⟨a,b,ys,rfl,rfl,ha,hb,q b H (Same.refl H) hb⟩
 | cons x xs=>exact zc7 pins s σ H _ _ v u Q I rx ry ⟨a,b,x :: xs,ys,rfl,rfl,ha,hb,by simp,hz,λ z=>absurd z hn,λ _ p hp=>q p _ (Same.upd hp) (SqT.of upd_same)⟩
theorem z1d {o e:Expr} {es:List Expr} {to:TE} {t:TA} {apos cpos:Pos} (ho:PE X o to) (ha:PA X (e :: es) t)
  (hbase:K6 o "append" X.env (Y3 o X.env)=Y3 o X.env:=by rfl)
  (hfew:((d5 cpos (K1 (e :: es) X.env)).all (λ x=>!x.1) && (Y9 cpos (F7 [] X.env)).all (λ x=>x.1.isSome)
   && decide ((e :: es).length + ([]:List C6).length + (if ([]:List C6).isEmpty then 0 else 1) < 30))=true:=by rfl)
  (hline:(apos.endLine == cpos.line)=true:=by rfl) (hs:K1 (e :: es) X.env=(false,Y3 e X.env) :: K1 es X.env:=by rfl) (hplain:(d5 cpos (K1 es X.env)).any (·.1)=false:=by rfl) :
  PE X (.Call (.Attribute o "append" apos) (e :: es) [] cpos) (tBM X.K "list" zhc to t):=pe_bm u6 PySem.F.slot_list_append PySem.F.type_list_append zg6 ho ha hbase hfew hline hs hplain
end
def KeptL (L:List Addr) (H H':Hp):Prop:=∀b o,b∉L->H b=some o->H' b=some o
theorem KeptL.refl {L:List Addr} {H:Hp}:KeptL L H H:=λ _ _ _ h=>h
theorem KeptL.trans {L:List Addr} {H H1 H2:Hp} (a:KeptL L H H1) (b:KeptL L H1 H2):KeptL L H H2:=λ c o n h=>b c o n (a c o n h)
theorem Same.keptL {L:List Addr} {H H':Hp} (s:Same H H'):KeptL L H H':=λ b o _ h=>s b o h
theorem KeptL.set {L:List Addr} {H:Hp} {l:Addr} {o:HO} (h:l∈L):KeptL L H (upd H l o):=λ b u n e=>by rw [upd_ne (λ z=>n (by rw [z];exact h))];exact e
mutual
theorem IsDt.mono' {K:b0} {H H':Hp} (s :∀a xs,SqT K H a xs->SqT K H' a xs) :∀(d:Dt) (v:V),IsDt K H d v->IsDt K H' d v
 | .non,v,h=>h
 | .bl b,v,h=>h
 | .int i,v,h=>h
 | .str z,v,h=>h
 | .tup ds,v,h=>by obtain ⟨a,xs,rfl,e,r⟩:=h;exact ⟨a,xs,rfl,s _ _ e,IsDts.mono' s ds xs r⟩
theorem IsDts.mono' {K:b0} {H H':Hp} (s :∀a xs,SqT K H a xs->SqT K H' a xs) :∀(d:List Dt) (v:List V),IsDts K H d v->IsDts K H' d v
 | [],xs,h=>h
 | d :: ds,xs,h=>by obtain ⟨x,r,rfl,a,b⟩:=h;exact ⟨x,r,rfl,IsDt.mono' s d x a,IsDts.mono' s ds r b⟩
end
theorem SqT.wrote {K:b0} {H:Hp} {l a:Addr} {o:HO} {zs xs:List V} (e:H l=some (.lst zs)) (h:SqT K H a xs):SqT K (upd H l o) a xs:=by
 rcases h with (h|⟨ob,h⟩)|h
 ·exact .inl (.inl (by rw [upd_ne (ne_of h e (by intro z;cases z))];exact h))
 ·exact .inl (.inr ⟨ob,by rw [upd_ne (ne_of h e (by intro z;cases z))];exact h⟩)
 ·exact .inr h
section
variable {prog:Program} {w:y1} {A:A2} {E:Value->A0->Prop} {s:A0}
theorem zf2 {v:Value} {Q:Value->A0->Prop} {ns:List Int} (hn:ns.length < 64)
  (hc :∀R:List Value->A0->Prop,(∀h' tk vs,(∀b o,s.heap.get? b=some o->h'.get? b=some o)->v3 vs ns->R vs { s with heap:=h',toks:=tk })->Q0 (A1 prog w) A.in1 (collect v) R E s)
  (h :∀(h1 h':Heap) (tk:Nat) (out:Array Value) (ns':List Int) (e:Nat),(∀b o,s.heap.get? b=some o->h1.get? b=some o)->(∀b o,h1.get? b=some o->h'.get? b=some o)->h'.get? h1.objs.size=some { cls:=.type "list",data:=.seq out e }->v3 out.toList ns'->ns'.Perm ns->ns'.Pairwise (·<=·)->Q (.ref h1.objs.size) { s with heap:=h',toks:=tk }) :
  Q0 (A1 prog w) A (call (.builtin "sorted") [v]) Q E s:=by
 refine j1h kind_sorted plain_sorted entry_sorted (args_sorted1 _) ?_;unfold E5.«sorted»;refine c0 (m:=checkCount "sorted" 1 1 _) (C0 (c0 (hc _ λ h1 tk vs k1 i1=>?_)));have hl:vs.length < 64:=by rw [i1.length];exact hn
 refine c0 (wpAny_newList ?_ (G0 (T3 hl) (by decide)));have oL:(h1.push (seqObj "list" vs.toArray 0)).get? h1.objs.size=some (seqObj "list" vs.toArray 0):=S0 _ rfl;refine c0 (B2 (Y2 slot_list_sort ⟨_,oL,rfl⟩ entry_list_sort (list_sort_tree oL i1 hl λ out ns' a1 a2 a3=>⟨_,rfl,?_⟩) (args_list_sort _)));obtain ⟨e,he⟩:=sortedHeap_at (out:=out) oL;refine C0 ⟨_,rfl,h h1 _ tk out ns' e k1 (λ b o g1=>?_) he a1 a2 a3⟩;have lt:=P0 g1;refine (sortedHeap_old (Z0 lt) ?_).trans (B0 _ g1);rw [size_push'];exact N1 lt
end
theorem zhg :∀{ns:List Int} {us:List Value},us.length=ns.length->(∀(j:Nat) (u:Value),us[j]? = some u->∃(i:Int) (t:Tok),ns[j]? = some i/\u=E6 i t)->v3 us ns
 | [],us,hl,_=>by have:us=[]:=List.eq_nil_of_length_eq_zero hl;subst this;exact .nil
 | n :: ns,us,hl,h=>by
  cases us with
  | nil=>cases hl
  | cons u us=>obtain ⟨i,t,e,rfl⟩:=h 0 u rfl;have e:n=i:=U1 e;subst e;exact .cons n t (zhg (Nat.succ.inj hl) λ j v e=>h (j + 1) v (by simpa using e))
section
variable {X:Cx}
def srt (ns:List Int) (H:Hp) (Q:VK):Prop:=∀(l:Addr) (ns':List Int),H l=none->ns'.Perm ns->ns'.Pairwise (·<=·)->Q (.ref l) (upd H l (.lst (ns'.map V.int)))
theorem zfo {pins:List (Addr×Obj)} {σ:St} {H:Hp} {s:A0} {Q:VK} {ns:List Int} {h1 h':Heap} {tk:Nat} {out:Array Value} {ns':List Int} {e:Nat} (I:Inv X pins σ H s) (hn:ns.length < 64) (q:srt ns H Q)
  (k1 :∀b o,s.heap.get? b=some o->h1.get? b=some o) (k2 :∀b o,h1.get? b=some o->h'.get? b=some o) (g:h'.get? h1.objs.size=some { cls:=.type "list",data:=.seq out e }) (i:v3 out.toList ns') (p:ns'.Perm ns) (r:ns'.Pairwise (·<=·)) :
  EP X pins σ Q (.ref h1.objs.size) { s with heap:=h',toks:=tk }:=by
 have I1:Inv X pins σ H { s with heap:=h1 }:=I.kept (t':=s.toks) k1;refine ⟨.ref h1.objs.size,_,I1.laid (t':=tk) (o:=.lst (ns'.map V.int)) k2 (F0 _) ⟨?_,out.toList,e,z7v i,by simpa using g⟩,rfl,q _ ns' (I1.hok.fresh (F0 _)) p r⟩;rw [D0,p.length_eq];exact G0 (T3 hn) (by decide)
theorem z69:CallR X (.builtin "sorted") (λ xs H Q=>∃a ns,xs=[.ref a]/\(SqL X.K H a (ns.map V.int)\/SqT X.K H a (ns.map V.int))/\ns.length < 64/\srt ns H Q):=by
 intro pins s σ H xs us Q I r h;obtain ⟨a,ns,rfl,hq,hn,q⟩:=h;obtain ⟨u,rfl,rx⟩:=vals1 r;cases rx;refine zf2 hn (λ R hR=>?_) λ h1 h' tk out ns' e k1 k2 g i p r=>zfo I hn q k1 k2 g i p r;rcases hq with hq|hq
 ·obtain ⟨its,rv,pl,hz⟩:=I.list hq;obtain ⟨o,ho,hc,n,hd⟩:=pl.isList;exact wpAny_collect_seq a (.inl rfl) ho hc hd (λ h' k=>hR h' s.toks _ k (by simpa using z52 rv)) (by rw [O0,<-rv.length];exact hz)
 ·obtain ⟨its,rv,pl,hz⟩:=I.tuple hq;obtain ⟨o,ho,hc,n,hd⟩:=pl;exact wpAny_collect_seq a (.inr rfl) ho hc hd (λ h' k=>hR h' s.toks _ k (by simpa using z52 rv)) (by rw [O0,<-rv.length];exact hz)
theorem zah (hcalm:X.calm=true):CallR X (.builtin "sorted") (λ xs H Q=>∃a kvs ns,xs=[.ref a]/\H a=some (.dK kvs)/\kvs.map (·.1)=ns.map Sum.inl/\ns.length < 64/\srt ns H Q):=by
 intro pins s σ H xs us Q I r h;obtain ⟨a,kvs,ns,rfl,ha,hk,hn,q⟩:=h;obtain ⟨u,rfl,rx⟩:=vals1 r;cases rx;obtain ⟨hz,lo,vs,rv,dd⟩:=dk_of I.hok ha;obtain ⟨ep,da⟩:=dd.dictAt;refine zf2 hn (λ R hR=>?_) λ h1 h' tk out ns' e k1 k2 g i p r=>zfo I hn q k1 k2 g i p r;have keys:vs.map (·.1)=ns.map Sum.inl:=rv.keys.symm.trans hk;have lv:vs.length=ns.length:=by have:=congrArg S5 keys;simpa using this
 refine PySem.W.kdu_collect (PySem.W.kdl_dict lo) (show X.A.in1.handled=none from I.ok.hd hcalm) da (by rw [<-rv.length];exact hz) λ h' tk acc k it=>hR h' tk _ k (zhg (by rw [C2,it.1,lv]) λ j u e=>?_);obtain ⟨y,x,e1,e2⟩:=it.2 j u (by rw [<-j4];exact e);have e3:(vs.map (·.1))[j]? = some y:=by rw [V0,e1];rfl
 rw [keys,V0] at e3;cases en:ns[j]? with
 | none=>rw [en] at e3;cases e3
 | some i=>
  rw [en] at e3;have e3:Sum.inl i=y:=U1 e3;subst e3;rcases z0r (show keyIs (.inl i) u=true from e2) with ⟨i',t,z,rfl⟩|⟨_,_,z,_⟩
  ·cases z;exact ⟨i,t,rfl,rfl⟩
  ·cases z
end
theorem iteP {c A B:Prop} [Decidable c] (hc:c) (h:A):if c then A else B:=by rw [if_pos hc];exact h
theorem iteN {c A B:Prop} [Decidable c] (hc:¬ c) (h:B):if c then A else B:=by rw [if_neg hc];exact h
theorem z49 (i:Int) (ns:List Int):inV (.int i) (ns.map V.int)=decide (i∈ns):=by
 unfold inV;rw [j31,Bool.eq_iff_iff,j0e,decide_eq_true_eq];constructor
 ·rintro ⟨x,hx,e⟩;have e:(x == i)=true:=e;rw [beq_iff_eq] at e;exact e ▸ hx
 ·intro h;exact ⟨i,h,by show (i == i)=true;simp⟩
theorem z2v (ns:List Int):(ns.map V.int).all flatV=true:=by rw [Z6];intro x hx;obtain ⟨i,_,rfl⟩:=List.mem_map.mp hx;rfl
theorem z2i {names:List (Str×j6)} {n:Str} {Q:Str×j6->Prop} (h:(names.all λ y=>y.2 != Y1 || y.1 == n)=true) (q :∀k,Q (n,k)) :∀y∈names,y.2=Y1->Q y:=λ y hy e=>by
 have:=List.all_eq_true.mp h y hy;rw [e] at this;have:(y.1 == n)=true:=by simpa using this
 obtain ⟨a,b⟩:=y;rw [beq_iff_eq] at this;have:a=n:=this;subst this;exact q b
noncomputable def CXE (P:Program) (w:y1) (base:Heap):CXT:=λ outer H s E e s'=>∃(ea:Addr) (cls a0:Value) (B:Heap) (H':Hp),e=.ref ea/\s'.os=s.os/\C8 s'.gens/\Un (frs outer) [] H H' s.heap s'.heap/\HOk P w H' s'.heap/\H' ea=none/\
 base.StaysIn B/\Heap.FlyingW B outer ea cls a0 s'.heap/\(∀b o,s'.heap.get? b=some o->b∉frs outer->((∃u,H' b=some u)\/∃u,s.heap.get? b=some u)->B.get? b=some o)/\E cls none H'
structure CalE (P:Program) (w:y1) (K:b0) (mg:Str->Option Value) (base:Heap) (x:Str) (ps:List Str) (k:Nat) (sp:Sp):Prop where
 ex :∃f fd,FnOk P w K mg base (CXE P w base) k f fd ps sp/\mg x=some (.ref f)/\K3 K (.ref f)=true/\Binds K fd ps []
end L2
set_option maxHeartbeats 400000
namespace L2
open PySem PySem.Spec PyProof.Rows PySem.W PySem.Calls PySem.Builtin PySem.Builtin.ObjectAttr PySem.Builtin.Getset_descriptor
end L2
namespace L2
open PySem PySem.Spec PyProof.Rows PySem.W
end L2
namespace L2
open PySem PySem.Spec PyProof.Rows
end L2
set_option maxHeartbeats 4000000
namespace L2
open PySem PySem.Spec PyProof.Rows
noncomputable def cStG (σ:St) (fr:List (Nat×Str)) (us:List (Option V)):St:=us++fr.map λ p=>(σ[p.1]?).join
noncomputable def tCompG (wi:TI) (n:Nat) (fr:List (Nat×Str)) (g:TG) (tc:TT) (te:TE):TE:=λ σ H Q=>wi σ H λ J H1=>∃W:Nat->Nat->List V->Hp->Prop,(∃m,W 0 m [] H1)/\∀i m ys H,W i m ys H->
 (J.stop i H/\ys.length<=sizeLine/\∀p,H p=none->Q (.ref p) (upd H p (.lst ys)))\/
 (J.go i H/\ys.length<=sizeLine/\∀v H',J.yld i H v H'->g v (cStG σ fr (J2 n none)) H' λ σ6 H6=>∃us,us.length=n/\σ6=cStG σ fr us/\tc (cStG σ fr us) H6 λ b H2=>if b=true then te (cStG σ fr us) H2 λ y H3=>∃m',m' < m/\W (i + 1) m' (ys++[y]) H3 else∃m',m' < m/\W (i + 1) m' ys H2)
section
variable {X:Cx}
theorem z0j {scope:Scope} {cl:List (Str×Addr)} {N:List Str} {C:Addr} {s₂:A0} {H₂:Hp} {fp:List Addr} {x:Str} {px:Pos} (i:Nat) (hN:N.Nodup) (hi:N[i]? = some x) (hx:scope.names.lookup x=some .local):PG (cxComp X scope cl N C s₂ H₂ fp) (.Name x px) (gName i):=
 z0l hN hi (.inl (lookup_relabel_local hx)) (.inr (lookup_relabel_local hx))
theorem ze7 {xs:List Str} {tg:Expr} {g:TG} {pos:Pos} {elt iter:Expr} {ifs:List Expr} {scope:Scope} {fr:List (Nat×Str)} {wi:TI} {tc:TT} {te:TE} {use:Option (Value->Sem Unit)} {QQ:Value->A0->Prop} {pins:List (Addr×Obj)} {s:A0} {σ:St} {H:Hp} {Q:VK} {pp:Pos} (hcalm:X.calm=true) (hi:PI X tg iter wi)
  (hfr :∀p∈fr,X.N[p.1]? = some p.2/\(X.env.kindOf p.2=some .cell\/X.env.kindOf p.2=some .free))
  (hfree :∀y∈scope.names,y.2=Y1->X.env.kindOf y.1=some .cell\/X.env.kindOf y.1=some .free)
  (hfs :∀p∈fr,(p.2,Y1)∈scope.names/\((j03 scope X.env).names.lookup p.2=some .cell\/(j03 scope X.env).names.lookup p.2=some .free))
  (hcell :∀y∈scope.names,y.2≠U8) (hkind:scope.kind=.function) (hnames :∀y∈scope.names,y.2=NameKind.local->scope.names.lookup y.1=some .local)
  (hg :∀cl C s₂ H₂ fp,PG (cxComp X scope cl (xs++fr.map (·.2)) C s₂ H₂ fp) tg g)
  (ht :∀cl C s₂ H₂ fp,PF (cxComp X scope cl (xs++fr.map (·.2)) C s₂ H₂ fp) ifs tc) (he :∀cl C s₂ H₂ fp,PE (cxComp X scope cl (xs++fr.map (·.2)) C s₂ H₂ fp) elt te)
  (hs :∀x,B8 iter X.env x=J3 x) (I:Inv X pins σ H s) (h:tCompG wi xs.length fr g tc te σ H Q)
  (hend :∀(D:Addr) (s4:A0) (H4:Hp),Inv X pins σ H4 s4->(∃m,s4.heap.Ns (D + 1) m)->H4 (D + 1)=none->D + 1≠X.env.locals->X.s₀.heap.objs.size<=D + 1->(D + 1∉X.fs/\(∀x c,X.env.cells.lookup x=some c->c≠D + 1)/\∀p∈X.pn++pins,p.1≠D + 1)->Q (.ref D) H4->compPost (A1 X.prog X.w) X.A X.xe use QQ (.ref D) (D + 1) (.ok .next) s4) :
  Q0 (A1 X.prog X.w) X.A (comprehension (.ListComp elt [⟨tg,iter,ifs,0⟩] scope pos) scope X.env pp (newList []) false (firstIter [⟨tg,iter,ifs,0⟩] X.env) use) QQ X.xe s:=by
 obtain ⟨cl,hcl,hc1,hc2⟩:=zes (scope:=scope) (env:=X.env) λ y hy hk=>I.ok.has y.1 (hfree y hy hk);refine wpAny_comprehension_free (use:=use) rfl hs hcl hkind hnames (thn (hi pins s σ H _ I h) λ xv s₁ h₁=>thn h₁ λ itv s₂ h₂=>?_);obtain ⟨it,fp,tn,J,H2,e,I2,T,st2,f2,W,⟨m0,w0⟩,turn⟩:=h₂;subst e
 -- the list that is filled,the block's names
 refine E2 (wpAny_newFunctionEnv hcell (by intro y hy;simp at hy) (λ h₁ hns₁ hsb₁=>?_) hkind);dsimp only at hns₁ hsb₁⊢;generalize hD:s₂.heap.objs.size=D at hns₁ hsb₁⊢;generalize hG:s₂.heap.push { cls:=.type "list",dict:=none,data:=.seq ([]:List Value).toArray }=G at hns₁ hsb₁⊢;have hC:G.objs.size=D + 1:=by rw [<-hG,W3,hD]
 generalize hCC:G.objs.size=C at hns₁ hsb₁ hC⊢;subst hC;have fpD :∀b∈fp,b < D:=λ b hb=>by obtain ⟨o,e,_⟩:=T.obj _ _ st2 b hb;rw [<-hD];exact P0 e
 have old :∀b o,s₂.heap.get? b=some o->h₁.get? b=some o:=λ b o e=>hsb₁.extBut b o (Z0 (N1 (by rw [<-hD];exact P0 e))) (B0 _ (hG ▸ B0 _ e));have hGD:G.get? D=some { cls:=.type "list",dict:=none,data:=.seq ([]:List Value).toArray }:=by rw [<-hG,<-hD];exact S0 _ rfl
 have hacc:h₁.PlainList D #[]:=⟨0,hsb₁.extBut _ _ (Z0 (K2 D)) (B0 _ hGD)⟩
 have clD :∀y c,cl.lookup y=some c->c < D:=λ y c e=>by obtain ⟨v,q⟩:=I2.cell y c (hc1 y c e);rw [<-hD];exact q.lt
 have stkD :∀b∈frs X.stack,b < D:=λ b hb=>by
  rcases List.mem_cons.mp (I2.stkSub b hb) with e|hb
  ·rw [e,<-hD];exact I2.lt
  ·rw [<-hD];exact Nat.lt_of_not_le λ z=>I2.nofs z hb
 have fpS :∀b∈fp,b∉frs X.stack:=λ b hb hb'=>by
  rcases List.mem_cons.mp (I2.stkSub b hb') with e|z
  ·exact (f2 b hb).2.1 e
  ·exact (f2 b hb).2.2.1 z
 generalize hX':cxComp X scope cl (xs++fr.map (·.2)) (D + 1) s₂ H2 fp=X';have ok':X'.Ok:=by
  subst hX';refine ⟨I2.ok.mod,hkind,I2.ok.glob,I2.ok.blt,(by show s₂.heap.objs.size<=D + 1;omega),λ y z c e1 e2=>I2.ok.inj y z c (hc1 _ _ e1) (hc1 _ _ e2),λ y hy=>?_,(λ _ _ z=>Bool.noConfusion z),I2.ok.hd,I2.ok.frames,.inl rfl,λ b hb=>⟨?_,λ y c e=>?_⟩,λ b o e=>I2.bs b o e,?_,λ b o e hb=>?_,fpS,I2.env0.funs,I2.stkFree⟩
  ·rcases hy with hy|hy
   ·exact hc2 y (z65 hcell hy (.inl rfl))
   ·exact hc2 y (z65 hcell hy (.inr rfl))
  ·exact Z0 (N1 (fpD b hb))
  ·exact (f2 b hb).2.2.2.2.1 y c (hc1 y c e)
  ·exact G0 I2.ok.bsz I2.sz
  ·rcases (f2 b hb).2.2.2.1 with z|z
   ·exact I2.ok.noex b o e z
   ·exact absurd (J1 (P0 (I2.ok.bs b o e).1) z) (N3 _)
 have hL':X'.env.locals=D + 1:=by subst hX';rfl
 have hcells':X'.env.cells=cl:=by subst hX';rfl
 have hfs':X'.fs=frs X.stack:=by subst hX';rfl
 have hpn':X'.pn=[]:=by subst hX';rfl
 have hs0':X'.s₀=s₂:=by subst hX';rfl
 have hH0':X'.H₀=H2:=by subst hX';rfl
 have hex':X'.ex=fp:=by subst hX';rfl
 have hN':X'.N=xs++fr.map (·.2):=by subst hX';rfl
 have hA':X'.A=X.A:=by subst hX';rfl
 have hPr:X'.prog=X.prog/\X'.w=X.w/\X'.K=X.K/\X'.calm=true:=by subst hX';exact ⟨rfl,rfl,rfl,hcalm⟩
 have hxe':X'.xe=λ _ _=>False:=by subst hX';rfl
 have henv':X'.env=compEnvC scope cl (D + 1) X.env:=by subst hX';rfl
 have ht':PF X' ifs tc:=hX' ▸ ht cl (D + 1) s₂ H2 fp;have he':PE X' elt te:=hX' ▸ he cl (D + 1) s₂ H2 fp;have hg':PG X' tg g:=hX' ▸ hg cl (D + 1) s₂ H2 fp;have fresh :∀b,D<=b->H2 b=none:=λ b hb=>I2.hok.fresh (by rw [hD];exact hb);have start :∀t,Inv X' [] (cStG σ fr (J2 xs.length none)) H2 { s₂ with heap:=h₁,toks:=t }:=λ t=>by
  refine ⟨ok',by rw [hs0'],I2.bare,?_,⟨_,by rw [hL'];exact hns₁,λ i y v e1 e2 e3=>?_⟩,λ y c e=>?_,by rw [hL'];exact fresh _ (F2 _),λ y c e=>?_,λ p hp=>?_,?_,?_⟩
  ·rw [hfs',hex',hH0',hs0'];exact Un.kept old
  ·rw [hN'] at e1;by_cases hin:i < xs.length
   ·exfalso;unfold cStG at e2;rw [u3 (by rw [Q3];exact hin),d8,if_pos hin] at e2;cases e2
   ·have hin:xs.length<=i:=c7 hin;rw [c3 hin,V0] at e1;unfold cStG at e2;rw [c3 (by rw [Q3];exact hin),Q3,V0] at e2;generalize i - xs.length=i at e1 e2;cases ej:fr[i]? with
    | none=>rw [ej] at e1;cases e1
    | some p=>
     rw [ej] at e1;obtain rfl:p.2=y:=U1 e1;have e2':(σ[p.1]?).join=some v:=by rw [ej] at e2;exact U1 e2
     have e2'':σ[p.1]? = some (some v):=by
      cases q:σ[p.1]? with
      | none=>rw [q] at e2';cases e2'
      | some z=>rw [q] at e2';exact congrArg some e2'
     have hp:=R0 ej;obtain ⟨m,hn,hl⟩:=I2.loc;obtain ⟨u,r,l⟩:=hl p.1 p.2 v (hfr p hp).1 e2'' (by rcases (hfr p hp).2 with z|z;exact .inr (.inl z);exact .inr (.inr z));refine ⟨u,r,.inr ⟨?_,?_⟩⟩
     ·rw [henv'];exact (hfs p hp).2
     ·rcases l with ⟨z,_⟩|⟨_,c,ec,q⟩
      ·exfalso;rcases (hfr p hp).2 with z'|z'<;>(rw [z] at z';cases z')
      ·obtain ⟨c',ec'⟩:=hc2 p.2 (hfs p hp).1;have:=hc1 _ _ ec';rw [ec] at this;cases this;obtain ⟨o,ho,hd⟩:=q;exact ⟨c,by rw [hcells'];exact ec',o,old _ _ ho,hd⟩
  ·rw [hcells'] at e;obtain ⟨v,o,ho,hd⟩:=I2.cell y c (hc1 y c e);exact ⟨v,o,old _ _ ho,hd⟩
  ·rw [hcells'] at e;exact I2.freeC y c (hc1 y c e)
  ·rw [hpn'] at hp;exact nomatch hp
  ·rw [hPr.1,hPr.2.1];exact I2.hok.kept old
  ·rw [hN'];unfold cStG;simp
 have FP :∀{pins':List (Addr×Obj)} {H':Hp},(∀b∈fp,H' b=none)->(∀p∈pins',p.1=D)->∀b∈fp,FpOk X' pins' H' b:=λ hn hp b hb=>by
  refine ⟨hn b hb,?_,?_,.inl (by rw [hex'];exact hb),λ y c e=>?_,λ p hp'=>?_⟩
  ·rw [hL'];exact Z0 (N1 (fpD b hb))
  ·rw [hfs'];exact fpS b hb
  ·rw [hcells'] at e;exact (f2 b hb).2.2.2.2.1 y c (hc1 y c e)
  ·rw [hpn'] at hp';rw [hp p hp'];exact E3 (fpD b hb)
 -- the turns
 have loop :∀s₃:A0,s₃={ s₂ with heap:=h₁,toks:=s₂.toks + ([]:List (Str×Value)).length }->
   z6 (A1 X.prog X.w) X.A (.compLoop (.ListComp elt [⟨tg,iter,ifs,0⟩] scope pos) 0 (.ref it) (.ref D) (compEnvC scope cl (D + 1) X.env))
    (compPost (A1 X.prog X.w) X.A X.xe use QQ (.ref D) (D + 1)) s₃:=by
  rintro s₃ rfl;rw [<-henv',<-hPr.1,<-hPr.2.1,<-hA'];refine zgb (λ k s'=>∃i ys its H',Inv X' [] (cStG σ fr (J2 xs.length none)) H' s'/\tn i s'.heap/\(∀b∈fp,H' b=none)/\s'.heap.PlainList D its.toArray/\Vals ys its/\H' D=none/\W i k ys H') ?_ m0
   ⟨0,[],[],H2,start _,T.keep _ _ _ st2 λ b hb o e=>old b o e,λ b hb=>(f2 b hb).1,hacc,.nil,fresh _ (F0 _),w0⟩
  rintro n s3 ⟨i,ys,its,H3,I3,st3,fr3,ac3,rv3,hD3,w3⟩;obtain ⟨na,ac3'⟩:=id ac3;have I3':Inv X' [(D,{ cls:=.type "list",data:=.seq its.toArray na })] (cStG σ fr (J2 xs.length none)) H3 s3:=I3.pins_of λ p hp=>by rw [List.mem_singleton] at hp;subst hp;refine ⟨ac3',hD3,by rw [hL'];exact Z0 (K2 D),by rw [hfs'];exact λ z=>N3 _ (stkD D z),λ v z=>nomatch z⟩
  have hT:=T;rw [<-hPr.1,<-hPr.2.1,<-hPr.2.2.1] at hT;rcases turn i n ys H3 w3 with ⟨stop,hlen,qn⟩|⟨go,hlen,step⟩
  ·refine thn (hT.done X' rfl rfl rfl hPr.2.2.2 i _ s3 _ H3 _ I3' (FP fr3 (by intro p hp;rw [List.mem_singleton.mp hp])) st3 stop) λ r s4 ⟨hr,I4⟩=>?_;subst hr;obtain ⟨m4,hn4,_⟩:=id I4.loc;obtain ⟨h',hh'⟩ :∃h',h'=s4.heap:=⟨_,rfl⟩
   have hs':c6 (D + 1) s4.heap h':=by rw [hh'];exact ⟨rfl,λ _ _=>rfl⟩
   have hneD:D≠D + 1:=Z0 (K2 D);have ac4:=(I4.pin (D,_) (D1 _ B1))
   have ac5:h'.get? D=some { cls:=.type "list",data:=.seq its.toArray na }:=(hs'.2 D hneD).trans ac4.1;have un:Un (frs X.stack) fp H2 H3 s₂.heap s4.heap:=by have:=I4.base;rw [hfs',hex',hH0',hs0'] at this;exact this
   have kp :∀b o,b≠D + 1->s4.heap.get? b=some o->h'.get? b=some o:=λ b o hb e=>(hs'.2 b hb).trans e;have neC :∀b o,s₂.heap.get? b=some o->b≠D + 1/\b≠D:=λ b o e=>by have:=P0 e;rw [hD] at this;exact ⟨Z0 (N1 this),Z0 this⟩
   have un':Un (frs X.stack) fp H2 (upd H3 D (.lst ys)) s₂.heap h':=by
    refine ⟨λ b o e n hb hx=>kp b o (neC b o e).1 (un.keep b o e n hb hx),λ b o e n hb hx=>?_,λ b o e n hx=>by rw [upd_ne (neC b o e).2];exact un.free b o e n hx,λ b o e hx=>?_,λ b xs e=>?_,λ b o u e=>?_,λ b ps e=>?_⟩
    ·obtain ⟨sl,z⟩:=un.slot b o e n hb hx;exact ⟨sl,kp _ _ (neC b o e).1 z⟩
    ·obtain ⟨o',z⟩:=un.there b o e hx;exact ⟨o',kp _ _ (neC b o e).1 z⟩
    ·rw [upd_ne (z0b e (fresh D (F0 _)))];exact un.tups b xs e
    ·rw [upd_ne (z0b e (fresh D (F0 _)))];exact un.frzs b o u e
    ·rw [upd_ne (z0b e (fresh D (F0 _)))];exact un.tbls b ps e
   have hfreeC:H3 (D + 1)=none:=by have:=I4.free;rw [hL'] at this;exact this
   have hok':HOk X.prog X.w (upd H3 D (.lst ys)) h':=λ b u e=>by
    by_cases hb:b=D
    ·subst hb;rw [upd_same] at e;cases e;exact ⟨hlen,its,na,rv3,ac5⟩
    ·rw [upd_ne hb] at e;have z:=I4.hok b u e;rw [hPr.1,hPr.2.1] at z;refine z.stay (λ c v hc q=>kp c v ?_ q) (λ c q=>by rw [upd_ne (z0b q hD3)];exact q) λ c xs q=>by rw [upd_ne (z0b q hD3)];exact q
     rintro rfl;rcases hc with rfl|hc
     ·rw [hfreeC] at e;cases e
     ·rw [hfreeC] at hc;cases hc
   subst hh';have I5:Inv X pins σ (upd H3 D (.lst ys)) s4:=I2.call' (s':=s4) (ch:=fp) (by have:=I4.os;rw [hs0'] at this;exact this) un' hok' I4.bare (λ b hb=>⟨(f2 b hb).2.2.2.1,(f2 b hb).2.1,(f2 b hb).2.2.2.2.1,(f2 b hb).2.2.2.2.2⟩);show compPost (A1 X'.prog X'.w) X'.A X.xe use QQ (.ref D) (D + 1) (.ok .next) s4;rw [hPr.1,hPr.2.1,hA'];refine hend D s4 _ I5 ⟨m4,hL' ▸ hn4⟩ ?_ ?_ ?_ ?_ (qn D hD3)
   ·rw [upd_ne (E3 (K2 D))];exact hfreeC
   ·exact E3 (N1 (by rw [<-hD];exact I2.lt))
   ·exact G0 I2.sz (by rw [hD];exact F2 D)
   ·refine ⟨λ z=>I2.nofs (by rw [hD];exact F2 D) z,λ y c e=>?_,λ p hp=>?_⟩
    ·obtain ⟨v,q⟩:=I2.cell y c e;exact Z0 (N1 (by rw [<-hD];exact q.lt))
    ·exact Z0 (N1 (by rw [<-hD];exact P0 (I2.pin p hp).1))
  ·refine thn (hT.item X' rfl rfl rfl hPr.2.2.2 i _ s3 _ H3 _ I3' (FP fr3 (by intro p hp;rw [List.mem_singleton.mp hp])) st3 go) λ r s4 ⟨u,hr,h4⟩=>?_;subst hr;refine thn h4 λ _ s5 ⟨v,H5,I5,r5,y5,st5,fr5⟩=>?_;have I5':=I5.pinned (FP fr5 (by intro p hp;rw [List.mem_singleton.mp hp])) (T.obj _ _ st5);have g5:=hg' _ s5 (cStG σ fr (J2 xs.length none)) H5 v u _ I5' r5 (step v H5 y5);rw [hxe'] at g5;refine thn g5 λ _ s6 ⟨σ6,H6,I6,us,hus,e6,q6⟩=>?_;subst e6;have t6:=ht' _ s6 _ H6 _ I6 q6;rw [hxe'] at t6;refine thn t6 λ ok s7 ⟨H7,I7,q7⟩=>?_;have back :∀{H8:Hp} {s8:A0} {ys':List V} {its':List Value} {pl:List (Addr×Obj)},Inv X' (pl++pinsAt fp s5.heap) (cStG σ fr us) H8 s8->s8.heap.PlainList D its'.toArray->Vals ys' its'->H8 D=none->(∃m',m' < n/\W (i + 1) m' ys' H8)->
     ∃m,m < n/\∃i ys its H',Inv X' [] (cStG σ fr (J2 xs.length none)) H' s8/\tn i s8.heap/\(∀b∈fp,H' b=none)/\s8.heap.PlainList D its.toArray/\Vals ys its/\H' D=none/\W i m ys H':=λ {H8 s8 ys' its' pl} I8 ac8 rv8 hD8 ⟨m',hm,w8⟩=>by
    refine ⟨m',hm,i + 1,ys',its',H8,(I8.pins_of (pins':=[]) (λ p hp=>absurd hp o0)).weak (by unfold cStG;simp [hus]) ?_,T.keep _ _ _ st5 λ b hb o e=>(I8.pin (b,o) (D1 _ (D1 _ (z3m hb e)))).1,λ b hb=>?_,ac8,rv8,hD8,w8⟩
    ·intro j z e;unfold cStG at e⊢;by_cases hj:j < xs.length
     ·rw [u3 (by rw [Q3];exact hj),d8,if_pos hj] at e;cases e
     ·have hj:xs.length<=j:=c7 hj;rw [c3 (by rw [Q3];exact hj),Q3] at e;rw [c3 (by rw [hus];exact hj),hus];exact e
    ·obtain ⟨o,e,d⟩:=T.obj _ _ st5 b hb;exact (I8.pin (b,o) (D1 _ (D1 _ (z3m hb e)))).2.1
   have accOf :∀{H8:Hp} {s8:A0} {σ8:St},Inv X' ([(D,{ cls:=.type "list",data:=.seq its.toArray na })]++pinsAt fp s5.heap) σ8 H8 s8->s8.heap.PlainList D its.toArray/\H8 D=none:=λ I8=>
    have z:=I8.pin (D,_) (D1 _ (P5 _ B1))
    ⟨⟨na,z.1⟩,z.2.1⟩
   cases ok with
   | false=>rw [if_neg U0] at q7⊢;exact back I7 (accOf I7).1 rv3 (accOf I7).2 q7
   | true=>
    rw [if_pos rfl] at q7⊢;have t7:=he' _ s7 _ H7 _ I7 q7;rw [hxe'] at t7;refine thn t7 λ y s8 ⟨vy,H8,I8,r8,q8⟩=>?_;obtain ⟨ac8,hD8⟩:=accOf I8;refine wpAny_list_append_plain (hsz:=by have:=rv3.length;rw [O0,<-this];exact hlen) ac8 λ h9 ac9 hs9=>?_;have I9:Inv X' ([]++pinsAt fp s5.heap) (cStG σ fr us) H8 s8:=I8.pins_of λ p hp=>(I8.pin p (D1 _ (D1 _ hp)))
    have I10:Inv X' ([]++pinsAt fp s5.heap) (cStG σ fr us) H8 { s8 with heap:=h9 }:=by
     refine I9.turned (t':=s8.toks) (it:=D) (λ b o hb e=>(hs9.2 b hb).trans e) hD8 (by rw [hL'];exact Z0 (K2 D)) (.inr (by rw [hs0',hD];exact F0 _)) (λ y' c e=>?_) λ p hp=>?_
     ·rw [hcells'] at e;exact Z0 (clD y' c e)
     ·rw [hpn'] at hp;exact Z0 (fpD _ (zbm hp).1)
    have e9:its.toArray.push y=(its++[y]).toArray:=by simp
    rw [e9] at ac9;exact back I10 ac9 (rv3.snoc r8) hD8 q8
 exact codeAny_compStart_list (loop _ rfl) (T.self _ 0 _ _ _ (T.keep _ _ _ st2 λ b hb o e=>old b o e) (loop _ rfl))
theorem z0s {xs:List Str} {tg:Expr} {g:TG} {pos:Pos} {elt iter:Expr} {ifs:List Expr} {scope:Scope} {fr:List (Nat×Str)} {wi:TI} {tc:TT} {te:TE} (hcalm:X.calm=true) (hi:PI X tg iter wi)
  (hfr :∀p∈fr,X.N[p.1]? = some p.2/\(X.env.kindOf p.2=some .cell\/X.env.kindOf p.2=some .free))
  (hfree :∀y∈scope.names,y.2=Y1->X.env.kindOf y.1=some .cell\/X.env.kindOf y.1=some .free)
  (hfs :∀p∈fr,(p.2,Y1)∈scope.names/\((j03 scope X.env).names.lookup p.2=some .cell\/(j03 scope X.env).names.lookup p.2=some .free))
  (hcell :∀y∈scope.names,y.2≠U8) (hkind:scope.kind=.function) (hnames :∀y∈scope.names,y.2=NameKind.local->scope.names.lookup y.1=some .local)
  (hg :∀cl C s₂ H₂ fp,PG (cxComp X scope cl (xs++fr.map (·.2)) C s₂ H₂ fp) tg g)
  (ht :∀cl C s₂ H₂ fp,PF (cxComp X scope cl (xs++fr.map (·.2)) C s₂ H₂ fp) ifs tc) (he :∀cl C s₂ H₂ fp,PE (cxComp X scope cl (xs++fr.map (·.2)) C s₂ H₂ fp) elt te)
  (hs :∀x,B8 iter X.env x=J3 x:=by intro _;rfl):PE X (.ListComp elt [⟨tg,iter,ifs,0⟩] scope pos) (tCompG wi xs.length fr g tc te):=by
 intro pins s σ H Q I h;rw [eval_ListComp];refine ze7 hcalm hi hfr hfree hfs hcell hkind hnames hg ht he hs I h λ D s4 H4 I4 hn hf hl hz ⟨hb,hc,hp⟩ q=>?_;obtain ⟨m,hn⟩:=hn;exact ⟨m,hn,λ h' hs'=>⟨.ref D,H4,I4.turned (t':=s4.toks) (it:=D + 1) (λ b o hb e=>(hs'.2 b hb).trans e) hf hl (.inr hz) hc hp,rfl,q⟩⟩
theorem zhr {xs:List Str} {tg:Expr} {g:TG} {pos:Pos} {elt iter:Expr} {ifs:List Expr} {scope:Scope} {fr:List (Nat×Str)} {wi:TI} {tc:TT} {te:TE} {i:Nat} {y:Str} {py spos:Pos} (hNy:X.N.Nodup) (hiy:X.N[i]? = some y) (hy:Loc X.env.scope y) (hcalm:X.calm=true) (hi:PI X tg iter wi)
  (hfr :∀p∈fr,X.N[p.1]? = some p.2/\(X.env.kindOf p.2=some .cell\/X.env.kindOf p.2=some .free))
  (hfree :∀y∈scope.names,y.2=Y1->X.env.kindOf y.1=some .cell\/X.env.kindOf y.1=some .free)
  (hfs :∀p∈fr,(p.2,Y1)∈scope.names/\((j03 scope X.env).names.lookup p.2=some .cell\/(j03 scope X.env).names.lookup p.2=some .free))
  (hcell :∀y∈scope.names,y.2≠U8) (hkind:scope.kind=.function) (hnames :∀y∈scope.names,y.2=NameKind.local->scope.names.lookup y.1=some .local)
  (hg :∀cl C s₂ H₂ fp,PG (cxComp X scope cl (xs++fr.map (·.2)) C s₂ H₂ fp) tg g)
  (ht :∀cl C s₂ H₂ fp,PF (cxComp X scope cl (xs++fr.map (·.2)) C s₂ H₂ fp) ifs tc) (he :∀cl C s₂ H₂ fp,PE (cxComp X scope cl (xs++fr.map (·.2)) C s₂ H₂ fp) elt te)
  (hs :∀x,B8 iter X.env x=J3 x:=by intro _;rfl) (hw:S8 (.ListComp elt [⟨tg,iter,ifs,0⟩] scope pos) (some (.Name y py)) spos.line X.env=J3 true:=by rfl) (hf:X.fn y=true\/X.env.scope.names.lookup y=some .local:=by first|exact .inl rfl|exact .inr rfl|assumption) :
  PS X (.Assign [.Name y py] (.ListComp elt [⟨tg,iter,ifs,0⟩] scope pos) spos) (tAsg (tCompG wi xs.length fr g tc te) (gName i)):=by
 intro pins s σ H D I h;rw [exec_Assign_Name_used y py _ spos hw];refine c0 (wpAny_standAt (c0 ?_));show Q0 _ _ (do let _ <-comprehension (.ListComp elt [⟨tg,iter,ifs,0⟩] scope pos) scope X.env (firstIterPos [⟨tg,iter,ifs,0⟩] pos) (newList []) (firstAsync [⟨tg,iter,ifs,0⟩]) (firstIter [⟨tg,iter,ifs,0⟩] X.env) (some (assign (.Name y py) X.env));J3 ()) _ _ _;refine c0 (ze7 hcalm hi hfr hfree hfs hcell hkind hnames hg ht he hs I h λ A s4 H4 I4 hn hz hl hsz ⟨hb,hc,hp⟩ q=>?_);obtain ⟨m,hn⟩:=hn;obtain ⟨o,es,ep,ho,hd,hk,hm⟩:=hn;have I5:Inv X ((A + 1,o) :: pins) σ H4 s4:=I4.pins_of λ p hp'=>by
  rcases List.mem_cons.mp hp' with rfl|hp'
  ·exact ⟨ho,hz,hl,hb,λ v z=>by rw [hd] at z;cases z⟩
  ·exact I4.pin p (D1 _ hp')
 refine thn (z0l (pos:=py) hNy hiy hy hf _ s4 σ H4 (.ref A) (.ref A) D.nx I5 rfl q) λ _ s5 ⟨σ5,H5,I6,q6⟩=>?_;have po:=I6.pin (A + 1,o) (D1 _ B1);have I7:Inv X pins σ5 H5 s5:=I6.pins_of λ p hp'=>I6.pin p (D1 _ (G1 _ hp'));refine ⟨m,⟨o,es,ep,po.1,hd,hk,hm⟩,λ h' hs'=>?_⟩;exact C0 (C0 ⟨σ5,H5,I7.turned (t':=s5.toks) (it:=A + 1) (λ b o hb e=>(hs'.2 b hb).trans e) po.2.1 hl (.inr hsz) hc hp,q6⟩)
end
end L2
set_option maxHeartbeats 400000
namespace L2
open PySem PySem.Spec PyProof.Rows
theorem z1t {t rest:TS} {D:Ends} {σ:St} {H:Hp} (R:St->Hp->Prop) (hr :∀σ1 H1,R σ1 H1->rest D σ1 H1) (h:(∀σ1 H1,R σ1 H1->rest D σ1 H1)->t { D with nx:=rest D } σ H):tSeq t rest D σ H:=h hr
theorem z1b {te:TE} {g:TG} {rest:TS} {D:Ends} {σ:St} {H:Hp} (h:te σ H λ x H1=>g x σ H1 (rest D)):tSeq (tAsg te g) rest D σ H:=h
structure Runs (J:It) (H1:Hp) (n:Nat) (Item:Nat->V->Hp->Prop):Prop where
 go :∀i,i < n->∀H,Same H1 H->J.go i H
 stop :∀H,Same H1 H->J.stop n H
 item :∀i,i < n->∀H v H',Same H1 H->J.yld i H v H'->Same H H'/\Item i v H'
theorem z22 (p:Nat->Bool) (n:Nat):(W1 (n + 1)).filter p=(W1 n).filter p++(if p n=true then [n] else []):=by rw [K8,List.filter_append,O4];cases p n<;>rfl
inductive All2 {α β:Type} (R:α->β->Prop):List α->List β->Prop
 | nil:All2 R [] []
 | cons {a:α} {b:β} {xs:List α} {ys:List β}:R a b->All2 R xs ys->All2 R (a :: xs) (b :: ys)
theorem z5j {α β:Type} {R:α->β->Prop} :∀{xs:List α} {ys:List β} {x:α} {y:β},All2 R xs ys->R x y->All2 R (xs++[x]) (ys++[y])
 | [],_,x,y,.nil,h=>.cons h .nil
 | _ :: _,_,x,y,.cons a r,h=>.cons a (z5j r h)
theorem z01 {α β:Type} {R S:α->β->Prop} (h :∀a b,R a b->S a b) :∀{xs:List α} {ys:List β},All2 R xs ys->All2 S xs ys
 | [],_,.nil=>.nil
 | _ :: _,_,.cons a r=>.cons (h _ _ a) (z01 h r)
theorem z03 {α β:Type} {R:α->β->Prop} :∀{xs:List α} {ys:List β},All2 R xs ys->ys.length=xs.length
 | [],_,.nil=>rfl
 | _ :: _,_,.cons _ r=>congrArg (· + 1) (z03 r)
theorem z6s {α β:Type} {f:α->β} :∀{xs:List α} {ys:List β},All2 (λ x y=>y=f x) xs ys->ys=xs.map f
 | [],_,.nil=>rfl
 | _ :: _,_,.cons a r=>by rw [v1,z6s r,a]
theorem z6w (ns:List Int) :∀j,j<=ns.length->preSum (λ i=>ns[i]?.getD 0) j=(ns.take j).sum
 | 0,_=>by rw [X8];rfl
 | j + 1,h=>by show preSum (λ i=>ns[i]?.getD 0) j + ns[j]?.getD 0=_;rw [z6w ns j (Nat.le_of_succ_le h),List.take_succ_eq_append_getElem h,List.sum_append,J0 h];simp
section
variable {X:Cx}
noncomputable def rSetD:TSet:=λ x y v H Q=>∃a H',x=.ref a/\DPut H a y v H'/\Q H'
theorem zba (hu:X.A.units + 1 < cLine):PSet X rSetD:=by intro pins s σ H o i v ov iv u Q I ro ri rv h;obtain ⟨a,H',rfl,g,q⟩:=h;obtain rfl:ov=E1 a:=ro;exact zc0 hu I g ri rv λ s4 I4=>⟨H',I4,q⟩
end
structure QE (X:Cx) (e:Expr) (t:TE):Prop where
 run:PE X e t
structure QA (X:Cx) (es:List Expr) (t:TA):Prop where
 run:PA X es t
structure QPs (X:Cx) (pos:Pos) (ks:List (Option Expr)) (vs:List Expr) (t:List (TE×TE)):Prop where
 run:PPs X pos ks vs t
structure QS (X:Cx) (st:Stmt) (t:TS):Prop where
 run:PS X st t
structure QSs (X:Cx) (sts:List Stmt) (t:TS):Prop where
 run:PSs X sts t
section
variable {X:Cx} {pos:Pos}
theorem q_of {sts:List Stmt} {t:TS} {G:TS->Prop} (q:QSs X sts t) (g:G t) :∃t,PSs X sts t/\G t:=⟨t,q.run,g⟩
theorem z23 {st:Stmt} {t:TS} (h:QS X st t):QSs X [st] t:=⟨z05 h.run⟩
theorem z0n {st:Stmt} {rest:List Stmt} {t u:TS} (h:QS X st t) (r:QSs X rest u):QSs X (st :: rest) (tSeq t u):=⟨z02 h.run r.run⟩
theorem qs_set {i:Nat} {x:Str} {e:Expr} {te:TE} {pos':Pos} (hN:X.N.Nodup) (hi:X.N[i]? = some x) (hx:Loc X.env.scope x) (he:QE X e te) (hs:S8 e (some (.Name x pos')) pos.line X.env=J3 false:=by rfl) (hf:X.fn x=true\/X.env.scope.names.lookup x=some .local:=by first|exact .inl rfl|exact .inr rfl|assumption) :
  QS X (.Assign [.Name x pos'] e pos) (tAsg te (gName i)):=⟨ps_set hN hi hx he.run hs hf⟩
theorem zhv {o i value:Expr} {td ty tv:TE} {pos':Pos} (hu:X.A.units + 1 < cLine) (ho:QE X o td) (hi:QE X i ty) (hv:QE X value tv) (hs:S8 value (some (.Subscript o i pos')) pos.line X.env=J3 false) :
  QS X (.Assign [.Subscript o i pos'] value pos) (sDPut td ty tv):=⟨z97 hu ho.run hi.run hv.run hs⟩
theorem qe_lst {es:List Expr} {t:TA} (h:QA X es t):QE X (.List es pos) (tLst t):=⟨pe_lst h.run⟩
theorem qa_nil:QA X [] tNil:=⟨pa_nil⟩
theorem z0v {e:Expr} {es:List Expr} {te:TE} {t:TA} (ha:QE X e te) (hr:QA X es t) (hs:K1 (e :: es) X.env=(false,Y3 e X.env) :: K1 es X.env:=by rfl):QA X (e :: es) (tCons te t):=⟨z00 ha.run hr.run hs⟩
theorem zka:QPs X pos [] [] []:=⟨zk6⟩
theorem za3 {k v:Expr} {ks:List (Option Expr)} {vs:List Expr} {tk tv:TE} {trs:List (TE×TE)} (hk:QE X k tk) (hv:QE X v tv) (hr:QPs X pos ks vs trs):QPs X pos (some k :: ks) (v :: vs) ((tk,tv) :: trs):=⟨zjb hk.run hv.run hr.run⟩
theorem zjv {keys:List (Option Expr)} {values:List Expr} {trs:List (TE×TE)} (h:QPs X pos keys values trs) (hall:keys.all (·.isSome)=true) (hl:keys.length=values.length) (h0:keys≠[]) (h15:keys.length<=15):QE X (.Dict keys values pos) (tDisp trs):=⟨zkj h.run hall hl h0 h15⟩
theorem qe_op {a b:Expr} {ta tb:TE} {op:Operator} {r:R2} (ho:OpR X (M4 op) r) (ha:QE X a ta) (hb:QE X b tb):QE X (.BinOp a op b pos) (tOp r ta tb):=⟨pe_op ho ha.run hb.run⟩
theorem qe_ix {a b:Expr} {ta tb:TE} {r:R2} (hr:IxR X r) (ha:QE X a ta) (hb:QE X b tb) (hs:zhw b):QE X (.Subscript a b pos) (tOp r ta tb):=⟨pe_ix hr ha.run hb.run hs⟩
end
theorem z2p {X:Cx} {K:b0} (h:X.K=K):IxR X (rIx K):=h ▸ ix_seq
theorem zje {f:List V->Hp->VK->Prop} {te:TE} {D:Ends} {σ:St} {H:Hp} (h:te σ H λ x H1=>f [x] H1 D.rt):tRet (tCB f (tCons te tNil)) D σ H:=h
theorem z8r {f:List V->Hp->VK->Prop} {te:TE} {g:TG} {rest:TS} {D:Ends} {σ:St} {H:Hp} (h:te σ H λ x H1=>f [x] H1 λ y H2=>g y σ H2 (rest D)):tSeq (tAsg (tCB f (tCons te tNil)) g) rest D σ H:=h
theorem z0g {α β:Type} {R:α->β->Prop} :∀{xs:List α} {ys:List β} {i:Nat} {y:β},All2 R xs ys->ys[i]? = some y->∃x,xs[i]? = some x/\R x y
 | _,_,i,y,.nil,e=>by simp at e
 | _,_,0,y,.cons a _,e=>by rw [X3] at e;cases e;exact ⟨_,X3,a⟩
 | _,_,i + 1,y,.cons _ r,e=>by rw [Z2] at e;obtain ⟨x,h1,h2⟩:=z0g r e;exact ⟨x,by rw [Z2];exact h1,h2⟩
end L2
set_option maxHeartbeats 4000000
namespace L2
open PySem PySem.Spec PyProof.Rows
section
variable {prog:Program} {w:y1} {A:A2} {E:Value->A0->Prop} {s:A0}
theorem z6q (hh:A.handled=none) (it t:Addr) (ne:t≠it) (items:Array Value):Draws prog w A it [it,t] items.size (λ i v=>items[i]? = some v) (λ i h=>h.IsTupleIter it t i/\h.IsTuple t items) where
 live:=λ i h st=>st.1.elim λ o z=>⟨o,z.1⟩
 frame:=λ i h h' st k=>⟨st.1.elim λ o z=>⟨o,k it (by simp) o z.1,z.2⟩,st.2.elim λ o z=>⟨o,k t (by simp) o z.1,z.2⟩⟩
 item:=λ i s Q E hi st q=>tupOn st.1 st.2 (A4 hi) λ h' it' sb=>q _ h' s.toks (A4 hi) ⟨it',st.2.elim λ o z=>⟨o,(sb.2 t ne).trans z.1,z.2⟩⟩ sb
 done:=λ s Q E st q=>tupOff hh st.1 st.2 (by simp) λ h' e x y=>q h' e x y
theorem zkg (a:Addr) (xs:Array Value):Meets (E5.«enumerate.__new__» ⟨[.type "enumerate",.ref a],[]⟩) (λ _ R s=>s.heap.IsTuple a xs/\R (.ok (.ret (.ref (s.heap.objs.size + 1))))
  { s with heap:=(s.heap.push { cls:=.type "tuple_iterator",data:=.fields #[.ref a,.int 0 0] }).push { cls:=.type "enumerate",data:=.fields #[.none,.bool false,.ref s.heap.objs.size,c5 0,.none,.none] } }):=
 .of_wp λ prog w A R s h=>by
  obtain ⟨hp,g,d,tk,os⟩:=s;obtain ⟨ha,h⟩:=h;have sub:=sub_enumerate;have h1:Heap.IsTuple (Shared.heap ⟨hp,g,d,tk,os⟩) a xs:=ha
  wp_walk using C4 h1
  intro Γ p hΓ;show Q0 (A1 prog w) A.in1 (J3 _) _ _ _;refine C0 ?_;generalize List.drop 1 ((Γ.code,p) :: Γ.below)=L;split
  ·rename_i c _ _ _ _;cases c == D3 "enumerate" with
   | true=>
    wp_walk using C4 h1
    refine ⟨_,rfl,?_⟩;simpa [W3,Y4] using h
   | false=>
    wp_walk using C4 h1
    refine ⟨_,rfl,?_⟩;simpa [W3,Y4] using h
  ·wp_walk using C4 h1
   refine ⟨_,rfl,?_⟩;simpa [W3,Y4] using h
theorem zj9 {a:Addr} {xs:Array Value} {Q:Value->A0->Prop} (ha:s.heap.IsTuple a xs)
  (q :∀h',IsEnum h' (s.heap.objs.size + 1) s.heap.objs.size 0 .none->h'.IsTupleIter s.heap.objs.size a 0->h'.objs.size=s.heap.objs.size + 2->(∀c o,s.heap.get? c=some o->h'.get? c=some o)->Q (.ref (s.heap.objs.size + 1)) { s with heap:=h' }) :
  Q0 (A1 prog w) A (call (.type "enumerate") [.ref a]) Q E s:=by
 refine callType_new F.called_enumerate (by decide) (F.typeCall_enumerate_1 _) (F.newCall_enumerate_1 _) (λ obj=>F.args_object_init_2 obj _) F.entry_enumerate_new (zkg a xs) ⟨ha,?_⟩;generalize hn:s.heap.objs.size=n at q⊢;generalize h0:s.heap.push { cls:=.type "tuple_iterator",data:=.fields #[.ref a,.int 0 0] }=k0;have z0:k0.objs.size=n + 1:=by rw [<-h0,W3,hn]
 have g0:k0.get? n=some { cls:=.type "tuple_iterator",data:=.fields #[.ref a,.int 0 0] }:=by rw [<-h0,<-hn];exact S0 _ rfl
 have g1:(k0.push { cls:=.type "enumerate",data:=.fields #[.none,.bool false,.ref n,c5 0,.none,.none] }).get? (n + 1)=some { cls:=.type "enumerate",data:=.fields #[.none,.bool false,.ref n,c5 0,.none,.none] }:=by rw [<-z0];exact S0 _ rfl
 exact ⟨⟨_,g1,rfl⟩,q _ g1 ⟨_,B0 _ g0,rfl,rfl⟩ (by rw [W3,z0]) λ c o e=>B0 _ (by rw [<-h0];exact B0 _ e)⟩
end
noncomputable def IteL (K:b0) (a:Addr):It:=
  ⟨λ i H=>∃xs x,SqL K H a xs/\xs[i]? = some x,
   λ i H v H'=>∃p,H p=none/\v=.ref p/\∀xs,SqL K H a xs->∃x,xs[i]? = some x/\H'=upd H p (.tup [.int i,x]),
   λ i H=>∃xs,SqL K H a xs/\xs.length=i⟩
theorem zeg {P:Program} {w:y1} {K:b0} {elts:List Expr} {x1:Nat} {pos:Pos} {e it a:Addr} (ne:e≠it) (nae:a≠e) (nai:a≠it):Turn P w K (.Tuple elts x1 pos) (IteL K a) [e,it] e (λ n h=>(∃old,IsEnum h e it (n:Nat) old)/\h.IsListIter it a n) where
 mem:=by simp
 obj:=λ n h st c hc=>by
  simp only [T0,o0,or_false] at hc;rcases hc with rfl|rfl
  ·obtain ⟨⟨old,z⟩,_⟩:=st;exact ⟨_,z,λ v z=>by cases (show j47 _=Data.cell v from z)⟩
  ·obtain ⟨_,o,e,_,d⟩:=st;exact ⟨o,e,λ v z=>by rw [d] at z;cases z⟩
 keep:=λ n h h' st k=>by obtain ⟨⟨old,z⟩,o,e1,e2⟩:=st;exact ⟨⟨old,k e (by simp) _ z⟩,o,k it (by simp) _ e1,e2⟩
 item:=by
  intro X hP hw hK hc n pins s σ H E I hf st hg;subst hP hw hK;obtain ⟨xs,x,sa,hx⟩:=hg;obtain ⟨ia,ra,pa,_⟩:=I.list sa;have pa:s.heap.IsList a ia.toArray:=pa.isList;obtain ⟨u,hu,ru⟩:=ra.get hx;have D:=Draws.list (prog:=X.prog) (w:=X.w) (A:=X.A.in1) (I.ok.hd hc) it a nai ia.toArray;have hlt:n < ia.toArray.size:=by have:=(List.getElem?_eq_some_iff.mp hu).1;simpa using this
  obtain ⟨⟨old,se⟩,si⟩:=st;refine wpAny_pyNext_enum_itemD D se ⟨si,pa⟩ hlt ne (by simp [ne,nae.symm]) λ y h' t hy out si' tT hz kk=>?_;have hy:ia[n]? = some y:=by simpa using hy
  rw [hu] at hy;cases hy;have lte:e < s.heap.objs.size:=P0 se;have lti:it < s.heap.objs.size:=by obtain ⟨o,z,_⟩:=si;exact P0 z
  have nTe:s.heap.objs.size≠e:=E3 lte;have nT:s.heap.objs.size∉[e,it]:=by simp only [T0,o0,or_false,not_or];exact ⟨nTe,E3 lti⟩
  refine ⟨_,rfl,j35 out λ h2 se2 sb=>?_⟩;have k2 :∀b o,b∉[e,it]->s.heap.get? b=some o->h2.get? b=some o:=λ b o hb z=>by simp only [T0,o0,or_false,not_or] at hb;exact (sb.2 b hb.1).trans (kk b o hb.1 hb.2 z)
  have tT2:=(sb.2 _ nTe).trans tT;have st2:=si'.1.elim λ o z=>(⟨o,(sb.2 it ne.symm).trans z.1,z.2⟩:h2.IsListIter it a (n + 1))
  have fr:H s.heap.objs.size=none:=I.hok.fresh (F0 _);refine ⟨.ref s.heap.objs.size,upd H s.heap.objs.size (.tup [.int n,x]),I.turnedLaid (t':=t + 1) k2 hf (F0 _) ⟨show (2:Nat)<=sizeLine by decide,[.int n t,u],.cons ⟨t,rfl⟩ (.cons ru .nil),⟨_,tT2,rfl,_,rfl⟩,_,tT2,rfl⟩,rfl,⟨_,fr,rfl,λ xs' sa'=>⟨x,?_,rfl⟩⟩,⟨⟨_,se2⟩,st2⟩,λ c hc=>?_⟩
  ·rw [I.list_inj sa' sa];exact hx
  ·rw [upd_ne (λ (z:c=s.heap.objs.size)=>nT (z ▸ hc))];exact (hf c hc).1
 done:=by
  intro X hP hw hK hc n pins s σ H E I hf st hg;subst hP hw hK;obtain ⟨xs,sa,rfl⟩:=hg;obtain ⟨ia,ra,pa,_⟩:=I.list sa;have pa:s.heap.IsList a ia.toArray:=pa.isList;have D:=Draws.list (prog:=X.prog) (w:=X.w) (A:=X.A.in1) (I.ok.hd hc) it a nai ia.toArray;have W:=WalksT.enumerateD D e ne (by simp [ne,nae.symm]) (by simp);have la:ia.toArray.size=xs.length:=by simpa using ra.length.symm
  exact W.done s _ E (by rw [la];exact ⟨st.1,st.2,pa⟩) λ h' tk kk=>⟨rfl,I.turnedL (t':=tk) (λ c o hc e=>kk c o hc e) hf⟩
 self:=λ _ _ _ _ _ st h=>st.1.elim λ old z=>z8 z h
noncomputable def ieL (K:b0) (ta:TA):TI:=λ σ H R=>ta σ H λ vs H1=>∃a xs,vs=[.ref a]/\SqL K H1 a xs/\R (IteL K a) H1
theorem z5x {X:Cx} {elts:List Expr} {x1:Nat} {tpos:Pos} {e:Expr} {ta:TA} {p pos:Pos} (hg:Gl X "enumerate") (hm:X.mg "enumerate" = none) (ha:PA X [e] ta) (hs:K1 [e] X.env=[(false,Y3 e X.env)]:=by rfl) :
  PI X (.Tuple elts x1 tpos) (.Call (.Name "enumerate" p) [e] [] pos) (ieL X.K ta):=by
 intro pins s σ H R I h;refine Call_ (ld_blt I hg hm boot_enumerate (V3 (thn (ha pos pins s σ H _ I h) λ us s1 ⟨vs,H1,I1,r1,q1⟩=>?_) (by rw [hs];rfl) rfl));obtain ⟨a,xs,ev,sa,q⟩:=q1;subst ev;obtain ⟨u,rfl,ru⟩:=vals1 r1;cases (show u=E1 a from ru);obtain ⟨ia,ra,pa,_⟩:=I1.list sa;have pa:s1.heap.IsList a ia.toArray:=pa.isList;have la:a < s1.heap.objs.size:=by obtain ⟨o,e,_⟩:=id pa;exact P0 e
 refine call_enumerate_list pa λ h' st1 st2 _ kk=>?_;refine z8 st1 ?_;refine ⟨_,_,_,_,H1,rfl,I1.kept (t':=s1.toks) kk,zeg (E3 (K2 _)) (Z0 (N1 la)) (Z0 la),⟨⟨_,st1⟩,st2⟩,λ c hc=>?_,q⟩;have hc':s1.heap.objs.size<=c:=by
  simp only [T0,o0,or_false] at hc;rcases hc with rfl|rfl
  ·exact n8 _ _
  ·exact F0 _
 exact I1.fpOk hc' (I1.hok.fresh hc')
theorem z7o {K:b0} {a:Addr} {xs:List V} {g:TG} {tb:TS} {D:Ends} {σ:St} {H:Hp} (Pv:Nat->St->Hp->Prop) (h0:Pv 0 σ H) (hl :∀i σ H,Pv i σ H->SqL K H a xs)
  (hs :∀i x σ H p,xs[i]? = some x->Pv i σ H->H p=none->g (.ref p) σ (upd H p (.tup [.int i,x])) λ σ2 H2=>tb { D with nx:=Pv (i + 1),ct:=Pv (i + 1),bk:=D.nx } σ2 H2) (hd :∀σ H,Pv xs.length σ H->D.nx σ H) :
  ∃W:Nat->Nat->St->Hp->Prop,(∃m,W 0 m σ H)/\∀i m σ H,W i m σ H->
   ((IteL K a).stop i H/\D.nx σ H)\/((IteL K a).go i H/\∃N:St->Hp->Prop,(∀σ' H',N σ' H'->∃m',m' < m/\W (i + 1) m' σ' H')/\∀x H',(IteL K a).yld i H x H'->g x σ H' λ σ2 H2=>tb { D with nx:=N,ct:=N,bk:=D.nx } σ2 H2):=by
 refine ⟨λ i m σ H=>m=xs.length - i/\i<=xs.length/\Pv i σ H,⟨xs.length,by simp,Q1 _,h0⟩,?_⟩;rintro i m σ H ⟨rfl,hi,p⟩;have qa:=hl i σ H p;by_cases hlt:i < xs.length
 ·refine .inr ⟨⟨xs,xs[i],qa,by simp [hlt]⟩,Pv (i + 1),λ σ' H' p'=>⟨xs.length - (i + 1),by omega,rfl,hlt,p'⟩,λ v H' y=>?_⟩;obtain ⟨t,ht,rfl,yy⟩:=y;obtain ⟨x',ex,rfl⟩:=yy xs qa;exact hs i x' σ H t ex p ht
 ·have e:i=xs.length:=by omega
  subst e;exact .inl ⟨⟨xs,qa,rfl⟩,hd σ H p⟩
noncomputable def IteT (K:b0) (a:Addr):It:=
  ⟨λ i H=>∃xs x,SqT K H a xs/\xs[i]? = some x,
   λ i H v H'=>∃p,H p=none/\v=.ref p/\∀xs,SqT K H a xs->∃x,xs[i]? = some x/\H'=upd H p (.tup [.int i,x]),
   λ i H=>∃xs,SqT K H a xs/\xs.length=i⟩
theorem zdn {P:Program} {w:y1} {K:b0} {elts:List Expr} {x1:Nat} {pos:Pos} {e it a:Addr} (ne:e≠it) (nae:a≠e) (nai:a≠it):Turn P w K (.Tuple elts x1 pos) (IteT K a) [e,it] e (λ n h=>(∃old,IsEnum h e it (n:Nat) old)/\h.IsTupleIter it a n) where
 mem:=by simp
 obj:=λ n h st c hc=>by
  simp only [T0,o0,or_false] at hc;rcases hc with rfl|rfl
  ·obtain ⟨⟨old,z⟩,_⟩:=st;exact ⟨_,z,λ v z=>by cases (show j47 _=Data.cell v from z)⟩
  ·obtain ⟨_,o,e,_,d⟩:=st;exact ⟨o,e,λ v z=>by rw [d] at z;cases z⟩
 keep:=λ n h h' st k=>by obtain ⟨⟨old,z⟩,o,e1,e2⟩:=st;exact ⟨⟨old,k e (by simp) _ z⟩,o,k it (by simp) _ e1,e2⟩
 item:=by
  intro X hP hw hK hc n pins s σ H E I hf st hg;subst hP hw hK;obtain ⟨xs,x,sa,hx⟩:=hg;obtain ⟨ia,ra,pa,_⟩:=I.tuple sa;have pa:s.heap.IsTuple a ia.toArray:=pa;obtain ⟨u,hu,ru⟩:=ra.get hx;have D:=z6q (prog:=X.prog) (w:=X.w) (A:=X.A.in1) (I.ok.hd hc) it a nai ia.toArray;have hlt:n < ia.toArray.size:=by have:=(List.getElem?_eq_some_iff.mp hu).1;simpa using this
  obtain ⟨⟨old,se⟩,si⟩:=st;refine wpAny_pyNext_enum_itemD D se ⟨si,pa⟩ hlt ne (by simp [ne,nae.symm]) λ y h' t hy out si' tT hz kk=>?_;have hy:ia[n]? = some y:=by simpa using hy
  rw [hu] at hy;cases hy;have lte:e < s.heap.objs.size:=P0 se;have lti:it < s.heap.objs.size:=by obtain ⟨o,z,_⟩:=si;exact P0 z
  have nTe:s.heap.objs.size≠e:=E3 lte;have nT:s.heap.objs.size∉[e,it]:=by simp only [T0,o0,or_false,not_or];exact ⟨nTe,E3 lti⟩
  refine ⟨_,rfl,j35 out λ h2 se2 sb=>?_⟩;have k2 :∀b o,b∉[e,it]->s.heap.get? b=some o->h2.get? b=some o:=λ b o hb z=>by simp only [T0,o0,or_false,not_or] at hb;exact (sb.2 b hb.1).trans (kk b o hb.1 hb.2 z)
  have tT2:=(sb.2 _ nTe).trans tT;have st2:=si'.1.elim λ o z=>(⟨o,(sb.2 it ne.symm).trans z.1,z.2⟩:h2.IsTupleIter it a (n + 1))
  have fr:H s.heap.objs.size=none:=I.hok.fresh (F0 _);refine ⟨.ref s.heap.objs.size,upd H s.heap.objs.size (.tup [.int n,x]),I.turnedLaid (t':=t + 1) k2 hf (F0 _) ⟨show (2:Nat)<=sizeLine by decide,[.int n t,u],.cons ⟨t,rfl⟩ (.cons ru .nil),⟨_,tT2,rfl,_,rfl⟩,_,tT2,rfl⟩,rfl,⟨_,fr,rfl,λ xs' sa'=>⟨x,?_,rfl⟩⟩,⟨⟨_,se2⟩,st2⟩,λ c hc=>?_⟩
  ·rw [I.tuple_inj sa' sa];exact hx
  ·rw [upd_ne (λ (z:c=s.heap.objs.size)=>nT (z ▸ hc))];exact (hf c hc).1
 done:=by
  intro X hP hw hK hc n pins s σ H E I hf st hg;subst hP hw hK;obtain ⟨xs,sa,rfl⟩:=hg;obtain ⟨ia,ra,pa,_⟩:=I.tuple sa;have pa:s.heap.IsTuple a ia.toArray:=pa;have D:=z6q (prog:=X.prog) (w:=X.w) (A:=X.A.in1) (I.ok.hd hc) it a nai ia.toArray;have W:=WalksT.enumerateD D e ne (by simp [ne,nae.symm]) (by simp);have la:ia.toArray.size=xs.length:=by simpa using ra.length.symm
  exact W.done s _ E (by rw [la];exact ⟨st.1,st.2,pa⟩) λ h' tk kk=>⟨rfl,I.turnedL (t':=tk) (λ c o hc e=>kk c o hc e) hf⟩
 self:=λ _ _ _ _ _ st h=>st.1.elim λ old z=>z8 z h
noncomputable def ieT (K:b0) (ta:TA):TI:=λ σ H R=>ta σ H λ vs H1=>∃a xs,vs=[.ref a]/\SqT K H1 a xs/\R (IteT K a) H1
theorem zj5 {X:Cx} {elts:List Expr} {x1:Nat} {tpos:Pos} {e:Expr} {ta:TA} {p pos:Pos} (hg:Gl X "enumerate") (hm:X.mg "enumerate" = none) (ha:PA X [e] ta) (hs:K1 [e] X.env=[(false,Y3 e X.env)]:=by rfl) :
  PI X (.Tuple elts x1 tpos) (.Call (.Name "enumerate" p) [e] [] pos) (ieT X.K ta):=by
 intro pins s σ H R I h;refine Call_ (ld_blt I hg hm boot_enumerate (V3 (thn (ha pos pins s σ H _ I h) λ us s1 ⟨vs,H1,I1,r1,q1⟩=>?_) (by rw [hs];rfl) rfl));obtain ⟨a,xs,ev,sa,q⟩:=q1;subst ev;obtain ⟨u,rfl,ru⟩:=vals1 r1;cases (show u=E1 a from ru);obtain ⟨ia,ra,pa,_⟩:=I1.tuple sa;have pa:s1.heap.IsTuple a ia.toArray:=pa;have la:a < s1.heap.objs.size:=by obtain ⟨o,e,_⟩:=id pa;exact P0 e
 refine zj9 pa λ h' st1 st2 _ kk=>?_;refine z8 st1 ?_;refine ⟨_,_,_,_,H1,rfl,I1.kept (t':=s1.toks) kk,zdn (E3 (K2 _)) (Z0 (N1 la)) (Z0 la),⟨⟨_,st1⟩,st2⟩,λ c hc=>?_,q⟩;have hc':s1.heap.objs.size<=c:=by
  simp only [T0,o0,or_false] at hc;rcases hc with rfl|rfl
  ·exact n8 _ _
  ·exact F0 _
 exact I1.fpOk hc' (I1.hok.fresh hc')
theorem zh4 {K:b0} {a:Addr} {xs:List V} {g:TG} {tb:TS} {D:Ends} {σ:St} {H:Hp} (Pv:Nat->St->Hp->Prop) (h0:Pv 0 σ H) (hl :∀i σ H,Pv i σ H->SqT K H a xs)
  (hs :∀i x σ H p,xs[i]? = some x->Pv i σ H->H p=none->g (.ref p) σ (upd H p (.tup [.int i,x])) λ σ2 H2=>tb { D with nx:=Pv (i + 1),ct:=Pv (i + 1),bk:=D.nx } σ2 H2) (hd :∀σ H,Pv xs.length σ H->D.nx σ H) :
  ∃W:Nat->Nat->St->Hp->Prop,(∃m,W 0 m σ H)/\∀i m σ H,W i m σ H->
   ((IteT K a).stop i H/\D.nx σ H)\/((IteT K a).go i H/\∃N:St->Hp->Prop,(∀σ' H',N σ' H'->∃m',m' < m/\W (i + 1) m' σ' H')/\∀x H',(IteT K a).yld i H x H'->g x σ H' λ σ2 H2=>tb { D with nx:=N,ct:=N,bk:=D.nx } σ2 H2):=by
 refine ⟨λ i m σ H=>m=xs.length - i/\i<=xs.length/\Pv i σ H,⟨xs.length,by simp,Q1 _,h0⟩,?_⟩;rintro i m σ H ⟨rfl,hi,p⟩;have qa:=hl i σ H p;by_cases hlt:i < xs.length
 ·refine .inr ⟨⟨xs,xs[i],qa,by simp [hlt]⟩,Pv (i + 1),λ σ' H' p'=>⟨xs.length - (i + 1),by omega,rfl,hlt,p'⟩,λ v H' y=>?_⟩;obtain ⟨t,ht,rfl,yy⟩:=y;obtain ⟨x',ex,rfl⟩:=yy xs qa;exact hs i x' σ H t ex p ht
 ·have e:i=xs.length:=by omega
  subst e;exact .inl ⟨⟨xs,qa,rfl⟩,hd σ H p⟩
end L2
set_option maxHeartbeats 400000
namespace L2
open PySem PySem.Spec PyProof.Rows
section
variable {X:Cx}
theorem zgi (hc:X.calm=true):CallR X (.builtin "sum") (λ xs H Q=>∃(p:Addr) (ns:List Int),xs=[.ref p]/\SqL X.K H p (ns.map V.int)/\Q (.int ns.sum) H):=by
 intro pins s σ H xs us Q I r h;obtain ⟨p,ns,rfl,hq,q⟩:=h;obtain ⟨u,rfl,rx⟩:=vals1 r;cases rx;obtain ⟨its,rv,pl,hz⟩:=I.list hq;have hne:p≠s.heap.objs.size:=by obtain ⟨o,e,_⟩:=pl.isList;exact Z0 (P0 e)
 have hl:its.length=ns.length:=by have:=rv.length;rw [D0] at this;exact this.symm
 refine call_sum_walkAnyS (u8 pl.isList ?_);refine ⟨s.heap.objs.size,_,_,_,_,_,_,λ i=>ns[i]?.getD 0,rfl,(Walks.list (show X.A.in1.handled=none from I.ok.hd hc) s.heap.objs.size p hne its.toArray).toS,⟨⟨_,S0 _ rfl,rfl,rfl⟩,pl.isList.at λ o e=>B0 _ e⟩,?_,?_,?_⟩
 ·intro b hb';simp only [T0,o0,or_false] at hb';rcases hb' with rfl|rfl
  ·rw [W3];exact K2 _
  ·obtain ⟨o,e,_⟩:=pl.isList;exact P0 (B0 _ e)
 ·intro i v hv;have hv:its[i]? = some v:=by simpa using hv
  obtain ⟨hi,e⟩:=List.getElem?_eq_some_iff.mp hv;have hi':i < ns.length:=by rw [<-hl];exact hi
  obtain ⟨u,e1,e2⟩:=rv.get (i:=i) (x:=.int ns[i]) (by simp [hi']);rw [hv] at e1;cases e1;obtain ⟨t,e2⟩:=e2;exact ⟨t,by show v=E6 (ns[i]?.getD 0) t;rw [J0 hi'];exact e2⟩
 ·intro s' t' mv;have e:preSum (λ i=>ns[i]?.getD 0) its.toArray.size=ns.sum:=by rw [O0,hl,z6w ns _ (F0 _),j0d]
  rw [e,mv.eq_with];refine ⟨.int _,H,I.kept (t':=s'.toks) λ b o z=>mv.heap b o ?_ (B0 _ z),⟨_,rfl⟩,q⟩;intro hb';rw [List.mem_singleton.mp hb'] at z;exact absurd (P0 z) (N3 _)
theorem zf4 {o e:Expr} {es:List Expr} {to:TE} {t:TA} {apos cpos:Pos} (ho:PE X o to) (ha:PA X (e :: es) t)
  (hbase:K6 o "pop" X.env (Y3 o X.env)=Y3 o X.env:=by rfl)
  (hfew:((d5 cpos (K1 (e :: es) X.env)).all (λ x=>!x.1) && (Y9 cpos (F7 [] X.env)).all (λ x=>x.1.isSome)
   && decide ((e :: es).length + ([]:List C6).length + (if ([]:List C6).isEmpty then 0 else 1) < 30))=true:=by rfl)
  (hline:(apos.endLine == cpos.line)=true:=by rfl) (hs:K1 (e :: es) X.env=(false,Y3 e X.env) :: K1 es X.env:=by rfl) (hplain:(d5 cpos (K1 es X.env)).any (·.1)=false:=by rfl) :
  PE X (.Call (.Attribute o "pop" apos) (e :: es) [] cpos) (tBM X.K "list" rPopAt to t):=pe_bm u6 PySem.F.slot_list_pop PySem.F.type_list_pop zib ho ha hbase hfew hline hs hplain
end
mutual
noncomputable def IsPd (K:b0) (H:Hp):PyData->V->Prop
 | .none,v=>v=.non
 | .bool b,v=>v=.bl b
 | .int i,v=>v=.int i
 | .str z,v=>v=.str z
 | .list ds,v=>∃a xs,v=.ref a/\SqL K H a xs/\IsPds K H ds xs
 | .tuple ds,v=>∃a xs,v=.ref a/\SqT K H a xs/\IsPds K H ds xs
 | .dict _,_=>False
noncomputable def IsPds (K:b0) (H:Hp):List PyData->List V->Prop
 | [],xs=>xs=[]
 | d :: ds,xs=>∃x r,xs=x :: r/\IsPd K H d x/\IsPds K H ds r
end
mutual
theorem IsPd.mono' {K:b0} {H H':Hp} (s :∀a xs,SqT K H a xs->SqT K H' a xs) (t :∀a xs,SqL K H a xs->SqL K H' a xs) :∀(d:PyData) (v:V),IsPd K H d v->IsPd K H' d v
 | .none,v,h=>h
 | .bool _,v,h=>h
 | .int _,v,h=>h
 | .str _,v,h=>h
 | .list ds,v,h=>by obtain ⟨a,xs,rfl,e,r⟩:=h;exact ⟨a,xs,rfl,t _ _ e,IsPds.mono' s t ds xs r⟩
 | .tuple ds,v,h=>by obtain ⟨a,xs,rfl,e,r⟩:=h;exact ⟨a,xs,rfl,s _ _ e,IsPds.mono' s t ds xs r⟩
 | .dict _,v,h=>h.elim
theorem IsPds.mono' {K:b0} {H H':Hp} (s :∀a xs,SqT K H a xs->SqT K H' a xs) (t :∀a xs,SqL K H a xs->SqL K H' a xs) :∀(ds:List PyData) (xs:List V),IsPds K H ds xs->IsPds K H' ds xs
 | [],xs,h=>h
 | d :: ds,xs,h=>by obtain ⟨x,r,rfl,a,b⟩:=h;exact ⟨x,r,rfl,IsPd.mono' s t d x a,IsPds.mono' s t ds r b⟩
end
section
variable {X:Cx} {pins:List (Addr×Obj)} {σ:St} {H:Hp} {s:A0}
mutual
theorem z54 (I:Inv X pins σ H s) :∀(d:PyData) (v:V) (u:Value),IsPd X.K H d v->RelV v u->∃as,Reads s.heap u d as
 | .none,v,u,h,r=>by cases (show v=.non from h);cases (show u=.none from r);exact ⟨_,.none⟩
 | .bool b,v,u,h,r=>by cases (show v=.bl b from h);cases (show u=.bool b from r);exact ⟨_,.bool b⟩
 | .int i,v,u,h,r=>by cases (show v=.int i from h);obtain ⟨t,rfl⟩:=r;exact ⟨_,.int i t⟩
 | .str z,v,u,h,r=>by cases (show v=.str z from h);obtain ⟨t,rfl⟩:=r;exact ⟨_,.str z t⟩
 | .list ds,v,u,h,r=>by obtain ⟨a,xs,rfl,e,hr⟩:=h;cases (show u=.ref a from r);obtain ⟨its,rv,pl,_⟩:=I.list e;obtain ⟨o,e1,e2,n,e3⟩:=pl.isList;obtain ⟨as,ra⟩:=z73 I ds xs its hr rv;exact ⟨_,.list e1 e2 e3 ra⟩
 | .tuple ds,v,u,h,r=>by obtain ⟨a,xs,rfl,e,hr⟩:=h;cases (show u=.ref a from r);obtain ⟨its,rv,pl,_⟩:=I.tuple e;obtain ⟨o,e1,e2,n,e3⟩:=pl;obtain ⟨as,ra⟩:=z73 I ds xs its hr rv;exact ⟨_,.tuple e1 e2 e3 ra⟩
 | .dict _,v,u,h,r=>h.elim
theorem z73 (I:Inv X pins σ H s) :∀(ds:List PyData) (xs:List V) (us:List Value),IsPds X.K H ds xs->Vals xs us->∃as,ReadsAll s.heap us ds as
 | [],xs,us,h,r=>by cases (show xs=[] from h);cases r;exact ⟨_,.nil⟩
 | d :: ds,xs,us,h,r=>by
  obtain ⟨x,t,rfl,a,b⟩:=h;cases r with
  | cons r1 r2=>obtain ⟨as,ra⟩:=z54 I d x _ a r1;obtain ⟨bs,rb⟩:=z73 I ds t _ b r2;exact ⟨_,.cons ra rb⟩
end
end
mutual
noncomputable def plainP:PyData->Bool
 | .none=>true
 | .bool _=>false
 | .int _=>true
 | .str z=>(PyData.str z).canLay0
 | .list ds=>z2m ds
 | .tuple ds=>z2m ds
 | .dict _=>false
noncomputable def z2m:List PyData->Bool
 | []=>true
 | d :: ds=>plainP d && z2m ds
end
mutual
theorem z7p :∀d:PyData,plainP d=true->d.canLay0=true
 | .none,_=>rfl
 | .bool _,h=>by cases h
 | .int _,_=>rfl
 | .str _,h=>h
 | .list ds,h=>z5l ds h
 | .tuple ds,h=>z5l ds h
 | .dict _,h=>by cases h
theorem z5l :∀ds:List PyData,z2m ds=true->PyData.canLayAll0 ds=true
 | [],_=>rfl
 | d :: ds,h=>by have h:(plainP d && z2m ds)=true:=h;rw [j3] at h;show (d.canLay0 && PyData.canLayAll0 ds)=true;rw [z7p d h.1,z5l ds h.2];rfl
end
mutual
theorem zjm :∀d e:PyData,plainP d=true->plainP e=true->(d.eqv e=true↔d=e)
 | .none,e,_,he=>by
  cases e with
  | none=>exact ⟨λ _=>rfl,λ _=>rfl⟩
  | bool b=>cases he
  | dict _=>cases he
  | _=>exact ⟨λ z=>(by cases z),λ z=>(by cases z)⟩
 | .bool _,e,hd,_=>by cases hd
 | .int i,e,_,he=>by
  cases e with
  | int j=>exact ⟨λ z=>congrArg _ (eq_of_beq (show (i == j)=true from z)),λ z=>by cases z;exact beq_self_eq_true i⟩
  | bool b=>cases he
  | dict _=>cases he
  | _=>exact ⟨λ z=>(by cases z),λ z=>(by cases z)⟩
 | .str i,e,_,he=>by
  cases e with
  | str j=>exact ⟨λ z=>congrArg _ (eq_of_beq (show (i == j)=true from z)),λ z=>by cases z;exact beq_self_eq_true i⟩
  | bool b=>cases he
  | dict _=>cases he
  | _=>exact ⟨λ z=>(by cases z),λ z=>(by cases z)⟩
 | .list ds,e,hd,he=>by
  cases e with
  | list es=>exact ⟨λ z=>congrArg _ ((z5y ds es hd he).mp z),λ z=>(z5y ds es hd he).mpr (by cases z;rfl)⟩
  | bool b=>cases he
  | dict _=>cases he
  | _=>exact ⟨λ z=>(by cases z),λ z=>(by cases z)⟩
 | .tuple ds,e,hd,he=>by
  cases e with
  | tuple es=>exact ⟨λ z=>congrArg _ ((z5y ds es hd he).mp z),λ z=>(z5y ds es hd he).mpr (by cases z;rfl)⟩
  | bool b=>cases he
  | dict _=>cases he
  | _=>exact ⟨λ z=>(by cases z),λ z=>(by cases z)⟩
 | .dict _,e,hd,_=>by cases hd
theorem z5y :∀ds es:List PyData,z2m ds=true->z2m es=true->(PyData.eqvAll ds es=true↔ds=es)
 | [],[],_,_=>⟨λ _=>rfl,λ _=>rfl⟩
 | [],e :: es,_,_=>⟨λ z=>(by cases z),λ z=>(by cases z)⟩
 | d :: ds,[],_,_=>⟨λ z=>(by cases z),λ z=>(by cases z)⟩
 | d :: ds,e :: es,hd,he=>by have hd:(plainP d && z2m ds)=true:=hd;have he:(plainP e && z2m es)=true:=he;rw [j3] at hd he;show (d.eqv e && PyData.eqvAll ds es)=true↔_;rw [j3,zjm d e hd.1 he.1,z5y ds es hd.2 he.2];exact ⟨λ z=>by rw [z.1,z.2],λ z=>by cases z;exact ⟨rfl,rfl⟩⟩
end
section
variable {X:Cx}
noncomputable def rNeP (K:b0):R2:=λ x y H Q=>∃d e,IsPd K H d x/\IsPd K H e y/\plainP d=true/\plainP e=true/\d.depth<=60/\Q (.bl (!d.eqv e)) H
theorem room60 {A:A2} {k m n:Nat} (hr:Room k A) (h:m<=60):A.units + min m n < cLine:=C1 (Nat.add_le_add_left (G0 (Nat.min_le_left _ _) (G0 h (by decide:60<=64))) _) hr.units
theorem op_neP {k:Nat} (hr:Room k X.A):OpR X (v2 .NotEq) (rNeP X.K):=by intro pins s σ H x y v u Q I rx ry h;obtain ⟨d,e,hd,he,pd,pe,dp,q⟩:=h;obtain ⟨as,ra⟩:=z54 I d x v hd rx;obtain ⟨bs,rb⟩:=z54 I e y u he ry;exact SeqAt.compareNe_reads ra rb (z7p _ pd) (z7p _ pe) (room60 hr dp) ⟨.bl _,H,I,rfl,q⟩
end
end L2
set_option maxHeartbeats 1000000
namespace L2
open PySem PySem.Spec PyProof.Rows
section
variable {prog:Program} {w:y1} {A:A2} {E:Value->A0->Prop} {s:A0}
theorem z4x:entryFor table "dict.update.loop" = some E5.«dict.update.loop»:=by kernel_rfl
theorem zh7 {l:Addr} {items:Array Value} {n:Nat} {sl:Array (Option Value)} {Q:Option Value->A0->Prop} (h:s.heap.get? l=some { cls:=.type "list",data:=.seq items n,slots:=sl }) (hh:A.handled=none)
  (q :∀h' tk,(∀b o,s.heap.get? b=some o->h'.get? b=some o)->Q none { s with heap:=h',toks:=tk }):Q0 (A1 prog w) A (j14 (.ref l) (V1 "keys")) Q E s:=by
 unfold j14;refine c0 (wpAny_mkText ?_);unfold getAttrBy? getAttrBy;have ht:Y6 { s with toks:=s.toks + 1 } (.ref l) "list":=⟨_,h,rfl⟩
 refine c0 (N5 (B2 (c0 (L4 ht ?_))));rw [show j36 (D3 "list") (V1 "__getattribute__")=J3 (some (.builtin "list.__getattribute__")) from rfl];refine c0 (C0 ?_);show Q0 _ _ (z9 (.ref l) (.str (V1 "keys") s.toks) (.type "list") (.builtin "list.__getattribute__") false false) _ _ _;unfold z9;refine c0 (show Q0 _ _ (J3 none) _ _ _ from C0 ?_);refine c0 (N5 (B2 ?_));show Q0 _ _ (V9 (.builtin "list.__getattribute__") (.ref l) (.str (V1 "keys") s.toks)) _ _ _;unfold V9;rw [show bindSpecial (.builtin "list.__getattribute__") (.ref l)=J3 (Value.builtin "list.__getattribute__",[E1 l]) from rfl];refine c0 (C0 ?_);show Q0 _ _ (call (.builtin "list.__getattribute__") [.ref l,.str (V1 "keys") s.toks]) _ _ _;refine g9 F.slot_list_getattribute ht am_entry_list_getattribute (F.args_list_getattribute_2 _ _) (meets_getattribute_miss_list l items n sl (V1 "keys") s.toks rfl (by decide +kernel) (by decide +kernel)) ⟨h,hh,λ h' tk e ne=>?_⟩;obtain ⟨t,u,he⟩:=ne.there;have hte:Y6 { s with heap:=h',toks:=tk } (.ref e) "AttributeError":=⟨_,he,rfl⟩
 show Q0 _ _ (a8 (.ref l) _ (.type "list") (.ref e) none false false) _ _ _;unfold a8;refine c0 (y6 hte rfl ?_);show Q0 _ _ (j3a (.type "list") none >>= _) _ _ _;rw [show j3a (.type "list") none=J3 none from rfl];refine c0 (C0 ?_);show Q0 _ _ (throw (E1 e) >>= _) _ _ _;refine c0 (j27 ?_);show Q0 _ _ (isInstance (.ref e) (.type "AttributeError") >>= _) _ _ _;refine c0 (y6 hte rfl ?_);exact C0 (q h' tk ne.keeps)
theorem zfa {l:Addr} {items:Array Value} {n:Nat} {sl:Array (Option Value)} {Q:Option Value->A0->Prop} (h:s.heap.get? l=some { cls:=.type "tuple",data:=.seq items n,slots:=sl }) (hh:A.handled=none)
  (q :∀h' tk,(∀b o,s.heap.get? b=some o->h'.get? b=some o)->Q none { s with heap:=h',toks:=tk }):Q0 (A1 prog w) A (j14 (.ref l) (V1 "keys")) Q E s:=by
 unfold j14;refine c0 (wpAny_mkText ?_);unfold getAttrBy? getAttrBy;have ht:Y6 { s with toks:=s.toks + 1 } (.ref l) "tuple":=⟨_,h,rfl⟩
 refine c0 (N5 (B2 (c0 (L4 ht ?_))));rw [show j36 (D3 "tuple") (V1 "__getattribute__")=J3 (some (.builtin "tuple.__getattribute__")) from rfl];refine c0 (C0 ?_);show Q0 _ _ (z9 (.ref l) (.str (V1 "keys") s.toks) (.type "tuple") (.builtin "tuple.__getattribute__") false false) _ _ _;unfold z9;refine c0 (show Q0 _ _ (J3 none) _ _ _ from C0 ?_);refine c0 (N5 (B2 ?_));show Q0 _ _ (V9 (.builtin "tuple.__getattribute__") (.ref l) (.str (V1 "keys") s.toks)) _ _ _;unfold V9;rw [show bindSpecial (.builtin "tuple.__getattribute__") (.ref l)=J3 (Value.builtin "tuple.__getattribute__",[E1 l]) from rfl];refine c0 (C0 ?_);show Q0 _ _ (call (.builtin "tuple.__getattribute__") [.ref l,.str (V1 "keys") s.toks]) _ _ _;refine g9 F.slot_tuple_getattribute ht am_entry_tuple_getattribute (F.args_tuple_getattribute_2 _ _) (meets_getattribute_miss_tuple l items n sl (V1 "keys") s.toks rfl (by decide +kernel) (by decide +kernel)) ⟨h,hh,λ h' tk e ne=>?_⟩;obtain ⟨t,u,he⟩:=ne.there;have hte:Y6 { s with heap:=h',toks:=tk } (.ref e) "AttributeError":=⟨_,he,rfl⟩
 show Q0 _ _ (a8 (.ref l) _ (.type "tuple") (.ref e) none false false) _ _ _;unfold a8;refine c0 (y6 hte rfl ?_);show Q0 _ _ (j3a (.type "tuple") none >>= _) _ _ _;rw [show j3a (.type "tuple") none=J3 none from rfl];refine c0 (C0 ?_);show Q0 _ _ (throw (E1 e) >>= _) _ _ _;refine c0 (j27 ?_);show Q0 _ _ (isInstance (.ref e) (.type "AttributeError") >>= _) _ _ _;refine c0 (y6 hte rfl ?_);exact C0 (q h' tk ne.keeps)
theorem z4z (a:Args):(D7 "dict.update.loop" a).quiet=true:=j0c (by decide +kernel) _
def PairOf (prog:Program) (w:y1) (h:Heap) (p:Key×Value) (u:Value):Prop:=∃a kv,u=.ref a/\h.IsTuple a #[kv,p.2]/\(z0k prog w).is p.1 kv=true
theorem PairOf.kept {h h':Heap} {p:Key×Value} {u:Value} {L:List Addr} (k :∀b o,b∉L->h.get? b=some o->h'.get? b=some o) (nt :∀b∈L,∀o,h.get? b=some o->o.cls≠.type "tuple") (x:PairOf prog w h p u):PairOf prog w h' p u:=by obtain ⟨a,kv,e,⟨o,h1,h2,n,h3⟩,i⟩:=x;exact ⟨a,kv,e,⟨o,k a o (λ z=>nt a z o h1 h2) h1,h2,n,h3⟩,i⟩
theorem z8v {a:Addr} {items:Array Value} {Q:List Value->A0->Prop} (h:s.heap.IsTuple a items) (q:Q items.toList s):Q0 (A1 prog w) A (j0f (.ref a)) Q E s:=by obtain ⟨o,h1,h2,n,h3⟩:=h;unfold j0f;refine c0 (L4 (T:="tuple") ⟨o,h1,h2⟩ ?_);show Q0 _ _ (seqItems? (.ref a) >>= _) _ _ _;exact c0 (Z7 h1 h3 (C0 q))
theorem zdp {d it l:Addr} {items:Array Value} (ndi:d≠it) (ndl:d≠l) (nil':it≠l) :∀(ps:List (Key×Value)) (i:Nat) (kvs:List (Key×Value)) (A:A2) (R:j3e->A0->Prop) (s:A0),A.handled=none->s.heap.IsListIter it l i->s.heap.IsList l items->
  All2 (PairOf prog w s.heap) ps (items.toList.drop i)->P3 (z0k prog w) s.heap d kvs->kvs.length + ps.length<=sizeLine->
  (∀h' tk,P3 (z0k prog w) h' d (ps.foldl (λ acc p=>stored acc p.1 p.2) kvs)->(∀b o,b≠d->b≠it->s.heap.get? b=some o->h'.get? b=some o)->R (.ok (.ret .none)) { s with heap:=h',toks:=tk })->
  z6 (A1 prog w) A (D7 "dict.update.loop" { pos:=[.ref d,.ref it,.int (i:Nat) 0,.none],kw:=[] }) R s
 | [],i,kvs,A,R,s,hh,si,sl,al,dd,hz,q=>by
  have hn:items[i]? = none:=by
   cases hd:items.toList.drop i with
   | nil=>have:=List.drop_eq_nil_iff.mp hd;rw [C2] at this;exact L3 this
   | cons u us=>rw [hd] at al;cases al
  refine c4 z4x ?_;show Q0 _ _ (R6 (.ref it) >>= _) _ _ s;refine c0 (wpAny_pyNext_list_end (show (A.under _).handled=none from hh) si sl hn λ h' eb=>?_);show Q0 _ _ ((do j05 d [];ret .none):Sem j07) _ _ _;refine c0 (show Q0 _ _ (J3 ()) _ _ _ from C0 ?_);have dd':P3 (z0k prog w) h' d kvs:=by obtain ⟨o,es,ep,h1,h2⟩:=dd;exact ⟨o,es,ep,eb d o ndi h1,h2⟩
  exact C0 (q h' s.toks dd' λ b o _ hb e=>eb b o hb e)
 | p :: ps,i,kvs,A,R,s,hh,si,sl,al,dd,hz,q=>by
  cases hd:items.toList.drop i with
  | nil=>rw [hd] at al;cases al
  | cons u us=>
   rw [hd] at al;cases al with
   | cons pu al=>
    have hi:items.toList[i]? = some u:=by have:=congrArg (λ l=>l[0]?) hd;simpa using this
    have hu:items[i]? = some u:=by simpa using hi
    have hd1:items.toList.drop (i + 1)=us:=by have:=congrArg List.tail hd;simpa using this
    obtain ⟨a,kv,rfl,ta,ik⟩:=pu;refine c4 z4x ?_;show Q0 _ _ (R6 (.ref it) >>= _) _ _ s;refine c0 (wpAny_pyNext_list_item si sl hu λ h1 si1 sb1=>?_);have nit :∀o,s.heap.get? it=some o->o.cls≠.type "tuple":=λ o e z=>by obtain ⟨o',e',c,_⟩:=si;rw [e] at e';cases e';rw [z] at c;exact absurd c (by decide)
    have ndt :∀(h:Heap) (kvs:List (Key×Value)),P3 (z0k prog w) h d kvs->∀o,h.get? d=some o->o.cls≠.type "tuple":=λ h kvs dd o e z=>by obtain ⟨o',es,ep,e',c,_⟩:=dd;rw [e] at e';cases e';have:=c.1;rw [z] at this;exact absurd this (by decide)
    have k1 :∀b o,b∉[it]->s.heap.get? b=some o->h1.get? b=some o:=λ b o hb e=>(sb1.2 b (λ z=>hb (by rw [z];exact List.mem_singleton.mpr rfl))).trans e;have ta1:h1.IsTuple a #[kv,p.2]:=by obtain ⟨o,e1,e2,e3⟩:=ta;exact ⟨o,k1 a o (λ z=>nit o (List.mem_singleton.mp z ▸ e1) e2) e1,e2,e3⟩
    have al1:All2 (PairOf prog w h1) ps us:=z01 (λ x y z=>PairOf.kept k1 (λ b hb o e=>nit o (List.mem_singleton.mp hb ▸ e)) z) al;have dd1:P3 (z0k prog w) h1 d kvs:=by obtain ⟨o,es,ep,e1,e2⟩:=dd;exact ⟨o,es,ep,(sb1.2 d ndi).trans e1,e2⟩
    have sl1:h1.IsList l items:=by obtain ⟨o,e1,e2⟩:=sl;exact ⟨o,(sb1.2 l (Q2 nil')).trans e1,e2⟩
    refine c0 (B2 (c0 (wpAny_tryCatch (z8v (s:={ s with heap:=h1 }) ta1 ?_))));show Q0 _ _ (j13 [kv,p.2] (j2i d kv p.2)) _ _ _;refine B2 (wpAny_dictSet_pairs ik dd1 (λ h2 dd2 sb2=>?_) (G0 (n8 _ _) hz));refine C0 ⟨z4z _,?_⟩;have k2 :∀b o,b∉[d]->h1.get? b=some o->h2.get? b=some o:=λ b o hb e=>(sb2.2 b (λ z=>hb (by rw [z];exact List.mem_singleton.mpr rfl))).trans e;have al2:All2 (PairOf prog w h2) ps us:=z01 (λ x y z=>PairOf.kept k2 (λ b hb o e=>ndt h1 kvs dd1 o (List.mem_singleton.mp hb ▸ e)) z) al1;have si2:h2.IsListIter it l (i + 1):=by obtain ⟨o,e1,e2⟩:=si1;exact ⟨o,(sb2.2 it (Q2 ndi)).trans e1,e2⟩
    have sl2:h2.IsList l items:=by obtain ⟨o,e1,e2⟩:=sl1;exact ⟨o,(sb2.2 l (Q2 ndl)).trans e1,e2⟩
    have hz2:(stored kvs p.1 p.2).length + ps.length<=sizeLine:=by
     have:(stored kvs p.1 p.2).length<=kvs.length + 1:=by
      unfold stored;split
      ·rw [D0];exact F2 _
      ·rw [K0];exact F0 _
     rw [W0] at hz;omega
    exact zdp ndi ndl nil' ps (i + 1) (stored kvs p.1 p.2) A R { s with heap:=h2,toks:=s.toks + 1 } hh si2 sl2 (by rw [hd1];exact al2) dd2 hz2 λ h' tk dd' kk=>q h' tk dd' λ b o hb1 hb2 e=>kk b o hb1 hb2 (k2 b o (λ z=>hb1 (List.mem_singleton.mp z)) (k1 b o (λ z=>hb2 (List.mem_singleton.mp z)) e))
theorem zbv {d it l:Addr} {items:Array Value} (ndi:d≠it) (ndl:d≠l) (nil':it≠l) :∀(ps:List (Key×Value)) (i:Nat) (kvs:List (Key×Value)) (A:A2) (R:j3e->A0->Prop) (s:A0),A.handled=none->s.heap.IsTupleIter it l i->s.heap.IsTuple l items->
  All2 (PairOf prog w s.heap) ps (items.toList.drop i)->P3 (z0k prog w) s.heap d kvs->kvs.length + ps.length<=sizeLine->
  (∀h' tk,P3 (z0k prog w) h' d (ps.foldl (λ acc p=>stored acc p.1 p.2) kvs)->(∀b o,b≠d->b≠it->s.heap.get? b=some o->h'.get? b=some o)->R (.ok (.ret .none)) { s with heap:=h',toks:=tk })->
  z6 (A1 prog w) A (D7 "dict.update.loop" { pos:=[.ref d,.ref it,.int (i:Nat) 0,.none],kw:=[] }) R s
 | [],i,kvs,A,R,s,hh,si,sl,al,dd,hz,q=>by
  have hn:items[i]? = none:=by
   cases hd:items.toList.drop i with
   | nil=>have:=List.drop_eq_nil_iff.mp hd;rw [C2] at this;exact L3 this
   | cons u us=>rw [hd] at al;cases al
  refine c4 z4x ?_;show Q0 _ _ (R6 (.ref it) >>= _) _ _ s;refine c0 (d9 (show (A.under _).handled=none from hh) si sl hn λ h' eb=>?_);show Q0 _ _ ((do j05 d [];ret .none):Sem j07) _ _ _;refine c0 (show Q0 _ _ (J3 ()) _ _ _ from C0 ?_);have dd':P3 (z0k prog w) h' d kvs:=by obtain ⟨o,es,ep,h1,h2⟩:=dd;exact ⟨o,es,ep,eb d o ndi h1,h2⟩
  exact C0 (q h' s.toks dd' λ b o _ hb e=>eb b o hb e)
 | p :: ps,i,kvs,A,R,s,hh,si,sl,al,dd,hz,q=>by
  cases hd:items.toList.drop i with
  | nil=>rw [hd] at al;cases al
  | cons u us=>
   rw [hd] at al;cases al with
   | cons pu al=>
    have hi:items.toList[i]? = some u:=by have:=congrArg (λ l=>l[0]?) hd;simpa using this
    have hu:items[i]? = some u:=by simpa using hi
    have hd1:items.toList.drop (i + 1)=us:=by have:=congrArg List.tail hd;simpa using this
    obtain ⟨a,kv,rfl,ta,ik⟩:=pu;refine c4 z4x ?_;show Q0 _ _ (R6 (.ref it) >>= _) _ _ s;refine c0 (Q8 si sl hu λ h1 si1 sb1=>?_);have nit :∀o,s.heap.get? it=some o->o.cls≠.type "tuple":=λ o e z=>by obtain ⟨o',e',c,_⟩:=si;rw [e] at e';cases e';rw [z] at c;exact absurd c (by decide)
    have ndt :∀(h:Heap) (kvs:List (Key×Value)),P3 (z0k prog w) h d kvs->∀o,h.get? d=some o->o.cls≠.type "tuple":=λ h kvs dd o e z=>by obtain ⟨o',es,ep,e',c,_⟩:=dd;rw [e] at e';cases e';have:=c.1;rw [z] at this;exact absurd this (by decide)
    have k1 :∀b o,b∉[it]->s.heap.get? b=some o->h1.get? b=some o:=λ b o hb e=>(sb1.2 b (λ z=>hb (by rw [z];exact List.mem_singleton.mpr rfl))).trans e;have ta1:h1.IsTuple a #[kv,p.2]:=by obtain ⟨o,e1,e2,e3⟩:=ta;exact ⟨o,k1 a o (λ z=>nit o (List.mem_singleton.mp z ▸ e1) e2) e1,e2,e3⟩
    have al1:All2 (PairOf prog w h1) ps us:=z01 (λ x y z=>PairOf.kept k1 (λ b hb o e=>nit o (List.mem_singleton.mp hb ▸ e)) z) al;have dd1:P3 (z0k prog w) h1 d kvs:=by obtain ⟨o,es,ep,e1,e2⟩:=dd;exact ⟨o,es,ep,(sb1.2 d ndi).trans e1,e2⟩
    have sl1:h1.IsTuple l items:=by obtain ⟨o,e1,e2⟩:=sl;exact ⟨o,(sb1.2 l (Q2 nil')).trans e1,e2⟩
    refine c0 (B2 (c0 (wpAny_tryCatch (z8v (s:={ s with heap:=h1 }) ta1 ?_))));show Q0 _ _ (j13 [kv,p.2] (j2i d kv p.2)) _ _ _;refine B2 (wpAny_dictSet_pairs ik dd1 (λ h2 dd2 sb2=>?_) (G0 (n8 _ _) hz));refine C0 ⟨z4z _,?_⟩;have k2 :∀b o,b∉[d]->h1.get? b=some o->h2.get? b=some o:=λ b o hb e=>(sb2.2 b (λ z=>hb (by rw [z];exact List.mem_singleton.mpr rfl))).trans e;have al2:All2 (PairOf prog w h2) ps us:=z01 (λ x y z=>PairOf.kept k2 (λ b hb o e=>ndt h1 kvs dd1 o (List.mem_singleton.mp hb ▸ e)) z) al1;have si2:h2.IsTupleIter it l (i + 1):=by obtain ⟨o,e1,e2⟩:=si1;exact ⟨o,(sb2.2 it (Q2 ndi)).trans e1,e2⟩
    have sl2:h2.IsTuple l items:=by obtain ⟨o,e1,e2⟩:=sl1;exact ⟨o,(sb2.2 l (Q2 ndl)).trans e1,e2⟩
    have hz2:(stored kvs p.1 p.2).length + ps.length<=sizeLine:=by
     have:(stored kvs p.1 p.2).length<=kvs.length + 1:=by
      unfold stored;split
      ·rw [D0];exact F2 _
      ·rw [K0];exact F0 _
     rw [W0] at hz;omega
    exact zbv ndi ndl nil' ps (i + 1) (stored kvs p.1 p.2) A R { s with heap:=h2,toks:=s.toks + 1 } hh si2 sl2 (by rw [hd1];exact al2) dd2 hz2 λ h' tk dd' kk=>q h' tk dd' λ b o hb1 hb2 e=>kk b o hb1 hb2 (k2 b o (λ z=>hb1 (List.mem_singleton.mp z)) (k1 b o (λ z=>hb2 (List.mem_singleton.mp z)) e))
theorem z5n {h:Heap} {D:Addr} (e:h.get? D=some { cls:=.type "dict",data:=.dict #[] }):P3 (z0k prog w) h D []:=by obtain ⟨o,es,ep,e1,r⟩:=j33 (knd:=z0k prog w) h;rw [S0 _ rfl] at e1;cases e1;exact ⟨_,es,ep,e,r⟩
theorem z8a {D l:Addr} {items:Array Value} {n:Nat} {sl:Array (Option Value)} {ps:List (Key×Value)} {Q:A0->Prop} {A':A2} (hd:s.heap.get? D=some { cls:=.type "dict",data:=.dict #[] }) (hl:s.heap.get? l=some { cls:=.type "list",data:=.seq items n,slots:=sl }) (hh:A.handled=none) (hh':A'.handled=none)
  (al:All2 (PairOf prog w s.heap) ps items.toList) (hz:ps.length<=sizeLine)
  (q :∀h' tk,P3 (z0k prog w) h' D (merged [] ps)->(∀b o,b≠D->s.heap.get? b=some o->h'.get? b=some o)->Q { s with heap:=h',toks:=tk }) :
  Q0 (A1 prog w) A (E5.«dict.__init__» { pos:=[.ref D,.ref l] }) (λ fin s'=>match fin with
   | .done f=>wants (λ r s₂=>r=O2/\Q s₂) E (.ok f) s'
   | .again c'=>c'.quiet=true/\z6 (A1 prog w) A' c' (wants (λ r s₂=>r=O2/\Q s₂) E) s') (λ e s'=>wants (λ r s₂=>r=O2/\Q s₂) E (.error e) s') s:=by
 have nl:D≠l:=λ z=>by rw [z,hl] at hd;exact absurd (show D3 "list" = D3 "dict" from congrArg Obj.cls (U1 hd)) (by decide)
 unfold E5.«dict.__init__» j04;refine c0 (c0 (wpAny_notOrdered_dict ⟨_,hd,rfl⟩ ?_));refine c0 (show Q0 _ _ (J3 D) _ _ _ from C0 (C0 ?_));show Q0 _ _ (X5 "dict.__init__" D (.ref l) [] .none) _ _ _;unfold X5;refine c0 (L4 (T:="list") ⟨_,hl,rfl⟩ ?_);show Q0 _ _ (j14 (.ref l) (V1 "keys") >>= _) _ _ _;refine c0 (zh7 hl hh λ h1 tk kk=>?_);show Q0 _ _ (rule _ >>= _) _ _ _;refine c0 (P6 (c0 (u8 (items:=items) ⟨_,kk _ _ hl,rfl,_,rfl⟩ ?_)));refine C0 ⟨z4z _,?_⟩;have ltD:=P0 (kk _ _ hd);have ltl:=P0 (kk _ _ hl);have k2 :∀b o,s.heap.get? b=some o->(h1.push { cls:=.type "list_iterator",data:=.fields #[.ref l,.int 0 0] }).get? b=some o:=λ b o e=>B0 _ (kk b o e);refine zdp (d:=D) (it:=h1.objs.size) (l:=l) (items:=items) (Z0 ltD) nl (E3 ltl) ps 0 [] A' _ _ hh' ⟨_,S0 _ rfl,rfl,rfl⟩ ⟨_,k2 _ _ hl,rfl,_,rfl⟩ ?_ ?_ (by simpa using hz) λ h' tk' dd k3=>⟨rfl,q h' tk' dd λ b o hb e=>k3 b o hb (λ z=>?_) (k2 b o e)⟩
 ·rw [P4];exact z01 (λ x y z=>PairOf.kept (L:=[]) (λ b o _ e=>k2 b o e) (λ b hb=>absurd hb o0) z) al
 ·exact z5n (k2 _ _ hd)
 ·rw [z] at e;exact absurd (P0 (kk _ _ e)) (N3 _)
theorem z6l {D l:Addr} {items:Array Value} {n:Nat} {sl:Array (Option Value)} {ps:List (Key×Value)} {Q:A0->Prop} {A':A2} (hd:s.heap.get? D=some { cls:=.type "dict",data:=.dict #[] }) (hl:s.heap.get? l=some { cls:=.type "tuple",data:=.seq items n,slots:=sl }) (hh:A.handled=none) (hh':A'.handled=none)
  (al:All2 (PairOf prog w s.heap) ps items.toList) (hz:ps.length<=sizeLine)
  (q :∀h' tk,P3 (z0k prog w) h' D (merged [] ps)->(∀b o,b≠D->s.heap.get? b=some o->h'.get? b=some o)->Q { s with heap:=h',toks:=tk }) :
  Q0 (A1 prog w) A (E5.«dict.__init__» { pos:=[.ref D,.ref l] }) (λ fin s'=>match fin with
   | .done f=>wants (λ r s₂=>r=O2/\Q s₂) E (.ok f) s'
   | .again c'=>c'.quiet=true/\z6 (A1 prog w) A' c' (wants (λ r s₂=>r=O2/\Q s₂) E) s') (λ e s'=>wants (λ r s₂=>r=O2/\Q s₂) E (.error e) s') s:=by
 have nl:D≠l:=λ z=>by rw [z,hl] at hd;exact absurd (show D3 "tuple" = D3 "dict" from congrArg Obj.cls (U1 hd)) (by decide)
 unfold E5.«dict.__init__» j04;refine c0 (c0 (wpAny_notOrdered_dict ⟨_,hd,rfl⟩ ?_));refine c0 (show Q0 _ _ (J3 D) _ _ _ from C0 (C0 ?_));show Q0 _ _ (X5 "dict.__init__" D (.ref l) [] .none) _ _ _;unfold X5;refine c0 (L4 (T:="tuple") ⟨_,hl,rfl⟩ ?_);show Q0 _ _ (j14 (.ref l) (V1 "keys") >>= _) _ _ _;refine c0 (zfa hl hh λ h1 tk kk=>?_);show Q0 _ _ (rule _ >>= _) _ _ _;refine c0 (P6 (c0 (C4 (items:=items) ⟨_,kk _ _ hl,rfl,_,rfl⟩ ?_)));refine C0 ⟨z4z _,?_⟩;have ltD:=P0 (kk _ _ hd);have ltl:=P0 (kk _ _ hl);have k2 :∀b o,s.heap.get? b=some o->(h1.push { cls:=.type "tuple_iterator",data:=.fields #[.ref l,.int 0 0] }).get? b=some o:=λ b o e=>B0 _ (kk b o e);refine zbv (d:=D) (it:=h1.objs.size) (l:=l) (items:=items) (Z0 ltD) nl (E3 ltl) ps 0 [] A' _ _ hh' ⟨_,S0 _ rfl,rfl,rfl⟩ ⟨_,k2 _ _ hl,rfl,_,rfl⟩ ?_ ?_ (by simpa using hz) λ h' tk' dd k3=>⟨rfl,q h' tk' dd λ b o hb e=>k3 b o hb (λ z=>?_) (k2 b o e)⟩
 ·rw [P4];exact z01 (λ x y z=>PairOf.kept (L:=[]) (λ b o _ e=>k2 b o e) (λ b hb=>absurd hb o0) z) al
 ·exact z5n (k2 _ _ hd)
 ·rw [z] at e;exact absurd (P0 (kk _ _ e)) (N3 _)
end
section
variable {X:Cx}
def zkm (K:b0):List V->Hp->VK->Prop:=λ xs H Q=>∃a ys kvs,xs=[.ref a]/\(H a=some (.lst ys)\/H a=some (.tup ys))/\All2 (λ (p:Key×V) y=>∃b,y=.ref b/\SqT K H b [kV p.1,p.2]) kvs ys/\∀p,H p=none->Q (.ref p) (upd H p (.dK (mergeK [] kvs)))
theorem za6 {pins:List (Addr×Obj)} {σ:St} {H:Hp} {s:A0} (I:Inv X pins σ H s) :∀{kvs:List (Key×V)} {ys:List V} {its:List Value},All2 (λ (p:Key×V) y=>∃b,y=.ref b/\SqT X.K H b [kV p.1,p.2]) kvs ys->Vals ys its->
  ∃ps,KV kvs ps/\All2 (PairOf X.prog X.w s.heap) ps its
 | [],_,_,.nil,r=>by cases r;exact ⟨[],.nil,.nil⟩
 | p :: kvs,_,_,.cons ⟨b,e,sb⟩ al,r=>by
  cases r with
  | cons r1 r2=>
   subst e;obtain ⟨ps,h1,h2⟩:=za6 I al r2;obtain ⟨its,rv,tb,_⟩:=I.tuple sb;cases rv with
   | cons ra rv=>
    cases rv with
    | cons rb rv=>cases rv;rename_i u1 u2;exact ⟨(p.1,u2) :: ps,.cons ⟨rfl,rb⟩ h1,.cons ⟨b,u1,r1,tb,kV_is ra⟩ h2⟩
theorem z16 (kvs:List (Key×V)) :∀more:List (Key×V),(mergeK kvs more).length<=kvs.length + more.length
 | []=>F0 _
 | p :: more=>by have h1:=z16 (putK kvs p.1 p.2) more;have h2:=z2y kvs p.1 p.2;show (mergeK (putK kvs p.1 p.2) more).length<=_;rw [W0];omega
theorem z10 (hc:X.calm=true):CallR X (.type "dict") (zkm X.K):=by
 intro pins s σ H xs us Q I r h;obtain ⟨a,ys,kvs,rfl,ha,al,q⟩:=h;obtain ⟨u,rfl,ru⟩:=vals1 r;cases (show u=E1 a from ru);have hh:X.A.handled=none:=I.ok.hd hc;have hp:H s.heap.objs.size=none:=I.hok.fresh (F0 _);have big:=I.big;have fin :∀(ps:List (Key×Value)) (h':Heap) (tk:Nat),KV kvs ps->kvs.length<=sizeLine->P3 (z0k X.prog X.w) h' s.heap.objs.size (merged [] ps)->(∀b o,b≠s.heap.objs.size->(s.heap.push { cls:=.type "dict",data:=.dict #[] }).get? b=some o->h'.get? b=some o)->
   EP X pins σ Q (.ref s.heap.objs.size) { s with heap:=h',toks:=tk }:=λ ps h' tk kv hz dd kk=>by
  refine ⟨.ref s.heap.objs.size,_,I.laid (a:=s.heap.objs.size) (o:=.dK (mergeK [] kvs)) (h':=h') (t':=tk) (λ b o e=>kk b o (Z0 (P0 e)) (B0 _ e)) (F0 _) ?_,rfl,q _ hp⟩;exact dk_new (G0 (z16 [] kvs) (by simpa using hz)) (beq_eq_false_iff_ne.mpr (Q2 (Z0 big))) (KV.merge kv .nil) dd
 have len:ys.length=kvs.length:=z03 al;rcases ha with ha|ha
 ·obtain ⟨z,its,n,rv,hl,e⟩:=I.lstM ha;obtain ⟨ps,kv,pa⟩:=za6 I al rv;refine callType_codes F.kt_called_dict (F.kt_typeCall_dict_1 _) F.entry_dict_init (kt_code_dict_new _ (Q₁:=λ obj s₁=>obj=.ref s.heap.objs.size/\s₁={ s with heap:=s.heap.push { cls:=.type "dict",data:=.dict #[] } }) ⟨rfl,rfl⟩) ?_;rintro obj s₁ ⟨rfl,rfl⟩;refine ⟨⟨_,S0 _ rfl,rfl⟩,F.args_dict_init_2 _ _,?_⟩;refine z8a (s:={ s with heap:=s.heap.push { cls:=.type "dict",data:=.dict #[] } }) (S0 _ rfl) (B0 _ e) hh hh (by simpa using z01 (λ x y z=>PairOf.kept (L:=[]) (λ b o _ e=>B0 _ e) (λ b hb=>absurd hb o0) z) pa) (by rw [<-Q7 kv,<-len];exact z) λ h' tk dd kk=>fin ps h' tk kv (by rw [<-len];exact z) dd kk
 ·obtain ⟨z,its,rv,⟨o,e1,e2,n,e3⟩,o2,e4,e5⟩:=I.hok a _ ha;rw [e1] at e4;cases e4;obtain ⟨ps,kv,pa⟩:=za6 I al rv;obtain ⟨oc,od,oda,osl⟩:=o;dsimp only at e2 e3 e5;subst e2 e3 e5;refine callType_codes F.kt_called_dict (F.kt_typeCall_dict_1 _) F.entry_dict_init (kt_code_dict_new _ (Q₁:=λ obj s₁=>obj=.ref s.heap.objs.size/\s₁={ s with heap:=s.heap.push { cls:=.type "dict",data:=.dict #[] } }) ⟨rfl,rfl⟩) ?_;rintro obj s₁ ⟨rfl,rfl⟩;refine ⟨⟨_,S0 _ rfl,rfl⟩,F.args_dict_init_2 _ _,?_⟩;refine z6l (s:={ s with heap:=s.heap.push { cls:=.type "dict",data:=.dict #[] } }) (S0 _ rfl) (B0 _ e1) hh hh (by simpa using z01 (λ x y z=>PairOf.kept (L:=[]) (λ b o _ e=>B0 _ e) (λ b hb=>absurd hb o0) z) pa) (by rw [<-Q7 kv,<-len];exact z) λ h' tk dd kk=>fin ps h' tk kv (by rw [<-len];exact z) dd kk
noncomputable def rNeD0:R2:=λ x y H Q=>∃a b kvs,x=.ref a/\y=.ref b/\H a=some (.dK kvs)/\H b=some (.dK [])/\Q (.bl (decide (kvs≠[]))) H
theorem zkh (hu:X.A.units + 1 < cLine):OpR X (v2 .NotEq) rNeD0:=by
 intro pins s σ H x y v u Q I rx ry h;obtain ⟨a,b,kvs,rfl,rfl,ha,hb,q⟩:=h;cases rx;cases ry;obtain ⟨_,la,vs,rv,da⟩:=dk_of I.hok ha;obtain ⟨_,lb,us,ru,db⟩:=dk_of I.hok hb;have hus:us=[]:=by have:=ru.length;exact List.length_eq_zero_iff.mp (by simpa using this.symm)
 subst hus;refine PySem.W.keq_ne (r:=true) la lb da db (j09 hu) (λ e=>?_) ⟨.bl _,H,I,?_,q⟩
 ·have:vs=[]:=List.length_eq_zero_iff.mp e;rw [this];exact .nil
 ·show J7 _=J7 _;congr 1;have hl:kvs.length=vs.length:=rv.length;cases kvs with
  | nil=>have:vs=[]:=List.length_eq_zero_iff.mp hl.symm;rw [this];rfl
  | cons p r=>
   cases vs with
   | nil=>cases hl
   | cons p r=>rfl
end
end L2
set_option maxHeartbeats 400000
namespace L2
open PySem PySem.Spec PyProof.Rows
structure RunsR (S:Hp->Hp->Prop) (J:It) (H1:Hp) (n:Nat) (Item:Nat->V->Hp->Prop):Prop where
 go :∀i,i < n->∀H,S H1 H->J.go i H
 stop :∀H,S H1 H->J.stop n H
 item :∀i,i < n->∀H v H',S H1 H->J.yld i H v H'->S H H'/\Item i v H'
theorem z2u {S:Hp->Hp->Prop} {J:It} {H1:Hp} {n m:Nat} {Item:Nat->V->Hp->Prop} {fr:List (Nat×Str)} {g:TG} {tc:TT} {te:TE} {σ:St} {Q:VK} (s0:S H1 H1) (st :∀a b c,S a b->S b c->S a c) (p:Nat->Bool) (R:Nat->V->Hp->Prop) (hR :∀i y H H',S H H'->R i y H->R i y H') (r:RunsR S J H1 n Item) (hn:n<=sizeLine)
  (body :∀i,i < n->∀v H,S H1 H->Item i v H->∀(KT:VK) (KF:Hp->Prop),(p i=true->∀y H',S H H'->R i y H'->KT y H')->(p i=false->∀H',S H H'->KF H')->
   g v (cStG σ fr (J2 m none)) H λ σ6 H6=>∃us,us.length=m/\σ6=cStG σ fr us/\tc (cStG σ fr us) H6 λ b H2=>if b=true then te (cStG σ fr us) H2 KT else KF H2)
  (hQ :∀l H' ys,S H1 H'->H' l=none->All2 (λ i y=>R i y H') ((W1 n).filter p) ys->Q (.ref l) (upd H' l (.lst ys))) :
  ∃W:Nat->Nat->List V->Hp->Prop,(∃m,W 0 m [] H1)/\∀i k ys H,W i k ys H->
   (J.stop i H/\ys.length<=sizeLine/\∀p,H p=none->Q (.ref p) (upd H p (.lst ys)))\/
   (J.go i H/\ys.length<=sizeLine/\∀v H',J.yld i H v H'->g v (cStG σ fr (J2 m none)) H' λ σ6 H6=>∃us,us.length=m/\σ6=cStG σ fr us/\tc (cStG σ fr us) H6 λ b H2=>if b=true then te (cStG σ fr us) H2 λ y H3=>∃m',m' < k/\W (i + 1) m' (ys++[y]) H3 else∃m',m' < k/\W (i + 1) m' ys H2):=by
 refine ⟨λ i k ys H'=>k=n - i/\i<=n/\S H1 H'/\All2 (λ i y=>R i y H') ((W1 i).filter p) ys,⟨n,by simp,Q1 _,s0,.nil⟩,?_⟩;rintro i k ys H' ⟨rfl,hi,sm,fa⟩;have hl2:ys.length<=sizeLine:=by rw [z03 fa];have:=U2 p (W1 i);rw [x2] at this;omega
 by_cases hlt:i < n
 ·refine .inr ⟨r.go i hlt H' sm,hl2,λ v H2 y=>?_⟩;obtain ⟨s2,it⟩:=r.item i hlt H' v H2 sm y;refine body i hlt v H2 (st _ _ _ sm s2) it _ _ (λ hp y H3 s3 ry=>⟨n - (i + 1),by omega,rfl,hlt,st _ _ _ (st _ _ _ sm s2) s3,?_⟩) (λ hp H3 s3=>⟨n - (i + 1),by omega,rfl,hlt,st _ _ _ (st _ _ _ sm s2) s3,?_⟩)
  ·rw [z22,if_pos hp];exact z5j (z01 (λ a b z=>hR a b _ _ (st _ _ _ s2 s3) z) fa) ry
  ·rw [z22,if_neg (by rw [hp];decide),C3];exact z01 (λ a b z=>hR a b _ _ (st _ _ _ s2 s3) z) fa
 ·have e:i=n:=by omega
  subst e;exact .inl ⟨r.stop H' sm,hl2,λ l hl=>hQ l H' ys sm hl fa⟩
theorem z9r {S:Hp->Hp->Prop} {K:b0} {a:Addr} {xs:List V} {H1:Hp} (hs :∀H,S H1 H->S H H) (hq :∀H,S H1 H->SqL K H a xs):RunsR S (Itl K a) H1 xs.length (λ i v _=>xs[i]? = some v):=
 ⟨λ i hi H s=>⟨xs,xs[i],hq H s,by simp [hi]⟩,λ H s=>⟨xs,hq H s,F0 _⟩,λ i hi H v H' s y=>by obtain ⟨e,y⟩:=y;subst e;exact ⟨hs _ s,y xs (hq _ s)⟩⟩
theorem zc3 {S:Hp->Hp->Prop} {K:b0} {a:Addr} {xs:List V} {H1:Hp} (hs :∀H,S H1 H->S H H) (hq :∀H,S H1 H->SqT K H a xs):RunsR S (Itt K a) H1 xs.length (λ i v _=>xs[i]? = some v):=
 ⟨λ i hi H s=>⟨xs,xs[i],hq H s,by simp [hi]⟩,λ H s=>⟨xs,hq H s,F0 _⟩,λ i hi H v H' s y=>by obtain ⟨e,y⟩:=y;subst e;exact ⟨hs _ s,y xs (hq _ s)⟩⟩
theorem zcg {S:Hp->Hp->Prop} {K:b0} {a:Addr} {xs:List V} {tl te:TE} {tc:TT} {g:TG} {m:Nat} {fr:List (Nat×Str)} {σ:St} {H H1:Hp} {Q:VK} (R:V->V->Hp->Prop) (s0:S H1 H1) (st :∀a b c,S a b->S b c->S a c) (hs :∀H,S H1 H->S H H) (hR :∀x y H H',S H H'->R x y H->R x y H')
  (htl :∀R:VK,R (.ref a) H1->tl σ H R) (hq :∀H,S H1 H->SqL K H a xs) (hn:xs.length<=sizeLine)
  (body :∀v∈xs,∀H,S H1 H->∀KT:VK,(∀y H',S H H'->R v y H'->KT y H')->∀KF:Hp->Prop,
   g v (cStG σ fr (J2 m none)) H λ σ6 H6=>∃us,us.length=m/\σ6=cStG σ fr us/\tc (cStG σ fr us) H6 λ b H2=>if b=true then te (cStG σ fr us) H2 KT else KF H2)
  (hQ :∀l H' ys,S H1 H'->H' l=none->All2 (λ x y=>R x y H') xs ys->Q (.ref l) (upd H' l (.lst ys))):tCompG (iList K tl) m fr g tc te σ H Q:=by
 refine htl _ ⟨a,rfl,⟨xs,hq _ s0⟩,z2u s0 st (λ _=>true) (λ i y H=>R (xs[i]?.getD .non) y H) (λ i y H H' s z=>hR _ _ _ _ s z) (z9r hs hq) hn (λ i hi v H s it KT KF h1 h2=>?_) λ l H' ys s hl fa=>hQ l H' ys s hl ?_⟩
 ·refine body v (R0 it) H s KT (λ y H' s' ry=>h1 rfl y H' s' ?_) KF;rw [it];exact ry
 ·rw [List.filter_eq_self.mpr (λ _ _=>rfl)] at fa;have go :∀(is:List Nat) (ys:List V),All2 (λ i y=>R (xs[i]?.getD .non) y H') is ys->All2 (λ x y=>R x y H') (is.map λ i=>xs[i]?.getD .non) ys:=by
   intro is;induction is with
   | nil=>intro ys h;cases h;exact .nil
   | cons i is ih=>intro ys h;cases h with|cons a r=>exact .cons a (ih _ r)
  have h:=go _ _ fa;have e:(W1 xs.length).map (λ i=>xs[i]?.getD V.non)=xs:=by
   apply g8
   ·simp
   ·intro i h1 h2;simp only [List.getElem_map,List.getElem_range,J0 h2,Option.getD_some]
  rwa [e] at h
theorem zgx {S:Hp->Hp->Prop} {n:Nat} {H1:Hp} (hs :∀H,S H1 H->S H H):RunsR S (Itr 0 n) H1 n (λ i v _=>v=.int (i:Nat)):=
 ⟨λ i hi H s=>hi,λ H s=>F0 _,λ i hi H v H' s y=>by obtain ⟨e,y⟩:=y;subst e;exact ⟨hs _ s,by rw [y,j0a]⟩⟩
theorem zdz {R:V->V->Prop} {xs ys:List V} (fa:All2 (λ (i:Nat) y=>R (xs[i]?.getD .non) y) (W1 xs.length) ys):All2 R xs ys:=by
 have go :∀(is:List Nat) (ys:List V),All2 (λ i y=>R (xs[i]?.getD .non) y) is ys->All2 R (is.map λ i=>xs[i]?.getD .non) ys:=by
  intro is;induction is with
  | nil=>intro ys h;cases h;exact .nil
  | cons i is ih=>intro ys h;cases h with|cons a r=>exact .cons a (ih _ r)
 have h:=go _ _ fa;have e:(W1 xs.length).map (λ i=>xs[i]?.getD V.non)=xs:=by
  apply g8
  ·simp
  ·intro i h1 h2;simp only [List.getElem_map,List.getElem_range,J0 h2,Option.getD_some]
 rwa [e] at h
theorem ze9 {S:Hp->Hp->Prop} {K:b0} {a:Addr} {xs:List V} {tl te:TE} {tc:TT} {g:TG} {m:Nat} {fr:List (Nat×Str)} {σ:St} {H H1:Hp} {Q:VK} (R:V->V->Hp->Prop) (s0:S H1 H1) (st :∀a b c,S a b->S b c->S a c) (hs :∀H,S H1 H->S H H) (hR :∀x y H H',S H H'->R x y H->R x y H')
  (htl :∀R:VK,R (.ref a) H1->tl σ H R) (hq :∀H,S H1 H->SqT K H a xs) (hn:xs.length<=sizeLine)
  (body :∀v∈xs,∀H,S H1 H->∀KT:VK,(∀y H',S H H'->R v y H'->KT y H')->∀KF:Hp->Prop,
   g v (cStG σ fr (J2 m none)) H λ σ6 H6=>∃us,us.length=m/\σ6=cStG σ fr us/\tc (cStG σ fr us) H6 λ b H2=>if b=true then te (cStG σ fr us) H2 KT else KF H2)
  (hQ :∀l H' ys,S H1 H'->H' l=none->All2 (λ x y=>R x y H') xs ys->Q (.ref l) (upd H' l (.lst ys))):tCompG (iTup K tl) m fr g tc te σ H Q:=by
 refine htl _ ⟨a,rfl,⟨xs,hq _ s0⟩,z2u s0 st (λ _=>true) (λ i y H=>R (xs[i]?.getD .non) y H) (λ i y H H' s z=>hR _ _ _ _ s z) (zc3 hs hq) hn (λ i hi v H s it KT KF h1 h2=>?_) λ l H' ys s hl fa=>hQ l H' ys s hl ?_⟩
 ·refine body v (R0 it) H s KT (λ y H' s' ry=>h1 rfl y H' s' ?_) KF;rw [it];exact ry
 ·rw [List.filter_eq_self.mpr (λ _ _=>rfl)] at fa;exact zdz (R:=λ x y=>R x y H') fa
def Ris (xs:Array Nat):Prop:=xs.toList.Pairwise (· < ·)
theorem Ris.lt {xs:Array Nat} (r:Ris xs) {i k:Nat} (h:i < k) (hk:k < xs.size):xs[i]'(G8 h hk) < xs[k]:=by have:=(List.pairwise_iff_getElem.mp r) i k (by simpa using G8 h hk) (by simpa using hk) h;simpa using this
theorem zdo {xs:Array Nat} {i d:Nat} (h:i < xs.size):xs.getD i d=xs[i]:=by simp [Array.getD,h]
theorem zae {xs:Array Nat} {j:Nat} (r:Ris xs) :∀(f lo hi:Nat),lo<=hi->hi<=xs.size->hi - lo<=f->(∀i (h:i < xs.size),i < lo->xs[i] < j)->(∀i (h:i < xs.size),hi<=i->j<=xs[i])->
  b7 xs j f lo hi<=xs.size/\(∀i (h:i < xs.size),i < b7 xs j f lo hi->xs[i] < j)/\(∀i (h:i < xs.size),b7 xs j f lo hi<=i->j<=xs[i])
 | 0,lo,hi,h1,h2,h3,ha,hb=>by
  have:lo=hi:=by omega
  subst this;exact ⟨h2,ha,hb⟩
 | f + 1,lo,hi,h1,h2,h3,ha,hb=>by
  unfold b7;by_cases z:lo < hi
  ·rw [if_pos z];have hm:(lo + hi) / 2 < xs.size:=by omega
   dsimp only;rw [zdo hm];by_cases y:xs[(lo + hi) / 2] < j
   ·rw [if_pos y];refine zae r f _ _ (by omega) h2 (by omega) (λ i h hi'=>?_) hb;by_cases e:i=(lo + hi) / 2
    ·subst e;exact y
    ·exact G8 (r.lt (by omega) hm) y
   ·rw [if_neg y];refine zae r f _ _ (by omega) (by omega) (by omega) ha λ i h hi'=>?_;by_cases e:i=(lo + hi) / 2
    ·subst e;omega
    ·exact G0 (Nat.not_lt.mp y) (T3 (r.lt (by omega) h))
  ·rw [if_neg z];have:lo=hi:=by omega
   subst this;exact ⟨h2,ha,hb⟩
theorem z68 {xs:Array Nat} (r:Ris xs) (j:Nat):P1 xs j<=xs.size/\(∀i (h:i < xs.size),i < P1 xs j->xs[i] < j)/\(∀i (h:i < xs.size),P1 xs j<=i->j<=xs[i]):=
 zae r _ _ _ (Q1 _) (F0 _) (F0 _) (λ i h z=>absurd z (n5 _)) (λ i h z=>absurd h (Nat.not_lt.mpr z))
theorem z6g {α:Type} (xs:Array α) (p:Nat) (x:α) (hp:p<=xs.size):(A9 xs p x).toList=xs.toList.take p++x :: xs.toList.drop p:=by unfold A9;simp [M6]
theorem Ris.insert {xs:Array Nat} (r:Ris xs) {j:Nat} (h:¬ xs[P1 xs j]? = some j):Ris (A9 xs (P1 xs j) j):=by
 obtain ⟨h1,h2,h3⟩:=z68 r j;unfold Ris;rw [z6g _ _ _ h1];refine List.pairwise_append.mpr ⟨r.sublist (List.take_sublist _ _),List.pairwise_cons.mpr ⟨λ y hy=>?_,r.sublist (List.drop_sublist _ _)⟩,λ a ha b hb=>?_⟩
 ·obtain ⟨i,hi,e⟩:=List.mem_drop_iff_getElem.mp hy;have hi':P1 xs j + i < xs.size:=by simpa [Nat.add_comm] using hi
  have e':xs[P1 xs j + i]=y:=by simpa using e
  have le:=h3 _ hi' (by omega);rw [e'] at le;rcases Nat.lt_or_eq_of_le le with z|z
  ·exact z
  ·exfalso;have hb:P1 xs j < xs.size:=by omega
   have ge:=h3 _ hb (F0 _);have:xs[P1 xs j]=j:=by
    by_cases i0:i=0
    ·subst i0;exact e'.trans z.symm
    ·have:=r.lt (show P1 xs j < P1 xs j + i by omega) hi';rw [e'] at this;omega
   exact h (by rw [A4 hb,this])
 ·obtain ⟨i,hi,e⟩:=List.mem_take_iff_getElem.mp ha;have hi2:i < xs.size:=by have:=hi;simp at this;omega
  have hi3:i < P1 xs j:=by have:=hi;simp at this;omega
  have lt:=h2 i hi2 hi3;have e':xs[i]=a:=by simpa using e
  rw [e'] at lt;rcases List.mem_cons.mp hb with z|z
  ·rw [z];exact lt
  ·obtain ⟨k,hk,e2⟩:=List.mem_drop_iff_getElem.mp z;have hk':P1 xs j + k < xs.size:=by simpa [Nat.add_comm] using hk
   have e2':xs[P1 xs j + k]=b:=by simpa using e2
   have:=h3 _ hk' (by omega);rw [e2'] at this;omega
theorem zgf (n:Nat):Ris (Array.range n):=by unfold Ris;rw [Array.toList_range];exact j2j
def z8y (t:G3) (j:Nat):Prop:=¬ t.place[P1 t.place j]? = some j
theorem z95 {t:G3} {j:Nat} (h :∀i,t.slot j≠.live i):z8y t j:=λ e=>by refine h (P1 t.place j) ?_;unfold SetTable.slot;dsimp only;rw [if_pos (by rw [e];exact beq_self_eq_true _)]
theorem z5v {t:G3} {hs:Nat->Int} {h:Int} :∀(f:Nat) (p:SetTable.Probe) (j:Nat) (d:Option Nat),(∀k,p.dummy=some k->z8y t k)->j18 t hs h f p=some (.empty j d)->z8y t j/\∀k,d=some k->z8y t k
 | 0,p,j,d,hd,e=>by cases e
 | f + 1,p,j,d,hd,e=>by
  unfold j18 at e;cases q:t.slot p.j with
  | empty=>rw [q] at e;cases e;exact ⟨z95 (λ i z=>by rw [q] at z;cases z),hd⟩
  | dummy=>rw [q] at e;refine z5v f _ j d (λ k z=>?_) e;unfold j40 at z;dsimp only at z;split at z<;>(cases z;exact z95 λ i z=>by rw [q] at z;cases z)
  | live i=>
   rw [q] at e;dsimp only at e;split at e
   ·cases e
   ·refine z5v f _ j d (λ k z=>?_) e;unfold j40 at z;dsimp only at z;split at z<;>exact hd k z
theorem zcu {t:G3} {h:Int} {s:Nat} {b:Bool} (e:t.freeSlot h=some (s,b)):z8y t s:=by
 unfold SetTable.freeSlot at e;cases q:t.probe (λ _=>h + 1) h (t.probeStart h) with
 | none=>rw [q] at e;cases e
 | some m=>
  rw [q] at e;cases m with
  | candidate a b c=>cases e
  | empty j d=>
   have:=z5v _ _ j d (λ k z=>by cases z) q;cases e;cases d with
   | none=>exact this.1
   | some k=>exact this.2 k rfl
def Tidy (l:Bool) (t:G3):Prop:=t.led=l/\Ris t.place
theorem Tidy.standIn {l:Bool} {t:G3} (h:Tidy l t) (n:Nat):Tidy l (t.standIn n):=⟨h.1,zgf n⟩
theorem Tidy.layNew {l:Bool} {t:G3} (h:Tidy l t) (es:Array (Int×Value)) (k:Int) (x:Value):Tidy l (layNew t es k x).2.1:=by
 unfold PySem.layNew;cases q:t.freeSlot k with
 | none=>exact h.standIn _
 | some s=>
  obtain ⟨s,b⟩:=s;dsimp only;have ht:Tidy l (t.put s).1:=⟨h.1,Ris.insert h.2 (zcu q)⟩
  unfold SetTable.orStandIn;split
  ·exact ht
  ·exact ht.standIn _
theorem Tidy.relayAll {l:Bool} {t:G3} (h:Tidy l t) (es:Array (Int×Value)) (n:Nat):Tidy l (j38 t es n).2.1:=by
 unfold PySem.relayAll;cases q:t.relaid (es.map (·.1)) n with
 | none=>exact h.standIn _
 | some p=>
  obtain ⟨t',o⟩:=p;dsimp only;split
  ·unfold SetTable.relaid SetTable.laid at q;cases q2:SetTable.layClean (SetTable.sizeAbove n - 1) (es.map (·.1)) with
   | none=>rw [q2] at q;cases q
   | some ow=>rw [q2] at q;cases q;refine ⟨h.1,?_⟩;show (List.map _ _).Pairwise _;rw [List.pairwise_map];refine List.Pairwise.filterMap _ (λ a b hab c hc d hd=>?_) (j2j);obtain ⟨c',_,e1⟩:=Option.map_eq_some_iff.mp hc;obtain ⟨d',_,e2⟩:=Option.map_eq_some_iff.mp hd;rw [<-e1,<-e2];exact hab
  ·exact h.standIn _
theorem Ris.next {xs:Array Nat} (r:Ris xs) {i:Nat} (h:i < xs.size):P1 xs (xs[i] + 1)=i + 1:=by
 obtain ⟨h1,h2,h3⟩:=z68 r (xs[i] + 1);apply Nat.le_antisymm
 ·apply c7;intro z;have hs:i + 1 < xs.size:=by omega
  have:=h2 (i + 1) hs z;have:=r.lt (show i < i + 1 by omega) hs;omega
 ·apply c7;intro z;have:=h3 i h (by omega);omega
theorem Ris.first {xs:Array Nat} (r:Ris xs):P1 xs 0=0:=by obtain ⟨h1,h2,h3⟩:=z68 r 0;apply Nat.eq_zero_of_not_pos;intro z;exact absurd (h2 0 (by omega) z) (n5 _)
end L2
set_option maxHeartbeats 1000000
namespace L2
open PySem PySem.Spec PyProof.Rows
noncomputable def intOf:Value->Int
 | .int i _=>i
 | _=>0
theorem z7k {vs:List Value} {ns:List Int} (h:v3 vs ns):ns=vs.map intOf/\∀v∈vs,∃i t,v=.int i t:=by
 induction h with
 | nil=>exact ⟨rfl,λ v hv=>by cases hv⟩
 | cons n t r ih=>
  refine ⟨by rw [ih.1];rfl,λ v hv=>?_⟩;rcases List.mem_cons.mp hv with e|hv
  ·exact ⟨n,t,e⟩
  ·exact ih.2 v hv
theorem zet :∀vs:List Value,(∀v∈vs,∃i t,v=.int i t)->v3 vs (vs.map intOf)
 | [],_=>.nil
 | v :: vs,h=>by obtain ⟨i,t,e⟩:=h v (.head _);subst e;exact .cons i t (zet vs λ v hv=>h v (.tail _ hv))
theorem z50 {vs vs':List Value} {ns:List Int} (h:v3 vs ns) (p:vs'.Perm vs) :∃ns',v3 vs' ns'/\ns'.Perm ns:=by obtain ⟨e,k⟩:=z7k h;refine ⟨vs'.map intOf,zet vs' λ v hv=>k v (p.mem_iff.mp hv),?_⟩;rw [e];exact p.map _
theorem zfj {vs:List Value} {ns:List Int} (h:v3 vs ns):ns.length=vs.length:=by rw [(z7k h).1,D0]
theorem zh2 {vs:List Value} {ns:List Int} (h:v3 vs ns) (n:Int) (t:Tok):v3 (vs++[.int n t]) (ns++[n]):=by
 induction h with
 | nil=>exact .cons n t .nil
 | cons m u r ih=>exact .cons m u ih
section
variable {prog:Program} {w:y1} {A:A2} {E:Value->A0->Prop} {s:A0}
def SetAt (prog:Program) (w:y1) (l:Bool) (h:Heap) (a:Addr) (ns:List Int):Prop:=
 ∃es ep t,h.get? a=some { cls:=.type "set",dict:=none,data:=.set es ep t,slots:=#[] }/\ElemsOf (Z5 prog w) es.toList/\v3 (es.toList.map (·.2)) ns/\ns.Nodup/\es.size < scanBound/\t.fits es.size=true/\Tidy l t
theorem zbc {l:Bool} {h:Heap} {a:Addr} {es0 es:Array (Int×Value)} {ep:Nat} {t0 t:G3} {ns:List Int} (ho:h.get? a=some { cls:=.type "set",dict:=none,data:=.set es0 ep t0,slots:=#[] })
  (hel:ElemsOf (Z5 prog w) es.toList) (hi:v3 (es.toList.map (·.2)) ns) (nd:ns.Nodup) (hb:es.size < scanBound) (hf:t.fits es.size=true) (ht:Tidy l t) :
  (h.update a (j00 es t)).get? a=some { cls:=.type "set",dict:=none,data:=.set es (ep + 1) t,slots:=#[] }/\SetAt prog w l (h.update a (j00 es t)) a ns:=by
 have g:(h.update a (j00 es t)).get? a=some { cls:=.type "set",dict:=none,data:=.set es (ep + 1) t,slots:=#[] }:=V2 (j00 es t) ho rfl;exact ⟨g,es,ep + 1,t,g,hel,hi,nd,hb,hf,ht⟩
theorem ziu {es:List (Int×Value)} {ns:List Int} {v:Int} (hi:v3 (es.map (·.2)) ns) (h:es.findIdx? (λ e=>(Z5 prog w).is v e.2)=none):¬ v∈ns:=λ hv=>by
 obtain ⟨e,k⟩:=z7k hi;rw [e] at hv;obtain ⟨y,hy,e2⟩:=List.mem_map.mp hv;obtain ⟨p,hp,e3⟩:=List.mem_map.mp hy;obtain ⟨i,t,e4⟩:=k y hy;have:=List.findIdx?_eq_none_iff.mp h p hp;have e5:v=i:=by rw [<-e2,e4];rfl
 have:(Z5 prog w).is v p.2=false:=by simpa using this
 rw [e3,e4,e5,intKind_is] at this;cases this
theorem zjh {es:List (Int×Value)} {ns:List Int} {v:Int} {j:Nat} (hi:v3 (es.map (·.2)) ns) (h:es.findIdx? (λ e=>(Z5 prog w).is v e.2)=some j):v∈ns:=by obtain ⟨hj,hp,_⟩:=List.findIdx?_eq_some_iff_getElem.mp h;obtain ⟨t,e⟩:=Value.isInt_shape (show j3b v es[j].2=true from hp);rw [(z7k hi).1];exact List.mem_map.mpr ⟨es[j].2,List.mem_map.mpr ⟨es[j],N4 hj,rfl⟩,by rw [e];rfl⟩
theorem zfl {ns:List Int} {v:Int} (h:ns.Nodup) (n:¬ v∈ns):(ns++[v]).Nodup:=by refine List.nodup_append.mpr ⟨h,by simp,λ a ha b hb e=>?_⟩;rw [List.mem_singleton.mp hb] at e;exact n (e ▸ ha)
noncomputable def addI (ns:List Int) (v:Int):List Int:=if v∈ns then ns else ns++[v]
theorem zju {l:Bool} {a:Addr} {v:Int} {tk:Tok} {ns:List Int} {Q:Bool->A0->Prop} (hS:SetAt prog w l s.heap a ns) (hroom:ns.length + 1 < scanBound)
  (h :∀b h' ns',c6 a s.heap h'->SetAt prog w l h' a ns'->ns'.Perm (addI ns v)->Q b { s with heap:=h' }):Q0 (A1 prog w) A (setAddHashed a (.int v tk) ((Z5 prog w).hash v)) Q E s:=by
 obtain ⟨es,ep,t,ho,hel,hi,nd,hb,hf,ht⟩:=hS;have hsz:es.size=ns.length:=by rw [zfj hi,D0,C2]
 have hk:(Z5 prog w).is v (.int v tk)=true:=intKind_is prog w v tk;unfold setAddHashed setAddHashedIn;refine B2 (c0 (Y5 ho rfl hf ?_));dsimp only;rw [byScan_of rfl hb hel];simp only [↓reduceIte];unfold setAddByScan;refine c0 (c0 (P6 (c0 (wpAny_setScan_of hk ho rfl hf hel ?_))));cases hr:List.findIdx? (λ e=>(Z5 prog w).is v e.2) es.toList with
 | some j=>refine C0 (C0 ?_);have:=h false s.heap ns (Heap.SameBut.refl a s.heap) ⟨es,ep,t,ho,hel,hi,nd,hb,hf,ht⟩ (by unfold addI;rw [if_pos (zjh hi hr)]);exact this
 | none=>
  dsimp only;have hp:=layNew_perm t es ((Z5 prog w).hash v) (.int v tk);have hfi:=layNew_fits t es ((Z5 prog w).hash v) (.int v tk);have hti:=ht.layNew es ((Z5 prog w).hash v) (.int v tk);generalize layNew t es ((Z5 prog w).hash v) (.int v tk)=L at hp hfi hti⊢;obtain ⟨es1,t1,wd,gave⟩:=L;dsimp only at hp hfi hti⊢;rw [Array.toList_push] at hp;have hel1:ElemsOf (Z5 prog w) es1.toList:=(hel.push hk rfl).perm hp;have hi1 :∃ns1,v3 (es1.toList.map (·.2)) ns1/\ns1.Perm (ns++[v]):=z50 (zh2 hi v tk) (by have:=hp.map (λ e:Int×Value=>e.2);rwa [L1] at this);obtain ⟨ns1,hi1,pn⟩:=hi1;have nin:=ziu hi hr;have nd1:ns1.Nodup:=pn.nodup_iff.mpr (zfl nd nin);have ea:addI ns v=ns++[v]:=if_neg nin;have hb1:es1.size < scanBound:=by rw [<-C2,hp.length_eq,K0,C2,hsz];exact hroom
  have gw :∀(b:Bool) {s₁:A0} {Q':Unit->A0->Prop},Q' () s₁->Q0 (A1 prog w) A (match b with|true=>rule "set.scan.the-table-gave-way" | false=>J3 ()) Q' E s₁:=λ b s₁ Q' q=>by cases b with|false=>exact C0 q|true=>exact P6 q
  have last:Q0 (A1 prog w) A (do
    storeSet a es1 t1
    if (!wd && t1.tooFull)=true then do
      (match (j38 t1 es1 (z5 es1.size)).2.2 with|true=>rule "set.scan.the-table-gave-way" | false=>J3 ())
      storeSet a (j38 t1 es1 (z5 es1.size)).1 (j38 t1 es1 (z5 es1.size)).2.1
      J3 (some true)
     else J3 (some true)) (λ r s'=>∃b,r=some b/\Q b s') E s:=by
   obtain ⟨g1,S1⟩:=zbc (prog:=prog) (w:=w) ho hel1 hi1 nd1 hb1 hfi hti;have sb:=P2 s.heap a (j00 es1 t1);refine c0 (wpAny_storeSet_of ho rfl ?_ (j15 hb1));split
   ·have hp2:=relayAll_perm t1 es1 (z5 es1.size);have hf2:=relayAll_fits t1 es1 (z5 es1.size);have ht2:=hti.relayAll es1 (z5 es1.size);generalize j38 t1 es1 (z5 es1.size)=L2 at hp2 hf2 ht2⊢;obtain ⟨es2,t2,g2⟩:=L2;dsimp only at hp2 hf2 ht2⊢;obtain ⟨ns2,hi2,pn2⟩:=z50 hi1 (hp2.map (λ e:Int×Value=>e.2));have hb2:es2.size < scanBound:=by rw [<-C2,hp2.length_eq,C2];exact hb1
    refine c0 (gw g2 (c0 (wpAny_storeSet_of g1 rfl ?_ (j15 hb2))));obtain ⟨_,S2⟩:=zbc (prog:=prog) (w:=w) g1 (hel1.perm hp2) hi2 (pn2.nodup_iff.mpr nd1) hb2 hf2 ht2;exact C0 ⟨true,rfl,h true _ ns2 (sb.trans (P2 _ a _)) S2 (by rw [ea];exact pn2.trans pn)⟩
   ·exact C0 ⟨true,rfl,h true _ ns1 sb S1 (by rw [ea];exact pn)⟩
  refine c0 (gw gave ?_);have fin:=Z3 last (Q':=λ r s'=>Q0 (A1 prog w) A (match r with|some added=>J3 added|none=>setAddHashedIn a (.int v tk) ((Z5 prog w).hash v) 99999) Q E s') (E':=E) (λ r s' x=>by obtain ⟨b,e,q⟩:=x;subst e;exact C0 q) (λ e s' x=>x);by_cases z:t1.plain=true
  ·rw [if_pos z];exact c0 (O9 (show hashByValue 8 (E6 v tk)=J3 true from rfl) fin)
  ·rw [if_neg z];exact c0 (C0 fin)
end
theorem zfw {ns ms:List Int} (p:ns.Perm ms) (v:Int):(addI ns v).Perm (addI ms v):=by
 unfold addI;by_cases z:v∈ns
 ·rw [if_pos z,if_pos (p.mem_iff.mp z)];exact p
 ·rw [if_neg z,if_neg (λ y=>z (p.mem_iff.mpr y))];exact p.append_right [v]
theorem z3t :∀(vs:List Int) {ns ms:List Int},ns.Perm ms->(vs.foldl addI ns).Perm (vs.foldl addI ms)
 | [],_,_,p=>p
 | v :: vs,_,_,p=>z3t vs (zfw p v)
theorem ze3 (ns:List Int) (v:Int):(addI ns v).length<=ns.length + 1:=by
 unfold addI;split
 ·exact F2 _
 ·rw [K0];exact F0 _
section
variable {prog:Program} {w:y1} {A:A2} {E:Value->A0->Prop} {s:A0}
theorem SetAt.at' {l:Bool} {h h':Heap} {a:Addr} {ns:List Int} (k :∀o,h.get? a=some o->h'.get? a=some o) (x:SetAt prog w l h a ns):SetAt prog w l h' a ns:=by obtain ⟨es,ep,t,e,r⟩:=x;exact ⟨es,ep,t,k _ e,r⟩
theorem zgd (a:Args):(D7 "set.update.loop" a).quiet=true:=j0c (by decide +kernel) _
theorem zca {b:Bool} {S it l:Addr} {items:Array Value} (nsi:S≠it) (nsl:S≠l) (nil':it≠l) :∀(ms:List Int) (i:Nat) (ns:List Int) (A:A2) (R:j3e->A0->Prop) (s:A0),A.handled=none->s.heap.IsTupleIter it l i->s.heap.IsTuple l items->
  v3 (items.toList.drop i) ms->SetAt prog w b s.heap S ns->ns.length + ms.length < scanBound->
  (∀h' tk ns',SetAt prog w b h' S ns'->ns'.Perm (ms.foldl addI ns)->(∀c o,c≠S->c≠it->s.heap.get? c=some o->h'.get? c=some o)->R (.ok (.ret .none)) { s with heap:=h',toks:=tk })->
  z6 (A1 prog w) A (D7 "set.update.loop" { pos:=[.ref S,.ref it],kw:=[] }) R s
 | [],i,ns,A,R,s,hh,si,sl,al,dd,hz,q=>by
  have hn:items[i]? = none:=by
   cases hd:items.toList.drop i with
   | nil=>have:=List.drop_eq_nil_iff.mp hd;rw [C2] at this;exact L3 this
   | cons u us=>rw [hd] at al;cases al
  refine c4 j46 ?_;show Q0 _ _ (R6 (.ref it) >>= _) _ _ s;refine c0 (d9 (show (A.under _).handled=none from hh) si sl hn λ h' eb=>?_);exact C0 (q h' s.toks ns (dd.at' λ o e=>eb S o nsi e) (u5 _) λ c o _ hc e=>eb c o hc e)
 | m :: ms,i,ns,A,R,s,hh,si,sl,al,dd,hz,q=>by
  cases hd:items.toList.drop i with
  | nil=>rw [hd] at al;cases al
  | cons u us=>
   rw [hd] at al;cases al with
   | cons _ tk al=>
    have hi:items.toList[i]? = some (.int m tk):=by have:=congrArg (λ l=>l[0]?) hd;simpa using this
    have hu:items[i]? = some (.int m tk):=by simpa using hi
    have hd1:items.toList.drop (i + 1)=us:=by have:=congrArg List.tail hd;simpa using this
    refine c4 j46 ?_;show Q0 _ _ (R6 (.ref it) >>= _) _ _ s;refine c0 (Q8 si sl hu λ h1 si1 sb1=>?_);have sl1:h1.IsTuple l items:=by obtain ⟨o,e1,e2⟩:=sl;exact ⟨o,(sb1.2 l (Q2 nil')).trans e1,e2⟩
    have dd1:SetAt prog w b h1 S ns:=dd.at' λ o e=>(sb1.2 S nsi).trans e;rw [W0] at hz;refine c0 (B2 (show Q0 _ _ (setAdd S (.int m tk)) _ _ _ from ?_));unfold setAdd;refine B2 (c0 ((Z5 prog w).pyHash (k:=m) (intKind_is prog w m tk) ?_));refine zju (s:={ s with heap:=h1,toks:=s.toks + 1 }) dd1 (C1 (by omega) hz) λ c h2 ns2 sb2 dd2 p2=>?_;refine C0 ⟨zgd _,?_⟩;have si2:h2.IsTupleIter it l (i + 1):=by obtain ⟨o,e1,e2⟩:=si1;exact ⟨o,(sb2.2 it (Q2 nsi)).trans e1,e2⟩
    have sl2:h2.IsTuple l items:=by obtain ⟨o,e1,e2⟩:=sl1;exact ⟨o,(sb2.2 l (Q2 nsl)).trans e1,e2⟩
    have l2:ns2.length<=ns.length + 1:=by rw [p2.length_eq];exact ze3 ns m
    refine zca nsi nsl nil' ms (i + 1) ns2 A R { s with heap:=h2,toks:=s.toks + 1 } hh si2 sl2 (by rw [hd1];exact al) dd2 (by omega) λ h' tk' ns' dd' pp kk=>q h' tk' ns' dd' (pp.trans (z3t ms p2)) λ c o hc1 hc2 e=>kk c o hc1 hc2 ((sb2.2 c hc1).trans ((sb1.2 c hc2).trans e))
noncomputable def set0 (w:y1):Obj:={ cls:=.type "set",dict:=none,data:=.set #[] 0 (.fresh 0 0 (!w.params.followText "set-order")) }
theorem zji (a:Value) {Q₁:Value->A0->Prop} (h:Q₁ (.ref s.heap.objs.size) { s with heap:=s.heap.push (set0 w) }):z6 (A1 prog w) A (.call (.builtin "set.__new__") ⟨[.type "set",a],[]⟩) (wants Q₁ E) s:=by refine codeAny_call_builtin F.plain_set_new F.entry_set_new (O9 (F.newCall_set_1 a) ?_);show Q0 _ _ (Builtin.Frozenset.newClass "set" ⟨[.type "set",a],[]⟩ >>= _) _ _ _;refine c0 (c0 (show Q0 _ _ (J3 true) _ _ _ from C0 ?_));show Q0 _ _ (isSubtype (.type "set") (.type "set") >>= _) _ _ _;refine c0 (O9 sub_set_self ?_);refine C0 ?_;show Q0 _ _ (newSet (.type "set") >>= _) _ _ _;unfold newSet setsByText;refine c0 (c0 (c0 (j1j (C0 ?_))));exact c0 (wpAny_alloc (C0 (C0 h)))
theorem zk0 {h:Heap} {a:Addr} (e:h.get? a=some (set0 w)):SetAt prog w (!w.params.followText "set-order") h a []:=
 ⟨#[],0,_,e,λ x hx=>by simp at hx,.nil,List.nodup_nil,by decide,by rfl,rfl,L8⟩
theorem ze4:isSubtype (.type "tuple") (.type "set")=J3 false:=by rw [Q9];kernel_rfl
theorem zco:isSubtype (.type "tuple") (.type "frozenset")=J3 false:=by rw [Q9];kernel_rfl
theorem zdc {l:Addr} {items:Array Value} {ns:List Int} {Q:Value->A0->Prop} (hh:A.handled=none) (ht:s.heap.IsTuple l items) (hi:v3 items.toList ns) (hb:ns.length < scanBound)
  (h :∀h' tk ns',SetAt prog w (!w.params.followText "set-order") h' s.heap.objs.size ns'->ns'.Perm (ns.foldl addI [])->(∀b o,s.heap.get? b=some o->h'.get? b=some o)->Q (.ref s.heap.objs.size) { s with heap:=h',toks:=tk }) :
  Q0 (A1 prog w) A (call (.type "set") [.ref l]) Q E s:=by
 obtain ⟨c,tl,hmro⟩:=F.called_set.mro;have hmade:=F.called_set.made;have hsub:=F.called_set.sub;refine wpAny_call (codeAny_of_tree (show Q0 _ _ (callAny (.type "set") _) _ _ _ from C0 ⟨Code.quiet_builtin _ (by decide +kernel),c4 F.entry_type_call ?_⟩));rw [Around.under_plain (weight_type_call_type "set" [.ref l] []) rfl];have h1:=F.called_set.notType;have h2:=F.called_set.canCreate;have hct:=F.typeCall_set_1 (.ref l)
 (repeat (any_goals (first|assumption|wp_step)));refine S7 (zji (.ref l) (E:=E) (Q₁:=λ obj s₁=>obj=.ref s.heap.objs.size/\s₁={ s with heap:=s.heap.push (set0 w) }) ⟨rfl,rfl⟩) λ r s₁ hr=>?_
 cases r with
 | error e=>exact hr
 | ok fl=>
  cases fl with
  | next=>exact hr.elim
  | brk=>exact hr.elim
  | cont=>exact hr.elim
  | ret obj=>
   obtain ⟨rfl,rfl⟩:=hr;have hS:(s.heap.push (set0 w)).get? s.heap.objs.size=some (set0 w):=S0 _ rfl;have hT:Y6 { s with heap:=s.heap.push (set0 w) } (.ref s.heap.objs.size) "set":=⟨_,hS,rfl⟩
   have hli:=F.called_set.init.lookup;have hbi:=F.called_set.init.bind (.ref s.heap.objs.size)
   (repeat (any_goals (first|assumption|wp_step)))
   have inner:z6 (A1 prog w) A.in1 (.call (.builtin "set.__init__") ⟨[.ref s.heap.objs.size,.ref l],[]⟩) (wants (λ r s₂=>r=.none/\Q (.ref s.heap.objs.size) s₂) E) { s with heap:=s.heap.push (set0 w) }:=by
    refine codeAny_call_builtin F.called_set.init.plain F.entry_set_init (check_set_init_1 hT ?_);obtain ⟨o,ho,hc,n,hd⟩:=ht;obtain ⟨oc,od,oda,osl⟩:=o;dsimp only at hc hd;subst hc hd;have ho1:(s.heap.push (set0 w)).get? l=some { cls:=.type "tuple",dict:=od,data:=.seq items n,slots:=osl }:=B0 _ ho;have hts:=ze4;have htf:=zco;have hne:(D3 "tuple" == D3 "dict")=false:=by decide
    have hS':(s.heap.push (set0 w)).get? s.heap.objs.size=some { cls:=.type "set",dict:=none,data:=.set #[] 0 (.fresh 0 0 (!w.params.followText "set-order")),slots:=#[] }:=hS;have ht1:(s.heap.push (set0 w)).IsTuple l items:=⟨_,ho1,rfl,n,rfl⟩
    have ll:l < s.heap.objs.size:=P0 ho;unfold E5.«set.__init__» noKeywords Builtin.Frozenset.updateFrom;generalize hPI:j39=PI
    wp_walk
    subst hPI;refine C4 ht1 (c0 (wpAny_runValue ?_));have k2 :∀b o,s.heap.get? b=some o->((s.heap.push (set0 w)).push { cls:=.type "tuple_iterator",data:=.fields #[.ref l,.int 0 0] }).get? b=some o:=λ b o e=>B0 _ (B0 _ e);have ls:(s.heap.push (set0 w)).objs.size=s.heap.objs.size + 1:=W3 _ _;refine zca (S:=s.heap.objs.size) (it:=(s.heap.push (set0 w)).objs.size) (l:=l) (items:=items) (by rw [ls];exact Z0 (K2 _)) (E3 ll) (by rw [ls];exact E3 (N1 ll)) ns 0 [] _ _ _ (by simp [hh]) ⟨_,S0 _ rfl,rfl,rfl⟩ ⟨_,k2 _ _ ho,rfl,n,rfl⟩ (by rw [P4];exact hi) (zk0 (B0 _ hS)) (by simpa using hb) λ h' tk ns' dd pp kk=>?_;refine C0 (C0 ⟨rfl,h h' tk ns' dd pp λ b o e=>kk b o (Z0 (P0 e)) (by rw [ls];exact Z0 (N1 (P0 e))) (k2 b o e)⟩)
   refine S7 inner λ r₂ s₂ hr₂=>?_;cases r₂ with
   | error e=>exact hr₂
   | ok f2=>
    cases f2 with
    | next=>exact hr₂.elim
    | brk=>exact hr₂.elim
    | cont=>exact hr₂.elim
    | ret r=>obtain ⟨rfl,hq⟩:=hr₂;exact C0 (C0 hq)
end
theorem si_next:Slot "set_iterator" "__next__" "set_iterator.__next__":=.of (owner:="set_iterator") (n:="__next__") (by rw [typeLookup_type,builtinLookup_eq_fast];kernel_rfl) (by decide +kernel) (by decide +kernel) (by decide +kernel) (by first|exact .inl (by decide +kernel)|exact .inr (by decide +kernel)) (by rw [Q9];kernel_rfl)
theorem zi1:Slot "set_iterator" "__iter__" "set_iterator.__iter__":=.of (owner:="set_iterator") (n:="__iter__") (by rw [typeLookup_type,builtinLookup_eq_fast];kernel_rfl) (by decide +kernel) (by decide +kernel) (by decide +kernel) (by first|exact .inl (by decide +kernel)|exact .inr (by decide +kernel)) (by rw [Q9];kernel_rfl)
theorem z1m:entryFor table "set_iterator.__next__" = some E5.«set_iterator.__next__»:=entryFor_of_tree (by kernel_rfl)
theorem z8z:entryFor table "set_iterator.__iter__" = some E5.«dict_keyiterator.__iter__»:=entryFor_alias (id':="dict_keyiterator.__iter__") (by kernel_rfl) rfl (by decide +kernel) (by kernel_rfl)
theorem z7e:entryFor table "set.__iter__" = some E5.«frozenset.__iter__»:=entryFor_alias (id':="frozenset.__iter__") (by kernel_rfl) rfl (by decide +kernel) (by kernel_rfl)
theorem zdm:Manifest.owners.lookup (String.ofList ['r','o','t','a','r','e','t','i','_','t','e','s'].reverse)=some Manifest.sig_set_iterator:=by kernel_rfl
theorem z1v (a:Value):argsOk "set_iterator.__next__" ⟨[a],[]⟩:=by unfold argsOk;rw [signature?_of (id:="set_iterator.__next__") (n:=['_','_','t','x','e','n','_','_']) (o:=['r','o','t','a','r','e','t','i','_','t','e','s']) (by kernel_rfl) zdm];kernel_rfl
theorem zag (a:Value):argsOk "set_iterator.__iter__" ⟨[a],[]⟩:=by unfold argsOk;rw [signature?_of (id:="set_iterator.__iter__") (n:=['_','_','r','e','t','i','_','_']) (o:=['r','o','t','a','r','e','t','i','_','t','e','s']) (by kernel_rfl) zdm];kernel_rfl
theorem z5p {α:Type} :∀(xs:List α) (i:Nat) (h:i < xs.length),(xs[i] :: xs.eraseIdx i).Perm xs
 | x :: xs,0,_=>u5 _
 | x :: xs,i + 1,h=>(List.Perm.swap x _ _).trans ((z5p xs i (by simpa using h)).cons x)
theorem zc4 {α:Type} (nx:Nat->Nat) :∀(f k:Nat) (xs:List α) (out:Array α),xs.length<=f->(pickOrder.go nx f k xs out).toList.Perm (out.toList++xs)
 | 0,k,xs,out,h=>by have:xs=[]:=List.length_eq_zero_iff.mp (Nat.le_zero.mp h);subst this;rw [C3];exact u5 _
 | f + 1,k,xs,out,h=>by
  unfold pickOrder.go;cases xs with
  | nil=>rw [C3];exact u5 _
  | cons x xs=>have lt:nx k % (x :: xs).length < (x :: xs).length:=Nat.mod_lt _ (by simp);rw [J0 lt];dsimp only;have:=zc4 nx f (k + 1) ((x :: xs).eraseIdx (nx k % (x :: xs).length)) (out.push (x :: xs)[nx k % (x :: xs).length]) (by rw [j1f lt];simp at h⊢;omega);refine this.trans ?_;rw [Array.toList_push,C5];refine List.Perm.append_left _ ?_;exact z5p _ _ lt
theorem z7q {α:Type} (nx:Nat->Nat) (xs:Array α):(pickOrder nx xs).toList.Perm xs.toList:=by have:=zc4 nx xs.size 0 xs.toList #[] (by simp);simpa [pickOrder] using this
section
variable {prog:Program} {w:y1} {A:A2} {E:Value->A0->Prop} {s:A0}
noncomputable abbrev setO (es:Array (Int×Value)) (ep:Nat) (t:G3):Obj:={ cls:=.type "set",dict:=none,data:=.set es ep t,slots:=#[] }
theorem zbr {Q:Bool->A0->Prop} (q:Q (w.params.followText "set-order") s):Q0 (A1 prog w) A setsByText Q E s:=by unfold setsByText;exact c0 (j1j (C0 q))
theorem z64 {S:Addr} {es:Array (Int×Value)} {ep:Nat} {t:G3} {slot i:Nat} {Q:Option (Value×Nat)->A0->Prop} (hx:w.params.followText "set-order" = true) (ho:s.heap.get? S=some (setO es ep t)) (hf:t.fits es.size=true)
  (q:Q (((pickOrder (w.params.setOrder S ep) es)[i]?).map λ e=>(e.2,slot)) s):Q0 (A1 prog w) A (j02 S slot i ep) Q E s:=by
 unfold j02;refine c0 (Y5 ho rfl hf (c0 (zbr ?_)));rw [hx];dsimp only;rw [if_pos rfl,if_neg (by simp)];refine c0 ?_;unfold setWalk;refine c0 (Y5 ho rfl hf (c0 (zbr ?_)));rw [hx];refine c0 (j1j ?_);exact C0 (C0 q)
theorem z4o {S:Addr} {es:Array (Int×Value)} {ep:Nat} {t:G3} {slot i k:Nat} {Q:Option (Value×Nat)->A0->Prop} (hx:w.params.followText "set-order" = false) (ho:s.heap.get? S=some (setO es ep t)) (hf:t.fits es.size=true) (hl:t.led=true)
  (hd:(!t.plain && decide (es.size > 1))=false) (hk:P1 t.place slot=k)
  (q:Q (match es[k]?,t.place[k]? with|some (_,x),some j=>some (x,j + 1)|_,_=>none) s):Q0 (A1 prog w) A (j02 S slot i ep) Q E s:=by
 unfold j02;refine c0 (Y5 ho rfl hf (c0 (zbr ?_)));rw [hx];dsimp only;rw [if_neg (by decide)];show Q0 _ _ (if (!t.plain && decide (es.size > 1))=true then _ else _) _ _ _;rw [hd,if_neg (by decide)];show Q0 _ _ ((if (!t.led && !es.isEmpty)=true then _ else _) >>= _) _ _ _;rw [hl,if_neg (by simp),hk];exact c0 (C0 (C0 q))
theorem stops {h1:Heap} {Q:Option Value->A0->Prop} (hh:A.handled=none) (q :∀h',(∀b o,h1.get? b=some o->h'.get? b=some o)->Q none { s with heap:=h' }) :
  Q0 (A1 prog w) A.in1 (do raiseNew (<-newExc (.type "StopIteration") [])) (λ (fin:j07) s'=>∃v,fin=.done (.ret v)/\Q0 (A1 prog w) A (J3 (some v)) Q E s')
   (λ e s'=>Q0 (A1 prog w) A (do if <-isInstance e (.type "StopIteration") then J3 none else throw e) Q E s') { s with heap:=h1 }:=by
 refine c0 ?_;simp only [newExc,newTuple];refine c0 (E2 (c0 (m:=S9 _ _) (O9 (a:=O2) (by first|rfl|(simp only [S9];rfl)) (E2 ?_ (by size_fits)))) (by size_fits));simp only [raiseNew];refine c0 (wpAny_handled ?_);rw [show A.in1.handled=none from hh];refine c0 (C0 (j27 ?_));refine c0 (y6 (T:="StopIteration") (b:=true) ⟨_,S0 _ rfl,rfl⟩ isSubtype_stop ?_);exact C0 (q _ λ b o e=>B0 _ (B0 _ e))
noncomputable abbrev setItO (first:Value) (i:Nat) (S:Addr) (n ep:Nat):Obj:={ cls:=.type "set_iterator",data:=.fields #[first,.int i 0,.ref S,.int n 0,.int ep 0] }
theorem zjf {it S:Addr} {es:Array (Int×Value)} {ep i slot slot':Nat} {t:G3} {x:Value} {Q:Option Value->A0->Prop} (hi:s.heap.get? it=some (setItO (.int slot 0) i S es.size ep)) (ho:s.heap.get? S=some (setO es ep t)) (hf:t.fits es.size=true)
  (hn :∀(A:A2) (E:Value->A0->Prop) (Q:Option (Value×Nat)->A0->Prop),Q (some (x,slot')) s->Q0 (A1 prog w) A (j02 S slot i ep) Q E s)
  (q :∀h',c6 it s.heap h'->h'.get? it=some (setItO (.int slot' 0) (i + 1) S es.size ep)->Q (some x) { s with heap:=h' }):Q0 (A1 prog w) A (R6 (.ref it)) Q E s:=by
 have hT:s.TypeIs (.ref it) "set_iterator":=⟨_,hi,rfl⟩
 unfold R6;refine c0 (N5 (i3 (name:=V1 "__next__") hT si_next (Y2 si_next hT z1m ?_ (z1v _))));unfold E5.«set_iterator.__next__»;refine c0 (show Q0 _ _ (J3 (E1 it,[])) _ _ _ from C0 ?_);refine c0 (P9 hi rfl ?_);dsimp only;refine c0 (F6 ho rfl hf ?_);rw [if_neg (by simp)];refine c0 (hn _ _ _ ?_);dsimp only;refine c0 (Z4 hi rfl (by simp) ?_);have g1:(s.heap.update it (N2 (·.setIfInBounds 0 (c5 slot')))).get? it=some (setItO (.int slot' 0) i S es.size ep):=V2 _ hi rfl;refine c0 (Z4 (s:={ s with heap:=s.heap.update it (N2 (·.setIfInBounds 0 (c5 slot'))) }) g1 rfl (by simp) ?_);have g2:((s.heap.update it (N2 (·.setIfInBounds 0 (c5 slot')))).update it (N2 (·.setIfInBounds 1 (c5 ((i:Int) + 1))))).get? it=some (setItO (.int slot' 0) (i + 1) S es.size ep):=V2 _ g1 rfl;exact C0 ⟨x,rfl,C0 (q _ ((P2 ..).trans (P2 ..)) g2)⟩
theorem si_end {it S:Addr} {es:Array (Int×Value)} {ep i slot:Nat} {t:G3} {Q:Option Value->A0->Prop} (hh:A.handled=none) (hi:s.heap.get? it=some (setItO (.int slot 0) i S es.size ep)) (ho:s.heap.get? S=some (setO es ep t)) (hf:t.fits es.size=true)
  (hn :∀(A:A2) (E:Value->A0->Prop) (Q:Option (Value×Nat)->A0->Prop),Q none s->Q0 (A1 prog w) A (j02 S slot i ep) Q E s)
  (q :∀h',j45 it s.heap h'->Q none { s with heap:=h' }):Q0 (A1 prog w) A (R6 (.ref it)) Q E s:=by
 have hT:s.TypeIs (.ref it) "set_iterator":=⟨_,hi,rfl⟩
 unfold R6;refine c0 (N5 (i3 (name:=V1 "__next__") hT si_next (Y2 si_next hT z1m ?_ (z1v _))));unfold E5.«set_iterator.__next__»;refine c0 (show Q0 _ _ (J3 (E1 it,[])) _ _ _ from C0 ?_);refine c0 (P9 hi rfl ?_);dsimp only;refine c0 (F6 ho rfl hf ?_);rw [if_neg (by simp)];refine c0 (hn _ _ _ ?_);dsimp only;refine c0 (Z4 hi rfl (by simp) ?_);have kb :∀b o,b≠it->s.heap.get? b=some o->(s.heap.update it (N2 (·.setIfInBounds 2 O2))).get? b=some o:=λ b o hb e=>((P2 s.heap it (N2 (·.setIfInBounds 2 O2))).2 b hb).trans e;generalize s.heap.update it (N2 (·.setIfInBounds 2 O2))=h1 at kb⊢;exact stops hh λ h' k=>q h' λ b o hb e=>k b o (kb b o hb e)
theorem zi5 {it S tp:Addr} {es:Array (Int×Value)} {ep i k m:Nat} {t:G3} {hx:Int} {x:Value} {ps:Array Value} {o:Obj} {Q:Option Value->A0->Prop} (hi:s.heap.get? it=some (setItO (.ref tp) i S es.size ep)) (ho:s.heap.get? S=some (setO es ep t)) (hf:t.fits es.size=true)
  (ht:s.heap.get? tp=some o) (hd:o.data=.seq ps m) (hp:ps[i]? = some (.int k 0)) (hk:es[k]? = some (hx,x))
  (q :∀h',c6 it s.heap h'->h'.get? it=some (setItO (.ref tp) (i + 1) S es.size ep)->Q (some x) { s with heap:=h' }):Q0 (A1 prog w) A (R6 (.ref it)) Q E s:=by
 have hT:s.TypeIs (.ref it) "set_iterator":=⟨_,hi,rfl⟩
 unfold R6;refine c0 (N5 (i3 (name:=V1 "__next__") hT si_next (Y2 si_next hT z1m ?_ (z1v _))));unfold E5.«set_iterator.__next__»;refine c0 (show Q0 _ _ (J3 (E1 it,[])) _ _ _ from C0 ?_);refine c0 (P9 hi rfl ?_);dsimp only;refine c0 (F6 ho rfl hf ?_);rw [if_neg (by simp)];refine c0 (Z7 ht hd ?_);dsimp only;rw [show (C9 (i:Int))=i from y3 i,hp];dsimp only;refine c0 ?_;unfold setNextDrawn;refine c0 (Y5 ho rfl hf ?_);dsimp only;rw [if_neg (by simp),show (C9 (k:Int))=k from y3 k,hk];refine c0 (C0 (C0 ?_));refine c0 (Z4 hi rfl (by simp) ?_);have g1:(s.heap.update it (N2 (·.setIfInBounds 1 (c5 ((i:Int) + 1))))).get? it=some (setItO (.ref tp) (i + 1) S es.size ep):=V2 _ hi rfl;exact C0 ⟨x,rfl,C0 (q _ (P2 ..) g1)⟩
theorem zao {it S tp:Addr} {es:Array (Int×Value)} {ep i m:Nat} {t:G3} {ps:Array Value} {o:Obj} {Q:Option Value->A0->Prop} (hh:A.handled=none) (hi:s.heap.get? it=some (setItO (.ref tp) i S es.size ep)) (ho:s.heap.get? S=some (setO es ep t)) (hf:t.fits es.size=true)
  (ht:s.heap.get? tp=some o) (hd:o.data=.seq ps m) (hp:ps[i]? = none)
  (q :∀h',j45 it s.heap h'->Q none { s with heap:=h' }):Q0 (A1 prog w) A (R6 (.ref it)) Q E s:=by
 have hT:s.TypeIs (.ref it) "set_iterator":=⟨_,hi,rfl⟩
 unfold R6;refine c0 (N5 (i3 (name:=V1 "__next__") hT si_next (Y2 si_next hT z1m ?_ (z1v _))));unfold E5.«set_iterator.__next__»;refine c0 (show Q0 _ _ (J3 (E1 it,[])) _ _ _ from C0 ?_);refine c0 (P9 hi rfl ?_);dsimp only;refine c0 (F6 ho rfl hf ?_);rw [if_neg (by simp)];refine c0 (Z7 ht hd ?_);dsimp only;rw [show (C9 (i:Int))=i from y3 i,hp];dsimp only;refine c0 (Z4 hi rfl (by simp) ?_);have g1:(s.heap.update it (N2 (·.setIfInBounds 0 (c5 0)))).get? it=some (setItO (.int 0 0) i S es.size ep):=V2 _ hi rfl;refine c0 (Z4 (s:={ s with heap:=s.heap.update it (N2 (·.setIfInBounds 0 (c5 0))) }) g1 rfl (by simp) ?_);have kb :∀b o,b≠it->s.heap.get? b=some o->((s.heap.update it (N2 (·.setIfInBounds 0 (c5 0)))).update it (N2 (·.setIfInBounds 2 O2))).get? b=some o:=λ b o hb e=>(((P2 s.heap it (N2 (·.setIfInBounds 0 (c5 0)))).trans (P2 _ it (N2 (·.setIfInBounds 2 O2)))).2 b hb).trans e;generalize (s.heap.update it (N2 (·.setIfInBounds 0 (c5 0)))).update it (N2 (·.setIfInBounds 2 O2))=h1 at kb⊢;exact stops hh λ h' k=>q h' λ b o hb e=>k b o (kb b o hb e)
theorem zhf {it:Addr} {first:Value} {i n ep:Nat} {S:Addr} {Q:Value->A0->Prop} (hi:s.heap.get? it=some (setItO first i S n ep)) (q:Q (.ref it) s):Q0 (A1 prog w) A (j39 (.ref it)) Q E s:=by
 have hT:s.TypeIs (.ref it) "set_iterator":=⟨_,hi,rfl⟩
 refine wpAny_pyIter_slot hT zi1 (Y2 zi1 hT z8z (show Q0 _ _ (ret (.ref it)) _ _ s from ?_) (zag _));exact C0 ⟨_,rfl,"set_iterator",_,hT,si_next.lookup,q⟩
end
section
variable {prog:Program} {w:y1} {A:A2} {E:Value->A0->Prop}
theorem chosen {s:A0} {src:Source} {n:Nat} {Q:Nat->A0->Prop} (hn:n≠0) (q :∀i d,i < n->Q i { s with drawn:=d }):Q0 (A1 prog w) A (choose src n) Q E s:=λ Γ p hΓ=>⟨hn,q _ _ (Nat.mod_lt _ (Nat.pos_of_ne_zero hn))⟩
theorem z3n {α:Type} :∀(n:Nat) (xs:List α) (s:A0) (Q:List α->A0->Prop),xs.length<=n->(∀ys d,ys.Perm xs->Q ys { s with drawn:=d })->Q0 (A1 prog w) A (drawOrder n xs) Q E s
 | 0,xs,s,Q,h,q=>by have:xs=[]:=List.length_eq_zero_iff.mp (Nat.le_zero.mp h);subst this;exact C0 (q [] s.drawn (u5 _))
 | n + 1,[],s,Q,h,q=>C0 (q [] s.drawn (u5 _))
 | n + 1,x :: xs,s,Q,h,q=>by unfold drawOrder;refine c0 (chosen (by simp) λ i d hi=>?_);rw [J0 hi];dsimp only;refine c0 (z3n n _ _ _ (by rw [j1f hi];simp at h⊢;omega) λ ys d2 p=>?_);exact C0 (q _ d2 ((p.cons _).trans (z5p _ _ hi)))
theorem zcj {s:A0} {S:Addr} {es:Array (Int×Value)} {ep:Nat} {t:G3} {Q:Bool->A0->Prop} (ho:s.heap.get? S=some (setO es ep t)) (hf:t.fits es.size=true) (q:Q (!w.params.followText "set-order" && (!t.plain && decide (es.size > 1))) s):Q0 (A1 prog w) A (setDrawn S) Q E s:=by unfold setDrawn;exact c0 (Y5 ho rfl hf (c0 (zbr (C0 q))))
theorem zic {s:A0} {S:Addr} {es:Array (Int×Value)} {ep:Nat} {t:G3} {Q:Value->A0->Prop} (ho:s.heap.get? S=some (setO es ep t)) (hf:t.fits es.size=true) (hz:es.size < scanBound)
  (q1:(!w.params.followText "set-order" && (!t.plain && decide (es.size > 1)))=false->Q (.ref s.heap.objs.size) { s with heap:=s.heap.push (setItO (.int 0 0) 0 S es.size ep) })
  (q2 :∀(ps:List Nat) d,ps.Perm (W1 es.size)->Q (.ref (s.heap.objs.size + 1)) { s with heap:=(s.heap.push { cls:=.type "tuple",data:=.seq (ps.map λ i:Nat=>c5 i).toArray }).push (setItO (.ref s.heap.objs.size) 0 S es.size ep),drawn:=d }) :
  Q0 (A1 prog w) A (j39 (.ref S)) Q E s:=by
 have hT:s.TypeIs (.ref S) "set":=⟨_,ho,rfl⟩
 refine wpAny_pyIter_slot hT F.slot_set_iter (Y2 F.slot_set_iter hT z7e ?_ (F.args_set_iter_1 _));unfold E5.«frozenset.__iter__»;refine c0 (show Q0 _ _ (J3 S) _ _ _ from C0 ?_);unfold Builtin.Frozenset.sizeOf;refine c0 (c0 (F6 ho rfl hf (C0 ?_)));refine c0 (zcj ho hf ?_);by_cases z:(!w.params.followText "set-order" && (!t.plain && decide (es.size > 1)))=true
 ·rw [if_pos z];refine c0 (z3n _ _ _ _ (by simp) λ ps d p=>?_);have hl:ps.length=es.size:=by rw [p.length_eq,x2]
  unfold newTuple;refine c0 (E2 ?_ (show (ps.map λ i:Nat=>c5 i).toArray.size<=sizeLine by rw [O0,D0,hl];exact j15 hz));refine c0 (wpAny_setEpoch_of (s:={ s with heap:=s.heap.push { cls:=.type "tuple",data:=.seq (ps.map λ i:Nat=>c5 i).toArray },drawn:=d }) (B0 _ ho) rfl hf ?_);have e1:(s.heap.push { cls:=.type "tuple",data:=.seq (ps.map λ i:Nat=>c5 i).toArray }).objs.size=s.heap.objs.size + 1:=W3 _ _;refine c0 (E2 (C0 ⟨_,rfl,"set_iterator",_,⟨_,S0 _ rfl,rfl⟩,si_next.lookup,?_⟩));have:=q2 ps d p;rw [<-e1] at this;exact this
 ·rw [if_neg z];refine c0 (C0 ?_);refine c0 (wpAny_setEpoch_of ho rfl hf ?_);exact c0 (E2 (C0 ⟨_,rfl,"set_iterator",_,⟨_,S0 _ rfl,rfl⟩,si_next.lookup,q1 (Bool.eq_false_iff.mpr z)⟩))
theorem zbd {I S:Addr} {es:Array (Int×Value)} {ep:Nat} {t:G3} (hh:A.handled=none) (hne:S≠I) (hf:t.fits es.size=true) (vs:List Value) (sl:Nat->Nat)
  (hN :∀(i:Nat) (x:Value),vs[i]? = some x->∀(s:A0) (A:A2) (E:Value->A0->Prop) (Q:Option (Value×Nat)->A0->Prop),s.heap.get? S=some (setO es ep t)->Q (some (x,sl (i + 1))) s->Q0 (A1 prog w) A (j02 S (sl i) i ep) Q E s)
  (hE :∀(s:A0) (A:A2) (E:Value->A0->Prop) (Q:Option (Value×Nat)->A0->Prop),s.heap.get? S=some (setO es ep t)->Q none s->Q0 (A1 prog w) A (j02 S (sl vs.length) vs.length ep) Q E s) :
  Walks prog w A I [I,S] [I] vs.length (λ i v=>vs[i]? = some v) (λ i h=>h.get? I=some (setItO (.int (sl i) 0) i S es.size ep)/\h.get? S=some (setO es ep t)) where
 sub:=λ b hb=>List.mem_cons.mpr (.inl (List.mem_singleton.mp hb))
 frame:=λ i h h' st k=>⟨k I (by simp) _ st.1,k S (by simp) _ st.2⟩
 item:=λ i s Q E hi st q=>by refine zjf st.1 st.2 hf (λ A E Q z=>hN i vs[i] (J0 hi) s A E Q st.2 z) λ h' sb g=>?_;exact q _ h' s.toks (J0 hi) ⟨g,(sb.2 S hne).trans st.2⟩ λ b o hb e=>(sb.2 b (λ z=>hb (by simp [z]))).trans e
 done:=λ s Q E st q=>si_end hh st.1 st.2 hf (λ A E Q z=>hE s A E Q st.2 z) λ h' eb=>q h' s.toks λ b o hb e=>eb b o (λ z=>hb (by simp [z])) e
 self:=λ i s Q E st q=>zhf st.1 q
theorem zeq {I S tp:Addr} {es:Array (Int×Value)} {ep:Nat} {t:G3} (hh:A.handled=none) (hne:S≠I) (hnt:tp≠I) (hf:t.fits es.size=true) (vs:List Value) (ps:List Nat) (hl:ps.length=vs.length)
  (hN :∀(i:Nat) (x:Value),vs[i]? = some x->∃k hx,ps[i]? = some k/\es[k]? = some (hx,x)) :
  Walks prog w A I [I,S,tp] [I] vs.length (λ i v=>vs[i]? = some v) (λ i h=>h.get? I=some (setItO (.ref tp) i S es.size ep)/\h.get? S=some (setO es ep t)/\h.get? tp=some { cls:=.type "tuple",data:=.seq (ps.map λ i:Nat=>c5 i).toArray }) where
 sub:=λ b hb=>List.mem_cons.mpr (.inl (List.mem_singleton.mp hb))
 frame:=λ i h h' st k=>⟨k I (by simp) _ st.1,k S (by simp) _ st.2.1,k tp (by simp) _ st.2.2⟩
 item:=λ i s Q E hi st q=>by obtain ⟨k,hx,e1,e2⟩:=hN i vs[i] (J0 hi);refine zi5 st.1 st.2.1 hf st.2.2 rfl (by rw [P8,V0,e1];rfl) e2 λ h' sb g=>?_;exact q _ h' s.toks (J0 hi) ⟨g,(sb.2 S hne).trans st.2.1,(sb.2 tp hnt).trans st.2.2⟩ λ b o hb e=>(sb.2 b (λ z=>hb (by simp [z]))).trans e
 done:=λ s Q E st q=>zao hh st.1 st.2.1 hf st.2.2 rfl (by rw [P8,y4];simp [hl]) λ h' eb=>q h' s.toks λ b o hb e=>eb b o (λ z=>hb (by simp [z])) e
 self:=λ i s Q E st q=>zhf st.1 q
noncomputable def slotAt (t:G3):Nat->Nat
 | 0=>0
 | i + 1=>t.place.getD i 0 + 1
theorem z61 {t:G3} (r:Ris t.place) :∀{i:Nat},i<=t.place.size->P1 t.place (slotAt t i)=i
 | 0,_=>r.first
 | i + 1,h=>by show P1 t.place (t.place.getD i 0 + 1)=i + 1;rw [zdo h];exact r.next h
theorem zfs {t:G3} {n:Nat} (h:t.fits n=true):t.place.size=n:=by unfold SetTable.fits at h;exact beq_iff_eq.mp (Bool.and_eq_true_iff.mp h).1
noncomputable def atV (es:Array (Int×Value)) (k:Nat):Value:=((es[k]?).map (·.2)).getD .none
theorem zh8 (es:Array (Int×Value)):(W1 es.size).map (atV es)=es.toList.map (·.2):=by
 apply g8
 ·simp
 ·intro i h1 h2;have hi:i < es.size:=by simpa using h1
  simp [atV,hi]
theorem zir {s:A0} {S:Addr} {ns:List Int} {Q:Value->A0->Prop} (hh:A.handled=none) (hS:SetAt prog w (!w.params.followText "set-order") s.heap S ns)
  (q :∀(I:Addr) (fp:List Addr) (h':Heap) (d:Drawn) (vs:List Value) (ms:List Int) (St:Nat->Heap->Prop),s.heap.objs.size<=I->(∀b∈fp,b=S\/s.heap.objs.size<=b)->(∀b o,s.heap.get? b=some o->h'.get? b=some o)->
   (∀A':A2,A'.handled=none->Walks prog w A' I fp [I] vs.length (λ i v=>vs[i]? = some v) St)->St 0 h'->v3 vs ms->ms.Perm ns->Q (.ref I) { s with heap:=h',drawn:=d }) :
  Q0 (A1 prog w) A (j39 (.ref S)) Q E s:=by
 obtain ⟨es,ep,t,ho,hel,hi,nd,hb,hf,ht⟩:=hS;have ls:=P0 ho;refine zic ho hf hb (λ z=>?_) λ ps d p=>?_
 ·have kk :∀b o,s.heap.get? b=some o->(s.heap.push (setItO (.int 0 0) 0 S es.size ep)).get? b=some o:=λ b o e=>B0 _ e;have fpo :∀b∈[s.heap.objs.size,S],b=S\/s.heap.objs.size<=b:=λ b hb=>by
   rcases List.mem_cons.mp hb with e|e
   ·exact .inr (J8 e.symm)
   ·exact .inl (List.mem_singleton.mp e)
  cases hx:w.params.followText "set-order" with
  | true=>
   have pp:=(z7q (w.params.setOrder S ep) es).map (λ e:Int×Value=>e.2);obtain ⟨ms,im,pm⟩:=z50 hi pp;refine q s.heap.objs.size [s.heap.objs.size,S] _ s.drawn _ ms _ (F0 _) fpo kk (λ A' hh'=>zbd hh' (Z0 ls) hf ((pickOrder (w.params.setOrder S ep) es).toList.map (·.2)) (λ _=>0) (λ i x e s A E Q ho q=>z64 hx ho hf ?_) (λ s A E Q ho q=>z64 hx ho hf ?_)) ⟨S0 _ rfl,kk _ _ ho⟩ im pm
   ·rw [V0,j4] at e;obtain ⟨y,e1,e2⟩:=Option.map_eq_some_iff.mp e;rw [e1,u7,e2];exact q
   ·rw [L3 (by simp)];exact q
  | false=>
   rw [hx] at z ht;have hz:(!t.plain && decide (es.size > 1))=false:=by simpa using z
   have sz:=zfs hf;refine q s.heap.objs.size [s.heap.objs.size,S] _ s.drawn _ ns _ (F0 _) fpo kk (λ A' hh'=>zbd hh' (Z0 ls) hf (es.toList.map (·.2)) (slotAt t) (λ i x e s A E Q ho q=>?_) (λ s A E Q ho q=>?_)) ⟨S0 _ rfl,kk _ _ ho⟩ hi (u5 _)
   ·rw [V0,j4] at e;obtain ⟨y,e1,e2⟩:=Option.map_eq_some_iff.mp e;have il:i < es.size:=by
     cases Nat.lt_or_ge i es.size with
     | inl h=>exact h
     | inr h=>rw [L3 h] at e1;cases e1
    have ip:i < t.place.size:=by rw [sz];exact il
    refine z4o (k:=i) hx ho hf ht.1 hz (z61 ht.2 (T3 ip)) ?_;rw [e1,A4 ip];have:slotAt t (i + 1)=t.place[i] + 1:=by show t.place.getD i 0 + 1=_;rw [zdo ip]
    rw [this,<-e2] at q;exact q
   ·refine z4o (k:=(es.toList.map (·.2)).length) hx ho hf ht.1 hz (z61 ht.2 (by simp [sz])) ?_;rw [L3 (by simp)];exact q
 ·have kk :∀b o,s.heap.get? b=some o->((s.heap.push { cls:=.type "tuple",data:=.seq (ps.map λ i:Nat=>c5 i).toArray }).push (setItO (.ref s.heap.objs.size) 0 S es.size ep)).get? b=some o:=λ b o e=>B0 _ (B0 _ e);have e1:(s.heap.push { cls:=.type "tuple",data:=.seq (ps.map λ i:Nat=>c5 i).toArray }).objs.size=s.heap.objs.size + 1:=W3 _ _;have pp:(ps.map (atV es)).Perm (es.toList.map (·.2)):=by rw [<-zh8];exact p.map _
  obtain ⟨ms,im,pm⟩:=z50 hi pp;refine q (s.heap.objs.size + 1) [s.heap.objs.size + 1,S,s.heap.objs.size] _ d _ ms _ (F2 _) (λ b hb=>?_) kk (λ A' hh'=>zeq (tp:=s.heap.objs.size) hh' (Z0 (N1 ls)) (Z0 (K2 _)) hf (ps.map (atV es)) ps (by simp) (λ i x e=>?_)) ⟨?_,kk _ _ ho,B0 _ (S0 _ rfl)⟩ im pm
  ·rcases List.mem_cons.mp hb with e|hb
   ·exact .inr (by rw [e];exact F2 _)
   ·rcases List.mem_cons.mp hb with e|hb
    ·exact .inl e
    ·exact .inr (J8 (List.mem_singleton.mp hb).symm)
  ·rw [V0] at e;obtain ⟨k,e1,e2⟩:=Option.map_eq_some_iff.mp e;have kl:k < es.size:=List.mem_range.mp (p.mem_iff.mp (R0 e1));refine ⟨k,es[k].1,e1,?_⟩;rw [<-e2];simp [atV,kl]
  ·show Heap.get? _ (s.heap.objs.size + 1)=_;rw [<-e1];exact S0 _ rfl
end
section
variable {prog:Program} {w:y1} {A:A2} {E:Value->A0->Prop} {s:A0}
theorem zis {r:Addr} {Q:Bool->A0->Prop} (hT:s.TypeIs (.ref r) "set") (h:Q false s):Q0 (A1 prog w) A (L9 (.ref r)) Q E s:=by unfold L9;refine c0 (wpAny_specialOf hT PySem.F.slot_set_len.lookup ?_);generalize hid:("set.__len__" : String)=id0;wp_delta;rw [show splitId id0=some ("set","__len__") from by subst hid;decide +kernel];subst hid;refine c0 (y6 (T:="set") (b:=true) hT sub_set_self ?_);refine j2g (λ hab=>absurd hab (by decide)) (λ _=>j2g (λ _=>?_) (λ hab=>absurd (by decide +kernel) hab));exact c0 (L4 hT (C0 h))
theorem zkk {S D:Addr} {ns:List Int} {R:j3e->A0->Prop} (hh:A.handled=none) (hS:SetAt prog w (!w.params.followText "set-order") s.heap S ns) (hD:s.heap.get? D=some { cls:=.type "list",data:=.seq #[] }) (hn:ns.length<=sizeLine)
  (hR :∀h' tk d acc c ms,(∀b o,b≠D->s.heap.get? b=some o->h'.get? b=some o)->h'.get? D=some { cls:=.type "list",dict:=none,data:=.seq acc c,slots:=#[] }->v3 acc.toList ms->ms.Perm ns->R (.ok (.ret (.ref D))) { s with heap:=h',toks:=tk,drawn:=d }) :
  Q0 (A1 prog w) A.in1 (M9 (.ref D) (.ref S) (.ref D))
   (λ fin s'=>match fin with | .done f=>R (.ok f) s' | .again c'=>c'.quiet=true/\z6 (A1 prog w) A c' R s') (λ e s'=>R (.error e) s') s:=by
 have hT:s.TypeIs (.ref S) "set":=by obtain ⟨es,ep,t,ho,_⟩:=hS;exact ⟨_,ho,rfl⟩
 have nd:D≠S:=λ z=>by obtain ⟨es,ep,t,ho,_⟩:=hS;rw [<-z,hD] at ho;exact absurd (show D3 "list" = D3 "set" from congrArg Obj.cls (U1 ho)) (by decide)
 unfold M9;refine c0 (L4 (T:="set") hT ?_);rw [if_neg (by simp [Builtin.List.listSameRef,nd])];refine c0 (zir (A:=A.in1) hh hS λ I fp h' d vs ms St lI lf kk W st im pm=>?_);have hT':Y6 { s with heap:=h',drawn:=d } (.ref S) "set":=by obtain ⟨es,ep,t,ho,_⟩:=hS;exact ⟨_,kk _ _ ho,rfl⟩
 refine c0 (B2 (zis hT' ?_));have nf:D∉fp:=λ z=>by
  rcases lf D z with e|e
  ·exact nd e
  ·exact absurd (P0 hD) (Nat.not_lt.mpr e)
 have ln:vs.length<=sizeLine:=by rw [<-zfj im,pm.length_eq];exact hn
 have go :∀(h2:Heap) (c1:Nat),(∀b o,b≠D->h'.get? b=some o->h2.get? b=some o)->h2.get? D=some { cls:=.type "list",data:=.seq #[] c1 }->z6 (A1 prog w) A (.builtin "list.extend.loop" ⟨[.ref D,.ref I,.ref D],[]⟩) R { s with heap:=h2,drawn:=d }:=by
  intro h2 c1 k2 hD2;refine codeAny_extend_loopS (s:={ s with heap:=h2,drawn:=d }) (W A.in1 hh).toS ln D nf (.ref D) vs.length 0 #[] c1 rfl (Q1 _) ((W A.in1 hh).frame 0 h' h2 st λ b hb o e=>k2 b o (λ z=>nf (z ▸ hb)) e) hD2 (ItemsOf.nil _) λ s' acc c hm hD' it=>?_;rw [Moved.eq_with hm];refine hR s'.heap s'.toks d acc c ms (λ b o hb e=>hm.heap b o (λ z=>?_) (k2 b o hb (kk b o e))) hD' ?_ pm
  ·rcases List.mem_cons.mp z with y|y
   ·exact hb y
   ·exact absurd (P0 e) (by rw [List.mem_singleton.mp y];exact Nat.not_lt.mpr lI)
  ·have:acc.toList=vs:=by
    apply J4;intro i;by_cases z:i < acc.size
    ·have e1:acc[i]? = some acc[i]:=A4 z;rw [j4,e1];exact (it.2 i _ e1).symm
    ·have z':vs.length<=i:=by have:=it.1;omega
     rw [j4,L3 (Nat.not_lt.mp z),y4 z']
   rw [this];exact im
 have qt :∀a:Args,(D7 "list.extend.loop" a).quiet=true:=λ a=>j0c PySem.F.plain_extend_loop _;refine j2g (λ _=>?_) (λ _=>C0 ⟨qt _,go h' 0 (λ b o _ e=>e) (kk _ _ hD)⟩);refine c0 (P6 (c0 (show Q0 _ _ (updateSeq D (·.push .none) >>= λ _=>updateSeq D (·.pop)) _ _ _ from c0 (wpAny_updateSeq (kk _ _ hD) rfl ?_))));have g2:=V2 (P7 (·.push O2)) (kk _ _ hD) rfl;refine wpAny_updateSeq (hz:=by seq_fits) g2 rfl (C0 ⟨qt _,?_⟩);have g3:=V2 (P7 (·.pop)) g2 rfl;exact go _ _ (λ b o hb e=>(O6 _ _ (Q2 hb)).trans ((O6 _ _ (Q2 hb)).trans e)) g3
theorem zd2 {S:Addr} {ns:List Int} {R:List Value->A0->Prop} (hh:A.handled=none) (hS:SetAt prog w (!w.params.followText "set-order") s.heap S ns) (hn:ns.length<=sizeLine)
  (h :∀h' tk d vs ms,(∀b o,s.heap.get? b=some o->h'.get? b=some o)->v3 vs ms->ms.Perm ns->R vs { s with heap:=h',toks:=tk,drawn:=d }):Q0 (A1 prog w) A (collect (.ref S)) R E s:=by
 unfold collect;refine c0 (wpAny_runValue (c4 entry_proto_collect' ?_));rw [j34 PySem.F.plain_proto_collect _];refine (show Q0 _ A.in1 (newList [] >>= λ l=>again (.builtin "list.__iadd__" ⟨[l,.ref S],[]⟩)) _ _ s from c0 (E2 (C0 ⟨j0c j1c _,c4 entry_list_iadd' ?_⟩)));rw [j34 j1c _];have hD:(s.heap.push { cls:=.type "list",data:=.seq ([]:List Value).toArray }).get? s.heap.objs.size=some { cls:=.type "list",data:=.seq #[] }:=S0 _ rfl;have key:=zkk (A:=A) (s:={ s with heap:=s.heap.push { cls:=.type "list",data:=.seq ([]:List Value).toArray } }) (S:=S) (D:=s.heap.objs.size) (ns:=ns)
  (R:=λ (q:j3e) (s':A0)=>∃(h':Heap) (tk:Nat) (d:Drawn) (acc:Array Value) (c:Nat) (ms:List Int),q=.ok (.ret (.ref s.heap.objs.size))/\s'={ s with heap:=h',toks:=tk,drawn:=d }/\(∀b o,s.heap.get? b=some o->h'.get? b=some o)/\h'.get? s.heap.objs.size=some { cls:=.type "list",dict:=none,data:=.seq acc c,slots:=#[] }/\v3 acc.toList ms/\ms.Perm ns)
  hh (hS.at' λ o e=>B0 _ e) hD hn λ h' tk d acc c ms k1 g im pm=>⟨h',tk,d,acc,c,ms,rfl,rfl,λ b o e=>k1 b o (Z0 (P0 e)) (B0 _ e),g,im,pm⟩
 refine Z3 key (λ f s' x=>?_) λ e s' x=>?_
 ·cases f with
  | done f=>obtain ⟨h',tk,d,acc,c,ms,e,rfl,k1,g,im,pm⟩:=x;cases e;refine (show Q0 _ A (load s.heap.objs.size >>= _) _ _ _ from c0 (wpAny_load g (C0 (h h' tk d acc.toList ms k1 im pm))))
  | again c₁=>refine ⟨x.1,S7 x.2 λ q s₂ y=>?_⟩;obtain ⟨h',tk,d,acc,c,ms,rfl,rfl,k1,g,im,pm⟩:=y;refine (show Q0 _ A (load s.heap.objs.size >>= _) _ _ _ from c0 (wpAny_load g (C0 (h h' tk d acc.toList ms k1 im pm))))
 ·obtain ⟨_,_,_,_,_,_,e',_⟩:=x;cases e'
theorem zdv {S:Addr} {ns:List Int} {Q:Value->A0->Prop} (hh:A.handled=none) (hS:SetAt prog w (!w.params.followText "set-order") s.heap S ns) (hn:ns.length < 64)
  (h :∀(h1 h':Heap) (tk:Nat) (d:Drawn) (out:Array Value) (ns':List Int) (e:Nat),(∀b o,s.heap.get? b=some o->h1.get? b=some o)->(∀b o,h1.get? b=some o->h'.get? b=some o)->h'.get? h1.objs.size=some { cls:=.type "list",data:=.seq out e }->v3 out.toList ns'->ns'.Perm ns->ns'.Pairwise (·<=·)->Q (.ref h1.objs.size) { s with heap:=h',toks:=tk,drawn:=d }) :
  Q0 (A1 prog w) A (call (.builtin "sorted") [.ref S]) Q E s:=by
 refine j1h kind_sorted plain_sorted entry_sorted (args_sorted1 _) ?_;unfold E5.«sorted»;refine c0 (m:=checkCount "sorted" 1 1 _) (C0 (c0 (zd2 (A:=A.in1) hh hS (G0 (T3 hn) (by decide)) λ h1 tk d vs ms k1 i1 pm=>?_)));have hl:vs.length < 64:=by rw [i1.length,pm.length_eq];exact hn
 refine c0 (wpAny_newList ?_ (G0 (T3 hl) (by decide)));have oL:(h1.push (seqObj "list" vs.toArray 0)).get? h1.objs.size=some (seqObj "list" vs.toArray 0):=S0 _ rfl;refine c0 (B2 (Y2 slot_list_sort ⟨_,oL,rfl⟩ entry_list_sort (list_sort_tree oL i1 hl λ out ns' a1 a2 a3=>⟨_,rfl,?_⟩) (args_list_sort _)));obtain ⟨e,he⟩:=sortedHeap_at (out:=out) oL;refine C0 ⟨_,rfl,h h1 _ tk d out ns' e k1 (λ b o g1=>?_) he a1 (a2.trans pm) a3⟩;have lt:=P0 g1;refine (sortedHeap_old (Z0 lt) ?_).trans (B0 _ g1);rw [size_push'];exact N1 lt
end
section
variable {X:Cx}
theorem Inv.drew {pins:List (Addr×Obj)} {σ:St} {H:Hp} {s:A0} (I:Inv X pins σ H s) (d:Drawn):Inv X pins σ H { s with drawn:=d }:=⟨I.ok,I.os,I.bare,I.base,I.loc,I.cell,I.free,I.freeC,I.pin,I.hok,I.len⟩
noncomputable def tSSet (K:b0) (te:TE):TE:=λ σ H Q=>te σ H λ x H1=>∃(a:Addr) (ns:List Int),x=.ref a/\SqT K H1 a (ns.map V.int)/\ns.length < 64/\srt (ns.foldl addI []) H1 Q
theorem z4q :∀(vs ns:List Int),(vs.foldl addI ns).length<=ns.length + vs.length
 | [],ns=>F0 _
 | v :: vs,ns=>by have h1:=z4q vs (addI ns v);have h2:=ze3 ns v;show (vs.foldl addI (addI ns v)).length<=_;rw [W0];omega
theorem zam {e:Expr} {te:TE} {p1 p2 c1 c2:Pos} (hcalm:X.calm=true) (g1:Gl X "sorted") (m1:X.mg "sorted" = none) (g2:Gl X "set") (m2:X.mg "set" = none) (b1:A6 "sorted" = some (.builtin "sorted")) (b2:A6 "set" = some (.type "set")) (ha:PE X e te)
  (he:K1 [e] X.env=[(false,Y3 e X.env)]:=by rfl):PE X (.Call (.Name "sorted" p1) [.Call (.Name "set" p2) [e] [] c2] [] c1) (tSSet X.K te):=by
 intro pins s σ H Q I h;have hh:X.A.handled=none:=I.ok.hd hcalm;refine A5 (ld_blt I g1 m1 b1 ?_ (by decide) (by decide));refine W8 ?_ rfl rfl;refine (show Q0 _ _ (spliced ((false,Y3 (.Call (.Name "set" p2) [e] [] c2) X.env) :: [])) _ _ s from D6 ?_);refine A5 (ld_blt I g2 m2 b2 ?_ (by decide) (by decide));refine V3 ?_ he rfl;rw [he];refine (show Q0 _ _ (spliced ((false,Y3 e X.env) :: [])) _ _ s from D6 (thn (ha pins s σ H _ I h) λ u s1 ⟨x,H1,I1,r1,a,ns,ex,sq,hl,q⟩=>?_));subst ex;cases r1;refine L6 ?_;obtain ⟨its,rv,pl,hz⟩:=I1.tuple sq;refine zdc hh pl (by simpa using z52 rv) (G8 hl (by decide)) λ h2 tk ns2 S2 pm k2=>L6 ?_;have l2:ns2.length < 64:=by rw [pm.length_eq];have:=z4q ns [];rw [G2,K4] at this;omega
 have lf:(ns.foldl addI []).length < 64:=by rw [<-pm.length_eq];exact l2
 refine zdv (s:={ s1 with heap:=h2,toks:=tk }) hh S2 l2 λ h3 h4 tk2 d out ns' e k3 k4 g i p r=>?_;exact zfo (I1.drew d) lf q (λ b o z=>k3 b o (k2 b o z)) k4 g i (p.trans pm) r
end
end L2
set_option maxHeartbeats 400000
namespace HT
open PySem PySem.Spec PyProof.Rows L2
variable {prog:Program} {w:y1} {A:A2} {E:Value->A0->Prop} {s:A0}
theorem getItem_tuple_all {t sl:Addr} {items:Array Value} {vl vu:Value} {lo hi:Option Int} {Q:Value->A0->Prop} (ht:IsTup s.heap t items) (hs:s.heap.IsSliceOf sl vl vu .none) (pl:o9 vl lo) (pu:o9 vu hi)
  (h0:sIx items.size 0 lo=0) (h1:sIx items.size items.size hi=items.size) (h:Q (.ref t) s):Q0 (A1 prog w) A (A8 (.ref t) (.ref sl)) Q E s:=by
 obtain ⟨os,hos,hcs,hds⟩:=id hs;have hTs:s.TypeIs (.ref sl) "slice":=⟨os,hos,hcs⟩
 unfold A8;try with_reducible refine B2 ?_
 first|refine c0 (C0 ?_)|skip
 refine c0 (wpAny_sequenceKey ht.typeIs (by decide) (c0 (i3 (name:=V1 "__getitem__") ht.typeIs u4 (Y2 u4 ht.typeIs entry_tuple_getitem ?_ (args_tuple_getitem _ _)))));refine (show Q0 _ _ (J9 (.ref t) >>= _) _ _ s from c0 (tupleItemsOf_ ht (c0 (L4 hTs ?_))));rw [if_pos (by decide)];refine c0 (z2g hs pl pu ?_);have yes:(((sIx items.size 0 lo:Nat):Int) == 0 && (1:Int) == 1 && (sIx items.size items.size hi - sIx items.size 0 lo) == items.size)=true:=by rw [h0,h1];simp
 refine (show Q0 _ _ (if (((sIx items.size 0 lo:Nat):Int) == 0 && (1:Int) == 1 && (sIx items.size items.size hi - sIx items.size 0 lo) == items.size)=true then _ else _) _ _ s from ?_);rw [if_pos yes];refine c0 (show Q0 _ _ (typeOf (.ref t) >>= _) _ _ s from c0 (L4 ht.typeIs (C0 ?_)));rw [if_pos (by decide)];first
  | exact c0 (P6 (C0 ⟨_,rfl,C0 h⟩))
  | exact c0 (P6 (C0 (C0 ⟨_,rfl,C0 h⟩)))
  | (trace_state;exact c0 (P6 (C0 ⟨_,rfl,h⟩)))
end HT
namespace L2
open PySem PySem.Spec PyProof.Rows
section
variable {X:Cx}
noncomputable def rCatQ (K:b0):R2:=λ x y H Q=>∃a b xs ys,x=.ref a/\y=.ref b/\SqL K H a xs/\SqL K H b ys/\xs.length + ys.length<=sizeLine/\∀p,H p=none->Q (.ref p) (upd H p (.lst (xs++ys)))
theorem zfn:OpR X (M4 .Add) (rCatQ X.K):=by intro pins s σ H x y v u Q I rx ry h;obtain ⟨a,b,xs,ys,rfl,rfl,ha,hb,hz,q⟩:=h;cases rx;cases ry;obtain ⟨ia,ra,pa,_⟩:=I.list ha;obtain ⟨ib,rb,pb,_⟩:=I.list hb;obtain ⟨⟨c1,d1,t1,l1⟩,n1,g1,h1,k1,m1⟩:=id pa;obtain ⟨⟨c2,d2,t2,l2⟩,n2,g2,h2,k2,m2⟩:=id pb;simp only at h1 k1 m1 h2 k2 m2;subst h1 k1 m1 h2 k2 m2;have l1:=ra.length;have l2:=rb.length;refine j16 ⟨_,g1,rfl⟩ ⟨_,g2,rfl⟩ noFill_list_add seq_list_add PySem.F.slot_list_add PySem.F.entry_list_add (PySem.F.args_list_add_2 _ _) (list_addW a b ia.toArray ib.toArray n1 n2 none none _ _ (by rw [O0,O0];omega)) ⟨g1,g2,?_⟩;rw [show ia.toArray++ib.toArray=(ia++ib).toArray by simp];exact ⟨.ref _,_,I.lnew (t':=s.toks) (ra.append rb) (by rw [K0];omega),rfl,q _ I.fresh⟩
def rSlW (K:b0):V->Option Int->Option Int->Hp->VK->Prop:=λ x lo hi H Q=>∃a xs,x=.ref a/\SqT K H a xs/\(HT.sIx xs.length 0 lo=0/\HT.sIx xs.length xs.length hi=xs.length)/\Q (.ref a) H
theorem zjk:SlR X (rSlW X.K):=by intro pins s σ H x v vl vu lo hi sl Q I rx hs pl pu h;obtain ⟨a,xs,rfl,hx,⟨w0,w1⟩,q⟩:=h;cases rx;obtain ⟨its,r,ht,hz⟩:=I.tuple hx;have hlen:its.toArray.size=xs.length:=(O0 ..).trans r.length.symm;refine ⟨"tuple",_,PyProof.Rows.slot_tuple_getitem.lookup,ht.typeIs,HT.getItem_tuple_all ht hs pl pu (by rw [hlen];exact w0) (by rw [hlen];exact w1) ⟨.ref a,H,I,rfl,q⟩⟩
theorem slSeqW:SlR X (λ x lo hi H Q=>(rSlL X.K x lo hi H Q\/rSlT X.K x lo hi H Q\/rSlS x lo hi H Q)\/rSlW X.K x lo hi H Q):=slSeq.or zjk
end
theorem zep {names:List (Str×j6)} {ns:List Str} {Q:Str×j6->Prop} (h:(names.all λ y=>y.2 != Y1 || ns.contains y.1)=true) (q :∀n,n∈ns->∀k,Q (n,k)) :∀y∈names,y.2=Y1->Q y:=λ y hy e=>by
 have z:=List.all_eq_true.mp h y hy;rw [e] at z;have z:ns.contains y.1=true:=by simpa using z
 obtain ⟨a,b⟩:=y;exact q a (by simpa using z) b
theorem z56 {S:Hp->Hp->Prop} {ta:TA} {te:TE} {tc:TT} {g:TG} {m n:Nat} {fr:List (Nat×Str)} {σ:St} {H H1:Hp} {Q:VK} (p:Nat->Bool) (R:Nat->V->Hp->Prop) (s0:S H1 H1) (st :∀a b c,S a b->S b c->S a c) (hs :∀H,S H1 H->S H H) (hR :∀i y H H',S H H'->R i y H->R i y H')
  (hta :∀T:List V->Hp->Prop,T [.int (n:Nat)] H1->ta σ H T) (hn:n<=sizeLine)
  (body :∀i,i < n->∀H,S H1 H->∀(KT:VK) (KF:Hp->Prop),(p i=true->∀y H',S H H'->R i y H'->KT y H')->(p i=false->∀H',S H H'->KF H')->
   g (.int (i:Nat)) (cStG σ fr (J2 m none)) H λ σ6 H6=>∃us,us.length=m/\σ6=cStG σ fr us/\tc (cStG σ fr us) H6 λ b H2=>if b=true then te (cStG σ fr us) H2 KT else KF H2)
  (hQ :∀l H' ys,S H1 H'->H' l=none->All2 (λ i y=>R i y H') ((W1 n).filter p) ys->Q (.ref l) (upd H' l (.lst ys))):tCompG (iRng1 ta) m fr g tc te σ H Q:=by
 have b:(n:Int) < 2 ^ 62:=Int.lt_of_le_of_lt (Int.ofNat_le.mpr hn) (by decide);refine hta _ ⟨n,rfl,by omega,b,?_⟩;exact z2u s0 st p R hR (zgx hs) hn (λ i hi v H s it KT KF h1 h2=>by subst it;exact body i hi H s KT KF h1 h2) hQ
def rIndex:V->List V->Hp->VK->Prop:=λ x vs H Q=>∃(l:Addr) (ss:List Str) (z:Str) (j:Nat),x=.ref l/\vs=[.str z]/\H l=some (.lst (ss.map V.str))/\ss.length<=1000/\ss[j]? = some z/\(∀m,m < j->ss[m]?≠some z)/\Q (.int (j:Nat)) H
section
variable {X:Cx}
theorem zk5 {ss:List Str} :∀{us:List Value},Vals (ss.map V.str) us->∀(j:Nat) (u:Value),us[j]? = some u->∃y t,ss[j]? = some y/\u=X6 y t:=by
 induction ss with
 | nil=>intro us r j u e;rw [C7] at r;cases r;simp at e
 | cons n ss ih=>
  intro us r j u e;rw [v1] at r;cases r with
  | cons r1 r2=>
   obtain ⟨t,rfl⟩:=r1;cases j with
   | zero=>rw [X3] at e;cases e;exact ⟨n,t,rfl,rfl⟩
   | succ j=>rw [Z2] at e;exact ih r2 j u e
theorem zig:MtM X "list.index" rIndex:=by
 intro pins s σ H x vs v us Q I rx rv h;obtain ⟨l,ss,z,j,rfl,rfl,hH,hl,hj,hm,q⟩:=h;cases rx;obtain ⟨u,rfl,ru⟩:=rv.one;obtain ⟨t,rfl⟩:=ru;obtain ⟨z2,its,n,r,hl2,e⟩:=I.lstM hH;have lt:j < its.length:=by rw [<-r.length,D0];exact (List.getElem?_eq_some_iff.mp hj).1
 let ev:Value->Bool:=λ y=>match y with | .str a _=>a == z|_=>false
 have at_ :∀m (hm:m < its.toArray.size),∃y t',ss[m]? = some y/\its.toArray[m]=X6 y t':=λ m hm=>zk5 r m _ ((J0 (show m < its.length by simpa using hm)).trans (by simp));refine g9 F.slot_list_index ⟨_,e,rfl⟩ F.entry_list_index (F.args_list_index_2 _ _) (SeqAt.list_indexAt l its.toArray n none #[] (.str z t) ev j (by simpa using lt) ?_ ?_ ?_) ⟨e,λ y hy=>?_,?_⟩
 ·have:=(List.getElem?_eq_some_iff.mp hj).1;have:(j:Int) < 1000:=by omega
  exact Int.lt_trans this (by decide)
 ·obtain ⟨y,t',h1,h2⟩:=at_ j (by simpa using lt);rw [h2];rw [hj] at h1;cases h1;exact beq_self_eq_true z
 ·intro m hm' hlt;obtain ⟨y,t',h1,h2⟩:=at_ m hm';rw [h2];refine beq_eq_false_iff_ne.mpr λ e=>hm m hlt ?_;rw [h1,e]
 ·obtain ⟨m,hm',e2⟩:=Array.mem_iff_getElem.mp hy;obtain ⟨y',t',h1,h2⟩:=at_ m hm';rw [h2] at e2;subst e2;exact M8 y' t' z t
 ·exact ⟨.int (j:Nat),H,I.tok _,⟨_,rfl⟩,q⟩
theorem zja {o e:Expr} {es:List Expr} {to:TE} {t:TA} {apos cpos:Pos} (ho:PE X o to) (ha:PA X (e :: es) t)
  (hbase:K6 o "index" X.env (Y3 o X.env)=Y3 o X.env:=by rfl)
  (hfew:((d5 cpos (K1 (e :: es) X.env)).all (λ x=>!x.1) && (Y9 cpos (F7 [] X.env)).all (λ x=>x.1.isSome) && decide ((e :: es).length + ([]:List C6).length + (if ([]:List C6).isEmpty then 0 else 1) < 30))=true:=by rfl)
  (hline:(apos.endLine == cpos.line)=true:=by rfl) (hs:K1 (e :: es) X.env=(false,Y3 e X.env) :: K1 es X.env:=by rfl) (hplain:(d5 cpos (K1 es X.env)).any (·.1)=false:=by rfl) :
  PE X (.Call (.Attribute o "index" apos) (e :: es) [] cpos) (tBM X.K "list" rIndex to t):=pe_bm u6 PySem.F.slot_list_index PySem.F.type_list_index zig ho ha hbase hfew hline hs hplain
end
theorem qs_if {X:Cx} {pos:Pos} {c:Expr} {a b:List Stmt} {t:TT} {ta tb:TS} (hc:PT X c t) (ha:QSs X a ta) (hb:QSs X b tb):QS X (.If c a b pos) (tIfS t ta tb):=⟨ps_if hc ha.run hb.run⟩
theorem zcl {K:b0} {a:Addr} {xs:List V} {H1:Hp} (hq:SqL K H1 a xs):RunsR Same (IteL K a) H1 xs.length (λ i v H=>∃x p,xs[i]? = some x/\v=.ref p/\H p=some (.tup [.int (i:Nat),x])):=by refine ⟨λ i hi H s=>⟨xs,xs[i],s.seq hq,by simp [hi]⟩,λ H s=>⟨xs,s.seq hq,rfl⟩,λ i hi H v H' s y=>?_⟩;obtain ⟨p,hp,rfl,f⟩:=y;obtain ⟨x,hx,rfl⟩:=f xs (s.seq hq);exact ⟨Same.upd hp,x,p,hx,rfl,upd_same⟩
end L2
set_option maxHeartbeats 1000000
namespace L2
open PySem PySem.Spec PyProof.Rows
theorem z58 {K:b0} {a:Addr} {xs:List V} {tl te:TE} {tc:TT} {g:TG} {m:Nat} {fr:List (Nat×Str)} {σ:L2.St} {H H1:Hp} {Q:VK} (p:Nat->Bool) (R:Nat->V->Hp->Prop) (hR :∀i y H H',Same H H'->R i y H->R i y H') (htl :∀R:VK,R (.ref a) H1->tl σ H R) (hq:SqL K H1 a xs) (hn:xs.length<=sizeLine)
  (body :∀i,i < xs.length->∀v H,Same H1 H->xs[i]? = some v->∀(KT:VK) (KF:Hp->Prop),(p i=true->∀y H',Same H H'->R i y H'->KT y H')->(p i=false->∀H',Same H H'->KF H')->
   g v (cStG σ fr (J2 m none)) H λ σ6 H6=>∃us,us.length=m/\σ6=cStG σ fr us/\tc (cStG σ fr us) H6 λ b H2=>if b=true then te (cStG σ fr us) H2 KT else KF H2)
  (hQ :∀l H' ys,Same H1 H'->H' l=none->All2 (λ i y=>R i y H') ((W1 xs.length).filter p) ys->Q (.ref l) (upd H' l (.lst ys))):tCompG (iList K tl) m fr g tc te σ H Q:=
 htl _ ⟨a,rfl,⟨xs,hq⟩,z2u (Same.refl _) (λ _ _ _ a b=>a.trans b) p R hR (z9r (S:=Same) (λ _ _=>Same.refl _) λ H s=>s.seq hq) hn body hQ⟩
theorem zbl {K:b0} {a:Addr} {xs:List V} {ta:TA} {te:TE} {tc:TT} {g:TG} {m:Nat} {fr:List (Nat×Str)} {σ:L2.St} {H H1:Hp} {Q:VK} (p:Nat->Bool) (R:Nat->V->Hp->Prop) (hR :∀i y H H',Same H H'->R i y H->R i y H') (hta :∀T:List V->Hp->Prop,T [.ref a] H1->ta σ H T) (hq:SqL K H1 a xs) (hn:xs.length<=sizeLine)
  (body :∀i,i < xs.length->∀v H,Same H1 H->(∃x p,xs[i]? = some x/\v=.ref p/\H p=some (.tup [.int (i:Nat),x]))->∀(KT:VK) (KF:Hp->Prop),(p i=true->∀y H',Same H H'->R i y H'->KT y H')->(p i=false->∀H',Same H H'->KF H')->
   g v (cStG σ fr (J2 m none)) H λ σ6 H6=>∃us,us.length=m/\σ6=cStG σ fr us/\tc (cStG σ fr us) H6 λ b H2=>if b=true then te (cStG σ fr us) H2 KT else KF H2)
  (hQ :∀l H' ys,Same H1 H'->H' l=none->All2 (λ i y=>R i y H') ((W1 xs.length).filter p) ys->Q (.ref l) (upd H' l (.lst ys))):tCompG (ieL K ta) m fr g tc te σ H Q:=
 hta _ ⟨a,xs,rfl,hq,z2u (Same.refl _) (λ _ _ _ a b=>a.trans b) p R hR (zcl hq) hn body hQ⟩
theorem z1o {K:b0} {a:Addr} {xs:List V} {tl te:TE} {tc:TT} {g:TG} {m:Nat} {fr:List (Nat×Str)} {σ:L2.St} {H H1:Hp} {Q:VK} (p:Nat->Bool) (R:Nat->V->Hp->Prop) (hR :∀i y H H',Same H H'->R i y H->R i y H') (htl :∀R:VK,R (.ref a) H1->tl σ H R) (hq:SqT K H1 a xs) (hn:xs.length<=sizeLine)
  (body :∀i,i < xs.length->∀v H,Same H1 H->xs[i]? = some v->∀(KT:VK) (KF:Hp->Prop),(p i=true->∀y H',Same H H'->R i y H'->KT y H')->(p i=false->∀H',Same H H'->KF H')->
   g v (cStG σ fr (J2 m none)) H λ σ6 H6=>∃us,us.length=m/\σ6=cStG σ fr us/\tc (cStG σ fr us) H6 λ b H2=>if b=true then te (cStG σ fr us) H2 KT else KF H2)
  (hQ :∀l H' ys,Same H1 H'->H' l=none->All2 (λ i y=>R i y H') ((W1 xs.length).filter p) ys->Q (.ref l) (upd H' l (.lst ys))):tCompG (iTup K tl) m fr g tc te σ H Q:=
 htl _ ⟨a,rfl,⟨xs,hq⟩,z2u (Same.refl _) (λ _ _ _ a b=>a.trans b) p R hR (zc3 (S:=Same) (λ _ _=>Same.refl _) λ H s=>s.seqT hq) hn body hQ⟩
theorem e_cb1 {f:List V->Hp->VK->Prop} {te:TE} {σ:L2.St} {H:Hp} {Q:VK} (h:te σ H λ x H1=>f [x] H1 Q):tCB f (tCons te tNil) σ H Q:=h
theorem t_test {r:R2} {ta tb:TE} {σ:L2.St} {H:Hp} {Q:Bool->Hp->Prop} (h:ta σ H λ x H1=>tb σ H1 λ y H2=>r x y H2 λ x H3=>∃c,x=.bl c/\Q c H3):tTest (tOp r ta tb) σ H Q:=h
theorem t_or {t u:TT} {σ:L2.St} {H:Hp} {Q:Bool->Hp->Prop} (h:t σ H λ c H1=>if c=true then Q true H1 else u σ H1 Q):tOr t u σ H Q:=h
theorem sq_if {c:TT} {a b rest:TS} {D:Ends} {σ:L2.St} {H:Hp} (h:c σ H λ k H1=>if k=true then a { D with nx:=rest D } σ H1 else b { D with nx:=rest D } σ H1):tSeq (tIfS c a b) rest D σ H:=h
theorem sq_ret {te:TE} {D:Ends} {σ:L2.St} {H:Hp} (h:te σ H D.rt):tRet te D σ H:=h
theorem tB_not {te:TE} {σ:L2.St} {H:Hp} {Q:Bool->Hp->Prop} (h:te σ H λ x H1=>∃c,x=.bl c/\Q (!c) H1):tNot (tB te) σ H Q:=h
end L2
set_option maxHeartbeats 400000
namespace L2
open PySem PySem.Spec PyProof.Rows
end L2
set_option maxHeartbeats 1000000
namespace L2
open PySem PySem.Spec PyProof.Rows
theorem zj1 {te:TE} {σ:L2.St} {H:Hp} {Q:List V->Hp->Prop} (h:te σ H λ y H1=>Q [y] H1):tCons te tNil σ H Q:=h
section
variable {X:Cx}
noncomputable def rNeL0 (K:b0):R2:=λ x y H Q=>∃a b xs,x=.ref a/\y=.ref b/\SqL K H a xs/\SqL K H b []/\Q (.bl (decide (xs≠[]))) H
theorem zjq {k:Nat} (hr:Room k X.A):OpR X (v2 .NotEq) (rNeL0 X.K):=by
 intro pins s σ H x y v u Q I rx ry h;obtain ⟨a,b,xs,rfl,rfl,ha,hb,q⟩:=h;cases rx;cases ry;obtain ⟨ia,ra,pa,_⟩:=I.list ha;obtain ⟨ib,rb,pb,_⟩:=I.list hb;cases rb;have hu:X.A.units < cLine:=j09 (hu_of hr);have hlen:=ra.length;cases xs with
 | nil=>cases ra;exact SeqAt.RcNeAt.lists (e:=λ _=>true) pa.isList pb.isList rfl hu (λ j h1 _=>absurd h1 (n5 _)) X.prog X.w _ _ ⟨.bl _,H,I,rfl,q⟩
 | cons z zs=>refine SeqAt.RcNeAt.lists_lengths pa.isList pb.isList ?_ hu X.prog X.w _ _ ⟨.bl _,H,I,rfl,q⟩;rw [O0,<-hlen];rfl
end
structure ZLAt (h:Heap) (z T U i j a b:Addr) (n:Nat) (f:Value):Prop where
 z:IsZip h z T U f
 t:IsPair h T (.ref i) (.ref j)
 u :∃p q,IsPair h U p q
 i:h.IsListIter i a n
 j:h.IsListIter j b n
section
variable {X:Cx}
def zhu:V->List V->Hp->VK->Prop:=λ x vs H Q=>∃(l:Addr) (xs:List V) (k:Nat) (y:V),x=.ref l/\vs=[.int (k:Nat),y]/\H l=some (.lst xs)/\k<=xs.length/\xs.length < 1000/\Q .non (upd H l (.lst (xs.take k++y :: xs.drop k)))
theorem zh5:MtM X "list.insert" zhu:=by
 intro pins s σ H x vs v us Q I rx rv h;obtain ⟨l,xs,k,y,rfl,rfl,hH,hk,hz,q⟩:=h;cases rx;obtain ⟨u,v,rfl,ru,rw1⟩:=rv.two;obtain ⟨t,rfl⟩:=ru;obtain ⟨z,its,n,r,hl,e⟩:=I.lstM hH;have sz:(1000:Nat)<=sizeLine:=by decide
 generalize hx:(k:Int)=x;have fits:N9 x=true:=by unfold N9;rw [j3];exact ⟨decide_eq_true (by omega),decide_eq_true (by omega)⟩
 have nf:¬(!Builtin.List.listFitsIndex x)=true:=by rw [fits];decide
 have ns:its.toArray.size<=sizeLine:=by rw [O0];omega
 refine g9 F.slot_list_insert ⟨_,e,rfl⟩ F.entry_list_insert (F.args_list_insert_3 _ _ _) (PySem.AutoSeq1.list_insert_list_int_val_1 l its.toArray n x t v nf ns) ⟨e,?_⟩;refine ⟨.non,_,I.lset (its':=its.take k++v :: its.drop k) (ys:=xs.take k++y :: xs.drop k) hH e ?_ ((r.take k).append (.cons rw1 (r.drop k))) ?_,rfl,q⟩
 ·have ek:(if x < 0 then (x + (its.toArray.size:Int)).toNat else min x.toNat its.toArray.size)=k:=by rw [if_neg (by omega),O0,<-hx,y3];omega
  show (its.toArray.extract 0 (if x < 0 then (x + (its.toArray.size:Int)).toNat else min x.toNat its.toArray.size)).push v++its.toArray.extract (if x < 0 then (x + (its.toArray.size:Int)).toNat else min x.toNat its.toArray.size)=_;rw [ek];exact PySem.W.kl_ins_eq its k v
 ·rw [K0,W0,R3,i4];omega
theorem z7i {o e:Expr} {es:List Expr} {to:TE} {t:TA} {apos cpos:Pos} (ho:PE X o to) (ha:PA X (e :: es) t)
  (hbase:K6 o "insert" X.env (Y3 o X.env)=Y3 o X.env:=by rfl)
  (hfew:((d5 cpos (K1 (e :: es) X.env)).all (λ x=>!x.1) && (Y9 cpos (F7 [] X.env)).all (λ x=>x.1.isSome) && decide ((e :: es).length + ([]:List C6).length + (if ([]:List C6).isEmpty then 0 else 1) < 30))=true:=by rfl)
  (hline:(apos.endLine == cpos.line)=true:=by rfl) (hs:K1 (e :: es) X.env=(false,Y3 e X.env) :: K1 es X.env:=by rfl) (hplain:(d5 cpos (K1 es X.env)).any (·.1)=false:=by rfl) :
  PE X (.Call (.Attribute o "insert" apos) (e :: es) [] cpos) (tBM X.K "list" zhu to t):=pe_bm u6 PySem.F.slot_list_insert PySem.F.type_list_insert zh5 ho ha hbase hfew hline hs hplain
end
end L2
namespace L2
open PySem PySem.Spec PyProof.Rows PySem.NumText
noncomputable def nS (i:Int):Str:=V1 (toString i)
theorem zhj (m:Nat):AllDigits ((F8 10 m).map Char.toNat)/\(F8 10 m).map Char.toNat≠[]:=by
 refine ⟨λ c hc=>?_,λ e=>?_⟩
 ·obtain ⟨ch,hch,e⟩:=List.mem_map.mp hc;rw [<-e];exact digit_range (Nat.isDigit_of_mem_toDigits (by decide) (by decide) hch)
 ·have h:=toDigits_len_ge 10 m;rw [List.map_eq_nil_iff.mp e] at h;exact absurd h (by decide)
theorem zgq (m:Nat):(nS (Int.negSucc m)).cps.toList=45 :: (F8 10 (m + 1)).map Char.toNat:=by unfold nS;rw [signs_ofString];show ("-"++Nat.repr (m + 1)).toList.map Char.toNat=_;rw [String.toList_append,L1,Nat.toList_repr];rfl
theorem num_t {i:Int} (h:i.natAbs<=1000000000000) :∃ds:List Nat,AllDigits ds/\ds≠[]/\ds.length<=13/\((0<=i/\(nS i).cps.toList=ds)\/(i < 0/\(nS i).cps.toList=45 :: ds))/\intText? (nS i)=some i:=by
 have hl :∀m:Nat,m<=1000000000000->((F8 10 m).map Char.toNat).length<=13:=λ m hm=>by rw [D0];exact toDigits_len_pow (by decide) (by decide) (by omega)
 have ll :∀z:Str,z.cps.toList.length=z.length:=λ z=>rfl;cases i with
 | ofNat m=>have hs:(nS (Int.ofNat m)).cps.toList=(F8 10 m).map Char.toNat:=PySem.W.KIN.signs_num m;obtain ⟨d1,d2⟩:=zhj m;refine ⟨_,d1,d2,hl m h,.inl ⟨Int.natCast_nonneg _,hs⟩,?_⟩;have e:=intText_digits (x:=nS (Int.ofNat m)) (by rw [hs];exact d1) (by rw [hs];exact d2) (by rw [<-ll,hs];exact G0 (hl m h) (by decide));rw [hs,j1a] at e;exact e
 | negSucc m=>have hs:=zgq m;obtain ⟨d1,d2⟩:=zhj (m + 1);have hm:m + 1<=1000000000000:=h;refine ⟨_,d1,d2,hl _ hm,.inr ⟨Int.negSucc_lt_zero m,hs⟩,?_⟩;have e:=intText_neg hs d1 d2 (by rw [<-ll,hs,W0];exact G0 (T4 (hl _ hm)) (by decide));rw [j1a] at e;exact e
theorem zgy {i:Int} (h:i.natAbs<=1000000000000):(nS i).length<=14/\1<=(nS i).length/\∀c∈(nS i).cps.toList,c=45\/(48<=c/\c<=57):=by
 obtain ⟨ds,d1,d2,d3,d4,_⟩:=num_t h;have ll:(nS i).cps.toList.length=(nS i).length:=rfl;have l1:1<=ds.length:=List.length_pos_iff.mpr d2;rcases d4 with ⟨_,e⟩|⟨_,e⟩
 ·rw [e] at ll⊢;exact ⟨by omega,by omega,λ c hc=>.inr (d1 c hc)⟩
 ·rw [e,W0] at ll;rw [e];refine ⟨by omega,by omega,λ c hc=>?_⟩;rcases List.mem_cons.mp hc with z|z
  ·exact .inl z
  ·exact .inr (d1 c z)
end L2
namespace L2
open PySem PySem.Spec PyProof.Rows
end L2
open PySem PySem.W PyProof.Rows
set_option maxHeartbeats 4000000
namespace TJ
section
variable (p:Program) (w:y1) (n₀:Nat) (ann:Option Value) (code:Code) (q:Pos)
theorem zgz {n m:Nat} :∀{s s' s'':A0} {t t' t'':j3c},segGo F3 p w n₀ ann 1 n s t=some (s',t')->segGo F3 p w n₀ ann 1 m s' t'=some (s'',t'')->
  segGo F3 p w n₀ ann 1 (n + m) s t=some (s'',t''):=by
 induction n with
 | zero=>
  intro s s' s'' t t' t'' h k;obtain ⟨rfl,rfl⟩:s=s'/\t=t':=by simpa [segGo] using h
  rw [K4];exact k
 | succ n ih=>
  intro s s' s'' t t' t'' h k;rw [show n + 1 + m=n + m + 1 by omega];unfold segGo at h⊢;cases he:endAt 1 t with
  | some f=>rw [he] at h;cases h
  | none=>
   rw [he] at h;cases hk:stepOk n₀ ann t with
   | false=>rw [hk] at h;cases h
   | true=>
    rw [hk] at h;cases hs:step (denote F3) p w s t with
    | halt o s₂=>rw [hs] at h;cases h
    | go s₂ t₂=>rw [hs] at h;exact ih h k
def Steps (c:Nat) (s:A0) (t:j3c) (s':A0) (t':j3c):Prop:=∃n,n<=c/\segGo F3 p w n₀ ann 1 n s t=some (s',t')
def Goes {α:Type} (c:Nat) (x:Sem α) (s:A0) (pos:Pos) (a:α) (s':A0) (pos':Pos):Prop:=
 ∀(K:α->Sem Fin) (H:Value->Sem Fin) (gd:Bool->Bool) (lv:List Value->List Value),
  Steps p w n₀ ann c s ⟨x.wrap K H gd lv,code,pos,[topFrame q]⟩ s' ⟨K a,code,pos',[topFrame q]⟩
end
section
variable {p:Program} {w:y1} {n₀:Nat} {ann:Option Value} {code:Code} {q:Pos}
theorem Steps.trans {c d:Nat} {s s' s'':A0} {t t' t'':j3c} (h:Steps p w n₀ ann c s t s' t') (k:Steps p w n₀ ann d s' t' s'' t''):Steps p w n₀ ann (c + d) s t s'' t'':=by obtain ⟨n,hn,h⟩:=h;obtain ⟨m,hm,k⟩:=k;exact ⟨n + m,by omega,zgz p w n₀ ann h k⟩
theorem Steps.refl {s:A0} {t:j3c}:Steps p w n₀ ann 0 s t s t:=⟨0,F0 _,rfl⟩
theorem Steps.le {c d:Nat} {s s':A0} {t t':j3c} (h:Steps p w n₀ ann c s t s' t') (l:c<=d):Steps p w n₀ ann d s t s' t':=let ⟨n,a,b⟩:=h;⟨n,G0 a l,b⟩
theorem Steps.one {s s':A0} {t t':j3c} (he:endAt 1 t=none) (hk:stepOk n₀ ann t=true) (hs:step (denote F3) p w s t=.go s' t'):Steps p w n₀ ann 1 s t s' t':=by refine ⟨1,F0 _,?_⟩;unfold segGo;rw [he,hk,hs];rfl
variable {α β:Type} {s s' s'':A0} {pos pos' pos'':Pos} {a:α} {b:β} {c d:Nat}
theorem Goes.pure:Goes p w n₀ ann code q 0 (j2h a:Sem α) s pos a s pos:=λ _ _ _ _=>.refl
theorem Goes.le {x:Sem α} (h:Goes p w n₀ ann code q c x s pos a s' pos') (l:c<=d):Goes p w n₀ ann code q d x s pos a s' pos':=λ K H gd lv=>(h K H gd lv).le l
theorem Goes.bind {x:Sem α} {f:α->Sem β} (h:Goes p w n₀ ann code q c x s pos a s' pos') (k:Goes p w n₀ ann code q d (f a) s' pos' b s'' pos''):Goes p w n₀ ann code q (c + d) (x >>= f) s pos b s'' pos'':=by
 intro K H gd lv;have e:(x >>= f).wrap K H gd lv=x.wrap (λ a=>(f a).wrap K H gd lv) H gd lv:=by rw [Sem.bind_eq_wrap',Sem.wrap_wrap];rfl
 rw [e];exact (h _ H gd lv).trans (k K H gd lv)
theorem Goes.keep {x:Sem α} {vs:List Value} (h:Goes p w n₀ ann code q c x s pos a s' pos'):Goes p w n₀ ann code q c (x.keep vs) s pos a s' pos':=by intro K H gd lv;rw [Sem.keep_eq_wrap,Sem.wrap_wrap];exact h K H _ _
theorem Goes.holding {x:Sem α} {vs:List Value} (h:Goes p w n₀ ann code q c x s pos a s' pos'):Goes p w n₀ ann code q c (j13 vs x) s pos a s' pos':=by rw [holding_eq_keep];exact h.keep
theorem Goes.rule {tag:String}:Goes p w n₀ ann code q 1 (PySem.rule tag) s pos () s pos:=λ _ _ _ _=>.one rfl rfl rfl
theorem Goes.at' {pos₁:Pos}:Goes p w n₀ ann code q 1 (standAt pos₁) s pos () s pos₁:=λ _ _ _ _=>.one rfl rfl rfl
theorem Goes.loadPart {A:Addr} {o:Obj} {part:Option Value} (ho:s.heap.get? A=some o):Goes p w n₀ ann code q 1 (loadPart A part) s pos o s pos:=λ K H gd lv=>.one rfl rfl (by obtain ⟨heap,gens,drawn,toks,os⟩:=s;show (match heap.get? A with|some o=>Step.go _ _|none=>_)=_;have ho:heap.get? A=some o:=ho;rw [ho];rfl)
theorem Goes.updatePart {A:Addr} {o:Obj} {f:Obj->Obj} {part:Option Value} (ho:s.heap.get? A=some o) (hn:Nat.ble n₀ A=true):Goes p w n₀ ann code q 1 (updatePart A part f) s pos () { s with heap:=s.heap.update A f } pos:=λ K H gd lv=>
 .one rfl (by
  show (_ && (Nat.ble n₀ A || _ || _ || _))=true;rw [hn];rfl) (by
  obtain ⟨heap,gens,drawn,toks,os⟩:=s;have ho:heap.get? A=some o:=ho;show (if (heap.get? A).isSome=true then Step.go _ _ else _)=_;rw [ho];rfl)
theorem Goes.leaf {x:Sem α} {sT sT':SharedT} (n:Nat) (h :∀K H gd lv,segGoT F3 p w n₀ ann 1 n sT ⟨x.wrap K H gd lv,code,pos,[topFrame q]⟩=some (sT',⟨K a,code,pos',[topFrame q]⟩)) :
  Goes p w n₀ ann code q n x sT.abs pos a sT'.abs pos':=λ K H gd lv=>⟨n,F0 _,segGo_of (h K H gd lv)⟩
end
end TJ
open PySem PySem.W PyProof.Rows
namespace TJ
section
variable {p:Program} {w:y1} {n₀:Nat} {ann:Option Value} {code:Code} {q:Pos} {s:A0} {pos:Pos}
theorem Goes.forIn {γ β:Type} {c:Nat} {f:γ->β->Sem (ForInStep β)} {b:β} :∀{l:List γ},(∀x∈l,Goes p w n₀ ann code q c (f x b) s pos (.yield b) s pos)->Goes p w n₀ ann code q (l.length * c) (ForIn.forIn l b f) s pos b s pos
 | [],_=>by rw [j1g];exact Goes.pure.le (Q1 _)
 | x :: l,h=>by rw [j10];have k:=Goes.forIn (l:=l) λ y hy=>h y (G1 _ hy);have e:=Goes.bind (f:=λ r=>match r with | .done b=>(j2h b:Sem β) | .yield b=>ForIn.forIn l b f) (h x B1) k;exact e.le (by rw [W0,Nat.add_mul];omega)
theorem Goes.entries {d:Addr} {o:Obj} {es:Array DictEntry} {ep:Nat} {part:Option Value} (ho:s.heap.get? d=some o) (hd:o.data=.dict es ep):Goes p w n₀ ann code q 1 (dictEntries d part) s pos es s pos:=by unfold dictEntries;refine (Goes.bind (d:=0) (Goes.loadPart ho) ?_);rw [hd];exact Goes.pure
theorem Goes.epoch {d:Addr} {o:Obj} {es:Array DictEntry} {ep:Nat} {part:Option Value} (ho:s.heap.get? d=some o) (hd:o.data=.dict es ep):Goes p w n₀ ann code q 1 (dictEpoch d part) s pos ep s pos:=by unfold dictEpoch;refine (Goes.bind (d:=0) (Goes.loadPart ho) ?_);rw [hd];exact Goes.pure
theorem Goes.mayTell {a:Addr} {stored:List Value} {cq:Nat} (hq:Goes p w n₀ ann code q cq (V6 8 (.ref a)) s pos true s pos) (hs :∀v∈stored,Goes p w n₀ ann code q cq (V6 8 v) s pos true s pos) :
  Goes p w n₀ ann code q (cq + stored.length * cq) (tableMayTell (.ref a) stored) s pos false s pos:=by
 unfold tableMayTell;split
 ·exact Goes.pure.le (Q1 _)
 ·refine Goes.bind hq ?_;simp only [Bool.not_true,Bool.false_eq_true,if_false];refine (Goes.bind (a:=(none,())) (d:=0) (Goes.forIn λ v hv=>?_) ?_).le (F0 _)
  ·refine (Goes.bind (d:=0) (hs v hv) ?_).le (F0 _);simp only [Bool.not_true,Bool.false_eq_true,if_false];exact Goes.pure
  ·exact Goes.pure
theorem Goes.find_none {d a:Addr} {o:Obj} {es:Array DictEntry} {ep:Nat} {h:Int} {cq ce:Nat} (ho:s.heap.get? d=some o) (hd:o.data=.dict es ep)
  (hq:Goes p w n₀ ann code q cq (V6 8 (.ref a)) s pos true s pos)
  (hk :∀e∈es.toList,∃b,e.key=.ref b/\b≠a/\Goes p w n₀ ann code q cq (V6 8 (.ref b)) s pos true s pos/\Goes p w n₀ ann code q ce (eqBool (.ref b) (.ref a)) s pos false s pos) :
  Goes p w n₀ ann code q (2 + cq + es.size * (cq + ce + 10)) (dictFind d (.ref a) h) s pos none s pos:=by
 have hmem :∀(i:Nat) (e:DictEntry),es[i]? = some e->e∈es.toList:=λ i e he=>Array.mem_toList_iff.mpr (Array.mem_of_getElem? he);have hany:¬ (es.any λ e=>e.key == E1 a && e.hash != h)=true:=by rw [<-Array.any_toList,j0e];rintro ⟨e,hin,hc⟩;obtain ⟨b,hb,hne,_⟩:=hk e hin;simp only [hb,j3,beq_iff_eq,Value.ref.injEq] at hc;exact hne hc.1
 have hst :∀v∈(a7 es.size (λ i=>es[i]?.map (·.hash)) h).filterMap (λ i=>es[i]?.map (·.key)),∃b,v=.ref b/\b≠a/\Goes p w n₀ ann code q cq (V6 8 v) s pos true s pos:=by
  intro v hv;obtain ⟨i,_,hi⟩:=List.mem_filterMap.mp hv;cases hei:es[i]? with
  | none=>rw [hei] at hi;cases hi
  | some e=>
   rw [hei] at hi;obtain rfl:e.key=v:=by simpa using hi
   obtain ⟨b,hb,hne,hbq,_⟩:=hk e (hmem i e hei);exact ⟨b,hb,hne,hb ▸ hbq⟩
 have hpl:(a7 es.size (λ i=>es[i]?.map (·.hash)) h).length<=es.size:=by unfold a7;exact G0 (U2 _ _) (by rw [x2];exact F0 _)
 have hsl:((a7 es.size (λ i=>es[i]?.map (·.hash)) h).filterMap (λ i=>es[i]?.map (·.key))).length<=es.size:=G0 (List.length_filterMap_le _ _) hpl;unfold dictFind;refine Goes.holding ?_;refine (Goes.bind (d:=1 + cq + es.size * (cq + ce + 10)) (Goes.entries ho hd) ?_).le (by omega);dsimp only;rw [if_neg (show ¬ ((E1 a :: (a7 es.size (λ i=>es[i]?.map (·.hash)) h).filterMap (λ i=>es[i]?.map (·.key))).all carriedByValue)=true by simp [carriedByValue])];rw [if_neg hany];have hone:¬ (((a7 es.size (λ i=>es[i]?.map (·.hash)) h).filterMap (λ i=>es[i]?.map (·.key))) == [E1 a])=true:=by intro e;have e:=eq_of_beq e;obtain ⟨b,hb,hne,_⟩:=hst (.ref a) (by rw [e];exact List.mem_singleton.mpr rfl);exact hne (by injection hb with hb;exact hb.symm)
 rw [if_neg hone];refine (Goes.bind (d:=1 + es.size * (ce + 10)) (Goes.mayTell hq λ v hv=>(let ⟨_,_,_,z⟩:=hst v hv;z)) ?_).le ?_
 ·rw [if_neg (by simp)];refine (Goes.bind (a:=(none,none)) (d:=0) (Goes.forIn (c:=ce + 10) λ i hi=>?_) ?_).le ?_
  ·cases hei:es[i]? with
   | none=>exact Goes.pure.le (Q1 _)
   | some e=>
    dsimp only;split
    ·obtain ⟨b,hb,hne,_,hbe⟩:=hk e (hmem i e hei);rw [hb];refine (Goes.bind (d:=ce + 2) (Goes.epoch ho hd) (Goes.bind (d:=2) hbe (Goes.bind (d:=1) (Goes.epoch ho hd) ?_))).le (by omega);rw [if_neg (by simp)];rw [if_neg (by simp)];refine Goes.bind (d:=0) Goes.rule ?_;rw [if_neg (by simp)];exact Goes.pure
    ·exact Goes.pure.le (Q1 _)
  ·exact Goes.pure
  ·have:=n9 (ce + 10) hpl;omega
 ·have:=n9 cq hsl;have e1:es.size * (cq + ce + 10)=es.size * cq + es.size * (ce + 10):=by rw [<-Nat.mul_add,Nat.add_assoc]
  rw [e1];omega
end
end TJ
open PySem PySem.W PyProof.Rows
namespace TJ
noncomputable abbrev dObj (es:Array DictEntry) (ep:Nat):Obj:={ cls:=.type "dict",data:=.dict es ep }
abbrev KV3:=Addr×Value×Int
noncomputable def ent (x:KV3):DictEntry:=⟨x.2.2,.ref x.1,x.2.1⟩
noncomputable def unh (a:Addr):Sem Value:=do rule "hash.unhashable";raiseError "TypeError" s!"unhashable type: '{← typeNameOf (.ref a)}'"
noncomputable def zbt (d:Addr) (vs:List (Value×Value)):Sem PUnit:=forIn vs G9 λ (x:Value×Value) (_:PUnit)=>(do j2i d x.1 x.2;J3 (U3 G9):Sem (ForInStep PUnit))
section
variable {p:Program} {w:y1} {n₀:Nat} {ann:Option Value} {code:Code} {q:Pos} {pos:Pos} {F:Obj->Nat->SharedT} {d:Addr}
structure Fam (n₀:Nat) (d:Addr) (F:Obj->Nat->SharedT):Prop where
 le:Nat.ble n₀ d=true
 get :∀es ep tk,(F (dObj es ep) tk).abs.heap.get? d=some (dObj es ep)
 upd :∀es ep tk (e:DictEntry),({ (F (dObj es ep) tk).abs with heap:=(F (dObj es ep) tk).abs.heap.update d (O8 (·.push e)) }:A0)=(F (dObj (es.push e) (ep + 1)) tk).abs
theorem Goes.updKeys (Z:Fam n₀ d F) {es:Array DictEntry} {ep tk:Nat} {e:DictEntry} {part:Option Value} (hsz:es.size < sizeLine) :
  Goes p w n₀ ann code q 3 (updateDictKeys d (·.push e) part) (F (dObj es ep) tk).abs pos () (F (dObj (es.push e) (ep + 1)) tk).abs pos:=by
 unfold updateDictKeys;refine (Goes.bind (d:=2) (Goes.loadPart (Z.get es ep tk)) ?_);dsimp only;have u:=Goes.updatePart (p:=p) (w:=w) (ann:=ann) (code:=code) (q:=q) (pos:=pos) (part:=part) (f:=O8 (·.push e)) (Z.get es ep tk) Z.le;rw [Z.upd es ep tk e] at u;refine Goes.bind (d:=1) u ?_;unfold lookBehind;refine Goes.bind (d:=0) (Goes.loadPart (Z.get _ _ tk)) ?_;have e1:(dObj (es.push e) (ep + 1)).data.pastItsLine=none:=by unfold Data.pastItsLine;dsimp only;rw [if_neg (by rw [Array.size_push];omega)]
 rw [e1];exact Goes.pure
theorem Goes.set (Z:Fam n₀ d F) {a:Addr} {v:Value} {es:Array DictEntry} {ep tk k cp cq ce:Nat} {hsh:Int} (hsz:es.size < sizeLine)
  (hpy:Goes p w n₀ ann code q cp (pyHash (.ref a)) (F (dObj es ep) tk).abs pos hsh (F (dObj es ep) (tk + k)).abs pos)
  (hq:Goes p w n₀ ann code q cq (V6 8 (.ref a)) (F (dObj es ep) (tk + k)).abs pos true (F (dObj es ep) (tk + k)).abs pos)
  (hk :∀e∈es.toList,∃b,e.key=.ref b/\b≠a/\Goes p w n₀ ann code q cq (V6 8 (.ref b)) (F (dObj es ep) (tk + k)).abs pos true (F (dObj es ep) (tk + k)).abs pos/\
   Goes p w n₀ ann code q ce (eqBool (.ref b) (.ref a)) (F (dObj es ep) (tk + k)).abs pos false (F (dObj es ep) (tk + k)).abs pos) :
  Goes p w n₀ ann code q (cp + (2 + cq + es.size * (cq + ce + 10)) + 4) (j2i d (.ref a) v) (F (dObj es ep) tk).abs pos () (F (dObj (es.push ⟨hsh,.ref a,v⟩) (ep + 1)) (tk + k)).abs pos:=by
 unfold j2i;refine Goes.holding ?_;refine (Goes.bind (d:=(2 + cq + es.size * (cq + ce + 10)) + 4) hpy ?_).le (by omega);unfold dictSetHashed;refine Goes.holding ?_;refine Goes.bind (d:=4) (Goes.find_none (h:=hsh) (Z.get es ep (tk + k)) rfl hq hk) ?_;exact Goes.bind (d:=3) Goes.rule (Goes.updKeys Z hsz)
theorem zjn {γ β:Type} {f:γ->β->Sem (ForInStep β)} {x:γ} {xs:List γ} {b b' b'':β} {c c':Nat} {s s' s'':A0} (h:Goes p w n₀ ann code q c (f x b) s pos (.yield b') s' pos) (k:Goes p w n₀ ann code q c' (forIn xs b' f) s' pos b'' s'' pos) :
  Goes p w n₀ ann code q (c + c') (forIn (x :: xs) b f) s pos b'' s'' pos:=by
 rw [j10];exact Goes.bind (f:=λ r=>match r with | .done b=>(j2h b:Sem β) | .yield b=>forIn xs b f) h k
theorem Goes.loop (Z:Fam n₀ d F) {cp cq ce N:Nat} (all:List KV3) (hN:all.length<=N) (hN':N < sizeLine) (hnd:(all.map (·.1)).Nodup)
  (hQ :∀x∈all,∀oD tk,Goes p w n₀ ann code q cq (V6 8 (.ref x.1)) (F oD tk).abs pos true (F oD tk).abs pos)
  (hE:all.Pairwise λ x y=>∀oD tk,Goes p w n₀ ann code q ce (eqBool (.ref x.1) (.ref y.1)) (F oD tk).abs pos false (F oD tk).abs pos)
  (hH :∀x∈all,∀oD tk,Goes p w n₀ ann code q cp (pyHash (.ref x.1)) (F oD tk).abs pos x.2.2 (F oD (tk + 3)).abs pos) :
  ∀(todo done:List KV3) (tk:Nat),all=done++todo->
   Goes p w n₀ ann code q (todo.length * (cp + (2 + cq + N * (cq + ce + 10)) + 4)) (zbt d (todo.map λ x=>(E1 x.1,x.2.1)))
    (F (dObj (done.map ent).toArray done.length) tk).abs pos () (F (dObj (all.map ent).toArray all.length) (tk + 3 * todo.length)).abs pos:=by
 intro todo;induction todo with
 | nil=>intro done tk e;rw [C3] at e;subst e;unfold zbt;rw [C7,j1g];exact Goes.pure.le (Q1 _)
 | cons x todo ih=>
  intro done tk e;have hx:x∈all:=by rw [e];exact D1 _ B1
  have ih':=ih (done++[x]) (tk + 3) (by rw [e,C5];rfl);unfold zbt at ih'⊢;rw [v1];have hlen:(done.map ent).toArray.size<=N:=by rw [O0,D0];rw [e,K0] at hN;omega
  have st:=Goes.set (p:=p) (w:=w) (ann:=ann) (code:=code) (q:=q) (pos:=pos) (v:=x.2.1) (ep:=done.length) Z (C1 hlen hN') (hH x hx _ tk) (hQ x hx _ _) (es:=(done.map ent).toArray) (ce:=ce) (by
   intro en hen;obtain ⟨y,hy,rfl⟩:=List.mem_map.mp hen;have hya:y∈all:=by rw [e];exact P5 _ hy
   have hne:y.1≠x.1:=by rw [e,L1,v1] at hnd;intro q;exact (List.nodup_append.mp hnd).2.2 y.1 (List.mem_map.mpr ⟨y,hy,rfl⟩) x.1 B1 q
   rw [e] at hE;exact ⟨y.1,rfl,hne,hQ y hya _ _,(List.pairwise_append.mp hE).2.2 y hy x B1 _ _⟩)
  have e2:((done.map ent).toArray.push ⟨x.2.2,.ref x.1,x.2.1⟩)=((done++[x]).map ent).toArray:=by rw [List.push_toArray,L1];rfl
  have e3:done.length + 1=(done++[x]).length:=by rw [K0];rfl
  rw [e2,e3] at st;have e4:tk + 3 * (x :: todo).length=(tk + 3) + 3 * todo.length:=by rw [W0];omega
  rw [e4];have e5:Goes p w n₀ ann code q (_ + 0) (do j2i d (E1 x.1,x.2.1).1 (E1 x.1,x.2.1).2;j2h (U3 G9):Sem (ForInStep PUnit)) _ pos (U3 G9) _ pos:=Goes.bind st Goes.pure;have e6:=zjn (b:=G9) (xs:=todo.map λ x=>(E1 x.1,x.2.1)) e5 ih';refine e6.le ?_;rw [W0,Nat.add_mul];have:=n9 (cq + ce + 10) hlen;omega
noncomputable def za0 (acc:Nat):Int:=if acc == 2 ^ 64 - 1 then 1546275796 else if acc < 2 ^ 63 then acc else (acc:Int) - (2 ^ 64:Nat)
theorem z7f (acc:Nat) (h:acc < 2 ^ 64):-(2:Int) ^ 63<=za0 acc/\za0 acc < 2 ^ 63:=by
 unfold za0;split
 ·constructor<;>decide
 ·split
  ·constructor<;>omega
  ·constructor<;>omega
theorem z6j (hs:List Int):-(2:Int) ^ 63<=u0 hs/\u0 hs < 2 ^ 63:=
 z7f _ (Nat.mod_lt _ (by decide))
theorem Goes.pyHashT {a:Addr} {s s':A0} {hs:List Int} {tok:Tok} (h1:Goes p w n₀ ann code q 1 (cRoomFor "hash" [.ref a]) s pos () s pos)
  (h2:Goes p w n₀ ann code q 1 (specialOf (.ref a) "__hash__") s pos (some (.builtin "tuple.__hash__")) s pos)
  (h3:Goes p w n₀ ann code q 22 (G7 (.ref a) "__hash__" (unh a)) s pos (some (.int (u0 hs) tok)) s' pos) :
  Goes p w n₀ ann code q 25 (pyHash (.ref a)) s pos (F1 (u0 hs)) s' pos:=by
 have e:pyHash (.ref a)=pyHashByItsType (.ref a):=rfl;rw [e];unfold pyHashByItsType;refine Goes.bind (d:=24) h1 ?_;refine Goes.bind (d:=23) h2 ?_;rw [if_neg (by rw [beq_builtin_none];exact U0)];refine Goes.bind (d:=22) h2 ?_;show Goes p w n₀ ann code q 22 (G7 (.ref a) "__hash__" (unh a) >>= _) s pos _ s' pos;refine Goes.bind (d:=0) h3 ?_;have r:(decide (-(2:Int) ^ 63<=u0 hs) && decide (u0 hs < 2 ^ 63))=true:=by have r:=z6j hs;rw [decide_eq_true r.1,decide_eq_true r.2];rfl
 show Goes p w n₀ ann code q 0 (if (decide (-(2:Int) ^ 63<=u0 hs) && decide (u0 hs < 2 ^ 63))=true then _ else _) s' pos _ s' pos;have e2:F1 (u0 hs)=(if (u0 hs == -1)=true then -2 else u0 hs):=by unfold F1;rw [if_pos r]
 rw [if_pos r,e2];exact Goes.pure
theorem Goes.subDict {pairs:List (Sem Value×Sem Value)} {s s₁ s':A0} {vs:List (Value×Value)} {c c':Nat} {d:Addr} (hlen:pairs.length<=15) (hd:s.heap.objs.size=d)
  (h1:Goes p w n₀ ann code q c (evalPairs pairs) { s with heap:=s.heap.push { cls:=.type "dict",data:=.dict #[] } } pos vs s₁ pos)
  (h2:Goes p w n₀ ann code q c' (zbt d vs) s₁ pos () s' pos):Goes p w n₀ ann code q (1 + (c + c')) (subDict pairs) s pos d s' pos:=by
 subst hd;unfold PySem.subDict;refine Goes.bind (a:=s.heap.objs.size) (λ _ _ _ _=>.one rfl rfl rfl) ?_;refine (Goes.bind (d:=0) (a:=()) (Goes.holding ?_) Goes.pure);rw [if_pos hlen];refine Goes.bind h1 ?_;exact Goes.holding (Goes.bind (d:=0) h2 Goes.pure)
theorem Goes.execs1 {st:Stmt} {env:Env} {s s':A0} {pos':Pos} {c:Nat} (h:Goes p w n₀ ann code q c (exec st env) s pos .next s' pos'):Goes p w n₀ ann code q c (execs [st] env) s pos .next s' pos':=by rw [execs_cons];exact Goes.bind (d:=0) h Goes.pure
theorem Goes.seg {l:List Stmt} {env:Env} {s s':A0} {pos':Pos} {c:Nat} (h:Goes p w n₀ ann code q c (execs l env) s pos .next s' pos') :∃n,n<=c + 1/\segRun F3 p w n₀ ann 1 n s (piecesOf l env code pos [topFrame q])=some (.next,s',code,pos'):=by obtain ⟨n,hn,h⟩:=h doneF deadEnd id id;exact ⟨n + 1,by omega,seg_go h rfl⟩
end
theorem zj2 {p q:Program} {loose:List Str} {Xt:A0->Bool} {α:Type} {Yf:A0->α} {Ya:y1->α} {N:Nat} {H₀:M0->Heap} {gs₀:Array GenState} {d₀:Drawn} {k₀ m₀:Nat} {ann:Option Value} {S:y1->X2->A0}
  (opens :∀w:y1,(fencedOpening F3 p w N).map (λ s=>(s.heap,s.gens,s.drawn,s.toks))=some (H₀ w.params,gs₀,d₀,k₀))
  (sizes :∀w:y1,(((H₀ w.params).isNs L0 && gs₀.size == 0),(H₀ w.params).objs.size,(H₀ w.params).nsMap L0 "__annotations__")=(true,m₀,ann))
  (runs :∀(w:y1) (os:X2),∃M,M<=N/\topRun F3 p w m₀ ann M ⟨H₀ w.params,gs₀,d₀,k₀,os⟩ (topStub p)=some (S w os))
  (looks1 :∀(w:y1) (os:X2),(staticsOk (L7 p.main.body) (H₀ w.params) (S w os).heap && namesBound p (S w os).heap && gensDone (S w os) && laidKept (H₀ w.params) (S w os).heap)=true)
  (looks2 :∀(w:y1) (os:X2),openSeen q loose (L7 p.main.body) Xt true (S w os)=openGood q loose) (looks3 :∀(w:y1) (os:X2),Yf (S w os)=Ya w):LeftO p q loose Xt Yf Ya N:=by
 intro w;obtain ⟨⟨h,gs,dr,k,os⟩,e,e'⟩:=Option.map_eq_some_iff.mp (opens w);simp only [Prod.mk.injEq] at e';obtain ⟨rfl,rfl,rfl,rfl⟩:=e';have z:=sizes w;simp only [Prod.mk.injEq] at z;obtain ⟨z1,z2,z3⟩:=z;obtain ⟨M,hM,r⟩:=runs w os;have r:=topRun_mono (N - M) _ _ _ _ r;rw [Nat.add_sub_cancel' hM] at r;have t:topFrom F3 p w N ⟨H₀ w.params,gs,dr,k,os⟩=some (S w os):=by unfold topFrom;dsimp only;rw [z1,z2,z3,r];show (match (staticsOk (L7 p.main.body) (H₀ w.params) (S w os).heap && namesBound p (S w os).heap && gensDone (S w os) && laidKept (H₀ w.params) (S w os).heap) with|true=>some (S w os)|false=>none)=_;rw [looks1 w os]
 unfold openEnds;rw [e];show (topFrom F3 p w N _).map _=_;rw [t];show some (_,_)=some (_,_);rw [looks2 w os,looks3 w os]
theorem zf8 {p:Program} {w:y1} {n₀:Nat} {ann:Option Value} {env:Env} {q:Pos} {c N:Nat} {s s' r:A0} {l rest:List Stmt} {b:Code} {pos pos':Pos} (h:Goes p w n₀ ann b q c (execs l env) s pos .next s' pos')
  (k:topRun F3 p w n₀ ann N s' (restOf rest env b pos' [topFrame q])=some r) :∃M,M<=c + 1 + N/\topRun F3 p w n₀ ann M s (restOf (l++rest) env b pos [topFrame q])=some r:=by
 obtain ⟨n,hn,g⟩:=Goes.seg h;exact ⟨n + N,by omega,piece_app g k⟩
end TJ
open PySem PySem.Spec PyProof.Rows
namespace L2
noncomputable abbrev fnX (x q:Str) (s:Stmt) (m:Str) (k c:Nat):FuncData:=G6 x q (z9i s) (z6z s) (z07 s) .none .none .none (.str m k) none (.ref c) .none
noncomputable abbrev fO (x q:Str) (s:Stmt) (m:Str) (k c:Nat):Obj:=⟨.type "function",none,.func (fnX x q s m k c),#[]⟩
noncomputable abbrev cO (x q:Str) (i l n a j:Nat):Obj:=
 ⟨.type "code",none,.fields #[.str x i,.str q (i + 1),.str "/claim/cut.py" (i + 2),.int l 0,.int n 0,.int 0 0,.int 0 0,.int 3 0,.ref a,.bool true,.int 181 0,.ref (a + 1),.none,.ref (a + 2),.ref (a + 3),.ref (a + 4),.int j 0,.int l 0,.str "/claim/cut.py" (j + 1)],#[]⟩
noncomputable abbrev cP (x q:Str) (i l n a j:Nat):Obj:=
 ⟨.type "code",none,.fields #[.str x i,.str q (i + 1),.str "/claim/cut.py" (i + 2),.int l 0,.int n 0,.int 0 0,.int 0 0,.int 3 0,.ref a,.bool true,.int 181 0,.ref (a + 1),.none,.none,.none,.ref (a + 2),.int j 0,.int l 0,.str "/claim/cut.py" (j + 1)],#[]⟩
noncomputable abbrev kR (P:M0) (x:Str) (i a:Nat):DictEntry:=⟨d0 P x,.str x i,.ref a⟩
section
variable {P:Program} {w:y1} {K:b0} {mg:Str->Option Value} {base:Heap} {x q:Str} {st:Stmt} {f:Addr} {fd:FuncData} {k:Nat} {ps:List Str} {sp:Sp}
theorem z0f {m:Str} {i c:Nat} (l:K.lookup f=some (fO x q st m i c):=by kernel_rfl) (hc:E8 K (.ref c) q=true:=by kernel_rfl) (hk:K3 K (.ref f)=true:=by kernel_rfl):Fun K x q st f (fnX x q st m i c):=fun_mk l hc hk
theorem cal_mk (T:TX K mg) (F:Fun K x q st f fd) (g:N0 K L0 x=some (some (.ref f))) (b:Binds K fd ps []) (G:FnOk P w K mg base CX0 k f fd ps sp):Cal P w K mg base x ps k sp:=⟨⟨f,fd,G,T.of g,F.kp,b⟩⟩
end
section
variable {p:List Value->Prop}
theorem us1 (h :∀a,p [a]) :∀us:List Value,us.length=1->p us | [a],_=>h a
theorem us2 (h :∀a b,p [a,b]) :∀us:List Value,us.length=2->p us | [a,b],_=>h a b
theorem us3 (h :∀a b c,p [a,b,c]) :∀us:List Value,us.length=3->p us | [a,b,c],_=>h a b c
theorem us4 (h :∀a b c d,p [a,b,c,d]) :∀us:List Value,us.length=4->p us | [a,b,c,d],_=>h a b c d
end
end L2
namespace L2
open PySem PySem.Spec PyProof.Rows
end L2
set_option maxHeartbeats 1000000
namespace L2
open PySem PySem.Spec PyProof.Rows
noncomputable def is4B (T:String):Bool:=T == "bool" || T == "list" || T == "tuple" || T == "dict"
theorem zi9 (K:b0) {T:String} (h:T = "NoneType"\/T = "bool"\/T = "int"\/T = "str"\/T = "list"\/T = "tuple"\/T = "dict"):PySem.W.kitAny K (.type T) [.type "bool",.type "list",.type "tuple",.type "dict"]=some (is4B T):=by rcases h with rfl|rfl|rfl|rfl|rfl|rfl|rfl<;>kernel_rfl
section
variable {X:Cx}
theorem zaz:CallR X (.builtin "isinstance") (λ xs H Q=>∃x p T,xs=[x,.ref p]/\H p=some (.tup [.ty "bool",.ty "list",.ty "tuple",.ty "dict"])/\TagOf H x T/\Q (.bl (is4B T)) H):=by
 intro pins s σ H xs us Q I r h;obtain ⟨x,p,T,rfl,hp,ht,q⟩:=h;obtain ⟨u,u1,rfl,rx,ry⟩:=vals2 r;cases (show u1=E1 p from ry);obtain ⟨_,its,rv,⟨ob,hob,c1,n,c2⟩,_⟩:=I.hok p _ hp;have e:its=[.type "bool",.type "list",.type "tuple",.type "dict"]:=by
  cases rv with
  | cons a b=>cases b with
   | cons c d=>cases d with
    | cons e f=>cases f with
     | cons g h=>cases h;rw [show _=D3 "bool" from a,show _=D3 "list" from c,show _=D3 "tuple" from e,show _=D3 "dict" from g]
 subst e;obtain ⟨oc,od,oda,osl⟩:=ob;dsimp only at c1 c2;subst c1 c2;have kt:=zi9 X.K ht.one;cases x with
 | non=>cases (show T = "NoneType" from ht);cases (show u=O2 from rx);exact X4 j42 I.kIn True.intro hob kt (λ z=>nomatch z) λ tk=>⟨.bl _,H,I.tok tk,rfl,q⟩
 | bl b=>cases (show T = "bool" from ht);cases (show u=J7 b from rx);exact X4 j43 I.kIn True.intro hob kt (λ z=>nomatch z) λ tk=>⟨.bl _,H,I.tok tk,rfl,q⟩
 | int i=>cases (show T = "int" from ht);obtain ⟨t,rfl⟩:=(show∃t,u=E6 i t from rx);exact X4 PySem.W.kitx_int I.kIn True.intro hob kt (λ z=>nomatch z) λ tk=>⟨.bl _,H,I.tok tk,rfl,q⟩
 | str z=>cases (show T = "str" from ht);obtain ⟨t,rfl⟩:=(show∃t,u=X6 z t from rx);exact X4 PySem.W.kitx_str I.kIn True.intro hob kt (λ z=>nomatch z) λ tk=>⟨.bl _,H,I.tok tk,rfl,q⟩
 | ref a=>
  cases (show u=E1 a from rx);rcases ht with ⟨⟨xs,ea⟩,rfl⟩|⟨⟨xs,ea⟩,rfl⟩|⟨⟨xs,ea⟩,rfl⟩
  ·obtain ⟨_,_,n,_,h1⟩:=(show ObjOk X.prog X.w H s.heap a (.lst xs) from I.hok a _ ea)
   exact X4 E9 I.kIn ⟨_,h1,rfl⟩ hob kt (λ z=>nomatch z) λ tk=>⟨.bl _,H,I.tok tk,rfl,q⟩
  ·obtain ⟨_,_,_,⟨o,h1,h2,_⟩,_⟩:=(show ObjOk X.prog X.w H s.heap a (.tup xs) from I.hok a _ ea)
   exact X4 j3f I.kIn ⟨o,h1,h2⟩ hob kt (λ z=>nomatch z) λ tk=>⟨.bl _,H,I.tok tk,rfl,q⟩
  ·obtain ⟨_,_,vs,_,o,es,ep,h1,h2,_⟩:=(show ObjOk X.prog X.w H s.heap a (.dK xs) from I.hok a _ ea)
   exact X4 F9 I.kIn ⟨o,h1,h2.1⟩ hob kt (λ z=>nomatch z) λ tk=>⟨.bl _,H,I.tok tk,rfl,q⟩
 | _=>exact ht.elim
end
noncomputable def StrOk:PyData->Prop
 | .list ds=>(N7 ds).showable=true/\(N7 ds).hasDict=false/\(N7 ds).depth<=8/\(N7 ds).shown.length<=sizeLine
 | .tuple ds=>(V4 ds).showable=true/\(V4 ds).hasDict=false/\(V4 ds).depth<=8/\(V4 ds).shown.length<=sizeLine
 | .int i=>i.natAbs.log2 < 1920
 | .dict _=>False
 | _=>True
section
variable {X:Cx}
theorem zg3 {k:Nat} (hr:Room k X.A):CallR X (.type "str") (λ xs H Q=>∃x d,xs=[x]/\IsPd X.K H d x/\StrOk d/\∀z,Q (.str z) H):=by
 intro pins s σ H xs us Q I r h;obtain ⟨x,d,rfl,hd,ok,q⟩:=h;obtain ⟨u,rfl,r1⟩:=vals1 r;have hu:=hr.units;cases d with
 | none=>cases (show x=.non from hd);cases (show u=.none from r1);exact PySem.P.str_of_none ⟨.str _,H,I.tok _,⟨_,rfl⟩,q _⟩
 | bool b=>cases (show x=.bl b from hd);cases (show u=.bool b from r1);exact PySem.P.str_of_bool ⟨.str _,H,I.tok _,⟨_,rfl⟩,q _⟩
 | int i=>cases (show x=.int i from hd);obtain ⟨t,rfl⟩:=(show∃t,u=E6 i t from r1);exact PySem.P.str_of_int ok ⟨.str _,H,I.tok _,⟨_,rfl⟩,q _⟩
 | str z=>cases (show x=.str z from hd);obtain ⟨t,rfl⟩:=(show∃t,u=X6 z t from r1);exact PySem.P.str_of_str ⟨.str z,H,I,⟨t,rfl⟩,q _⟩
 | list ds=>obtain ⟨as,ra⟩:=z54 I _ _ _ hd r1;obtain ⟨a,xs,rfl,_,_⟩:=hd;cases (show u=.ref a from r1);exact str_of_reads ra ok.1 (λ z=>by rw [ok.2.1] at z;cases z) hr.gd (by have:=ok.2.2.1;omega) (λ _ _ e=>e) (λ h' u tk kp=>⟨.str _,H,I.kept kp,⟨_,rfl⟩,q _⟩) ok.2.2.2
 | tuple ds=>obtain ⟨as,ra⟩:=z54 I _ _ _ hd r1;obtain ⟨a,xs,rfl,_,_⟩:=hd;cases (show u=.ref a from r1);exact str_of_reads ra ok.1 (λ z=>by rw [ok.2.1] at z;cases z) hr.gd (by have:=ok.2.2.1;omega) (λ _ _ e=>e) (λ h' u tk kp=>⟨.str _,H,I.kept kp,⟨_,rfl⟩,q _⟩) ok.2.2.2
 | dict ds=>cases hd
end
theorem z9f (items:List Value):slicePick items.toArray none none (some (-1))=items.reverse.toArray:=by
 unfold slicePick U6 sliceRange;dsimp only [Option.getD];congr 1;have c:(if (-1:Int) > 0 then if (items.toArray.size:Int) - 1 < -1 then (-1 - ((items.toArray.size:Int) - 1) + -1 - 1) / -1 else 0 else if (items.toArray.size:Int) - 1 > -1 then ((items.toArray.size:Int) - 1 - -1 - -1 - 1) / - -1 else 0)=(items.length:Int):=by
  rw [if_neg (by decide)];simp only [O0];by_cases h:items.length=0
  ·rw [if_neg (by omega)];omega
  ·rw [if_pos (by omega),show (- -1:Int)=1 from rfl,Int.ediv_one];omega
 simp only [show ¬ ((-1:Int) > 0) by decide,if_false] at c⊢;rw [c];apply J4;intro i;rw [List.filterMap_map];have key :∀n,n<=items.length->List.filterMap ((λ x=>items.toArray[x]?) ∘ λ k:Nat=>((items.toArray.size:Int) - 1 + -1 * (k:Int)).toNat) (W1 n)=items.reverse.take n:=by
  intro n;induction n with
  | zero=>intro _;rfl
  | succ n ih=>
   intro hn;rw [K8,List.filterMap_append,ih (by omega),Y8];congr 1;rw [A7,List.filterMap_nil];have e:((items.toArray.size:Int) - 1 + -1 * (n:Int)).toNat=items.length - 1 - n:=by rw [O0];omega
   simp only [Function.comp,e];rw [List.getElem?_reverse (by omega)];simp only [P8];cases items[items.length - 1 - n]?<;>rfl
 rw [y3,key _ (F0 _),M6 (by rw [z7];exact F0 _)]
theorem zim {xs:List V} {us:List Value} (r:Vals xs us):Vals xs.reverse us.reverse:=by
 induction r with
 | nil=>exact .nil
 | cons a r ih=>rw [W7,W7];exact ih.append (.cons a .nil)
section
variable {X:Cx} {e k:Expr} {te:TE} {tk:TO} {pos p2:Pos}
noncomputable def tRevSl (K:b0) (te:TE) (tk:TO):TE:=λ σ H Q=>te σ H λ x H1=>tk σ H1 λ o H2=>o=some (-1)/\∃a xs,x=.ref a/\SqL K H2 a xs/\∀p,H2 p=none->Q (.ref p) (upd H2 p (.lst xs.reverse))
theorem zfp (he:PE X e te) (hk:PO X (some k) tk):PE X (.Subscript e (.Slice none none (some k) p2) pos) (tRevSl X.K te tk):=by intro pins s σ H Q I h;refine j3d (thn (he pins s σ H _ I h) λ v s1 ⟨x,H1,I1,r1,q1⟩=>?_);refine wpAny_Slice ?_;rw [evalPart_none];refine C0 (C0 ?_);refine thn (hk pins s1 σ H1 _ I1 q1) λ vk s2 ⟨o,H2,I2,pk,q2⟩=>?_;obtain ⟨rfl,a,xs,rfl,sq,q⟩:=q2;cases (show v=.ref a from r1);have I4:Inv X pins σ H2 { s2 with heap:=s2.heap.push { cls:=.type "slice",data:=.fields #[.none,.none,vk] } }:=I2.kept (t':=s2.toks) λ b ob q=>B0 _ q;obtain ⟨its,rv,pl,hz⟩:=I4.list sq;show Q0 (A1 X.prog X.w) X.A (j0b e (.Slice none none (some k) p2) (.ref a) (.ref s2.heap.objs.size)) (EP X pins σ Q) X.xe { s2 with heap:=s2.heap.push { cls:=.type "slice",data:=.fields #[.none,.none,vk] } };have hlen:=rv.length;refine j37 (ops:=[.ref a,.ref s2.heap.objs.size]) pl.isList.typeIs slot_list_getitem.lookup (wpAny_getItem_list_slice pl.isList (j12 ..) .none .none pk (by decide) ?_ (by rw [O0];omega)) (by with_unfolding_all rfl);rw [z9f];refine ⟨.ref _,_,I4.laid (t':=s2.toks) (o:=.lst xs.reverse) (λ b ob q=>B0 _ q) (F0 _) ?_,rfl,q _ (I4.hok.fresh (F0 _))⟩;exact ⟨by rw [z7];exact hz,_,0,zim rv,S0 _ rfl⟩
end
section
variable {X:Cx}
noncomputable def rEqL0 (K:b0):R2:=λ x y H Q=>∃a b xs,x=.ref a/\y=.ref b/\SqL K H a xs/\SqL K H b []/\Q (.bl (decide (xs=[]))) H
theorem zc5 {k:Nat} (hr:Room k X.A):OpR X (v2 .Eq) (rEqL0 X.K):=by
 intro pins s σ H x y v u Q I rx ry h;obtain ⟨a,b,xs,rfl,rfl,ha,hb,q⟩:=h;cases rx;cases ry;obtain ⟨ia,ra,pa,_⟩:=I.list ha;obtain ⟨ib,rb,pb,_⟩:=I.list hb;cases rb;have hu:X.A.units < cLine:=j09 (hu_of hr);have hlen:=ra.length;cases xs with
 | nil=>cases ra;exact B9 (e:=λ _=>true) pa.isList pb.isList rfl hu (λ j h1 _=>absurd h1 (n5 _)) X.prog X.w _ _ ⟨.bl _,H,I,rfl,q⟩
 | cons z zs=>refine SeqAt.RcAt.lists_lengths pa.isList pb.isList ?_ hu X.prog X.w _ _ ⟨.bl _,H,I,rfl,q⟩;rw [O0,<-hlen];rfl
end
end L2
set_option maxHeartbeats 0
namespace K51
open PySem PySem.W PyProof.Rows TJ L2
noncomputable abbrev PX:Program:=PySem.Challenge.pw_talejudge_k51_orders_explain
noncomputable abbrev annX:Option Value:=some (.ref 6)
noncomputable def tp (a b:Str) (t:Nat):Obj:={ cls:=.type "tuple",data:=.seq #[.str a t,.str b (t + 1)] 0 }
noncomputable def tups:List Obj:=[tp "register" "read" 384,tp "register" "write" 386,tp "counter" "read" 388,tp "counter" "add" 390,tp "queue" "put" 392,tp "queue" "take" 394,tp "set" "put" 396,tp "set" "cut" 398,tp "set" "has" 400,tp "cell" "read" 402,tp "cell" "write" 404,tp "cell" "swap" 406]
noncomputable def insAll:List Obj->Nat->BT->BT
 | [],_,t=>t
 | x :: r,n,t=>insAll r (n + 1) (t.ins n x)
noncomputable def treeD (P:M0) (oD:Obj):BT:=insAll tups 146 ((K51.pre.tree_162 P).ins 145 oD)
noncomputable def FX (w:y1) (os:X2) (oD:Obj) (tk:Nat):SharedT:=⟨treeD w.params oD,158,{},⟨[]⟩,{},tk,os⟩
noncomputable abbrev cdX:Code:=.body (behindTheImports PX) K51.pre.env_1
noncomputable abbrev qX:Pos:=⟨0,0,0,0⟩
noncomputable abbrev BX:List Frame:=[topFrame qX]
noncomputable abbrev GX {α:Type} (w:y1) (c:Nat) (x:Sem α) (s:A0) (pos:Pos) (a:α) (s':A0) (pos':Pos):Prop:=Goes PX w 11 annX cdX qX c x s pos a s' pos'
def LX (n:Nat) {α:Type} (x:Sem α) (w:y1) (pos:Pos) (s:X2->Obj->Nat->SharedT) (a:Nat->α) (s':X2->Obj->Nat->SharedT) (pos':Pos):Prop:=
 ∀(os:X2) (oD:Obj) (tk:Nat) (K:α->Sem j07) (H:Value->Sem j07) (gd:Bool->Bool) (lv:List Value->List Value),
  PySem.W.Fast.tw10295753902157049106 i8 PX w 11 annX 1 n (s os oD tk) ⟨x.wrap K H gd lv,cdX,pos,BX⟩=some (s' os oD tk,⟨K (a tk),cdX,pos',BX⟩)
theorem LX.goes {n:Nat} {α:Type} {x:Sem α} {w:y1} {pos pos':Pos} {s s':X2->Obj->Nat->SharedT} {a:Nat->α} (h:LX n x w pos s a s' pos') (os:X2) (oD:Obj) (tk:Nat):GX w n x (s os oD tk).abs pos (a tk) (s' os oD tk).abs pos':=by refine Goes.leaf n λ K H gd lv=>?_;have e:=h os oD tk K H gd lv;rw [<-PySem.W.Fast.te10295753902157049106,<-K5] at e;exact e
noncomputable abbrev stay (w:y1):X2->Obj->Nat->SharedT:=FX w
noncomputable abbrev plus3 (w:y1):X2->Obj->Nat->SharedT:=λ os oD tk=>FX w os oD (tk + 3)
theorem qtH (a:Addr) (h :∀(w:y1) (pos:Pos),LX 3 (PySem.W.Fast.tw13066428366354244818 8 (.ref a)) w pos (stay w) (λ _=>true) (stay w) pos:=by intro w pos os oD tk K H gd lv;kernel_rfl) (w:y1) (pos:Pos):LX 3 (V6 8 (.ref a)) w pos (stay w) (λ _=>true) (stay w) pos:=by rw [PySem.W.Fast.te13066428366354244818];exact h w pos
def qt0:=qtH 146
def qt1:=qtH 147
def qt2:=qtH 148
def qt3:=qtH 149
def qt4:=qtH 150
def qt5:=qtH 151
def qt6:=qtH 152
def qt7:=qtH 153
def qt8:=qtH 154
def qt9:=qtH 155
def qt10:=qtH 156
def qt11:=qtH 157
theorem eqH (n:Nat) (a b:Addr) (hf :∀(w:y1) (pos:Pos),LX n (G5 (.ref a) (.ref b)) (w.withFollow "special-get-raises" false) pos (stay (w.withFollow "special-get-raises" false)) (λ _=>false) (stay (w.withFollow "special-get-raises" false)) pos:=by intro w pos os oD tk K H gd lv;kernel_rfl) (ht :∀(w:y1) (pos:Pos),LX n (G5 (.ref a) (.ref b)) (w.withFollow "special-get-raises" true) pos (stay (w.withFollow "special-get-raises" true)) (λ _=>false) (stay (w.withFollow "special-get-raises" true)) pos:=by intro w pos os oD tk K H gd lv;kernel_rfl) (w:y1) (pos:Pos):LX n (eqBool (.ref a) (.ref b)) w pos (stay w) (λ _=>false) (stay w) pos:=by rw [PySem.W.Fast.te13926502685295537346];exact byRow2 "special-get-raises" (P:=λ w=>LX n (G5 (.ref a) (.ref b)) w pos (stay w) (λ _=>false) (stay w) pos) (λ w=>hf w pos) (λ w=>ht w pos) w
def eq0_1:=eqH 20 146 147
def eq0_2:=eqH 16 146 148
def eq0_3:=eqH 16 146 149
def eq0_4:=eqH 16 146 150
def eq0_5:=eqH 16 146 151
def eq0_6:=eqH 16 146 152
def eq0_7:=eqH 16 146 153
def eq0_8:=eqH 16 146 154
def eq0_9:=eqH 16 146 155
def eq0_10:=eqH 16 146 156
def eq0_11:=eqH 16 146 157
def eq1_2:=eqH 16 147 148
def eq1_3:=eqH 16 147 149
def eq1_4:=eqH 16 147 150
def eq1_5:=eqH 16 147 151
def eq1_6:=eqH 16 147 152
def eq1_7:=eqH 16 147 153
def eq1_8:=eqH 16 147 154
def eq1_9:=eqH 16 147 155
def eq1_10:=eqH 16 147 156
def eq1_11:=eqH 16 147 157
def eq2_3:=eqH 20 148 149
def eq2_4:=eqH 16 148 150
def eq2_5:=eqH 16 148 151
def eq2_6:=eqH 16 148 152
def eq2_7:=eqH 16 148 153
def eq2_8:=eqH 16 148 154
def eq2_9:=eqH 16 148 155
def eq2_10:=eqH 16 148 156
def eq2_11:=eqH 16 148 157
def eq3_4:=eqH 16 149 150
def eq3_5:=eqH 16 149 151
def eq3_6:=eqH 16 149 152
def eq3_7:=eqH 16 149 153
def eq3_8:=eqH 16 149 154
def eq3_9:=eqH 16 149 155
def eq3_10:=eqH 16 149 156
def eq3_11:=eqH 16 149 157
def eq4_5:=eqH 20 150 151
def eq4_6:=eqH 16 150 152
def eq4_7:=eqH 16 150 153
def eq4_8:=eqH 16 150 154
def eq4_9:=eqH 16 150 155
def eq4_10:=eqH 16 150 156
def eq4_11:=eqH 16 150 157
def eq5_6:=eqH 16 151 152
def eq5_7:=eqH 16 151 153
def eq5_8:=eqH 16 151 154
def eq5_9:=eqH 16 151 155
def eq5_10:=eqH 16 151 156
def eq5_11:=eqH 16 151 157
def eq6_7:=eqH 20 152 153
def eq6_8:=eqH 20 152 154
def eq6_9:=eqH 16 152 155
def eq6_10:=eqH 16 152 156
def eq6_11:=eqH 16 152 157
def eq7_8:=eqH 20 153 154
def eq7_9:=eqH 16 153 155
def eq7_10:=eqH 16 153 156
def eq7_11:=eqH 16 153 157
def eq8_9:=eqH 16 154 155
def eq8_10:=eqH 16 154 156
def eq8_11:=eqH 16 154 157
def eq9_10:=eqH 20 155 156
def eq9_11:=eqH 20 155 157
def zjy:=eqH 20 156 157
theorem crH (a:Addr) (hf :∀(w:y1) (pos:Pos),LX 1 (J5 "hash" [.ref a]) (w.withFollow "special-get-raises" false) pos (stay (w.withFollow "special-get-raises" false)) (λ _=>()) (stay (w.withFollow "special-get-raises" false)) pos:=by intro w pos os oD tk K H gd lv;kernel_rfl) (ht :∀(w:y1) (pos:Pos),LX 1 (J5 "hash" [.ref a]) (w.withFollow "special-get-raises" true) pos (stay (w.withFollow "special-get-raises" true)) (λ _=>()) (stay (w.withFollow "special-get-raises" true)) pos:=by intro w pos os oD tk K H gd lv;kernel_rfl) (w:y1) (pos:Pos):LX 1 (cRoomFor "hash" [.ref a]) w pos (stay w) (λ _=>()) (stay w) pos:=by rw [PySem.W.Fast.te13383273872528276517];exact byRow2 "special-get-raises" (P:=λ w=>LX 1 (J5 "hash" [.ref a]) w pos (stay w) (λ _=>()) (stay w) pos) (λ w=>hf w pos) (λ w=>ht w pos) w
theorem soH (a:Addr) (hf :∀(w:y1) (pos:Pos),LX 1 (O5 (.ref a) "__hash__") (w.withFollow "special-get-raises" false) pos (stay (w.withFollow "special-get-raises" false)) (λ _=>some (.builtin "tuple.__hash__")) (stay (w.withFollow "special-get-raises" false)) pos:=by intro w pos os oD tk K H gd lv;kernel_rfl) (ht :∀(w:y1) (pos:Pos),LX 1 (O5 (.ref a) "__hash__") (w.withFollow "special-get-raises" true) pos (stay (w.withFollow "special-get-raises" true)) (λ _=>some (.builtin "tuple.__hash__")) (stay (w.withFollow "special-get-raises" true)) pos:=by intro w pos os oD tk K H gd lv;kernel_rfl) (w:y1) (pos:Pos):LX 1 (specialOf (.ref a) "__hash__") w pos (stay w) (λ _=>some (.builtin "tuple.__hash__")) (stay w) pos:=by rw [PySem.W.Fast.te4214721358667687652];exact byRow2 "special-get-raises" (P:=λ w=>LX 1 (O5 (.ref a) "__hash__") w pos (stay w) (λ _=>some (.builtin "tuple.__hash__")) (stay w) pos) (λ w=>hf w pos) (λ w=>ht w pos) w
theorem csH (a:Addr) (k l:Str) (hf :∀(w:y1) (pos:Pos),LX 22 (F5 (.ref a) "__hash__" (unh a)) (w.withFollow "special-get-raises" false) pos (stay (w.withFollow "special-get-raises" false)) (λ tk=>some (.int (u0 [d0 (w.withFollow "special-get-raises" false).params k,d0 (w.withFollow "special-get-raises" false).params l]) (tk + 2))) (plus3 (w.withFollow "special-get-raises" false)) pos:=by intro w pos os oD tk K H gd lv;kernel_rfl) (ht :∀(w:y1) (pos:Pos),LX 22 (F5 (.ref a) "__hash__" (unh a)) (w.withFollow "special-get-raises" true) pos (stay (w.withFollow "special-get-raises" true)) (λ tk=>some (.int (u0 [d0 (w.withFollow "special-get-raises" true).params k,d0 (w.withFollow "special-get-raises" true).params l]) (tk + 2))) (plus3 (w.withFollow "special-get-raises" true)) pos:=by intro w pos os oD tk K H gd lv;kernel_rfl) (w:y1) (pos:Pos):LX 22 (G7 (.ref a) "__hash__" (unh a)) w pos (stay w) (λ tk=>some (.int (u0 [d0 w.params k,d0 w.params l]) (tk + 2))) (plus3 w) pos:=by rw [PySem.W.Fast.te16697807410369149715];exact byRow2 "special-get-raises" (P:=λ w=>LX 22 (F5 (.ref a) "__hash__" (unh a)) w pos (stay w) (λ tk=>some (.int (u0 [d0 w.params k,d0 w.params l]) (tk + 2))) (plus3 w) pos) (λ w=>hf w pos) (λ w=>ht w pos) w
def cr0:=crH 146
def so0:=soH 146
noncomputable def cs0:=csH 146 "register" "read"
def cr1:=crH 147
def so1:=soH 147
noncomputable def cs1:=csH 147 "register" "write"
def cr2:=crH 148
def so2:=soH 148
noncomputable def cs2:=csH 148 "counter" "read"
def cr3:=crH 149
def so3:=soH 149
noncomputable def cs3:=csH 149 "counter" "add"
def cr4:=crH 150
def so4:=soH 150
noncomputable def cs4:=csH 150 "queue" "put"
def cr5:=crH 151
def so5:=soH 151
noncomputable def cs5:=csH 151 "queue" "take"
def cr6:=crH 152
def so6:=soH 152
noncomputable def cs6:=csH 152 "set" "put"
def cr7:=crH 153
def so7:=soH 153
noncomputable def cs7:=csH 153 "set" "cut"
def cr8:=crH 154
def so8:=soH 154
noncomputable def cs8:=csH 154 "set" "has"
def cr9:=crH 155
def so9:=soH 155
noncomputable def cs9:=csH 155 "cell" "read"
def cr10:=crH 156
def so10:=soH 156
noncomputable def cs10:=csH 156 "cell" "write"
def cr11:=crH 157
def so11:=soH 157
noncomputable def cs11:=csH 157 "cell" "swap"
noncomputable def allX (P:M0):List KV3:=[(146,(.ref 90),(F1 (u0 [d0 P "register",d0 P "read"]))),(147,(.ref 97),(F1 (u0 [d0 P "register",d0 P "write"]))),(148,(.ref 90),(F1 (u0 [d0 P "counter",d0 P "read"]))),(149,(.ref 104),(F1 (u0 [d0 P "counter",d0 P "add"]))),(150,(.ref 111),(F1 (u0 [d0 P "queue",d0 P "put"]))),(151,(.ref 118),(F1 (u0 [d0 P "queue",d0 P "take"]))),(152,(.ref 125),(F1 (u0 [d0 P "set",d0 P "put"]))),(153,(.ref 130),(F1 (u0 [d0 P "set",d0 P "cut"]))),(154,(.ref 137),(F1 (u0 [d0 P "set",d0 P "has"]))),(155,(.ref 90),(F1 (u0 [d0 P "cell",d0 P "read"]))),(156,(.ref 97),(F1 (u0 [d0 P "cell",d0 P "write"]))),(157,(.ref 144),(F1 (u0 [d0 P "cell",d0 P "swap"])))]
theorem zjz (w:y1) (os:X2) (pos:Pos):(allX w.params).Pairwise λ x y=>∀oD tk,GX w 20 (eqBool (.ref x.1) (.ref y.1)) (FX w os oD tk).abs pos false (FX w os oD tk).abs pos:=by
 unfold allX;refine
 .cons (λ y hy oD tk=>(by
  revert y;simp only [X1,o0,false_implies,implies_true,and_true];exact ⟨(eq0_1 w pos).goes os oD tk |>.le (by decide),(eq0_2 w pos).goes os oD tk |>.le (by decide),(eq0_3 w pos).goes os oD tk |>.le (by decide),(eq0_4 w pos).goes os oD tk |>.le (by decide),(eq0_5 w pos).goes os oD tk |>.le (by decide),(eq0_6 w pos).goes os oD tk |>.le (by decide),(eq0_7 w pos).goes os oD tk |>.le (by decide),(eq0_8 w pos).goes os oD tk |>.le (by decide),(eq0_9 w pos).goes os oD tk |>.le (by decide),(eq0_10 w pos).goes os oD tk |>.le (by decide),(eq0_11 w pos).goes os oD tk |>.le (by decide)⟩))
  (.cons (λ y hy oD tk=>(by
  revert y;simp only [X1,o0,false_implies,implies_true,and_true];exact ⟨(eq1_2 w pos).goes os oD tk |>.le (by decide),(eq1_3 w pos).goes os oD tk |>.le (by decide),(eq1_4 w pos).goes os oD tk |>.le (by decide),(eq1_5 w pos).goes os oD tk |>.le (by decide),(eq1_6 w pos).goes os oD tk |>.le (by decide),(eq1_7 w pos).goes os oD tk |>.le (by decide),(eq1_8 w pos).goes os oD tk |>.le (by decide),(eq1_9 w pos).goes os oD tk |>.le (by decide),(eq1_10 w pos).goes os oD tk |>.le (by decide),(eq1_11 w pos).goes os oD tk |>.le (by decide)⟩))
  (.cons (λ y hy oD tk=>(by
  revert y;simp only [X1,o0,false_implies,implies_true,and_true];exact ⟨(eq2_3 w pos).goes os oD tk |>.le (by decide),(eq2_4 w pos).goes os oD tk |>.le (by decide),(eq2_5 w pos).goes os oD tk |>.le (by decide),(eq2_6 w pos).goes os oD tk |>.le (by decide),(eq2_7 w pos).goes os oD tk |>.le (by decide),(eq2_8 w pos).goes os oD tk |>.le (by decide),(eq2_9 w pos).goes os oD tk |>.le (by decide),(eq2_10 w pos).goes os oD tk |>.le (by decide),(eq2_11 w pos).goes os oD tk |>.le (by decide)⟩))
  (.cons (λ y hy oD tk=>(by
  revert y;simp only [X1,o0,false_implies,implies_true,and_true];exact ⟨(eq3_4 w pos).goes os oD tk |>.le (by decide),(eq3_5 w pos).goes os oD tk |>.le (by decide),(eq3_6 w pos).goes os oD tk |>.le (by decide),(eq3_7 w pos).goes os oD tk |>.le (by decide),(eq3_8 w pos).goes os oD tk |>.le (by decide),(eq3_9 w pos).goes os oD tk |>.le (by decide),(eq3_10 w pos).goes os oD tk |>.le (by decide),(eq3_11 w pos).goes os oD tk |>.le (by decide)⟩))
  (.cons (λ y hy oD tk=>(by
  revert y;simp only [X1,o0,false_implies,implies_true,and_true];exact ⟨(eq4_5 w pos).goes os oD tk |>.le (by decide),(eq4_6 w pos).goes os oD tk |>.le (by decide),(eq4_7 w pos).goes os oD tk |>.le (by decide),(eq4_8 w pos).goes os oD tk |>.le (by decide),(eq4_9 w pos).goes os oD tk |>.le (by decide),(eq4_10 w pos).goes os oD tk |>.le (by decide),(eq4_11 w pos).goes os oD tk |>.le (by decide)⟩))
  (.cons (λ y hy oD tk=>(by
  revert y;simp only [X1,o0,false_implies,implies_true,and_true];exact ⟨(eq5_6 w pos).goes os oD tk |>.le (by decide),(eq5_7 w pos).goes os oD tk |>.le (by decide),(eq5_8 w pos).goes os oD tk |>.le (by decide),(eq5_9 w pos).goes os oD tk |>.le (by decide),(eq5_10 w pos).goes os oD tk |>.le (by decide),(eq5_11 w pos).goes os oD tk |>.le (by decide)⟩))
  (.cons (λ y hy oD tk=>(by
  revert y;simp only [X1,o0,false_implies,implies_true,and_true];exact ⟨(eq6_7 w pos).goes os oD tk |>.le (by decide),(eq6_8 w pos).goes os oD tk |>.le (by decide),(eq6_9 w pos).goes os oD tk |>.le (by decide),(eq6_10 w pos).goes os oD tk |>.le (by decide),(eq6_11 w pos).goes os oD tk |>.le (by decide)⟩))
  (.cons (λ y hy oD tk=>(by
  revert y;simp only [X1,o0,false_implies,implies_true,and_true];exact ⟨(eq7_8 w pos).goes os oD tk |>.le (by decide),(eq7_9 w pos).goes os oD tk |>.le (by decide),(eq7_10 w pos).goes os oD tk |>.le (by decide),(eq7_11 w pos).goes os oD tk |>.le (by decide)⟩))
  (.cons (λ y hy oD tk=>(by
  revert y;simp only [X1,o0,false_implies,implies_true,and_true];exact ⟨(eq8_9 w pos).goes os oD tk |>.le (by decide),(eq8_10 w pos).goes os oD tk |>.le (by decide),(eq8_11 w pos).goes os oD tk |>.le (by decide)⟩))
  (.cons (λ y hy oD tk=>(by
  revert y;simp only [X1,o0,false_implies,implies_true,and_true];exact ⟨(eq9_10 w pos).goes os oD tk |>.le (by decide),(eq9_11 w pos).goes os oD tk |>.le (by decide)⟩))
  (.cons (λ y hy oD tk=>(by
  revert y;simp only [X1,o0,false_implies,implies_true,and_true];exact (zjy w pos).goes os oD tk |>.le (by decide)))
  (.cons (λ y hy=>nomatch hy)
  (L8))))))))))))
theorem allX_q (w:y1) (os:X2) (pos:Pos) :∀x∈allX w.params,∀oD tk,GX w 3 (V6 8 (.ref x.1)) (FX w os oD tk).abs pos true (FX w os oD tk).abs pos:=by unfold allX;simp only [X1,o0,false_implies,implies_true,and_true];exact ⟨λ oD tk=>(qt0 w pos).goes os oD tk,λ oD tk=>(qt1 w pos).goes os oD tk,λ oD tk=>(qt2 w pos).goes os oD tk,λ oD tk=>(qt3 w pos).goes os oD tk,λ oD tk=>(qt4 w pos).goes os oD tk,λ oD tk=>(qt5 w pos).goes os oD tk,λ oD tk=>(qt6 w pos).goes os oD tk,λ oD tk=>(qt7 w pos).goes os oD tk,λ oD tk=>(qt8 w pos).goes os oD tk,λ oD tk=>(qt9 w pos).goes os oD tk,λ oD tk=>(qt10 w pos).goes os oD tk,λ oD tk=>(qt11 w pos).goes os oD tk⟩
theorem allX_h (w:y1) (os:X2) (pos:Pos) :∀x∈allX w.params,∀oD tk,GX w 25 (pyHash (.ref x.1)) (FX w os oD tk).abs pos x.2.2 (FX w os oD (tk + 3)).abs pos:=by unfold allX;simp only [X1,o0,false_implies,implies_true,and_true];exact ⟨λ oD tk=>Goes.pyHashT ((cr0 w pos).goes os oD tk) ((so0 w pos).goes os oD tk) ((cs0 w pos).goes os oD tk),λ oD tk=>Goes.pyHashT ((cr1 w pos).goes os oD tk) ((so1 w pos).goes os oD tk) ((cs1 w pos).goes os oD tk),λ oD tk=>Goes.pyHashT ((cr2 w pos).goes os oD tk) ((so2 w pos).goes os oD tk) ((cs2 w pos).goes os oD tk),λ oD tk=>Goes.pyHashT ((cr3 w pos).goes os oD tk) ((so3 w pos).goes os oD tk) ((cs3 w pos).goes os oD tk),λ oD tk=>Goes.pyHashT ((cr4 w pos).goes os oD tk) ((so4 w pos).goes os oD tk) ((cs4 w pos).goes os oD tk),λ oD tk=>Goes.pyHashT ((cr5 w pos).goes os oD tk) ((so5 w pos).goes os oD tk) ((cs5 w pos).goes os oD tk),λ oD tk=>Goes.pyHashT ((cr6 w pos).goes os oD tk) ((so6 w pos).goes os oD tk) ((cs6 w pos).goes os oD tk),λ oD tk=>Goes.pyHashT ((cr7 w pos).goes os oD tk) ((so7 w pos).goes os oD tk) ((cs7 w pos).goes os oD tk),λ oD tk=>Goes.pyHashT ((cr8 w pos).goes os oD tk) ((so8 w pos).goes os oD tk) ((cs8 w pos).goes os oD tk),λ oD tk=>Goes.pyHashT ((cr9 w pos).goes os oD tk) ((so9 w pos).goes os oD tk) ((cs9 w pos).goes os oD tk),λ oD tk=>Goes.pyHashT ((cr10 w pos).goes os oD tk) ((so10 w pos).goes os oD tk) ((cs10 w pos).goes os oD tk),λ oD tk=>Goes.pyHashT ((cr11 w pos).goes os oD tk) ((so11 w pos).goes os oD tk) ((cs11 w pos).goes os oD tk)⟩
theorem famX (w:y1) (os:X2):Fam 11 145 (FX w os):=by
 have g :∀oD,(treeD w.params oD).get 145=some oD:=λ oD=>by kernel_rfl
 refine ⟨by decide,λ es ep tk=>abs_get (show 145 < 158 by decide) (g _),λ es ep tk e=>?_⟩;have u:(absHeap (treeD w.params (dObj es ep)) 158 {}).update 145 (O8 (·.push e))=absHeap (treeD w.params (dObj (es.push e) (ep + 1))) 158 {}:=by
  rw [<-absHeap_set (g _)];have v:(treeD w.params (dObj es ep)).set 145 (O8 (·.push e))=treeD w.params (dObj (es.push e) (ep + 1)):=by kernel_rfl
  rw [v]
 exact congrArg (λ h=>(⟨h,⟨[]⟩,{},tk,os⟩:A0)) u
noncomputable def stD:Stmt:=(behindTheImports PX).getD 22 (.Pass ⟨0,0,0,0⟩)
noncomputable def sufX:List Stmt:=(behindTheImports PX).drop 23
theorem bodyX:behindTheImports PX=K51.pre.sts_7++(K51.pre.sts_54++(K51.pre.sts_73++(K51.pre.sts_97++([stD]++sufX)))):=by kernel_rfl
noncomputable def dKeys:Stmt->List (Option Expr)
 | .Assign _ (.Dict ks _ _) _=>ks
 | _=>[]
noncomputable def dVals:Stmt->List Expr
 | .Assign _ (.Dict _ vs _) _=>vs
 | _=>[]
noncomputable def dPos:Stmt->Pos
 | .Assign _ (.Dict _ _ p) _=>p
 | _=>⟨0,0,0,0⟩
noncomputable def sPos:Stmt->Pos
 | .Assign _ _ p=>p
 | _=>⟨0,0,0,0⟩
noncomputable abbrev p1X:Pos:=sPos stD
noncomputable abbrev p2X:Pos:=dPos stD
noncomputable abbrev p3X:Pos:=⟨47,0,47,5⟩
noncomputable def runX:List (Sem Value×Sem Value):=(((evalEachOpt (dKeys stD) K51.pre.env_1).zip ((evalEach (dVals stD) K51.pre.env_1).map λ v=>do let x <-v;standAt p2X;J3 x))).filterMap λ x=>x.1.map (·,x.2)
theorem stD_eq:stD=.Assign [.Name "DOERS" p3X] (.Dict (dKeys stD) (dVals stD) p2X) p1X:=by kernel_rfl
theorem evD:Y3 (.Dict (dKeys stD) (dVals stD) p2X) K51.pre.env_1=(do standAt p2X;let r <-(do let x <-subDict runX;J3 (some x));match r with|some x=>J3 (E1 x)|none=>newDict):=by kernel_rfl
theorem swD:S8 (.Dict (dKeys stD) (dVals stD) p2X) (some (.Name "DOERS" p3X)) p1X.line K51.pre.env_1=J3 false:=by kernel_rfl
noncomputable def F0X (w:y1) (os:X2):SharedT:=⟨K51.pre.tree_162 w.params,145,{},⟨[]⟩,{},384,os⟩
noncomputable def F1X (w:y1) (os:X2):SharedT:=⟨(K51.pre.tree_162 w.params).ins 145 (dObj #[] 0),146,{},⟨[]⟩,{},384,os⟩
noncomputable def vsX:List (Value×Value):=[(.ref 146,(.ref 90)),(.ref 147,(.ref 97)),(.ref 148,(.ref 90)),(.ref 149,(.ref 104)),(.ref 150,(.ref 111)),(.ref 151,(.ref 118)),(.ref 152,(.ref 125)),(.ref 153,(.ref 130)),(.ref 154,(.ref 137)),(.ref 155,(.ref 90)),(.ref 156,(.ref 97)),(.ref 157,(.ref 144))]
theorem zea (w:y1):LX 84 (evalPairs runX) w p2X (λ os _ _=>F1X w os) (λ _=>vsX) (λ os _ _=>FX w os (dObj #[] 0) 408) p2X:=by rw [PySem.W.Fast.te1788576489739465902];exact λ os oD tk K H gd lv=>by kernel_rfl
noncomputable def F2X (w:y1) (os:X2) (oD:Obj) (tk:Nat):SharedT:=⟨(treeD w.params oD).set 3 (Obj.putName "DOERS" (d0 w.params "DOERS") (.str "DOERS" tk) (.ref 145)),158,{},⟨[]⟩,{},tk + 1,os⟩
theorem zh9 (w:y1) (pos:Pos):LX 6 (bindName K51.pre.env_1 "DOERS" (.ref 145)) w pos (stay w) (λ _=>()) (λ os oD tk=>F2X w os oD tk) pos:=by
 rw [PySem.W.Fast.te7536695828754713326];exact byRow2 "special-get-raises" (P:=λ w=>LX 6 (PySem.W.Fast.tw7536695828754713326 K51.pre.env_1 "DOERS" (.ref 145)) w pos (stay w) (λ _=>()) (λ os oD tk=>F2X w os oD tk) pos)
  (λ w os oD tk K H gd lv=>by kernel_rfl) (λ w os oD tk K H gd lv=>by kernel_rfl) w
noncomputable abbrev oDX (P:M0):Obj:=dObj ((allX P).map ent).toArray 12
noncomputable abbrev S2X (w:y1) (os:X2):SharedT:=F2X w os (oDX w.params) 444
theorem stD_go (w:y1) (os:X2) (pos:Pos):GX w 100000 (exec stD K51.pre.env_1) (F0X w os).abs pos .next (S2X w os).abs p3X:=by
 rw [stD_eq,exec_Assign_Name _ _ _ _ _ swD];have l:=Goes.loop (p:=PX) (w:=w) (ann:=annX) (code:=cdX) (q:=qX) (pos:=p2X) (famX w os) (N:=12) (allX w.params) (show 12<=12 by decide) (by decide) (show ([146,147,148,149,150,151,152,153,154,155,156,157]:List Nat).Nodup by decide) (allX_q w os p2X) (zjz w os p2X) (allX_h w os p2X) (allX w.params) [] 408 rfl;have ev:=(zea w).goes os (dObj #[] 0) 0;have sd:GX w _ (subDict runX) (F0X w os).abs p2X 145 (FX w os (oDX w.params) 444).abs p2X:=
  Goes.subDict (by decide +kernel) (absHeap_size _ _ _) (show GX w _ (evalPairs runX) _ p2X vsX _ p2X from by
   have e:({ (F0X w os).abs with heap:=(F0X w os).abs.heap.push { cls:=.type "dict",data:=.dict #[] } }:A0)=(F1X w os).abs:=by have i:=absHeap_ins (t:=K51.pre.tree_162 w.params) (n:=145) (life:={}) (o:=dObj #[] 0) (by kernel_rfl);exact congrArg (λ h=>(⟨h,⟨[]⟩,{},384,os⟩:A0)) i.symm
   rw [e];exact ev) l
 refine (Goes.bind Goes.at' (Goes.bind (a:=E1 145) (pos':=p2X) ?_ (Goes.bind Goes.at' (Goes.bind (f:=λ _=>J3 Flow.next) ((zh9 w p3X).goes os (oDX w.params) 444) Goes.pure)))).le (c:=1 + (((1 + ((1 + (84 + 12 * (25 + (2 + 3 + 12 * (3 + 20 + 10)) + 4))) + 0 + 0)) + (1 + (6 + 0))))) (by decide);rw [evD];exact Goes.bind Goes.at' (Goes.bind (Goes.bind sd Goes.pure) Goes.pure)
noncomputable abbrev pLX:Pos:=⟨343,0,355,99⟩
noncomputable def R3X (w:y1) (os:X2):Option (Flow×SharedT×Code×Pos):=PySem.W.Fast.tw10110043849684766642 i8 PX w 11 annX 1 1069 (S2X w os) ⟨(PySem.W.Fast.tw12563942051412417395 sufX K51.pre.env_1).wrap doneF deadEnd id id,cdX,p3X,BX⟩
noncomputable def S3X (w:y1) (os:X2):SharedT:=match R3X w os with|some r=>r.2.1|none=>S2X w os
theorem R3X_eq (w:y1) (os:X2):R3X w os=some (.next,S3X w os,cdX,pLX):=by kernel_rfl
theorem zjc (w:y1) (os:X2):segRun F3 PX w 11 annX 1 1069 (S2X w os).abs (piecesOf sufX K51.pre.env_1 cdX p3X BX)=some (.next,(S3X w os).abs,cdX,pLX):=by have e:=R3X_eq w os;unfold R3X at e;rw [<-PySem.W.Fast.te10110043849684766642,<-K5,<-PySem.W.Fast.te12563942051412417395] at e;exact segRun_of e
noncomputable def S0X (w:y1) (os:X2):SharedT:=⟨K51.pre.tree_6 w.params,15,{},⟨[]⟩,{},187,os⟩
theorem pre_go (w:y1) (os:X2):topGo F3 PX w 11 annX 12 ⟨boot_heap w.params,Array.mk [],boot_drawn,boot_toks,os⟩ (topStub PX)=some ((S0X w os).abs,⟨denote F3 cdX,cdX,qX,BX⟩):=by rw [PySem.W.Fast.te15667345088766844465,K5,PySem.W.Fast.te11892475500146522536];kernel_rfl
theorem zj0 (w:y1) (os:X2) :∃M,M<=200000/\topRun F3 PX w 11 annX M ⟨boot_heap w.params,Array.mk [],boot_drawn,boot_toks,os⟩ (topStub PX)=some (S3X w os).abs:=by have f1:topRun F3 PX w 11 annX 2 (S3X w os).abs (restOf [] K51.pre.env_1 cdX pLX BX)=some (S3X w os).abs:=rfl;have f2:=piece_app (zjc w os) f1;rw [C3] at f2;obtain ⟨M,hM,f3⟩:=zf8 (Goes.execs1 (stD_go w os ⟨43,0,46,21⟩)) f2;have f4:=K51.pre.chain PX (behindTheImports PX) w os _ M _ f3;rw [<-bodyX] at f4;have b1:segRun F3 PX w 11 annX 1 1 (S0X w os).abs (blockOf (behindTheImports PX) K51.pre.env_1 cdX qX BX)=some (.next,(S0X w os).abs,cdX,qX):=rfl;have f5:=piece_block b1 f4;have f6:=go_top (pre_go w os) f5;refine ⟨_,?_,f6⟩;simp only [Nat.add_eq];omega
noncomputable def looseX:List Str:=[("GREATEST_WORTH" : Str),("is_whole" : Str),("is_within" : Str),("is_worth" : Str),("is_tuple_of" : Str),("TaleError" : Str),("NoDeed" : Str),("NoStrictness" : Str),("FIRST_STATES" : Str),("WORTHS_OF_VERBS" : Str),("read_state" : Str),("write_state" : Str),("add_to_number" : Str),("put_behind" : Str),("take_first" : Str),("put_into_set" : Str),("cut_from_set" : Str),("has_in_set" : Str),("swap_state" : Str),("DOERS" : Str),("is_kind" : Str),("first_state" : Str),("is_deed" : Str),("do" : Str),("deeds" : Str),("STRICTNESSES" : Str),("has_to" : Str),("check_strictness" : Str),("goes_ahead" : Str),("explains" : Str),("is_order" : Str),("is_step" : Str),("keeps_to" : Str),("is_done_so" : Str),("_law_hand" : Str),("_law_draw" : Str),("_law_begun" : Str),("_law_does" : Str),("_law_worth" : Str),("_law_act" : Str),("_law_things" : Str),("_law_ended" : Str),("_law_tale" : Str),("_law_acts" : Str),("_law_must" : Str),("_law_alike" : Str),("_law_on" : Str),("_law_musts" : Str),("_law_all" : Str),("_law_is_full" : Str),("_law_walked" : Str),("_law_right" : Str),("_law_spoilt" : Str),("_law_told" : Str)]
noncomputable def viewX:Program:={ PX with main:={ PX.main with body:=(PX.main.body[60]?).toList } }
noncomputable def top (i:Nat):Stmt:=PX.main.body.getD i (.Pass ⟨0,0,0,0⟩)
noncomputable def asX:List Addr:=[3,20,21,27,28,34,35,41,42,43,45,50,51,52,56,58,63,64,65,68,70,75,76,77,80,81,82,83,89,90,96,97,103,104,110,111,117,118,124,125,129,130,136,137,143,144,145,146,147,148,149,150,151,152,153,154,155,156,157,163,164,170,171,175,176,182,183,189,190,191,197,198,204,205,211,212,216,217,221,222,228,229,233,234,238,239,245,246,252,253,259,260,264,265,271,272,278,279,283,284,290,291,295,296,302,303,309,310,316,317,321,322,326,327,336,337,341,342,346,347,353,354,360,361,367,368]
noncomputable def KX (P:M0):Frag:=[
 (3,⟨(.type "dict"),none,(.dict #[⟨(d0 P "__name__"),(.str "__name__" 165),(.str "law_talejudge_k51_orders_explain" 559)⟩,⟨(d0 P "__doc__"),(.str "__doc__" 166),.none⟩,⟨(d0 P "__package__"),(.str "__package__" 167),.none⟩,⟨(d0 P "__loader__"),(.str "__loader__" 168),(.builtin "__main__.__loader__#opaque")⟩,⟨(d0 P "__spec__"),(.str "__spec__" 169),.none⟩,kR P "__annotations__" 170 6,kR P "__builtins__" 171 4,⟨(d0 P "__file__"),(.str "__file__" 173),(.str "/claim/cut.py" 172)⟩,⟨(d0 P "__cached__"),(.str "__cached__" 174),.none⟩,⟨(d0 P "GREATEST_WORTH"),(.str "GREATEST_WORTH" 190),(.int (1000000000) 189)⟩,kR P "is_whole" 197 21,kR P "is_within" 205 28,kR P "is_worth" 212 35,kR P "is_tuple_of" 220 42,kR P "TaleError" 240 52,kR P "NoDeed" 256 65,kR P "NoStrictness" 272 77,kR P "FIRST_STATES" 288 80,kR P "WORTHS_OF_VERBS" 313 83,kR P "read_state" 321 90,kR P "write_state" 329 97,kR P "add_to_number" 337 104,kR P "put_behind" 345 111,kR P "take_first" 353 118,kR P "put_into_set" 361 125,kR P "cut_from_set" 367 130,kR P "has_in_set" 375 137,kR P "swap_state" 383 144,kR P "DOERS" 444 145,kR P "is_kind" 451 164,kR P "first_state" 458 171,kR P "is_deed" 464 176,kR P "do" 475 183,kR P "deeds" 490 190,kR P "STRICTNESSES" 496 191,kR P "has_to" 510 198,kR P "check_strictness" 517 205,kR P "goes_ahead" 526 212,kR P "explains" 532 217,kR P "is_order" 538 222,kR P "is_step" 546 229,kR P "keeps_to" 552 234,kR P "is_done_so" 558 239,kR P "_law_hand" 570 246,kR P "_law_draw" 579 253,kR P "_law_begun" 586 260,kR P "_law_does" 592 265,kR P "_law_worth" 599 272,kR P "_law_act" 609 279,kR P "_law_things" 615 284,kR P "_law_ended" 630 291,kR P "_law_tale" 636 296,kR P "_law_acts" 648 303,kR P "_law_must" 658 310,kR P "_law_alike" 666 317,kR P "_law_on" 672 322,kR P "_law_musts" 678 327,kR P "_law_all" 684 332,kR P "_law_is_full" 690 337,kR P "_law_walked" 696 342,kR P "_law_right" 702 347,kR P "_law_spoilt" 716 354,kR P "_law_told" 727 361,kR P "law" 743 368] 64),#[]⟩),
 (20,cO "is_whole" "is_whole" 191 3 1 15 195),
 (21,fO "is_whole" "is_whole" (top 2) "talejudge.basics" 187 20),
 (27,cO "is_within" "is_within" 198 5 2 22 203),
 (28,fO "is_within" "is_within" (top 3) "talejudge.basics" 187 27),
 (34,cO "is_worth" "is_worth" 206 7 1 29 210),
 (35,fO "is_worth" "is_worth" (top 4) "talejudge.basics" 187 34),
 (41,cO "is_tuple_of" "is_tuple_of" 213 9 2 36 218),
 (42,fO "is_tuple_of" "is_tuple_of" (top 5) "talejudge.basics" 187 41),
 (43,⟨(.type "tuple"),none,(.seq #[(.type "ValueError")] 0),#[]⟩),
 (45,⟨(.type "dict"),none,(.dict #[⟨(d0 P "__module__"),(.str "__module__" 230),(.str "talejudge.errors" 221)⟩,⟨(d0 P "__qualname__"),(.str "__qualname__" 232),(.str "TaleError" 231)⟩,⟨(d0 P "__firstlineno__"),(.str "__firstlineno__" 234),(.int (12) 233)⟩,kR P "__static_attributes__" 235 50] 4),#[]⟩),
 (50,⟨(.type "tuple"),none,(.seq #[] 0),#[]⟩),
 (51,⟨(.type "dict"),none,(.dict #[⟨(d0 P "__module__"),(.str "__module__" 230),(.str "talejudge.errors" 221)⟩,⟨(d0 P "__firstlineno__"),(.str "__firstlineno__" 234),(.int (12) 233)⟩,kR P "__static_attributes__" 235 50,kR P "__weakref__" 237 53,⟨(d0 P "__doc__"),(.str "__doc__" 238),.none⟩] 3),#[]⟩),
 (52,⟨(.type "type"),none,(.cls ⟨"TaleError",[(.type "ValueError")],[(.ref 52),(.type "ValueError"),(.type "Exception"),(.type "BaseException"),(.type "object")],51,"TaleError",true,[],[(.ref 65),(.ref 77)],false,none,false⟩),#[some (.ref 43),none,some (.str "TaleError" 223),some (.str "TaleError" 231),some (.builtin "ValueError.__new__"),some (.bool true)]⟩),
 (56,⟨(.type "tuple"),none,(.seq #[(.ref 52)] 0),#[]⟩),
 (58,⟨(.type "dict"),none,(.dict #[⟨(d0 P "__module__"),(.str "__module__" 248),(.str "talejudge.errors" 221)⟩,⟨(d0 P "__qualname__"),(.str "__qualname__" 250),(.str "NoDeed" 249)⟩,⟨(d0 P "__firstlineno__"),(.str "__firstlineno__" 252),(.int (14) 251)⟩,kR P "__static_attributes__" 253 63] 4),#[]⟩),
 (63,⟨(.type "tuple"),none,(.seq #[] 0),#[]⟩),
 (64,⟨(.type "dict"),none,(.dict #[⟨(d0 P "__module__"),(.str "__module__" 248),(.str "talejudge.errors" 221)⟩,⟨(d0 P "__firstlineno__"),(.str "__firstlineno__" 252),(.int (14) 251)⟩,kR P "__static_attributes__" 253 63,⟨(d0 P "__doc__"),(.str "__doc__" 254),.none⟩] 2),#[]⟩),
 (65,⟨(.type "type"),none,(.cls ⟨"NoDeed",[(.ref 52)],[(.ref 65),(.ref 52),(.type "ValueError"),(.type "Exception"),(.type "BaseException"),(.type "object")],64,"NoDeed",true,[],[],false,none,false⟩),#[some (.ref 56),none,some (.str "NoDeed" 241),some (.str "NoDeed" 249),some (.builtin "ValueError.__new__"),some (.bool true)]⟩),
 (68,⟨(.type "tuple"),none,(.seq #[(.ref 52)] 0),#[]⟩),
 (70,⟨(.type "dict"),none,(.dict #[⟨(d0 P "__module__"),(.str "__module__" 264),(.str "talejudge.errors" 221)⟩,⟨(d0 P "__qualname__"),(.str "__qualname__" 266),(.str "NoStrictness" 265)⟩,⟨(d0 P "__firstlineno__"),(.str "__firstlineno__" 268),(.int (16) 267)⟩,kR P "__static_attributes__" 269 75] 4),#[]⟩),
 (75,⟨(.type "tuple"),none,(.seq #[] 0),#[]⟩),
 (76,⟨(.type "dict"),none,(.dict #[⟨(d0 P "__module__"),(.str "__module__" 264),(.str "talejudge.errors" 221)⟩,⟨(d0 P "__firstlineno__"),(.str "__firstlineno__" 268),(.int (16) 267)⟩,kR P "__static_attributes__" 269 75,⟨(d0 P "__doc__"),(.str "__doc__" 270),.none⟩] 2),#[]⟩),
 (77,⟨(.type "type"),none,(.cls ⟨"NoStrictness",[(.ref 52)],[(.ref 77),(.ref 52),(.type "ValueError"),(.type "Exception"),(.type "BaseException"),(.type "object")],76,"NoStrictness",true,[],[],false,none,false⟩),#[some (.ref 68),none,some (.str "NoStrictness" 257),some (.str "NoStrictness" 265),some (.builtin "ValueError.__new__"),some (.bool true)]⟩),
 (80,⟨(.type "dict"),none,(.dict #[⟨(d0 P "register"),(.str "register" 275),(.int (0) 276)⟩,⟨(d0 P "counter"),(.str "counter" 277),(.int (0) 278)⟩,kR P "queue" 279 81,kR P "set" 280 82,⟨(d0 P "cell"),(.str "cell" 281),(.int (0) 282)⟩] 5),#[]⟩),
 (81,⟨(.type "tuple"),none,(.seq #[] 0),#[]⟩),
 (82,⟨(.type "tuple"),none,(.seq #[] 0),#[]⟩),
 (83,⟨(.type "dict"),none,(.dict #[⟨(d0 P "read"),(.str "read" 289),(.int (0) 290)⟩,⟨(d0 P "take"),(.str "take" 291),(.int (0) 292)⟩,⟨(d0 P "write"),(.str "write" 293),(.int (1) 294)⟩,⟨(d0 P "add"),(.str "add" 295),(.int (1) 296)⟩,⟨(d0 P "put"),(.str "put" 297),(.int (1) 298)⟩,⟨(d0 P "cut"),(.str "cut" 299),(.int (1) 300)⟩,⟨(d0 P "has"),(.str "has" 301),(.int (1) 302)⟩,⟨(d0 P "swap"),(.str "swap" 303),(.int (2) 304)⟩] 8),#[]⟩),
 (89,cO "read_state" "read_state" 314 21 2 84 319),
 (90,fO "read_state" "read_state" (top 13) "talejudge.store" 273 89),
 (96,cO "write_state" "write_state" 322 23 2 91 327),
 (97,fO "write_state" "write_state" (top 14) "talejudge.store" 273 96),
 (103,cO "add_to_number" "add_to_number" 330 25 2 98 335),
 (104,fO "add_to_number" "add_to_number" (top 15) "talejudge.store" 273 103),
 (110,cO "put_behind" "put_behind" 338 27 2 105 343),
 (111,fO "put_behind" "put_behind" (top 16) "talejudge.store" 273 110),
 (117,cO "take_first" "take_first" 346 29 2 112 351),
 (118,fO "take_first" "take_first" (top 17) "talejudge.store" 273 117),
 (124,cO "put_into_set" "put_into_set" 354 33 2 119 359),
 (125,fO "put_into_set" "put_into_set" (top 18) "talejudge.store" 273 124),
 (129,cP "cut_from_set" "cut_from_set" 362 37 2 126 365),
 (130,fO "cut_from_set" "cut_from_set" (top 19) "talejudge.store" 273 129),
 (136,cO "has_in_set" "has_in_set" 368 41 2 131 373),
 (137,fO "has_in_set" "has_in_set" (top 20) "talejudge.store" 273 136),
 (143,cO "swap_state" "swap_state" 376 43 2 138 381),
 (144,fO "swap_state" "swap_state" (top 21) "talejudge.store" 273 143),
 (145,⟨(.type "dict"),none,(.dict #[⟨(F1 (u0 [d0 P "register",d0 P "read"])),(.ref 146),(.ref 90)⟩,⟨(F1 (u0 [d0 P "register",d0 P "write"])),(.ref 147),(.ref 97)⟩,⟨(F1 (u0 [d0 P "counter",d0 P "read"])),(.ref 148),(.ref 90)⟩,⟨(F1 (u0 [d0 P "counter",d0 P "add"])),(.ref 149),(.ref 104)⟩,⟨(F1 (u0 [d0 P "queue",d0 P "put"])),(.ref 150),(.ref 111)⟩,⟨(F1 (u0 [d0 P "queue",d0 P "take"])),(.ref 151),(.ref 118)⟩,⟨(F1 (u0 [d0 P "set",d0 P "put"])),(.ref 152),(.ref 125)⟩,⟨(F1 (u0 [d0 P "set",d0 P "cut"])),(.ref 153),(.ref 130)⟩,⟨(F1 (u0 [d0 P "set",d0 P "has"])),(.ref 154),(.ref 137)⟩,⟨(F1 (u0 [d0 P "cell",d0 P "read"])),(.ref 155),(.ref 90)⟩,⟨(F1 (u0 [d0 P "cell",d0 P "write"])),(.ref 156),(.ref 97)⟩,⟨(F1 (u0 [d0 P "cell",d0 P "swap"])),(.ref 157),(.ref 144)⟩] 12),#[]⟩),
 (146,⟨(.type "tuple"),none,(.seq #[(.str "register" 384),(.str "read" 385)] 0),#[]⟩),
 (147,⟨(.type "tuple"),none,(.seq #[(.str "register" 386),(.str "write" 387)] 0),#[]⟩),
 (148,⟨(.type "tuple"),none,(.seq #[(.str "counter" 388),(.str "read" 389)] 0),#[]⟩),
 (149,⟨(.type "tuple"),none,(.seq #[(.str "counter" 390),(.str "add" 391)] 0),#[]⟩),
 (150,⟨(.type "tuple"),none,(.seq #[(.str "queue" 392),(.str "put" 393)] 0),#[]⟩),
 (151,⟨(.type "tuple"),none,(.seq #[(.str "queue" 394),(.str "take" 395)] 0),#[]⟩),
 (152,⟨(.type "tuple"),none,(.seq #[(.str "set" 396),(.str "put" 397)] 0),#[]⟩),
 (153,⟨(.type "tuple"),none,(.seq #[(.str "set" 398),(.str "cut" 399)] 0),#[]⟩),
 (154,⟨(.type "tuple"),none,(.seq #[(.str "set" 400),(.str "has" 401)] 0),#[]⟩),
 (155,⟨(.type "tuple"),none,(.seq #[(.str "cell" 402),(.str "read" 403)] 0),#[]⟩),
 (156,⟨(.type "tuple"),none,(.seq #[(.str "cell" 404),(.str "write" 405)] 0),#[]⟩),
 (157,⟨(.type "tuple"),none,(.seq #[(.str "cell" 406),(.str "swap" 407)] 0),#[]⟩),
 (163,cO "is_kind" "is_kind" 445 48 1 158 449),
 (164,fO "is_kind" "is_kind" (top 23) "talejudge.store" 273 163),
 (170,cO "first_state" "first_state" 452 50 1 165 456),
 (171,fO "first_state" "first_state" (top 24) "talejudge.store" 273 170),
 (175,cP "is_deed" "is_deed" 459 54 3 172 462),
 (176,fO "is_deed" "is_deed" (top 25) "talejudge.store" 273 175),
 (182,cO "do" "do" 465 63 4 177 473),
 (183,fO "do" "do" (top 26) "talejudge.store" 273 182),
 (189,cO "deeds" "deeds" 478 69 1 184 488),
 (190,fO "deeds" "deeds" (top 28) "talejudge.tales" 476 189),
 (191,⟨(.type "tuple"),none,(.seq #[(.str "strict" 493),(.str "hands" 494),(.str "bare" 495)] 0),#[]⟩),
 (197,cO "has_to" "has_to" 497 83 2 192 508),
 (198,fO "has_to" "has_to" (top 31) "talejudge.orders" 491 197),
 (204,cO "check_strictness" "check_strictness" 511 92 1 199 515),
 (205,fO "check_strictness" "check_strictness" (top 32) "talejudge.orders" 491 204),
 (211,cO "goes_ahead" "goes_ahead" 518 95 3 206 524),
 (212,fO "goes_ahead" "goes_ahead" (top 33) "talejudge.orders" 491 211),
 (216,cP "explains" "explains" 527 101 3 213 530),
 (217,fO "explains" "explains" (top 34) "talejudge.orders" 491 216),
 (221,cP "is_order" "is_order" 533 107 2 218 536),
 (222,fO "is_order" "is_order" (top 35) "talejudge.orders" 491 221),
 (228,cO "is_step" "is_step" 539 114 2 223 544),
 (229,fO "is_step" "is_step" (top 36) "talejudge.orders" 491 228),
 (233,cP "keeps_to" "keeps_to" 547 118 2 230 550),
 (234,fO "keeps_to" "keeps_to" (top 37) "talejudge.orders" 491 233),
 (238,cP "is_done_so" "is_done_so" 553 122 3 235 556),
 (239,fO "is_done_so" "is_done_so" (top 38) "talejudge.orders" 491 238),
 (245,cO "_law_hand" "_law_hand" 561 133 3 240 568),
 (246,fO "_law_hand" "_law_hand" (top 40) "law_talejudge_k51_orders_explain" 559 245),
 (252,cO "_law_draw" "_law_draw" 571 138 2 247 577),
 (253,fO "_law_draw" "_law_draw" (top 41) "law_talejudge_k51_orders_explain" 559 252),
 (259,cO "_law_begun" "_law_begun" 580 145 1 254 584),
 (260,fO "_law_begun" "_law_begun" (top 42) "law_talejudge_k51_orders_explain" 559 259),
 (264,cP "_law_does" "_law_does" 587 149 4 261 590),
 (265,fO "_law_does" "_law_does" (top 43) "law_talejudge_k51_orders_explain" 559 264),
 (271,cO "_law_worth" "_law_worth" 593 168 1 266 597),
 (272,fO "_law_worth" "_law_worth" (top 44) "law_talejudge_k51_orders_explain" 559 271),
 (278,cO "_law_act" "_law_act" 600 172 2 273 607),
 (279,fO "_law_act" "_law_act" (top 45) "law_talejudge_k51_orders_explain" 559 278),
 (283,cP "_law_things" "_law_things" 610 182 1 280 613),
 (284,fO "_law_things" "_law_things" (top 46) "law_talejudge_k51_orders_explain" 559 283),
 (290,cO "_law_ended" "_law_ended" 616 188 4 285 628),
 (291,fO "_law_ended" "_law_ended" (top 47) "law_talejudge_k51_orders_explain" 559 290),
 (295,cP "_law_tale" "_law_tale" 631 196 4 292 634),
 (296,fO "_law_tale" "_law_tale" (top 48) "law_talejudge_k51_orders_explain" 559 295),
 (302,cO "_law_acts" "_law_acts" 637 221 1 297 646),
 (303,fO "_law_acts" "_law_acts" (top 49) "law_talejudge_k51_orders_explain" 559 302),
 (309,cO "_law_must" "_law_must" 649 234 4 304 656),
 (310,fO "_law_must" "_law_must" (top 50) "law_talejudge_k51_orders_explain" 559 309),
 (316,cO "_law_alike" "_law_alike" 659 238 2 311 664),
 (317,fO "_law_alike" "_law_alike" (top 51) "law_talejudge_k51_orders_explain" 559 316),
 (321,cP "_law_on" "_law_on" 667 240 4 318 670),
 (322,fO "_law_on" "_law_on" (top 52) "law_talejudge_k51_orders_explain" 559 321),
 (326,cP "_law_musts" "_law_musts" 673 255 2 323 676),
 (327,fO "_law_musts" "_law_musts" (top 53) "law_talejudge_k51_orders_explain" 559 326),
 (336,cP "_law_is_full" "_law_is_full" 685 275 2 333 688),
 (337,fO "_law_is_full" "_law_is_full" (top 55) "law_talejudge_k51_orders_explain" 559 336),
 (341,cP "_law_walked" "_law_walked" 691 277 3 338 694),
 (342,fO "_law_walked" "_law_walked" (top 56) "law_talejudge_k51_orders_explain" 559 341),
 (346,cP "_law_right" "_law_right" 697 289 3 343 700),
 (347,fO "_law_right" "_law_right" (top 57) "law_talejudge_k51_orders_explain" 559 346),
 (353,cO "_law_spoilt" "_law_spoilt" 703 310 2 348 714),
 (354,fO "_law_spoilt" "_law_spoilt" (top 58) "law_talejudge_k51_orders_explain" 559 353),
 (360,cO "_law_told" "_law_told" 717 339 3 355 725),
 (361,fO "_law_told" "_law_told" (top 59) "law_talejudge_k51_orders_explain" 559 360),
 (367,cO "law" "law" 728 343 1 362 741),
 (368,fO "law" "law" (top 60) "law_talejudge_k51_orders_explain" 559 367)]
noncomputable def HX:Hook:=kHook KX asX (λ _=>by kernel_rfl)
noncomputable abbrev XtX:A0->Bool:=λ s=>xlAt viewX [] s && recOk (RowW.records (OpenRow.toRowW PySem.Challenge.rw_talejudge_k51_orders_explain.row)) s
theorem look1 (w:y1) (os:X2):(staticsOk (L7 PX.main.body) (boot_heap w.params) (S3X w os).abs.heap && namesBound PX (S3X w os).abs.heap && gensDone (S3X w os).abs && laidKept (boot_heap w.params) (S3X w os).abs.heap)=true:=by kernel_rfl
theorem look2 (w:y1) (os:X2):openSeen viewX looseX (L7 PX.main.body) XtX true (S3X w os).abs=openGood viewX looseX:=by rw [PySem.W.Fast.te4187177175401517315];kernel_rfl
theorem look3 (w:y1) (os:X2):Hook.obs HX (S3X w os).abs=Hook.val HX w:=by kernel_rfl
theorem leftX:LeftO PX viewX looseX XtX (Hook.obs HX) (Hook.val HX) 200000:=
 zj2 (H₀:=boot_heap) (gs₀:=Array.mk []) (boot_open (by kernel_rfl) (by decide) (λ s=>rfl)) (λ w=>by kernel_rfl) zj0 look1 look2 look3
end K51
set_option maxHeartbeats 4000000
namespace K51
open PySem PySem.Spec PyProof.Rows TJ L2
theorem z0e (P:M0):N0 (KX P) L0 "isinstance" = some none:=by kernel_rfl
theorem n_len (P:M0):N0 (KX P) L0 "len" = some none:=by kernel_rfl
theorem n_all (P:M0):N0 (KX P) L0 "all" = some none:=by kernel_rfl
theorem n_int (P:M0):N0 (KX P) L0 "int" = some none:=by kernel_rfl
theorem n_str (P:M0):N0 (KX P) L0 "str" = some none:=by kernel_rfl
theorem n_bool (P:M0):N0 (KX P) L0 "bool" = some none:=by kernel_rfl
theorem z26 (P:M0):N0 (KX P) L0 "tuple" = some none:=by kernel_rfl
theorem n_list (P:M0):N0 (KX P) L0 "list" = some none:=by kernel_rfl
theorem z6y (P:M0):N0 (KX P) L0 "range" = some none:=by kernel_rfl
theorem z89 (P:M0):N0 (KX P) L0 "sorted" = some none:=by kernel_rfl
theorem n_sum (P:M0):N0 (KX P) L0 "sum" = some none:=by kernel_rfl
theorem n_dict (P:M0):N0 (KX P) L0 "dict" = some none:=by kernel_rfl
theorem n_set (P:M0):N0 (KX P) L0 "set" = some none:=by kernel_rfl
theorem z1f (P:M0):N0 (KX P) L0 "enumerate" = some none:=by kernel_rfl
theorem z5f (P:M0):N0 (KX P) L0 "GREATEST_WORTH" = some (some (.int (1000000000) 189)):=by kernel_rfl
theorem zdr (P:M0):N0 (KX P) L0 "is_whole" = some (some (.ref 21)):=by kernel_rfl
theorem zcy (P:M0):N0 (KX P) L0 "is_within" = some (some (.ref 28)):=by kernel_rfl
theorem zeh (P:M0):N0 (KX P) L0 "is_worth" = some (some (.ref 35)):=by kernel_rfl
theorem z9l (P:M0):N0 (KX P) L0 "is_tuple_of" = some (some (.ref 42)):=by kernel_rfl
theorem z3p (P:M0):N0 (KX P) L0 "FIRST_STATES" = some (some (.ref 80)):=by kernel_rfl
theorem z4v (P:M0):N0 (KX P) L0 "WORTHS_OF_VERBS" = some (some (.ref 83)):=by kernel_rfl
theorem z5z (P:M0):N0 (KX P) L0 "read_state" = some (some (.ref 90)):=by kernel_rfl
theorem z4r (P:M0):N0 (KX P) L0 "write_state" = some (some (.ref 97)):=by kernel_rfl
theorem z2z (P:M0):N0 (KX P) L0 "add_to_number" = some (some (.ref 104)):=by kernel_rfl
theorem z5k (P:M0):N0 (KX P) L0 "put_behind" = some (some (.ref 111)):=by kernel_rfl
theorem z59 (P:M0):N0 (KX P) L0 "take_first" = some (some (.ref 118)):=by kernel_rfl
theorem z3v (P:M0):N0 (KX P) L0 "put_into_set" = some (some (.ref 125)):=by kernel_rfl
theorem z3q (P:M0):N0 (KX P) L0 "cut_from_set" = some (some (.ref 130)):=by kernel_rfl
theorem z5h (P:M0):N0 (KX P) L0 "has_in_set" = some (some (.ref 137)):=by kernel_rfl
theorem z5d (P:M0):N0 (KX P) L0 "swap_state" = some (some (.ref 144)):=by kernel_rfl
theorem zi0 (P:M0):N0 (KX P) L0 "DOERS" = some (some (.ref 145)):=by kernel_rfl
theorem zgs (P:M0):N0 (KX P) L0 "is_kind" = some (some (.ref 164)):=by kernel_rfl
theorem z8d (P:M0):N0 (KX P) L0 "first_state" = some (some (.ref 171)):=by kernel_rfl
theorem zfz (P:M0):N0 (KX P) L0 "is_deed" = some (some (.ref 176)):=by kernel_rfl
theorem g_do (P:M0):N0 (KX P) L0 "do" = some (some (.ref 183)):=by kernel_rfl
theorem zke (P:M0):N0 (KX P) L0 "deeds" = some (some (.ref 190)):=by kernel_rfl
theorem z85 (P:M0):N0 (KX P) L0 "STRICTNESSES" = some (some (.ref 191)):=by kernel_rfl
theorem ziy (P:M0):N0 (KX P) L0 "has_to" = some (some (.ref 198)):=by kernel_rfl
theorem z4h (P:M0):N0 (KX P) L0 "check_strictness" = some (some (.ref 205)):=by kernel_rfl
theorem zb7 (P:M0):N0 (KX P) L0 "goes_ahead" = some (some (.ref 212)):=by kernel_rfl
theorem zex (P:M0):N0 (KX P) L0 "explains" = some (some (.ref 217)):=by kernel_rfl
theorem zef (P:M0):N0 (KX P) L0 "is_order" = some (some (.ref 222)):=by kernel_rfl
theorem zh0 (P:M0):N0 (KX P) L0 "is_step" = some (some (.ref 229)):=by kernel_rfl
theorem zfk (P:M0):N0 (KX P) L0 "keeps_to" = some (some (.ref 234)):=by kernel_rfl
theorem zb8 (P:M0):N0 (KX P) L0 "is_done_so" = some (some (.ref 239)):=by kernel_rfl
theorem zcx (P:M0):N0 (KX P) L0 "_law_hand" = some (some (.ref 246)):=by kernel_rfl
theorem zde (P:M0):N0 (KX P) L0 "_law_draw" = some (some (.ref 253)):=by kernel_rfl
theorem zai (P:M0):N0 (KX P) L0 "_law_begun" = some (some (.ref 260)):=by kernel_rfl
theorem zdb (P:M0):N0 (KX P) L0 "_law_does" = some (some (.ref 265)):=by kernel_rfl
theorem zbb (P:M0):N0 (KX P) L0 "_law_worth" = some (some (.ref 272)):=by kernel_rfl
theorem zfi (P:M0):N0 (KX P) L0 "_law_act" = some (some (.ref 279)):=by kernel_rfl
theorem z8w (P:M0):N0 (KX P) L0 "_law_things" = some (some (.ref 284)):=by kernel_rfl
theorem za1 (P:M0):N0 (KX P) L0 "_law_ended" = some (some (.ref 291)):=by kernel_rfl
theorem zd4 (P:M0):N0 (KX P) L0 "_law_tale" = some (some (.ref 296)):=by kernel_rfl
theorem zd1 (P:M0):N0 (KX P) L0 "_law_acts" = some (some (.ref 303)):=by kernel_rfl
theorem zd8 (P:M0):N0 (KX P) L0 "_law_must" = some (some (.ref 310)):=by kernel_rfl
theorem zac (P:M0):N0 (KX P) L0 "_law_alike" = some (some (.ref 317)):=by kernel_rfl
theorem zgj (P:M0):N0 (KX P) L0 "_law_on" = some (some (.ref 322)):=by kernel_rfl
theorem zar (P:M0):N0 (KX P) L0 "_law_musts" = some (some (.ref 327)):=by kernel_rfl
theorem z7g (P:M0):N0 (KX P) L0 "_law_is_full" = some (some (.ref 337)):=by kernel_rfl
theorem z99 (P:M0):N0 (KX P) L0 "_law_walked" = some (some (.ref 342)):=by kernel_rfl
theorem z9z (P:M0):N0 (KX P) L0 "_law_right" = some (some (.ref 347)):=by kernel_rfl
theorem z8b (P:M0):N0 (KX P) L0 "_law_spoilt" = some (some (.ref 354)):=by kernel_rfl
theorem zcn (P:M0):N0 (KX P) L0 "_law_told" = some (some (.ref 361)):=by kernel_rfl
theorem g_law (P:M0):N0 (KX P) L0 "law" = some (some (.ref 368)):=by kernel_rfl
noncomputable def kl_FIRST_STATES:List (Str×V):=[("register",.int (0)),("counter",.int (0)),("queue",.ref 81),("set",.ref 82),("cell",.int (0))]
theorem z30 (P:M0):KDict (KX P) P 80 kl_FIRST_STATES:=⟨⟨#[⟨(d0 P "register"),(.str "register" 275),(.int (0) 276)⟩,⟨(d0 P "counter"),(.str "counter" 277),(.int (0) 278)⟩,⟨(d0 P "queue"),(.str "queue" 279),(.ref 81)⟩,⟨(d0 P "set"),(.str "set" 280),(.ref 82)⟩,⟨(d0 P "cell"),(.str "cell" 281),(.int (0) 282)⟩],5,by kernel_rfl,(.cons ⟨⟨_,rfl⟩,rfl,⟨_,rfl⟩⟩ (.cons ⟨⟨_,rfl⟩,rfl,⟨_,rfl⟩⟩ (.cons ⟨⟨_,rfl⟩,rfl,rfl⟩ (.cons ⟨⟨_,rfl⟩,rfl,rfl⟩ (.cons ⟨⟨_,rfl⟩,rfl,⟨_,rfl⟩⟩ .nil)))))⟩,by decide⟩
noncomputable def kl_WORTHS_OF_VERBS:List (Str×V):=[("read",.int (0)),("take",.int (0)),("write",.int (1)),("add",.int (1)),("put",.int (1)),("cut",.int (1)),("has",.int (1)),("swap",.int (2))]
theorem z43 (P:M0):KDict (KX P) P 83 kl_WORTHS_OF_VERBS:=⟨⟨#[⟨(d0 P "read"),(.str "read" 289),(.int (0) 290)⟩,⟨(d0 P "take"),(.str "take" 291),(.int (0) 292)⟩,⟨(d0 P "write"),(.str "write" 293),(.int (1) 294)⟩,⟨(d0 P "add"),(.str "add" 295),(.int (1) 296)⟩,⟨(d0 P "put"),(.str "put" 297),(.int (1) 298)⟩,⟨(d0 P "cut"),(.str "cut" 299),(.int (1) 300)⟩,⟨(d0 P "has"),(.str "has" 301),(.int (1) 302)⟩,⟨(d0 P "swap"),(.str "swap" 303),(.int (2) 304)⟩],8,by kernel_rfl,(.cons ⟨⟨_,rfl⟩,rfl,⟨_,rfl⟩⟩ (.cons ⟨⟨_,rfl⟩,rfl,⟨_,rfl⟩⟩ (.cons ⟨⟨_,rfl⟩,rfl,⟨_,rfl⟩⟩ (.cons ⟨⟨_,rfl⟩,rfl,⟨_,rfl⟩⟩ (.cons ⟨⟨_,rfl⟩,rfl,⟨_,rfl⟩⟩ (.cons ⟨⟨_,rfl⟩,rfl,⟨_,rfl⟩⟩ (.cons ⟨⟨_,rfl⟩,rfl,⟨_,rfl⟩⟩ (.cons ⟨⟨_,rfl⟩,rfl,⟨_,rfl⟩⟩ .nil))))))))⟩,by decide⟩
noncomputable def kl_DOERS:List ((Str×Str)×V):=[(("register","read"),.ref 90),(("register","write"),.ref 97),(("counter","read"),.ref 90),(("counter","add"),.ref 104),(("queue","put"),.ref 111),(("queue","take"),.ref 118),(("set","put"),.ref 125),(("set","cut"),.ref 130),(("set","has"),.ref 137),(("cell","read"),.ref 90),(("cell","write"),.ref 97),(("cell","swap"),.ref 144)]
theorem zei (P:M0):KDictT (KX P) P 145 kl_DOERS:=⟨⟨#[⟨(F1 (u0 [d0 P "register",d0 P "read"])),(.ref 146),(.ref 90)⟩,⟨(F1 (u0 [d0 P "register",d0 P "write"])),(.ref 147),(.ref 97)⟩,⟨(F1 (u0 [d0 P "counter",d0 P "read"])),(.ref 148),(.ref 90)⟩,⟨(F1 (u0 [d0 P "counter",d0 P "add"])),(.ref 149),(.ref 104)⟩,⟨(F1 (u0 [d0 P "queue",d0 P "put"])),(.ref 150),(.ref 111)⟩,⟨(F1 (u0 [d0 P "queue",d0 P "take"])),(.ref 151),(.ref 118)⟩,⟨(F1 (u0 [d0 P "set",d0 P "put"])),(.ref 152),(.ref 125)⟩,⟨(F1 (u0 [d0 P "set",d0 P "cut"])),(.ref 153),(.ref 130)⟩,⟨(F1 (u0 [d0 P "set",d0 P "has"])),(.ref 154),(.ref 137)⟩,⟨(F1 (u0 [d0 P "cell",d0 P "read"])),(.ref 155),(.ref 90)⟩,⟨(F1 (u0 [d0 P "cell",d0 P "write"])),(.ref 156),(.ref 97)⟩,⟨(F1 (u0 [d0 P "cell",d0 P "swap"])),(.ref 157),(.ref 144)⟩],12,by kernel_rfl,(.cons ⟨⟨146,384,385,0,rfl,by kernel_rfl⟩,rfl,rfl⟩ (.cons ⟨⟨147,386,387,0,rfl,by kernel_rfl⟩,rfl,rfl⟩ (.cons ⟨⟨148,388,389,0,rfl,by kernel_rfl⟩,rfl,rfl⟩ (.cons ⟨⟨149,390,391,0,rfl,by kernel_rfl⟩,rfl,rfl⟩ (.cons ⟨⟨150,392,393,0,rfl,by kernel_rfl⟩,rfl,rfl⟩ (.cons ⟨⟨151,394,395,0,rfl,by kernel_rfl⟩,rfl,rfl⟩ (.cons ⟨⟨152,396,397,0,rfl,by kernel_rfl⟩,rfl,rfl⟩ (.cons ⟨⟨153,398,399,0,rfl,by kernel_rfl⟩,rfl,rfl⟩ (.cons ⟨⟨154,400,401,0,rfl,by kernel_rfl⟩,rfl,rfl⟩ (.cons ⟨⟨155,402,403,0,rfl,by kernel_rfl⟩,rfl,rfl⟩ (.cons ⟨⟨156,404,405,0,rfl,by kernel_rfl⟩,rfl,rfl⟩ (.cons ⟨⟨157,406,407,0,rfl,by kernel_rfl⟩,rfl,rfl⟩ .nil))))))))))))⟩,by decide +kernel,by decide⟩
noncomputable abbrev st_is_whole:Stmt:=top 2
noncomputable abbrev fd_is_whole:FuncData:=fnX "is_whole" "is_whole" (top 2) "talejudge.basics" 187 20
theorem z63 (P:M0):Fun (KX P) "is_whole" "is_whole" st_is_whole 21 fd_is_whole:=z0f
theorem ze2 (P:M0):Binds (KX P) fd_is_whole ["value"] []:=(z63 P).binds λ _ _ _ _ _ _=>us1 λ _=>rfl
theorem zch:FnScope ["value"] ["value"] (z07 st_is_whole):=⟨rfl,rfl,rfl,by decide +kernel,rfl,by decide +kernel,by decide +kernel⟩
noncomputable abbrev st_is_within:Stmt:=top 3
noncomputable abbrev fd_is_within:FuncData:=fnX "is_within" "is_within" (top 3) "talejudge.basics" 187 27
theorem z4d (P:M0):Fun (KX P) "is_within" "is_within" st_is_within 28 fd_is_within:=z0f
theorem zck (P:M0):Binds (KX P) fd_is_within ["value","greatest"] []:=(z4d P).binds λ _ _ _ _ _ _=>us2 λ _ _=>rfl
theorem zad:FnScope ["value","greatest"] ["value","greatest"] (z07 st_is_within):=⟨rfl,rfl,rfl,by decide +kernel,rfl,by decide +kernel,by decide +kernel⟩
noncomputable abbrev st_is_worth:Stmt:=top 4
noncomputable abbrev fd_is_worth:FuncData:=fnX "is_worth" "is_worth" (top 4) "talejudge.basics" 187 34
theorem z6a (P:M0):Fun (KX P) "is_worth" "is_worth" st_is_worth 35 fd_is_worth:=z0f
theorem zee (P:M0):Binds (KX P) fd_is_worth ["value"] []:=(z6a P).binds λ _ _ _ _ _ _=>us1 λ _=>rfl
theorem zd9:FnScope ["value"] ["value"] (z07 st_is_worth):=⟨rfl,rfl,rfl,by decide +kernel,rfl,by decide +kernel,by decide +kernel⟩
noncomputable abbrev st_is_tuple_of:Stmt:=top 5
noncomputable abbrev fd_is_tuple_of:FuncData:=fnX "is_tuple_of" "is_tuple_of" (top 5) "talejudge.basics" 187 41
theorem z2s (P:M0):Fun (KX P) "is_tuple_of" "is_tuple_of" st_is_tuple_of 42 fd_is_tuple_of:=z0f
theorem z90 (P:M0):Binds (KX P) fd_is_tuple_of ["value","many"] []:=(z2s P).binds λ _ _ _ _ _ _=>us2 λ _ _=>rfl
theorem z77:FnScope ["value","many"] ["value","many"] (z07 st_is_tuple_of):=⟨rfl,rfl,rfl,by decide +kernel,rfl,by decide +kernel,by decide +kernel⟩
noncomputable abbrev st_read_state:Stmt:=top 13
noncomputable abbrev fd_read_state:FuncData:=fnX "read_state" "read_state" (top 13) "talejudge.store" 273 89
theorem z36 (P:M0):Fun (KX P) "read_state" "read_state" st_read_state 90 fd_read_state:=z0f
theorem zau (P:M0):Binds (KX P) fd_read_state ["state","worth"] []:=(z36 P).binds λ _ _ _ _ _ _=>us2 λ _ _=>rfl
theorem z9q:FnScope ["state","worth"] ["state","worth"] (z07 st_read_state):=⟨rfl,rfl,rfl,by decide +kernel,rfl,by decide +kernel,by decide +kernel⟩
noncomputable abbrev st_write_state:Stmt:=top 14
noncomputable abbrev fd_write_state:FuncData:=fnX "write_state" "write_state" (top 14) "talejudge.store" 273 96
theorem z2r (P:M0):Fun (KX P) "write_state" "write_state" st_write_state 97 fd_write_state:=z0f
theorem z8k (P:M0):Binds (KX P) fd_write_state ["state","worth"] []:=(z2r P).binds λ _ _ _ _ _ _=>us2 λ _ _=>rfl
theorem z7r:FnScope ["state","worth"] ["state","worth"] (z07 st_write_state):=⟨rfl,rfl,rfl,by decide +kernel,rfl,by decide +kernel,by decide +kernel⟩
noncomputable abbrev st_add_to_number:Stmt:=top 15
noncomputable abbrev fd_add_to_number:FuncData:=fnX "add_to_number" "add_to_number" (top 15) "talejudge.store" 273 103
theorem z1q (P:M0):Fun (KX P) "add_to_number" "add_to_number" st_add_to_number 104 fd_add_to_number:=z0f
theorem z6k (P:M0):Binds (KX P) fd_add_to_number ["state","worth"] []:=(z1q P).binds λ _ _ _ _ _ _=>us2 λ _ _=>rfl
theorem z5e:FnScope ["state","worth"] ["state","worth"] (z07 st_add_to_number):=⟨rfl,rfl,rfl,by decide +kernel,rfl,by decide +kernel,by decide +kernel⟩
noncomputable abbrev st_put_behind:Stmt:=top 16
noncomputable abbrev fd_put_behind:FuncData:=fnX "put_behind" "put_behind" (top 16) "talejudge.store" 273 110
theorem z38 (P:M0):Fun (KX P) "put_behind" "put_behind" st_put_behind 111 fd_put_behind:=z0f
theorem za4 (P:M0):Binds (KX P) fd_put_behind ["state","worth"] []:=(z38 P).binds λ _ _ _ _ _ _=>us2 λ _ _=>rfl
theorem z92:FnScope ["state","worth"] ["state","worth"] (z07 st_put_behind):=⟨rfl,rfl,rfl,by decide +kernel,rfl,by decide +kernel,by decide +kernel⟩
noncomputable abbrev st_take_first:Stmt:=top 17
noncomputable abbrev fd_take_first:FuncData:=fnX "take_first" "take_first" (top 17) "talejudge.store" 273 117
theorem z3d (P:M0):Fun (KX P) "take_first" "take_first" st_take_first 118 fd_take_first:=z0f
theorem zaw (P:M0):Binds (KX P) fd_take_first ["state","worth"] []:=(z3d P).binds λ _ _ _ _ _ _=>us2 λ _ _=>rfl
theorem z8t:FnScope ["state","worth"] ["state","worth"] (z07 st_take_first):=⟨rfl,rfl,rfl,by decide +kernel,rfl,by decide +kernel,by decide +kernel⟩
noncomputable abbrev st_put_into_set:Stmt:=top 18
noncomputable abbrev fd_put_into_set:FuncData:=fnX "put_into_set" "put_into_set" (top 18) "talejudge.store" 273 124
theorem z1u (P:M0):Fun (KX P) "put_into_set" "put_into_set" st_put_into_set 125 fd_put_into_set:=z0f
theorem z83 (P:M0):Binds (KX P) fd_put_into_set ["state","worth"] []:=(z1u P).binds λ _ _ _ _ _ _=>us2 λ _ _=>rfl
theorem z6e:FnScope ["state","worth"] ["state","worth"] (z07 st_put_into_set):=⟨rfl,rfl,rfl,by decide +kernel,rfl,by decide +kernel,by decide +kernel⟩
noncomputable abbrev st_cut_from_set:Stmt:=top 19
noncomputable abbrev fd_cut_from_set:FuncData:=fnX "cut_from_set" "cut_from_set" (top 19) "talejudge.store" 273 129
theorem z1x (P:M0):Fun (KX P) "cut_from_set" "cut_from_set" st_cut_from_set 130 fd_cut_from_set:=z0f
theorem z88 (P:M0):Binds (KX P) fd_cut_from_set ["state","worth"] []:=(z1x P).binds λ _ _ _ _ _ _=>us2 λ _ _=>rfl
theorem z6i:FnScope ["state","worth"] ["state","worth"] (z07 st_cut_from_set):=⟨rfl,rfl,rfl,by decide +kernel,rfl,by decide +kernel,by decide +kernel⟩
noncomputable abbrev st_has_in_set:Stmt:=top 20
noncomputable abbrev fd_has_in_set:FuncData:=fnX "has_in_set" "has_in_set" (top 20) "talejudge.store" 273 136
theorem z3e (P:M0):Fun (KX P) "has_in_set" "has_in_set" st_has_in_set 137 fd_has_in_set:=z0f
theorem za7 (P:M0):Binds (KX P) fd_has_in_set ["state","worth"] []:=(z3e P).binds λ _ _ _ _ _ _=>us2 λ _ _=>rfl
theorem z8l:FnScope ["state","worth"] ["state","worth"] (z07 st_has_in_set):=⟨rfl,rfl,rfl,by decide +kernel,rfl,by decide +kernel,by decide +kernel⟩
noncomputable abbrev st_swap_state:Stmt:=top 21
noncomputable abbrev fd_swap_state:FuncData:=fnX "swap_state" "swap_state" (top 21) "talejudge.store" 273 143
theorem z3l (P:M0):Fun (KX P) "swap_state" "swap_state" st_swap_state 144 fd_swap_state:=z0f
theorem zal (P:M0):Binds (KX P) fd_swap_state ["state","worth"] []:=(z3l P).binds λ _ _ _ _ _ _=>us2 λ _ _=>rfl
theorem z9t:FnScope ["state","worth"] ["state","worth"] (z07 st_swap_state):=⟨rfl,rfl,rfl,by decide +kernel,rfl,by decide +kernel,by decide +kernel⟩
noncomputable abbrev st_is_kind:Stmt:=top 23
noncomputable abbrev fd_is_kind:FuncData:=fnX "is_kind" "is_kind" (top 23) "talejudge.store" 273 163
theorem z75 (P:M0):Fun (KX P) "is_kind" "is_kind" st_is_kind 164 fd_is_kind:=z0f
theorem zfv (P:M0):Binds (KX P) fd_is_kind ["kind"] []:=(z75 P).binds λ _ _ _ _ _ _=>us1 λ _=>rfl
theorem zff:FnScope ["kind"] ["kind"] (z07 st_is_kind):=⟨rfl,rfl,rfl,by decide +kernel,rfl,by decide +kernel,by decide +kernel⟩
noncomputable abbrev st_first_state:Stmt:=top 24
noncomputable abbrev fd_first_state:FuncData:=fnX "first_state" "first_state" (top 24) "talejudge.store" 273 170
theorem z2k (P:M0):Fun (KX P) "first_state" "first_state" st_first_state 171 fd_first_state:=z0f
theorem z9d (P:M0):Binds (KX P) fd_first_state ["kind"] []:=(z2k P).binds λ _ _ _ _ _ _=>us1 λ _=>rfl
theorem z7s:FnScope ["kind"] ["kind"] (z07 st_first_state):=⟨rfl,rfl,rfl,by decide +kernel,rfl,by decide +kernel,by decide +kernel⟩
noncomputable abbrev st_is_deed:Stmt:=top 25
noncomputable abbrev fd_is_deed:FuncData:=fnX "is_deed" "is_deed" (top 25) "talejudge.store" 273 175
theorem z7j (P:M0):Fun (KX P) "is_deed" "is_deed" st_is_deed 176 fd_is_deed:=z0f
theorem zgu (P:M0):Binds (KX P) fd_is_deed ["kind","verb","worth"] []:=(z7j P).binds λ _ _ _ _ _ _=>us3 λ _ _ _=>rfl
theorem sc_is_deed:FnScope ["kind","verb","worth","many"] ["kind","verb","worth"] (z07 st_is_deed):=⟨rfl,rfl,rfl,by decide +kernel,rfl,by decide +kernel,by decide +kernel⟩
noncomputable abbrev st_do:Stmt:=top 26
noncomputable abbrev fd_do:FuncData:=fnX "do" "do" (top 26) "talejudge.store" 273 182
theorem F_do (P:M0):Fun (KX P) "do" "do" st_do 183 fd_do:=z0f
theorem b_do (P:M0):Binds (KX P) fd_do ["kind","state","verb","worth"] []:=(F_do P).binds λ _ _ _ _ _ _=>us4 λ _ _ _ _=>rfl
theorem sc_do:FnScope ["kind","state","verb","worth","doer"] ["kind","state","verb","worth"] (z07 st_do):=⟨rfl,rfl,rfl,by decide +kernel,rfl,by decide +kernel,by decide +kernel⟩
noncomputable abbrev st_deeds:Stmt:=top 28
noncomputable abbrev fd_deeds:FuncData:=fnX "deeds" "deeds" (top 28) "talejudge.tales" 476 189
theorem zev (P:M0):Fun (KX P) "deeds" "deeds" st_deeds 190 fd_deeds:=z0f
theorem zjw (P:M0):Binds (KX P) fd_deeds ["tale"] []:=(zev P).binds λ _ _ _ _ _ _=>us1 λ _=>rfl
theorem sc_deeds:FnScope ["tale","told","numbers","place","event","number","begun"] ["tale"] (z07 st_deeds):=⟨rfl,rfl,rfl,by decide +kernel,rfl,by decide +kernel,by decide +kernel⟩
noncomputable abbrev st_has_to:Stmt:=top 31
noncomputable abbrev fd_has_to:FuncData:=fnX "has_to" "has_to" (top 31) "talejudge.orders" 491 197
theorem za9 (P:M0):Fun (KX P) "has_to" "has_to" st_has_to 198 fd_has_to:=z0f
theorem zi4 (P:M0):Binds (KX P) fd_has_to ["tale","strictness"] []:=(za9 P).binds λ _ _ _ _ _ _=>us2 λ _ _=>rfl
theorem sc_has_to:FnScope ["tale","strictness","told","pairs","ahead","one","behind","other"] ["tale","strictness"] (z07 st_has_to):=⟨rfl,rfl,rfl,by decide +kernel,rfl,by decide +kernel,by decide +kernel⟩
noncomputable abbrev st_check_strictness:Stmt:=top 32
noncomputable abbrev fd_check_strictness:FuncData:=fnX "check_strictness" "check_strictness" (top 32) "talejudge.orders" 491 204
theorem z19 (P:M0):Fun (KX P) "check_strictness" "check_strictness" st_check_strictness 205 fd_check_strictness:=z0f
theorem z4c (P:M0):Binds (KX P) fd_check_strictness ["strictness"] []:=(z19 P).binds λ _ _ _ _ _ _=>us1 λ _=>rfl
theorem z3z:FnScope ["strictness"] ["strictness"] (z07 st_check_strictness):=⟨rfl,rfl,rfl,by decide +kernel,rfl,by decide +kernel,by decide +kernel⟩
noncomputable abbrev st_goes_ahead:Stmt:=top 33
noncomputable abbrev fd_goes_ahead:FuncData:=fnX "goes_ahead" "goes_ahead" (top 33) "talejudge.orders" 491 211
theorem z3i (P:M0):Fun (KX P) "goes_ahead" "goes_ahead" st_goes_ahead 212 fd_goes_ahead:=z0f
theorem zb9 (P:M0):Binds (KX P) fd_goes_ahead ["one","other","strictness"] []:=(z3i P).binds λ _ _ _ _ _ _=>us3 λ _ _ _=>rfl
theorem z9n:FnScope ["one","other","strictness"] ["one","other","strictness"] (z07 st_goes_ahead):=⟨rfl,rfl,rfl,by decide +kernel,rfl,by decide +kernel,by decide +kernel⟩
noncomputable abbrev st_explains:Stmt:=top 34
noncomputable abbrev fd_explains:FuncData:=fnX "explains" "explains" (top 34) "talejudge.orders" 491 216
theorem z5u (P:M0):Fun (KX P) "explains" "explains" st_explains 217 fd_explains:=z0f
theorem zfb (P:M0):Binds (KX P) fd_explains ["tale","strictness","order"] []:=(z5u P).binds λ _ _ _ _ _ _=>us3 λ _ _ _=>rfl
theorem sc_explains:FnScope ["tale","strictness","order","pairs","told"] ["tale","strictness","order"] (z07 st_explains):=⟨rfl,rfl,rfl,by decide +kernel,rfl,by decide +kernel,by decide +kernel⟩
noncomputable abbrev st_is_order:Stmt:=top 35
noncomputable abbrev fd_is_order:FuncData:=fnX "is_order" "is_order" (top 35) "talejudge.orders" 491 221
theorem z67 (P:M0):Fun (KX P) "is_order" "is_order" st_is_order 222 fd_is_order:=z0f
theorem zej (P:M0):Binds (KX P) fd_is_order ["told","order"] []:=(z67 P).binds λ _ _ _ _ _ _=>us2 λ _ _=>rfl
theorem sc_is_order:FnScope ["told","order","answers"] ["told","order"] (z07 st_is_order):=⟨rfl,rfl,rfl,by decide +kernel,rfl,by decide +kernel,by decide +kernel⟩
noncomputable abbrev st_is_step:Stmt:=top 36
noncomputable abbrev fd_is_step:FuncData:=fnX "is_step" "is_step" (top 36) "talejudge.orders" 491 228
theorem z7l (P:M0):Fun (KX P) "is_step" "is_step" st_is_step 229 fd_is_step:=z0f
theorem zgg (P:M0):Binds (KX P) fd_is_step ["step","many"] []:=(z7l P).binds λ _ _ _ _ _ _=>us2 λ _ _=>rfl
theorem zfh:FnScope ["step","many"] ["step","many"] (z07 st_is_step):=⟨rfl,rfl,rfl,by decide +kernel,rfl,by decide +kernel,by decide +kernel⟩
noncomputable abbrev st_keeps_to:Stmt:=top 37
noncomputable abbrev fd_keeps_to:FuncData:=fnX "keeps_to" "keeps_to" (top 37) "talejudge.orders" 491 233
theorem z5b (P:M0):Fun (KX P) "keeps_to" "keeps_to" st_keeps_to 234 fd_keeps_to:=z0f
theorem zdq (P:M0):Binds (KX P) fd_keeps_to ["pairs","numbers"] []:=(z5b P).binds λ _ _ _ _ _ _=>us2 λ _ _=>rfl
theorem sc_keeps_to:FnScope ["pairs","numbers","stands","both"] ["pairs","numbers"] (z07 st_keeps_to):=⟨rfl,rfl,rfl,by decide +kernel,rfl,by decide +kernel,by decide +kernel⟩
noncomputable abbrev st_is_done_so:Stmt:=top 38
noncomputable abbrev fd_is_done_so:FuncData:=fnX "is_done_so" "is_done_so" (top 38) "talejudge.orders" 491 238
theorem z3c (P:M0):Fun (KX P) "is_done_so" "is_done_so" st_is_done_so 239 fd_is_done_so:=z0f
theorem zb2 (P:M0):Binds (KX P) fd_is_done_so ["things","told","order"] []:=(z3c P).binds λ _ _ _ _ _ _=>us3 λ _ _ _=>rfl
theorem sc_is_done_so:FnScope ["things","told","order","kinds","states","number","answer","deed","done"] ["things","told","order"] (z07 st_is_done_so):=⟨rfl,rfl,rfl,by decide +kernel,rfl,by decide +kernel,by decide +kernel⟩
noncomputable abbrev st__law_hand:Stmt:=top 40
noncomputable abbrev fd__law_hand:FuncData:=fnX "_law_hand" "_law_hand" (top 40) "law_talejudge_k51_orders_explain" 559 245
theorem z44 (P:M0):Fun (KX P) "_law_hand" "_law_hand" st__law_hand 246 fd__law_hand:=z0f
theorem zcz (P:M0):Binds (KX P) fd__law_hand ["script","cell","k"] []:=(z44 P).binds λ _ _ _ _ _ _=>us3 λ _ _ _=>rfl
theorem sc__law_hand:FnScope ["script","cell","k","way"] ["script","cell","k"] (z07 st__law_hand):=⟨rfl,rfl,rfl,by decide +kernel,rfl,by decide +kernel,by decide +kernel⟩
noncomputable abbrev st__law_draw:Stmt:=top 41
noncomputable abbrev fd__law_draw:FuncData:=fnX "_law_draw" "_law_draw" (top 41) "law_talejudge_k51_orders_explain" 559 252
theorem z4a (P:M0):Fun (KX P) "_law_draw" "_law_draw" st__law_draw 253 fd__law_draw:=z0f
theorem zd5 (P:M0):Binds (KX P) fd__law_draw ["hand","limit"] []:=(z4a P).binds λ _ _ _ _ _ _=>us2 λ _ _=>rfl
theorem sc__law_draw:FnScope ["hand","limit","got"] ["hand","limit"] (z07 st__law_draw):=⟨rfl,rfl,rfl,by decide +kernel,rfl,by decide +kernel,by decide +kernel⟩
noncomputable abbrev st__law_begun:Stmt:=top 42
noncomputable abbrev fd__law_begun:FuncData:=fnX "_law_begun" "_law_begun" (top 42) "law_talejudge_k51_orders_explain" 559 259
theorem z39 (P:M0):Fun (KX P) "_law_begun" "_law_begun" st__law_begun 260 fd__law_begun:=z0f
theorem zay (P:M0):Binds (KX P) fd__law_begun ["kind"] []:=(z39 P).binds λ _ _ _ _ _ _=>us1 λ _=>rfl
theorem z9c:FnScope ["kind"] ["kind"] (z07 st__law_begun):=⟨rfl,rfl,rfl,by decide +kernel,rfl,by decide +kernel,by decide +kernel⟩
noncomputable abbrev st__law_does:Stmt:=top 43
noncomputable abbrev fd__law_does:FuncData:=fnX "_law_does" "_law_does" (top 43) "law_talejudge_k51_orders_explain" 559 264
theorem z42 (P:M0):Fun (KX P) "_law_does" "_law_does" st__law_does 265 fd__law_does:=z0f
theorem zcr (P:M0):Binds (KX P) fd__law_does ["kind","state","verb","worth"] []:=(z42 P).binds λ _ _ _ _ _ _=>us4 λ _ _ _ _=>rfl
theorem sc__law_does:FnScope ["kind","state","verb","worth","answer"] ["kind","state","verb","worth"] (z07 st__law_does):=⟨rfl,rfl,rfl,by decide +kernel,rfl,by decide +kernel,by decide +kernel⟩
noncomputable abbrev st__law_worth:Stmt:=top 44
noncomputable abbrev fd__law_worth:FuncData:=fnX "_law_worth" "_law_worth" (top 44) "law_talejudge_k51_orders_explain" 559 271
theorem z3h (P:M0):Fun (KX P) "_law_worth" "_law_worth" st__law_worth 272 fd__law_worth:=z0f
theorem z9y (P:M0):Binds (KX P) fd__law_worth ["hand"] []:=(z3h P).binds λ _ _ _ _ _ _=>us1 λ _=>rfl
theorem z9o:FnScope ["hand"] ["hand"] (z07 st__law_worth):=⟨rfl,rfl,rfl,by decide +kernel,rfl,by decide +kernel,by decide +kernel⟩
noncomputable abbrev st__law_act:Stmt:=top 45
noncomputable abbrev fd__law_act:FuncData:=fnX "_law_act" "_law_act" (top 45) "law_talejudge_k51_orders_explain" 559 278
theorem z5g (P:M0):Fun (KX P) "_law_act" "_law_act" st__law_act 279 fd__law_act:=z0f
theorem zf1 (P:M0):Binds (KX P) fd__law_act ["hand","kind"] []:=(z5g P).binds λ _ _ _ _ _ _=>us2 λ _ _=>rfl
theorem sc__law_act:FnScope ["hand","kind","verbs","verb"] ["hand","kind"] (z07 st__law_act):=⟨rfl,rfl,rfl,by decide +kernel,rfl,by decide +kernel,by decide +kernel⟩
noncomputable abbrev st__law_things:Stmt:=top 46
noncomputable abbrev fd__law_things:FuncData:=fnX "_law_things" "_law_things" (top 46) "law_talejudge_k51_orders_explain" 559 283
theorem z2n (P:M0):Fun (KX P) "_law_things" "_law_things" st__law_things 284 fd__law_things:=z0f
theorem z9v (P:M0):Binds (KX P) fd__law_things ["hand"] []:=(z2n P).binds λ _ _ _ _ _ _=>us1 λ _=>rfl
theorem sc__law_things:FnScope ["hand","known","many"] ["hand"] (z07 st__law_things):=⟨rfl,rfl,rfl,by decide +kernel,rfl,by decide +kernel,by decide +kernel⟩
noncomputable abbrev st__law_ended:Stmt:=top 47
noncomputable abbrev fd__law_ended:FuncData:=fnX "_law_ended" "_law_ended" (top 47) "law_talejudge_k51_orders_explain" 559 290
theorem z3f (P:M0):Fun (KX P) "_law_ended" "_law_ended" st__law_ended 291 fd__law_ended:=z0f
theorem zak (P:M0):Binds (KX P) fd__law_ended ["hand","things","states","act"] []:=(z3f P).binds λ _ _ _ _ _ _=>us4 λ _ _ _ _=>rfl
theorem sc__law_ended:FnScope ["hand","things","states","act","name","verb","worth","heard","kind"] ["hand","things","states","act"] (z07 st__law_ended):=⟨rfl,rfl,rfl,by decide +kernel,rfl,by decide +kernel,by decide +kernel⟩
noncomputable abbrev st__law_tale:Stmt:=top 48
noncomputable abbrev fd__law_tale:FuncData:=fnX "_law_tale" "_law_tale" (top 48) "law_talejudge_k51_orders_explain" 559 295
theorem z4i (P:M0):Fun (KX P) "_law_tale" "_law_tale" st__law_tale 296 fd__law_tale:=z0f
theorem zd3 (P:M0):Binds (KX P) fd__law_tale ["script","first","hands","most"] []:=(z4i P).binds λ _ _ _ _ _ _=>us4 λ _ _ _ _=>rfl
theorem sc__law_tale:FnScope ["script","first","hands","most","head","things","states","calm","busy","many","events","k","cell","hand","one","name","kind","verb","worth","heard"] ["script","first","hands","most"] (z07 st__law_tale):=⟨rfl,rfl,rfl,by decide +kernel,rfl,by decide +kernel,by decide +kernel⟩
noncomputable abbrev st__law_acts:Stmt:=top 49
noncomputable abbrev fd__law_acts:FuncData:=fnX "_law_acts" "_law_acts" (top 49) "law_talejudge_k51_orders_explain" 559 302
theorem z4g (P:M0):Fun (KX P) "_law_acts" "_law_acts" st__law_acts 303 fd__law_acts:=z0f
theorem zcq (P:M0):Binds (KX P) fd__law_acts ["tale"] []:=(z4g P).binds λ _ _ _ _ _ _=>us1 λ _=>rfl
theorem sc__law_acts:FnScope ["tale","acts","open_ones","at","event","act"] ["tale"] (z07 st__law_acts):=⟨rfl,rfl,rfl,by decide +kernel,rfl,by decide +kernel,by decide +kernel⟩
noncomputable abbrev st__law_must:Stmt:=top 50
noncomputable abbrev fd__law_must:FuncData:=fnX "_law_must" "_law_must" (top 50) "law_talejudge_k51_orders_explain" 559 309
theorem z45 (P:M0):Fun (KX P) "_law_must" "_law_must" st__law_must 310 fd__law_must:=z0f
theorem zda (P:M0):Binds (KX P) fd__law_must ["acts","strictness","one","other"] []:=(z45 P).binds λ _ _ _ _ _ _=>us4 λ _ _ _ _=>rfl
theorem zab:FnScope ["acts","strictness","one","other"] ["acts","strictness","one","other"] (z07 st__law_must):=⟨rfl,rfl,rfl,by decide +kernel,rfl,by decide +kernel,by decide +kernel⟩
noncomputable abbrev st__law_alike:Stmt:=top 51
noncomputable abbrev fd__law_alike:FuncData:=fnX "_law_alike" "_law_alike" (top 51) "law_talejudge_k51_orders_explain" 559 316
theorem z3a (P:M0):Fun (KX P) "_law_alike" "_law_alike" st__law_alike 317 fd__law_alike:=z0f
theorem zaa (P:M0):Binds (KX P) fd__law_alike ["one","other"] []:=(z3a P).binds λ _ _ _ _ _ _=>us2 λ _ _=>rfl
theorem z93:FnScope ["one","other"] ["one","other"] (z07 st__law_alike):=⟨rfl,rfl,rfl,by decide +kernel,rfl,by decide +kernel,by decide +kernel⟩
noncomputable abbrev st__law_on:Stmt:=top 52
noncomputable abbrev fd__law_on:FuncData:=fnX "_law_on" "_law_on" (top 52) "law_talejudge_k51_orders_explain" 559 321
theorem z7x (P:M0):Fun (KX P) "_law_on" "_law_on" st__law_on 322 fd__law_on:=z0f
theorem zg9 (P:M0):Binds (KX P) fd__law_on ["tale","acts","must","place"] []:=(z7x P).binds λ _ _ _ _ _ _=>us4 λ _ _ _ _=>rfl
theorem sc__law_on:FnScope ["tale","acts","must","place","told","names","gone","number","act","at","state","heard","states","new"] ["tale","acts","must","place"] (z07 st__law_on):=⟨rfl,rfl,rfl,by decide +kernel,rfl,by decide +kernel,by decide +kernel⟩
noncomputable abbrev st__law_musts:Stmt:=top 53
noncomputable abbrev fd__law_musts:FuncData:=fnX "_law_musts" "_law_musts" (top 53) "law_talejudge_k51_orders_explain" 559 326
theorem z33 (P:M0):Fun (KX P) "_law_musts" "_law_musts" st__law_musts 327 fd__law_musts:=z0f
theorem zaj (P:M0):Binds (KX P) fd__law_musts ["acts","strictness"] []:=(z33 P).binds λ _ _ _ _ _ _=>us2 λ _ _=>rfl
theorem sc__law_musts:FnScope ["acts","strictness","must","number"] ["acts","strictness"] (z07 st__law_musts):=⟨rfl,rfl,rfl,by decide +kernel,rfl,by decide +kernel,by decide +kernel⟩
noncomputable abbrev st__law_is_full:Stmt:=top 55
noncomputable abbrev fd__law_is_full:FuncData:=fnX "_law_is_full" "_law_is_full" (top 55) "law_talejudge_k51_orders_explain" 559 336
theorem z20 (P:M0):Fun (KX P) "_law_is_full" "_law_is_full" st__law_is_full 337 fd__law_is_full:=z0f
theorem z82 (P:M0):Binds (KX P) fd__law_is_full ["acts","place"] []:=(z20 P).binds λ _ _ _ _ _ _=>us2 λ _ _=>rfl
theorem z6f:FnScope ["acts","place"] ["acts","place"] (z07 st__law_is_full):=⟨rfl,rfl,rfl,by decide +kernel,rfl,by decide +kernel,by decide +kernel⟩
noncomputable abbrev st__law_walked:Stmt:=top 56
noncomputable abbrev fd__law_walked:FuncData:=fnX "_law_walked" "_law_walked" (top 56) "law_talejudge_k51_orders_explain" 559 341
theorem z2o (P:M0):Fun (KX P) "_law_walked" "_law_walked" st__law_walked 342 fd__law_walked:=z0f
theorem z8o (P:M0):Binds (KX P) fd__law_walked ["hand","tale","strictness"] []:=(z2o P).binds λ _ _ _ _ _ _=>us3 λ _ _ _=>rfl
theorem sc__law_walked:FnScope ["hand","tale","strictness","acts","must","place","order","some","number","heard"] ["hand","tale","strictness"] (z07 st__law_walked):=⟨rfl,rfl,rfl,by decide +kernel,rfl,by decide +kernel,by decide +kernel⟩
noncomputable abbrev st__law_right:Stmt:=top 57
noncomputable abbrev fd__law_right:FuncData:=fnX "_law_right" "_law_right" (top 57) "law_talejudge_k51_orders_explain" 559 346
theorem z3b (P:M0):Fun (KX P) "_law_right" "_law_right" st__law_right 347 fd__law_right:=z0f
theorem zan (P:M0):Binds (KX P) fd__law_right ["tale","strictness","order"] []:=(z3b P).binds λ _ _ _ _ _ _=>us3 λ _ _ _=>rfl
theorem sc__law_right:FnScope ["tale","strictness","order","acts","states","seats","step","act","name","heard","one"] ["tale","strictness","order"] (z07 st__law_right):=⟨rfl,rfl,rfl,by decide +kernel,rfl,by decide +kernel,by decide +kernel⟩
noncomputable abbrev st__law_spoilt:Stmt:=top 58
noncomputable abbrev fd__law_spoilt:FuncData:=fnX "_law_spoilt" "_law_spoilt" (top 58) "law_talejudge_k51_orders_explain" 559 353
theorem z2e (P:M0):Fun (KX P) "_law_spoilt" "_law_spoilt" st__law_spoilt 354 fd__law_spoilt:=z0f
theorem z8h (P:M0):Binds (KX P) fd__law_spoilt ["hand","order"] []:=(z2e P).binds λ _ _ _ _ _ _=>us2 λ _ _=>rfl
theorem sc__law_spoilt:FnScope ["hand","order","some","kind","bad","at","step","answers"] ["hand","order"] (z07 st__law_spoilt):=⟨rfl,rfl,rfl,by decide +kernel,rfl,by decide +kernel,by decide +kernel⟩
noncomputable abbrev st__law_told:Stmt:=top 59
noncomputable abbrev fd__law_told:FuncData:=fnX "_law_told" "_law_told" (top 59) "law_talejudge_k51_orders_explain" 559 360
theorem z47 (P:M0):Fun (KX P) "_law_told" "_law_told" st__law_told 361 fd__law_told:=z0f
theorem zdd (P:M0):Binds (KX P) fd__law_told ["tale","strictness","order"] []:=(z47 P).binds λ _ _ _ _ _ _=>us3 λ _ _ _=>rfl
theorem sc__law_told:FnScope ["tale","strictness","order","handed","got"] ["tale","strictness","order"] (z07 st__law_told):=⟨rfl,rfl,rfl,by decide +kernel,rfl,by decide +kernel,by decide +kernel⟩
noncomputable abbrev st_law:Stmt:=top 60
noncomputable abbrev fd_law:FuncData:=fnX "law" "law" (top 60) "law_talejudge_k51_orders_explain" 559 367
theorem F_law (P:M0):Fun (KX P) "law" "law" st_law 368 fd_law:=z0f
theorem sc_law:FnScope ["script","head","tale","cell","hand","strictness","order","bad","some","one"] ["script"] (z07 st_law):=⟨rfl,rfl,rfl,by decide +kernel,rfl,by decide +kernel,by decide +kernel⟩
section
variable {P:Program} {w:y1} {mg:Str->Option Value} {base:Heap}
def z40:Sp:=λ vs H Q _=>∃x T,vs=[x]/\TagOf H x T/\Q (.bl (decide (T = "int"))) H
theorem zcm (T:TX (KX w.params) mg):FnOk P w (KX w.params) mg base CX0 1 21 fd_is_whole ["value"] z40:=by
 refine (z63 w.params).ok zch (λ vs H Q E h=>?_) (λ cdv A outer s H vs Q E hr h=>?_)
 ·obtain ⟨x,t,rfl,_⟩:=h;rfl
 ·obtain ⟨x,t,rfl,ht,q⟩:=h;refine ⟨_,(z05 (ps_ret (pe_and (z08 z0i rfl (T.no (z0e _)) Z1 (z00 (pv 0) (z00 (z15 (v:=.ty "int") rfl (T.no (n_int _)) X9 rfl) pa_nil))) (pe_one (pe_not (z08 z0i rfl (T.no (z0e _)) Z1 (z00 (pv 0) (z00 (z15 (v:=.ty "bool") rfl (T.no (n_bool _)) j21 rfl) pa_nil)))))))),?_⟩;refine ⟨_,rfl,_,_,_,rfl,ht,by decide,_,rfl,?_⟩;by_cases h1:instB t "int" = true
  ·rw [if_pos h1];refine ⟨_,rfl,_,_,_,rfl,ht,by decide,_,rfl,?_⟩;rw [z80 ht (by decide)];have:(!decide (t = "bool"))=decide (t = "int"):=by rcases ht.one with rfl|rfl|rfl|rfl|rfl|rfl|rfl<;>revert h1<;>decide
   rw [this];exact q
  ·rw [if_neg h1];have:decide (t = "int")=false:=by rcases ht.one with rfl|rfl|rfl|rfl|rfl|rfl|rfl<;>revert h1<;>decide
   rw [this] at q;exact q
def z5t:Sp:=λ vs H Q _=>∃x T g,vs=[x,.int g]/\TagOf H x T/\Q (.bl (z17 x g)) H
theorem zap (T:TX (KX w.params) mg) (c_is_whole:Cal P w (KX w.params) mg base "is_whole" ["value"] 1 z40):FnOk P w (KX w.params) mg base CX0 2 28 fd_is_within ["value","greatest"] z5t:=by
 refine (z4d w.params).ok zad (λ vs H Q E h=>?_) (λ cdv A outer s H vs Q E hr h=>?_)
 ·obtain ⟨x,t,g,rfl,_⟩:=h;rfl
 ·obtain ⟨x,t,g,rfl,ht,q⟩:=h;refine ⟨_,(z05 (ps_ret (pe_and (pe_cal c_is_whole (hr.mono (by first|decide|omega)) rfl (z00 (pv 0) pa_nil)) (pe_one (zik op_le op_le (pe_un un_neg (pv 1)) (pv 0) (pv 1)))))),?_⟩;refine ⟨_,rfl,x,t,rfl,ht,_,rfl,?_⟩;by_cases h1:t = "int"
  ·subst h1;obtain ⟨i,rfl⟩:=ht.int;refine iteT ?_;refine ⟨_,rfl,_,rfl,_,rfl,_,_,rfl,rfl,_,rfl,?_⟩;unfold z17 at q;dsimp only at q;by_cases h2:-g<=i
   ·rw [decide_eq_true h2] at q⊢;refine iteT ⟨_,rfl,_,_,rfl,rfl,?_⟩;rw [Y7] at q;exact q
   ·rw [decide_eq_false h2] at q⊢;refine iteF ?_;rw [c9] at q;exact q
  ·rw [decide_eq_false h1];refine iteF ?_;rw [noInt ht h1] at q;exact q
def z6t:Sp:=λ vs H Q _=>∃x T,vs=[x]/\TagOf H x T/\Q (.bl (z17 x 1000000000)) H
theorem zd7 (T:TX (KX w.params) mg) (c_is_within:Cal P w (KX w.params) mg base "is_within" ["value","greatest"] 2 z5t):FnOk P w (KX w.params) mg base CX0 3 35 fd_is_worth ["value"] z6t:=by
 refine (z6a w.params).ok zd9 (λ vs H Q E h=>?_) (λ cdv A outer s H vs Q E hr h=>?_)
 ·obtain ⟨x,t,rfl,_⟩:=h;rfl
 ·obtain ⟨x,t,rfl,ht,q⟩:=h;refine ⟨_,(z05 (ps_ret (pe_cal c_is_within (hr.mono (by first|decide|omega)) rfl (z00 (pv 0) (z00 (z5w (v:=.int (1000000000)) rfl (T.of (z5f _)) ⟨_,rfl⟩) pa_nil))))),?_⟩;exact ⟨_,rfl,x,t,1000000000,rfl,ht,q⟩
def z21:Sp:=λ vs H Q _=>∃x T m,vs=[x,.int m]/\TagOf H x T/\Q (.bl (match tupOf H x with|some xs=>decide ((xs.length:Int)=m)|none=>false)) H
theorem z7t (T:TX (KX w.params) mg):FnOk P w (KX w.params) mg base CX0 1 42 fd_is_tuple_of ["value","many"] z21:=by
 refine (z2s w.params).ok z77 (λ vs H Q E h=>?_) (λ cdv A outer s H vs Q E hr h=>?_)
 ·obtain ⟨x,t,g,rfl,_⟩:=h;rfl
 ·obtain ⟨x,t,g,rfl,ht,q⟩:=h;refine ⟨_,(z05 (ps_ret (pe_and (z08 z0i rfl (T.no (z0e _)) Z1 (z00 (pv 0) (z00 (z15 (v:=.ty "tuple") rfl (T.no (z26 _)) S4 rfl) pa_nil))) (pe_one (z0o opEq (z08 z0w rfl (T.no (n_len _)) W2 (z00 (pv 0) pa_nil)) (pv 1) (nomark _)))))),?_⟩;refine ⟨_,rfl,_,_,_,rfl,ht,by decide,_,rfl,?_⟩;rw [z80 ht (by decide)];by_cases h1:t = "tuple"
  ·subst h1;obtain ⟨a,xs,rfl,ha⟩:=ht.tuple;refine iteT ⟨_,rfl,.inl ⟨a,xs,rfl,.inr (SqT.of ha),_,rfl,rfl,?_⟩⟩;have e:tupOf H (.ref a)=some xs:=by unfold tupOf;dsimp only;rw [ha]
   rw [e] at q;have e2:decide (V.int (xs.length:Int)=V.int g)=decide ((xs.length:Int)=g):=by simp
   rw [e2];exact q
  ·rw [decide_eq_false h1];refine iteF ?_;rw [noTup ht h1] at q;exact q
noncomputable def kindB (x:V):Bool:=match x with
 | .str z=>(kl_FIRST_STATES.lookup z).isSome
 | _=>false
def z55:Sp:=λ vs H Q _=>∃x T,vs=[x]/\TagOf H x T/\Q (.bl (kindB x)) H
theorem zdg (T:TX (KX w.params) mg):FnOk P w (KX w.params) mg base CX0 1 164 fd_is_kind ["kind"] z55:=by
 refine (z75 w.params).ok zff (λ vs H Q E h=>?_) (λ cdv A outer s H vs Q E hr h=>?_)
 ·obtain ⟨x,t,rfl,_⟩:=h;rfl
 ·obtain ⟨x,t,rfl,ht,q⟩:=h;refine ⟨_,(z05 (ps_ret (pe_and (z08 z0i rfl (T.no (z0e _)) Z1 (z00 (pv 0) (z00 (z15 (v:=.ty "str") rfl (T.no (n_str _)) W9 rfl) pa_nil))) (pe_one (z0o (zia (z30 _)) (pv 0) (z5w (v:=.ref 80) rfl (T.of (z3p _)) rfl) (by with_unfolding_all rfl)))))),?_⟩;refine ⟨_,rfl,_,_,_,rfl,ht,by decide,_,rfl,?_⟩;rw [z80 ht (by decide)];by_cases h1:t = "str"
  ·subst h1;obtain ⟨z,rfl⟩:=ht.str;exact iteT ⟨_,rfl,z,rfl,rfl,q⟩
  ·rw [decide_eq_false h1];refine iteF ?_;cases x with
   | str z=>exact absurd ht h1
   | _=>exact q
noncomputable def formOf (k v:Str):Int:=match kl_DOERS.lookup (k,v) with
 | none=>-1
 | some _=>(match kl_WORTHS_OF_VERBS.lookup v with|some (.int i)=>i|_=>-1)
noncomputable def deedB (H:Hp) (k v x:V):Bool:=match k,v with
 | .str a,.str b=>if formOf a b=0 then decide (x=.non) else if formOf a b=1 then z17 x 1000000000 else if formOf a b=2 then
   (match tupOf H x with|some xs=>decide (xs.length=2) && xs.all λ y=>z17 y 1000000000|none=>false) else false
 | _,_=>false
theorem z8q {a b:Str} {v:V} (h:kl_DOERS.lookup (a,b)=some v):(kl_FIRST_STATES.lookup a).isSome=true/\∃i,kl_WORTHS_OF_VERBS.lookup b=some (.int i)/\(i=0\/i=1\/i=2):=by
 have m:=zas h;have all :∀p∈kl_DOERS,(kl_FIRST_STATES.lookup p.1.1).isSome=true/\(kl_WORTHS_OF_VERBS.lookup p.1.2=some (.int 0)\/kl_WORTHS_OF_VERBS.lookup p.1.2=some (.int 1)\/kl_WORTHS_OF_VERBS.lookup p.1.2=some (.int 2)):=by decide +kernel
 obtain ⟨h1,h2⟩:=all _ m;refine ⟨h1,?_⟩;rcases h2 with h2|h2|h2
 ·exact ⟨0,h2,.inl rfl⟩
 ·exact ⟨1,h2,.inr (.inl rfl)⟩
 ·exact ⟨2,h2,.inr (.inr rfl)⟩
def z8j:Sp:=λ vs H Q _=>∃k v x Tk Tv Tx,vs=[k,v,x]/\TagOf H k Tk/\TagOf H v Tv/\TagOf H x Tx/\Flat H x/\∀H',Same H H'->Q (.bl (deedB H k v x)) H'
theorem zel (T:TX (KX w.params) mg) (c_is_kind:Cal P w (KX w.params) mg base "is_kind" ["kind"] 1 z55) (c_is_worth:Cal P w (KX w.params) mg base "is_worth" ["value"] 3 z6t) (c_is_tuple_of:Cal P w (KX w.params) mg base "is_tuple_of" ["value","many"] 1 z21):FnOk P w (KX w.params) mg base CX0 4 176 fd_is_deed ["kind","verb","worth"] z8j:=by
 refine (z7j w.params).ok sc_is_deed (λ vs H Q E h=>?_) (λ cdv A outer s H vs Q E hr h=>?_)
 ·obtain ⟨k,v,x,Tk,Tv,Tx,rfl,_⟩:=h;rfl
 ·obtain ⟨k,v,x,Tk,Tv,Tx,rfl,hk,hv,hx,hf,q⟩:=h;refine ⟨_,(z02 (ps_if (PW.pt (pw_or (pt_not (pt_val (pe_cal c_is_kind (hr.mono (by first|decide|omega)) rfl (z00 (pv 0) pa_nil)) (λ _=>rfl))) (pw_or (pt_not (pt_val (z08 z0i rfl (T.no (z0e _)) Z1 (z00 (pv 1) (z00 (z15 (v:=.ty "str") rfl (T.no (n_str _)) W9 rfl) pa_nil))) (λ _=>rfl))) (pw_or1 (z09 (zb1 (hu_of hr) (zei _)) (pe_tup (z00 (pv 0) (z00 (pv 1) pa_nil))) (z5w (v:=.ref 145) rfl (T.of (zi0 _)) rfl) (by with_unfolding_all rfl))))))
   (z05 (ps_ret pe_bl))
   z0d)
   (z02 (ps_set (i:=3) sc_is_deed.nd rfl (by first|exact Y0 rfl|exact X0 rfl) (pe_ix (ix_kd (z43 _)) (z5w (v:=.ref 83) rfl (T.of (z4v _)) rfl) (pv 1) (λ _ _=>rfl)))
   (z02 (ps_if (z09 opEq (pv 3) pe_int (nomark _))
   (z05 (ps_ret (z0o op_isN (pv 2) pe_non (nomark _))))
   z0d)
   (z02 (ps_if (z09 opEq (pv 3) pe_int (nomark _))
   (z05 (ps_ret (pe_cal c_is_worth (hr.mono (by first|decide|omega)) rfl (z00 (pv 2) pa_nil))))
   z0d)
   (z05 (ps_ret (pe_and (pe_cal c_is_tuple_of (hr.mono (by first|decide|omega)) rfl (z00 (pv 2) (z00 (pv 3) pa_nil))) (pe_one (z08 (z4w rfl) rfl (T.no (n_all _)) boot_all (z00 (z0s (xs:=["part"]) (g:=gName 0) (fr:=[]) rfl (pi_tup (pv 2)) (λ _ z=>absurd z o0) (z1e rfl) (λ _ z=>absurd z o0) (by decide +kernel) rfl (by decide +kernel) (λ _ _ _ _ _=>(z0j (N:=["part"]) 0 (by decide +kernel) rfl rfl)) (λ _ _ _ _ _=>pf_nil) (λ _ _ _ _ _=>(pe_cal c_is_worth (hr.mono (by first|decide|omega)) rfl (z00 (pv 0) pa_nil)))) pa_nil)))))))))),?_⟩
  refine ⟨_,rfl,k,Tk,rfl,hk,_,rfl,?_⟩;have no:deedB H k v x=false->Q (.bl false) H:=λ e=>by have:=q H (Same.refl H);rw [e] at this;exact this
  by_cases h1 :∃a,k=.str a/\(kl_FIRST_STATES.lookup a).isSome=true
  ·obtain ⟨a,rfl,h1⟩:=h1;have h1':kindB (.str a)=true:=h1;rw [h1'];refine iteF ?_;refine ⟨_,rfl,_,_,_,rfl,hv,by decide,_,rfl,?_⟩;rw [z80 hv (by decide)];by_cases h2:Tv = "str"
   ·subst h2;obtain ⟨b,rfl⟩:=hv.str;refine iteF ?_;refine ⟨_,rfl,_,rfl,?_⟩;refine ⟨(show (2:Nat)<=sizeLine by decide),λ p hp=>⟨p,a,b,rfl,upd_same,rfl,_,rfl,?_⟩⟩;have sm:Same H (upd H p (.tup [.str a,.str b])):=Same.upd hp;cases h3:kl_DOERS.lookup (a,b) with
    | none=>
     refine iteT ?_;have:=q _ sm;have e:deedB H (.str a) (.str b) x=false:=by unfold deedB formOf;dsimp only;rw [h3];rfl
     rw [e] at this;exact this
    | some z=>
     refine iteF ?_;obtain ⟨_,i,h4,h5⟩:=z8q h3;have hfo:formOf a b=i:=by unfold formOf;rw [h3];dsimp only;rw [h4]
     refine ⟨_,rfl,b,.int i,rfl,rfl,h4,?_⟩;refine ⟨_,rfl,rfl,_,rfl,?_⟩;rcases h5 with rfl|rfl|rfl
     ·refine iteT ⟨_,rfl,rfl,?_⟩;have:=q _ sm;have e:deedB H (.str a) (.str b) x=decide (x=.non):=by unfold deedB;dsimp only;rw [hfo];rfl
      rw [e] at this;exact this
     ·refine iteF ⟨_,rfl,rfl,_,rfl,?_⟩;refine iteT ⟨_,rfl,x,Tx,rfl,hx.same sm,?_⟩;have:=q _ sm;have e:deedB H (.str a) (.str b) x=z17 x 1000000000:=by unfold deedB;dsimp only;rw [hfo];rfl
      rw [e] at this;exact this
     ·refine iteF ⟨_,rfl,rfl,_,rfl,?_⟩;refine iteF ⟨_,rfl,_,rfl,x,Tx,2,rfl,hx.same sm,_,rfl,?_⟩;rw [zeo hx sm];have e:deedB H (.str a) (.str b) x=(match tupOf H x with|some xs=>decide (xs.length=2) && xs.all λ y=>z17 y 1000000000|none=>false):=by unfold deedB;dsimp only;rw [hfo];rfl
      rw [e] at q;cases ht:tupOf H x with
      | none=>rw [ht] at q;exact iteF (q _ sm)
      | some xs=>
       rw [ht] at q;dsimp only at q⊢;by_cases hl:xs.length=2
       ·have hl':((xs.length:Nat):Int)=2:=by omega
        rw [if_pos (decide_eq_true hl')];rw [decide_eq_true hl,Y7] at q;obtain ⟨c,rfl,hc⟩:=zfr ht;have hlen:xs.length<=sizeLine:=by rw [hl];decide
        refine e_cb1 ?_;refine z1o (K:=KX w.params) (a:=c) (xs:=xs) (H1:=upd H p (.tup [.str a,.str b])) (λ _=>true) (λ i y _=>y=.bl (z17 (xs[i]?.getD .non) 1000000000)) (λ _ _ _ _ _ z=>z) (λ R h=>⟨_,rfl,h⟩) (SqT.of (sm _ _ hc)) hlen ?_ ?_
        ·intro i hi v' H' s' hv' KT KF k1 k2;obtain ⟨Ty,ty⟩:=(hf xs ht).2 v' (R0 hv');refine ⟨[some v'],rfl,rfl,iteT ?_⟩;exact ⟨_,rfl,v',Ty,rfl,(ty.same sm).same s',k1 rfl _ _ (Same.refl _) (by rw [hv'];rfl)⟩
        ·intro l H' ys s' hl al;rw [List.filter_eq_self.mpr (λ _ _=>rfl)] at al;have ey:ys=xs.map λ y=>V.bl (z17 y 1000000000):=by
          rw [z6s (f:=λ i=>V.bl (z17 (xs[i]?.getD .non) 1000000000)) al];apply g8
          ·simp
          ·intro i h1 h2;have hi:i < xs.length:=by simpa using h1
           simp [J0 hi]
         subst ey;refine ⟨l,_,rfl,SqL.of upd_same,λ y hy=>?_,?_⟩
         ·obtain ⟨z,_,rfl⟩:=List.mem_map.mp hy;exact ⟨_,rfl⟩
         ·have e9:((xs.map λ y=>V.bl (z17 y 1000000000)).all λ y=>decide (y=V.bl true))=xs.all λ y=>z17 y 1000000000:=by rw [j32];congr 1;funext y;simp
          rw [e9];exact q _ ((sm.trans s').trans (Same.upd hl))
       ·have hl':¬ ((xs.length:Nat):Int)=2:=by omega
        rw [if_neg (by rw [decide_eq_false hl'];exact U0)];rw [decide_eq_false hl,c9] at q;exact q _ sm
   ·rw [decide_eq_false h2];refine iteT ?_;exact no (by unfold deedB;cases v with|str z=>exact absurd hv h2|_=>rfl)
  ·have e1:kindB k=false:=by
    cases k with
    | str z=>exact Bool.eq_false_iff.mpr λ e=>h1 ⟨z,rfl,e⟩
    | _=>rfl
   rw [e1];refine iteT ?_;refine no ?_;cases k with
   | str a=>
    cases v with
    | str b=>
     unfold deedB formOf;dsimp only;cases h3:kl_DOERS.lookup (a,b) with
     | none=>rfl
     | some z=>exact absurd ⟨a,rfl,(z8q h3).1⟩ h1
    | _=>rfl
   | _=>rfl
theorem deedB0 {H:Hp} {a b:Str} {x:V} (h:formOf a b=0):deedB H (.str a) (.str b) x=decide (x=.non):=by unfold deedB;dsimp only;rw [h];rfl
theorem deedB1 {H:Hp} {a b:Str} {x:V} (h:formOf a b=1):deedB H (.str a) (.str b) x=z17 x 1000000000:=by unfold deedB;dsimp only;rw [h];rfl
theorem deedB2 {H:Hp} {a b:Str} {x:V} {xs:List V} (h:formOf a b=2) (e:tupOf H x=some xs):deedB H (.str a) (.str b) x=(decide (xs.length=2) && xs.all λ y=>z17 y 1000000000):=by unfold deedB;dsimp only;rw [h,e];rfl
def z2d:Sp:=λ vs H Q _=>∃st x,vs=[st,x]/\∀p,H p=none->Q (.ref p) (upd H p (.tup [st,st]))
theorem z98 (T:TX (KX w.params) mg):FnOk P w (KX w.params) mg base CX0 1 90 fd_read_state ["state","worth"] z2d:=by
 refine (z36 w.params).ok z9q (λ vs H Q E h=>?_) (λ cdv A outer s H vs Q E hr h=>?_)
 ·obtain ⟨st,x,rfl,_⟩:=h;rfl
 ·obtain ⟨st,x,rfl,q⟩:=h;refine ⟨_,(z05 (ps_ret (pe_tup (z00 (pv 0) (z00 (pv 0) pa_nil))))),?_⟩;exact ⟨_,rfl,_,rfl,(show (2:Nat)<=sizeLine by decide),q⟩
def z1w:Sp:=λ vs H Q _=>∃st x,vs=[st,x]/\∀p,H p=none->Q (.ref p) (upd H p (.tup [x,.str "ok"]))
theorem z7c (T:TX (KX w.params) mg):FnOk P w (KX w.params) mg base CX0 1 97 fd_write_state ["state","worth"] z1w:=by
 refine (z2r w.params).ok z7r (λ vs H Q E h=>?_) (λ cdv A outer s H vs Q E hr h=>?_)
 ·obtain ⟨st,x,rfl,_⟩:=h;rfl
 ·obtain ⟨st,x,rfl,q⟩:=h;refine ⟨_,(z05 (ps_ret (pe_tup (z00 (pv 1) (z00 pe_str pa_nil))))),?_⟩;exact ⟨_,rfl,(show (2:Nat)<=sizeLine by decide),q⟩
def z1j:Sp:=λ vs H Q _=>∃i j:Int,vs=[.int i,.int j]/\∀p,H p=none->Q (.ref p) (upd H p (.tup [.int (i + j),.int i]))
theorem z57 (T:TX (KX w.params) mg):FnOk P w (KX w.params) mg base CX0 1 104 fd_add_to_number ["state","worth"] z1j:=by
 refine (z1q w.params).ok z5e (λ vs H Q E h=>?_) (λ cdv A outer s H vs Q E hr h=>?_)
 ·obtain ⟨st,x,rfl,_⟩:=h;rfl
 ·obtain ⟨i,j,rfl,q⟩:=h;refine ⟨_,(z05 (ps_ret (pe_tup (z00 (pe_op opAdd (pv 0) (pv 1)) (z00 (pv 0) pa_nil))))),?_⟩;exact ⟨_,rfl,_,rfl,.inl ⟨_,_,rfl,rfl,_,rfl,(show (2:Nat)<=sizeLine by decide),q⟩⟩
def z2l (K:b0):Sp:=λ vs H Q _=>∃(i a b:Int) (t:Addr),vs=[.int i,.ref t]/\SqT K H t [.int a,.int b]/\∀p,H p=none->Q (.ref p) (upd H p (.tup (if i=a then [.int b,.int 1] else [.int i,.int 0])))
theorem z9h (T:TX (KX w.params) mg):FnOk P w (KX w.params) mg base CX0 1 144 fd_swap_state ["state","worth"] (z2l (KX w.params)):=by
 refine (z3l w.params).ok z9t (λ vs H Q E h=>?_) (λ cdv A outer s H vs Q E hr h=>?_)
 ·obtain ⟨i,a,b,t,rfl,_⟩:=h;rfl
 ·obtain ⟨i,a,b,t,rfl,sq,q⟩:=h;refine ⟨_,(z02 (ps_if (z09 opEq (pv 0) (pe_ix ix_seq (pv 1) pe_int (λ _ _=>rfl)) (nomark _))
   (z05 (ps_ret (pe_tup (z00 (pe_ix ix_seq (pv 1) pe_int (λ _ _=>rfl)) (z00 pe_int pa_nil)))))
   z0d)
   (z05 (ps_ret (pe_tup (z00 (pv 0) (z00 pe_int pa_nil)))))),?_⟩
  refine ⟨_,rfl,_,rfl,.inr (.inl ⟨t,_,0,.int a,rfl,rfl,sq,rfl,rfl,_,rfl,?_⟩)⟩;by_cases e:i=a
  ·subst e;rw [decide_eq_true rfl];simp only [if_true] at q;exact iteT ⟨_,rfl,.inr (.inl ⟨t,_,1,.int b,rfl,rfl,sq,rfl,(show (2:Nat)<=sizeLine by decide),q⟩)⟩
  ·rw [decide_eq_false (λ z=>e (by cases z;rfl))];simp only [if_neg e] at q;exact iteF ⟨_,rfl,(show (2:Nat)<=sizeLine by decide),q⟩
def z2c (K:b0):Sp:=λ vs H Q _=>∃(t:Addr) (ns:List V) (x:V),vs=[.ref t,x]/\SqT K H t ns/\ns.length < 1000/\∀p p' H',Same H H'->H' p=some (.tup [.ref p',.str "ok"])->SqT K H' p' (ns++[x])->Q (.ref p) H'
theorem z9p (T:TX (KX w.params) mg):FnOk P w (KX w.params) mg base CX0 1 111 fd_put_behind ["state","worth"] (z2c (KX w.params)):=by
 refine (z38 w.params).ok z92 (λ vs H Q E h=>?_) (λ cdv A outer s H vs Q E hr h=>?_)
 ·obtain ⟨t,ns,x,rfl,_⟩:=h;rfl
 ·obtain ⟨t,ns,x,rfl,sq,hl,q⟩:=h;refine ⟨_,(z05 (ps_ret (pe_tup (z00 (pe_op op_catS (pv 0) (pe_tup (z00 (pv 1) pa_nil))) (z00 pe_str pa_nil))))),?_⟩;refine ⟨_,rfl,_,rfl,(show (1:Nat)<=sizeLine by decide),λ p1 hp1=>?_⟩;have s1:=Same.upd (o:=.tup [x]) hp1;refine ⟨t,p1,ns,[x],rfl,rfl,s1.seqT sq,SqT.of upd_same,by simp,G0 (Nat.add_le_add_right (T3 hl) _) (show 1000 + 1<=sizeLine by decide),λ p2 H2 s2 sq2=>?_⟩;refine ⟨(show (2:Nat)<=sizeLine by decide),λ p3 hp3=>?_⟩;exact q p3 p2 _ ((s1.trans s2).trans (Same.upd hp3)) upd_same ((Same.upd hp3).seqT sq2)
def z28 (K:b0):Sp:=λ vs H Q _=>∃(t:Addr) (ns:List V) (x:V),vs=[.ref t,x]/\SqT K H t ns/\
 (ns=[]->∀p H',Same H H'->H' p=some (.tup [.ref t,.str "none"])->Q (.ref p) H')/\(∀n r,ns=n :: r->∀p p' H',Same H H'->H' p=some (.tup [.ref p',n])->SqT K H' p' r->Q (.ref p) H')
theorem z8f (T:TX (KX w.params) mg):FnOk P w (KX w.params) mg base CX0 1 118 fd_take_first ["state","worth"] (z28 (KX w.params)):=by
 refine (z3d w.params).ok z8t (λ vs H Q E h=>?_) (λ cdv A outer s H vs Q E hr h=>?_)
 ·obtain ⟨t,ns,x,rfl,_⟩:=h;rfl
 ·obtain ⟨t,ns,x,rfl,sq,q0,q1⟩:=h;refine ⟨_,(z02 (ps_if (z09 opEq (z08 z0w rfl (T.no (n_len _)) W2 (z00 (pv 0) pa_nil)) pe_int (nomark _))
   (z05 (ps_ret (pe_tup (z00 (pv 0) (z00 pe_str pa_nil)))))
   z0d)
   (z05 (ps_ret (pe_tup (z00 (z27 slSeq (pv 0) (z2t pe_int) z62) (z00 (pe_ix ix_seq (pv 0) pe_int (λ _ _=>rfl)) pa_nil)))))),?_⟩
  refine ⟨_,rfl,.inl ⟨t,ns,rfl,.inr sq,rfl,_,rfl,?_⟩⟩;cases ns with
  | nil=>exact iteT ⟨_,rfl,(show (2:Nat)<=sizeLine by decide),λ p hp=>q0 rfl p _ (Same.upd hp) upd_same⟩
  | cons n r=>
   rw [decide_eq_false (show ¬ V.int (((n :: r).length:Nat):Int)=V.int 0 from λ z=>by injection z with z;rw [W0] at z;omega)];refine iteF ⟨_,rfl,_,rfl,.inr (.inl ⟨t,_,rfl,sq,?_,λ p1 hp1=>?_⟩)⟩
   ·intro z;have:HT.sIx (n :: r).length 0 (some 1)=1:=by rw [W0];simp [HT.sIx]
    omega
   ·have s1:=Same.upd (o:=.tup (cutV (n :: r) (some 1) none)) hp1;have ec:cutV (n :: r) (some 1) none=r:=by unfold cutV;simp [HT.sIx]
    refine ⟨_,rfl,.inr (.inl ⟨t,_,0,n,rfl,rfl,s1.seqT sq,z04 (j:=0) rfl,(show (2:Nat)<=sizeLine by decide),λ p2 hp2=>?_⟩)⟩;refine q1 n r rfl p2 p1 _ (s1.trans (Same.upd hp2)) upd_same ((Same.upd hp2).seqT (SqT.of ?_));rw [upd_same,ec]
theorem dec_i0 (i j:Int):decide (V.int i=V.int j)=decide (i=j):=by simp
theorem zcb {q:Int->Bool} :∀(ns:List Int) (ys:List V),All2 (λ (i:Nat) y=>ns[i]?.map V.int=some y) ((W1 ns.length).filter λ i=>(ns[i]?.map q).getD false) ys->ys=(ns.filter q).map V.int
 | [],ys,h=>by cases h;rfl
 | n :: ns,ys,h=>by
  have un :∀{is:List Nat} {ys:List V},All2 (λ (i:Nat) y=>(n :: ns)[i]?.map V.int=some y) (is.map Nat.succ) ys->All2 (λ (i:Nat) y=>ns[i]?.map V.int=some y) is ys:=λ {is}=>by
   induction is with
   | nil=>intro ys h;cases h;exact .nil
   | cons i is ih=>intro ys h;cases h with|cons a r=>exact .cons a (ih r)
  rw [W0,List.range_succ_eq_map,O4,List.filter_map] at h;rw [O4];by_cases z:q n=true
  ·rw [if_pos (show (j0i q (n :: ns)[0]?).getD false=true from z)] at h;rw [if_pos z,v1];cases h with
   | cons a r=>rw [<-zcb ns _ (un r),<-U1 a]
  ·rw [if_neg (show ¬ (j0i q (n :: ns)[0]?).getD false=true from z)] at h;rw [if_neg z];exact zcb ns _ (un h)
def z1r (K:b0):Sp:=λ vs H Q _=>∃(t:Addr) (ns:List Int) (i:Int),vs=[.ref t,.int i]/\SqT K H t (ns.map V.int)/\ns.length < 63/\
 (i∈ns->∀p H',Same H H'->H' p=some (.tup [.ref t,.int 0])->Q (.ref p) H')/\(i∉ns->∀(p p':Addr) (ns':List Int) (H':Hp),Same H H'->H' p=some (.tup [.ref p',.int 1])->SqT K H' p' (ns'.map V.int)->ns'.Perm (ns++[i])->ns'.Pairwise (·<=·)->Q (.ref p) H')
theorem z6d (T:TX (KX w.params) mg):FnOk P w (KX w.params) mg base CX0 1 125 fd_put_into_set ["state","worth"] (z1r (KX w.params)):=by
 refine (z1u w.params).ok z6e (λ vs H Q E h=>?_) (λ cdv A outer s H vs Q E hr h=>?_)
 ·obtain ⟨t,ns,i,rfl,_⟩:=h;rfl
 ·obtain ⟨t,ns,i,rfl,sq,hl,q0,q1⟩:=h;refine ⟨_,(z02 (ps_if (z09 z1z (pv 1) (pv 0) (by with_unfolding_all rfl))
   (z05 (ps_ret (pe_tup (z00 (pv 0) (z00 pe_int pa_nil)))))
   z0d)
   (z05 (ps_ret (pe_tup (z00 (z0h z0p rfl (T.no (z26 _)) S4 (z00 (z08 z69 rfl (T.no (z89 _)) j29 (z00 (pe_op op_catS (pv 0) (pe_tup (z00 (pv 1) pa_nil))) pa_nil)) pa_nil)) (z00 pe_int pa_nil)))))),?_⟩
  refine ⟨_,rfl,_,rfl,t,_,rfl,.inr sq,rfl,z2v ns,_,rfl,?_⟩;rw [if_neg U0,z49];by_cases hi:i∈ns
  ·rw [decide_eq_true hi];exact iteT ⟨_,rfl,(show (2:Nat)<=sizeLine by decide),λ p hp=>q0 hi p _ (Same.upd hp) upd_same⟩
  ·rw [decide_eq_false hi];refine iteF ⟨_,rfl,_,rfl,(show (1:Nat)<=sizeLine by decide),λ p1 hp1=>?_⟩;have s1:=Same.upd (o:=.tup [.int i]) hp1;refine ⟨t,p1,ns.map V.int,[.int i],rfl,rfl,s1.seqT sq,SqT.of upd_same,by simp,?_,λ p2 H2 s2 sq2=>?_⟩
   ·rw [D0];exact G0 (Nat.succ_le_of_lt (N1 hl)) (by decide)
   rw [show ns.map V.int++[V.int i]=(ns++[i]).map V.int by rw [L1];rfl] at sq2;refine ⟨p2,ns++[i],rfl,.inr sq2,by rw [K0];exact Nat.succ_lt_succ hl,λ l ns' hl' pm pw=>?_⟩;have s3:=Same.upd (o:=.lst (ns'.map V.int)) hl';refine ⟨l,_,rfl,.inl ⟨SqL.of upd_same,λ p4 hp4=>⟨(show (2:Nat)<=sizeLine by decide),λ p5 hp5=>?_⟩⟩⟩;exact q1 hi p5 p4 ns' _ ((((s1.trans s2).trans s3).trans (Same.upd hp4)).trans (Same.upd hp5)) upd_same (SqT.of ((Same.upd hp5) _ _ upd_same)) pm pw
def z1s (K:b0):Sp:=λ vs H Q _=>∃(t:Addr) (ns:List Int) (i:Int),vs=[.ref t,.int i]/\SqT K H t (ns.map V.int)/\ns.length < 64/\
 (i∉ns->∀p H',Same H H'->H' p=some (.tup [.ref t,.int 0])->Q (.ref p) H')/\(i∈ns->∀p p' H',Same H H'->H' p=some (.tup [.ref p',.int 1])->SqT K H' p' ((ns.filter λ j=>!decide (j=i)).map V.int)->Q (.ref p) H')
theorem z6b (T:TX (KX w.params) mg):FnOk P w (KX w.params) mg base CX0 1 130 fd_cut_from_set ["state","worth"] (z1s (KX w.params)):=by
 refine (z1x w.params).ok z6i (λ vs H Q E h=>?_) (λ cdv A outer s H vs Q E hr h=>?_)
 ·obtain ⟨t,ns,i,rfl,_⟩:=h;rfl
 ·obtain ⟨t,ns,i,rfl,sq,hl,q0,q1⟩:=h;refine ⟨_,(z02 (ps_if (z09 z3g (pv 1) (pv 0) (by with_unfolding_all rfl))
   (z05 (ps_ret (pe_tup (z00 (pv 0) (z00 pe_int pa_nil)))))
   z0d)
   (z05 (ps_ret (pe_tup (z00 (z0h z0p rfl (T.no (z26 _)) S4 (z00 (z0s (xs:=["held"]) (g:=gName 0) (fr:=[(1,"worth")]) rfl (pi_tup (pv 0)) (by intro p hp;obtain rfl:=List.mem_singleton.mp hp;first|exact ⟨rfl,.inl rfl⟩|exact ⟨rfl,.inr rfl⟩) (z2i (n:="worth") (by decide +kernel) (λ _=>by first|exact .inl rfl|exact .inr rfl)) (by intro p hp;obtain rfl:=List.mem_singleton.mp hp;exact ⟨by decide +kernel,by first|exact .inl rfl|exact .inr rfl⟩) (by decide +kernel) rfl (by decide +kernel) (λ _ _ _ _ _=>(z0j (N:=["held","worth"]) 0 (by decide +kernel) rfl rfl)) (λ _ _ _ _ _=>(pf_one (z09 opNe (pv 0) (pv 1) (nomark _)))) (λ _ _ _ _ _=>(pv 0))) pa_nil)) (z00 pe_int pa_nil)))))),?_⟩
  refine ⟨_,rfl,_,rfl,t,_,rfl,.inr sq,rfl,z2v ns,_,rfl,?_⟩;rw [if_pos rfl,z49];by_cases hi:i∈ns
  ·rw [decide_eq_true hi];refine iteF ?_;have zl:(ns.map V.int).length<=sizeLine:=by rw [D0];exact G0 (T3 hl) (by decide)
   refine t_next ?_;simp only [tRet,tTup,tCB,tCons,tNil];refine z1o (K:=KX w.params) (a:=t) (xs:=ns.map V.int) (H1:=H) (λ j=>(ns[j]?.map λ n=>!decide (n=i)).getD false) (λ j y _=>ns[j]?.map V.int=some y) (λ _ _ _ _ _ z=>z) (λ R h=>⟨_,rfl,h⟩) sq zl (λ j hj v H' s' hv KT KF k1 k2=>?_) λ l H' ys s' hl' al=>?_
   ·rw [V0] at hv;obtain ⟨n,hn,rfl⟩:=Option.map_eq_some_iff.mp hv;rw [hn] at k1 k2;refine ⟨[some (.int n)],rfl,rfl,_,rfl,_,rfl,rfl,_,rfl,?_⟩;rw [dec_i0];exact ite2 (λ z=>⟨_,rfl,k1 z _ _ (Same.refl _) rfl⟩) λ z=>k2 (Bool.eq_false_iff.mpr z) _ (Same.refl _)
   ·rw [D0] at al;rw [zcb ns ys al];have s3:=Same.upd (o:=.lst ((ns.filter λ j=>!decide (j=i)).map V.int)) hl';refine ⟨l,_,rfl,.inl ⟨SqL.of upd_same,λ p4 hp4=>⟨(show (2:Nat)<=sizeLine by decide),λ p5 hp5=>?_⟩⟩⟩;exact q1 hi p5 p4 _ (((s'.trans s3).trans (Same.upd hp4)).trans (Same.upd hp5)) upd_same (SqT.of ((Same.upd hp5) _ _ upd_same))
  ·rw [decide_eq_false hi];exact iteT ⟨_,rfl,(show (2:Nat)<=sizeLine by decide),λ p hp=>q0 hi p _ (Same.upd hp) upd_same⟩
def z29 (K:b0):Sp:=λ vs H Q _=>∃(t:Addr) (ns:List Int) (i:Int),vs=[.ref t,.int i]/\SqT K H t (ns.map V.int)/\∀p H',Same H H'->H' p=some (.tup [.ref t,.int (if i∈ns then 1 else 0)])->Q (.ref p) H'
theorem z9j (T:TX (KX w.params) mg):FnOk P w (KX w.params) mg base CX0 1 137 fd_has_in_set ["state","worth"] (z29 (KX w.params)):=by
 refine (z3e w.params).ok z8l (λ vs H Q E h=>?_) (λ cdv A outer s H vs Q E hr h=>?_)
 ·obtain ⟨t,ns,i,rfl,_⟩:=h;rfl
 ·obtain ⟨t,ns,i,rfl,sq,q⟩:=h;refine ⟨_,(z05 (ps_ret (pe_tup (z00 (pv 0) (z00 (zil (z09 z1z (pv 1) (pv 0) (by with_unfolding_all rfl)) pe_int pe_int) pa_nil))))),?_⟩;refine ⟨_,rfl,_,rfl,_,rfl,t,_,rfl,.inr sq,rfl,z2v ns,_,rfl,?_⟩;rw [if_neg U0,z49];by_cases hi:i∈ns
  ·rw [if_pos hi] at q;rw [decide_eq_true hi];exact iteT ⟨(show (2:Nat)<=sizeLine by decide),λ p hp=>q p _ (Same.upd hp) upd_same⟩
  ·rw [if_neg hi] at q;rw [decide_eq_false hi];exact iteF ⟨(show (2:Nat)<=sizeLine by decide),λ p hp=>q p _ (Same.upd hp) upd_same⟩
def doTb (K:b0) (f:Addr) (sp:Sp):Prop:=(f=90/\sp=z2d)\/(f=97/\sp=z1w)\/(f=104/\sp=z1j)\/(f=111/\sp=z2c K)\/(f=118/\sp=z28 K)\/(f=125/\sp=z1r K)\/(f=130/\sp=z1s K)\/(f=137/\sp=z29 K)\/(f=144/\sp=z2l K)
theorem cal_fn {x:Str} {ps:List Str} {k f:Nat} {sp:Sp} {K:b0} (c:Cal P w K mg base x ps k sp) (e:mg x=some (.ref f)) :∃fd ps,FnOk P w K mg base CX0 k f fd ps sp/\K3 K (.ref f)=true/\Binds K fd ps []:=by obtain ⟨f',fd,h1,h2,h3,h4⟩:=c.ex;rw [e] at h2;cases h2;exact ⟨fd,ps,h1,h3,h4⟩
def sp_do (K:b0):Sp:=λ vs H Q _=>∃(k v:Str) (st x:V) (f:Addr) (sp:Sp) (Tx:String),vs=[.str k,st,.str v,x]/\TagOf H x Tx/\Flat H x/\deedB H (.str k) (.str v) x=true/\kl_DOERS.lookup (k,v)=some (.ref f)/\doTb K f sp/\∀H',Same H H'->sp [st,x] H' Q E0
theorem ok_do (T:TX (KX w.params) mg) (c_is_deed:Cal P w (KX w.params) mg base "is_deed" ["kind","verb","worth"] 4 z8j) (c_read_state:Cal P w (KX w.params) mg base "read_state" ["state","worth"] 1 z2d) (c_write_state:Cal P w (KX w.params) mg base "write_state" ["state","worth"] 1 z1w) (c_add_to_number:Cal P w (KX w.params) mg base "add_to_number" ["state","worth"] 1 z1j) (c_put_behind:Cal P w (KX w.params) mg base "put_behind" ["state","worth"] 1 (z2c (KX w.params))) (c_take_first:Cal P w (KX w.params) mg base "take_first" ["state","worth"] 1 (z28 (KX w.params))) (c_put_into_set:Cal P w (KX w.params) mg base "put_into_set" ["state","worth"] 1 (z1r (KX w.params))) (c_cut_from_set:Cal P w (KX w.params) mg base "cut_from_set" ["state","worth"] 1 (z1s (KX w.params))) (c_has_in_set:Cal P w (KX w.params) mg base "has_in_set" ["state","worth"] 1 (z29 (KX w.params))) (c_swap_state:Cal P w (KX w.params) mg base "swap_state" ["state","worth"] 1 (z2l (KX w.params))):FnOk P w (KX w.params) mg base CX0 5 183 fd_do ["kind","state","verb","worth"] (sp_do (KX w.params)):=by
 refine (F_do w.params).ok sc_do (λ vs H Q E h=>?_) (λ cdv A outer s H vs Q E hr h=>?_)
 ·obtain ⟨k,v,st,x,f,sp,Tx,rfl,_⟩:=h;rfl
 ·obtain ⟨k,v,st,x,f,sp,Tx,rfl,tx,fl,hd,hl,ht,q⟩:=h;have G :∀f sp,doTb (KX w.params) f sp->∃k fd ps,FnOk P w (KX w.params) mg base CX0 k f fd ps sp/\Room k (A.deeper (U9 "do" (z07 st_do) s.heap.objs.size 183 cdv))/\K3 (KX w.params) (.ref f)=true/\Binds (KX w.params) fd ps []:=λ f sp z=>by
   rcases z with ⟨rfl,rfl⟩|⟨rfl,rfl⟩|⟨rfl,rfl⟩|⟨rfl,rfl⟩|⟨rfl,rfl⟩|⟨rfl,rfl⟩|⟨rfl,rfl⟩|⟨rfl,rfl⟩|⟨rfl,rfl⟩
   ·obtain ⟨fd,ps,h1,h2,h3⟩:=cal_fn c_read_state (T.of (z5z _));exact ⟨1,fd,ps,h1,hr.mono (by decide),h2,h3⟩
   ·obtain ⟨fd,ps,h1,h2,h3⟩:=cal_fn c_write_state (T.of (z4r _));exact ⟨1,fd,ps,h1,hr.mono (by decide),h2,h3⟩
   ·obtain ⟨fd,ps,h1,h2,h3⟩:=cal_fn c_add_to_number (T.of (z2z _));exact ⟨1,fd,ps,h1,hr.mono (by decide),h2,h3⟩
   ·obtain ⟨fd,ps,h1,h2,h3⟩:=cal_fn c_put_behind (T.of (z5k _));exact ⟨1,fd,ps,h1,hr.mono (by decide),h2,h3⟩
   ·obtain ⟨fd,ps,h1,h2,h3⟩:=cal_fn c_take_first (T.of (z59 _));exact ⟨1,fd,ps,h1,hr.mono (by decide),h2,h3⟩
   ·obtain ⟨fd,ps,h1,h2,h3⟩:=cal_fn c_put_into_set (T.of (z3v _));exact ⟨1,fd,ps,h1,hr.mono (by decide),h2,h3⟩
   ·obtain ⟨fd,ps,h1,h2,h3⟩:=cal_fn c_cut_from_set (T.of (z3q _));exact ⟨1,fd,ps,h1,hr.mono (by decide),h2,h3⟩
   ·obtain ⟨fd,ps,h1,h2,h3⟩:=cal_fn c_has_in_set (T.of (z5h _));exact ⟨1,fd,ps,h1,hr.mono (by decide),h2,h3⟩
   ·obtain ⟨fd,ps,h1,h2,h3⟩:=cal_fn c_swap_state (T.of (z5d _));exact ⟨1,fd,ps,h1,hr.mono (by decide),h2,h3⟩
  refine ⟨_,(z02 (ps_if (pt_not (pt_val (pe_cal c_is_deed (hr.mono (by first|decide|omega)) rfl (z00 (pv 0) (z00 (pv 2) (z00 (pv 3) pa_nil)))) (λ _=>rfl)))
   (z05 za2)
   z0d)
   (z02 (ps_set (i:=4) sc_do.nd rfl (by first|exact Y0 rfl|exact X0 rfl) (pe_ix (ix_kdt (hu_of hr) (zei _)) (z5w (v:=.ref 145) rfl (T.of (zi0 _)) rfl) (pe_tup (z00 (pv 0) (z00 (pv 2) pa_nil))) (λ _ _=>rfl)))
   (z05 (ps_ret (zjd (doTb (KX w.params)) (i:=4) rfl (by first|exact Y0 rfl|exact X0 (Y0 rfl)) G (z00 (pv 1) (z00 (pv 3) pa_nil))))))),?_⟩
  refine ⟨_,rfl,_,rfl,_,rfl,.str k,.str v,x,"str","str",Tx,rfl,rfl,rfl,tx,fl,λ H1 s1=>⟨_,rfl,?_⟩⟩;rw [hd];refine iteF ?_;refine ⟨_,rfl,_,rfl,(show (2:Nat)<=sizeLine by decide),λ p hp=>⟨p,k,v,.ref f,rfl,rfl,upd_same,hl,?_⟩⟩;exact ⟨f,sp,rfl,ht,_,rfl,_,rfl,q _ (s1.trans (Same.upd hp))⟩
def z3y:Sp:=λ vs H Q _=>∃(k:Str) (v:V),vs=[.str k]/\kl_FIRST_STATES.lookup k=some v/\Q v H
theorem z87 (T:TX (KX w.params) mg) (c_is_kind:Cal P w (KX w.params) mg base "is_kind" ["kind"] 1 z55):FnOk P w (KX w.params) mg base CX0 2 171 fd_first_state ["kind"] z3y:=by
 refine (z2k w.params).ok z7s (λ vs H Q E h=>?_) (λ cdv A outer s H vs Q E hr h=>?_)
 ·obtain ⟨k,v,rfl,_⟩:=h;rfl
 ·obtain ⟨k,v,rfl,hl,q⟩:=h;refine ⟨_,(z02 (ps_if (pt_not (pt_val (pe_cal c_is_kind (hr.mono (by first|decide|omega)) rfl (z00 (pv 0) pa_nil)) (λ _=>rfl)))
   (z05 za2)
   z0d)
   (z05 (ps_ret (pe_ix (ix_kd (z30 _)) (z5w (v:=.ref 80) rfl (T.of (z3p _)) rfl) (pv 0) (λ _ _=>rfl))))),?_⟩
  refine ⟨_,rfl,.str k,"str",rfl,rfl,_,rfl,?_⟩;have e:kindB (.str k)=true:=by unfold kindB;dsimp only;rw [hl];rfl
  rw [e];exact iteF ⟨_,rfl,k,v,rfl,rfl,hl,q⟩
inductive Ev
 | beg (h:Int) (n v x:V)
 | fin (h:Int) (a:V)
noncomputable def EvAt (K:b0) (H:Hp):Ev->V->Prop
 | .beg h n v x,y=>∃p,y=.ref p/\SqT K H p [.str "begin",.int h,n,v,x]
 | .fin h a,y=>∃p,y=.ref p/\SqT K H p [.str "end",.int h,a]
structure Rc where
 h:Int
 n:V
 v:V
 x:V
 a:V
 b:Nat
 e:Option Nat
noncomputable def endV:Option Nat->V
 | none=>.non
 | some i=>.int i
def RcAt (K:b0) (H:Hp) (r:Rc) (y:V):Prop:=∃p,y=.ref p/\SqT K H p [.int r.h,r.n,r.v,r.x,r.a,.int r.b,endV r.e]
def Tups (K:b0) (H H':Hp):Prop:=∀a xs,SqT K H a xs->SqT K H' a xs
theorem Tups.of {K:b0} {H H':Hp} (s:Same H H'):Tups K H H':=λ _ _ q=>s.seqT q
theorem Tups.trans {K:b0} {H H1 H2:Hp} (a:Tups K H H1) (b:Tups K H1 H2):Tups K H H2:=λ _ _ q=>b _ _ (a _ _ q)
theorem Tups.lst {K:b0} {H:Hp} {l:Addr} {o:HO} {zs:List V} (e:H l=some (.lst zs)):Tups K H (upd H l o):=λ _ _ q=>q.wrote e
theorem Tups.dict {K:b0} {H:Hp} {l:Addr} {o:HO} {kvs:List (Key×V)} (e:H l=some (.dK kvs)):Tups K H (upd H l o):=λ a xs h=>by
 rcases h with (h|⟨ob,h⟩)|h
 ·exact .inl (.inl (by rw [upd_ne (ne_of h e (by intro z;cases z))];exact h))
 ·exact .inl (.inr ⟨ob,by rw [upd_ne (ne_of h e (by intro z;cases z))];exact h⟩)
 ·exact .inr h
theorem zc2 {n j:Nat} (h:j < n):ixN n (j:Nat)=some j:=by unfold ixN;rw [if_pos (by omega),if_pos (by omega)];rfl
theorem Same.keep {H H':Hp} {l:Addr} {o:HO} (s:Same H H') (n:H l=none):Same H (upd H' l o):=λ a x e=>by rw [upd_ne (z0b e n)];exact s a x e
theorem z1y {α β:Type} {R:α->β->Prop} {x:α} {y:β} :∀{xs:List α} {ys:List β},All2 R xs ys->R x y->All2 R (xs++[x]) (ys++[y])
 | _,_,.nil,h=>.cons h .nil
 | _,_,.cons a r,h=>.cons a (z1y r h)
theorem zin {κ:Type} [DecidableEq κ] {kvs:List (κ×V)} {k:κ} {v:V}:(putK kvs k v).length<=kvs.length + 1:=by
 unfold putK;by_cases z:(kvs.any λ kv=>decide (kv.1=k))=true
 ·rw [if_pos z,D0];omega
 ·rw [if_neg z,K0];exact F0 _
noncomputable def lastI (h:Int) (hs:List Int):Option Nat:=(hs.foldl (λ (acc:Nat×Option Nat) k=>(acc.1 + 1,if k=h then some acc.1 else acc.2)) (0,none)).2
theorem lastF (h:Int) :∀hs:List Int,(hs.foldl (λ (acc:Nat×Option Nat) k=>(acc.1 + 1,if k=h then some acc.1 else acc.2)) (0,none)).1=hs.length:=by
 have go :∀(hs:List Int) (a:Nat×Option Nat),(hs.foldl (λ (acc:Nat×Option Nat) k=>(acc.1 + 1,if k=h then some acc.1 else acc.2)) a).1=a.1 + hs.length:=by
  intro hs;induction hs with
  | nil=>intro a;rfl
  | cons k hs ih=>intro a;rw [i5,ih,W0];show a.1 + 1 + hs.length=_;omega
 intro hs;rw [go hs (0,none)];simp
theorem z3o (h k:Int) (hs:List Int):lastI h (hs++[k])=if k=h then some hs.length else lastI h hs:=by unfold lastI;rw [G4];show (if k=h then some _ else _)=_;rw [lastF]
theorem z7h {h:Int} {hs:List Int} {j:Nat} (e:lastI h hs=some j):j < hs.length:=by
 have go :∀(hs:List Int) (a:Nat×Option Nat),(∀j,a.2=some j->j < a.1)->∀j,(hs.foldl (λ (acc:Nat×Option Nat) k=>(acc.1 + 1,if k=h then some acc.1 else acc.2)) a).2=some j->j < a.1 + hs.length:=by
  intro hs;induction hs with
  | nil=>intro a ha j e;exact ha j e
  | cons k hs ih=>
   intro a ha j e;rw [i5] at e;have:=ih (a.1 + 1,if k=h then some a.1 else a.2) (λ j e=>by
    dsimp only at e⊢;by_cases z:k=h
    ·rw [if_pos z] at e;cases e;omega
    ·rw [if_neg z] at e;have:=ha j e;omega) j e
   rw [W0];dsimp only at this;omega
 have:=go hs (0,none) (λ j e=>by cases e) j e;simpa using this
noncomputable def dstep (i:Nat) (rs:List Rc):Ev->List Rc
 | .beg h n v x=>rs++[⟨h,n,v,x,.non,i,none⟩]
 | .fin h a=>match lastI h (rs.map Rc.h) with|some j=>rs.modify j (λ r=>{ r with a:=a,e:=some i })|none=>rs
noncomputable def dAll:Nat->List Rc->List Ev->List Rc
 | _,rs,[]=>rs
 | i,rs,e :: es=>dAll (i + 1) (dstep i rs e) es
noncomputable def dWf:Nat->List Rc->List Ev->Prop
 | _,_,[]=>True
 | i,rs,e :: es=>(∀h a,e=.fin h a->(lastI h (rs.map Rc.h)).isSome=true)/\dWf (i + 1) (dstep i rs e) es
theorem RcAt.tups {K:b0} {H H':Hp} {r:Rc} {y:V} (t:Tups K H H') (h:RcAt K H r y):RcAt K H' r y:=h.elim λ p z=>⟨p,z.1,t _ _ z.2⟩
theorem EvAt.tups {K:b0} {H H':Hp} (t:Tups K H H') :∀{e:Ev} {y:V},EvAt K H e y->EvAt K H' e y
 | .beg h n v x,_,z=>z.elim λ p z=>⟨p,z.1,t _ _ z.2⟩
 | .fin h a,_,z=>z.elim λ p z=>⟨p,z.1,t _ _ z.2⟩
theorem z6p {α β:Type} {R:α->β->Prop} {f:α->α} {y:β} :∀{xs:List α} {ys:List β} {j:Nat} {x:α},All2 R xs ys->xs[j]? = some x->R (f x) y->All2 R (xs.modify j f) (ys.set j y)
 | _,_,_,_,.nil,e,_=>by simp at e
 | _,_,0,x,.cons a r,e,h=>by rw [X3] at e;cases e;exact .cons h r
 | _,_,j + 1,x,.cons a r,e,h=>by rw [Z2] at e;exact .cons a (z6p r e h)
theorem z18 {α β:Type} {R:α->β->Prop} :∀{xs:List α} {ys:List β} {i:Nat} {x:α},All2 R xs ys->xs[i]? = some x->∃y,ys[i]? = some y/\R x y
 | _,_,i,x,.nil,e=>by simp at e
 | _,_,0,x,.cons a _,e=>by rw [X3] at e;cases e;exact ⟨_,X3,a⟩
 | _,_,i + 1,x,.cons _ r,e=>by rw [Z2] at e;obtain ⟨y,h1,h2⟩:=z18 r e;exact ⟨y,by rw [Z2];exact h1,h2⟩
def zb5 (K:b0):Sp:=λ vs H Q _=>∃(t te:Addr) (th:V) (ys:List V) (es:List Ev),vs=[.ref t]/\SqT K H t [th,.ref te]/\SqT K H te ys/\All2 (EvAt K H) es ys/\es.length<=100/\dWf 0 [] es/\
 ∀l zs H',Same H H'->H l=none->H' l=some (.lst zs)->All2 (RcAt K H') (dAll 0 [] es) zs->Q (.ref l) H'
theorem zix (T:TX (KX w.params) mg):FnOk P w (KX w.params) mg base CX0 1 190 fd_deeds ["tale"] (zb5 (KX w.params)):=by
 refine (zev w.params).ok sc_deeds (λ vs H Q E h=>?_) (λ cdv A outer s H vs Q E hr h=>?_)
 ·obtain ⟨t,te,th,ys,es,rfl,_⟩:=h;rfl
 ·obtain ⟨t,te,th,ys,es,rfl,st,se,al,hl,wf,q⟩:=h;refine ⟨_,(z02 (ps_set (i:=1) sc_deeds.nd rfl (by first|exact Y0 rfl|exact X0 rfl) (pe_lst pa_nil))
   (z02 (ps_set (i:=2) sc_deeds.nd rfl (by first|exact Y0 rfl|exact X0 rfl) z5m)
   (z02 (ps_for D2 rfl (zj5 rfl (T.no (z1f _)) (z00 (pe_ix ix_seq (pv 0) pe_int (λ _ _=>rfl)) pa_nil)) (pg_tup rfl (z0a (z0l (i:=3) sc_deeds.nd rfl (by first|exact Y0 rfl|exact X0 rfl)) (z0a (z0l (i:=4) sc_deeds.nd rfl (by first|exact Y0 rfl|exact X0 rfl)) z12)))
   (z05 (ps_if (z09 opEq (pe_ix ix_seq (pv 4) pe_int (λ _ _=>rfl)) pe_str (nomark _))
   (z02 (z97 (hu_of hr) (pv 2) (pe_ix ix_seq (pv 4) pe_int (λ _ _=>rfl)) (z08 z0w rfl (T.no (n_len _)) W2 (z00 (pv 1) pa_nil)) rfl)
   (z05 (z1c (z1d (pv 1) (z00 (pe_op opAdd (z27 slSeq (pv 4) (z2t pe_int) z62) (pe_tup (z00 pe_non (z00 (pv 3) (z00 pe_non pa_nil))))) pa_nil)))))
   (z02 (ps_set (i:=5) sc_deeds.nd rfl (by first|exact Y0 rfl|exact X0 rfl) (z24 (hu_of hr) (pv 2) (pe_ix ix_seq (pv 4) pe_int (λ _ _=>rfl)) (λ _ _=>rfl)))
   (z02 (ps_set (i:=6) sc_deeds.nd rfl (by first|exact Y0 rfl|exact X0 rfl) (pe_ix ix_seq (pv 1) (pv 5) (λ _ _=>rfl)))
   (z05 (ps_asg (pe_op opAdd (z27 slSeq (pv 6) z62 (z2t pe_int)) (pe_tup (z00 (pe_ix ix_seq (pv 4) pe_int (λ _ _=>rfl)) (z00 (pe_ix ix_seq (pv 6) pe_int (λ _ _=>rfl)) (z00 (pv 3) pa_nil))))) (pg_sub (pv 1) (pv 5) z2a))))))))
   (z05 (ps_ret (pv 1)))))),?_⟩
  refine ⟨(show (0:Nat)<=sizeLine by decide),λ l hl0=>?_⟩;intro d hd0;have nld:l≠d:=z0b upd_same hd0;have s0:upd H l (.lst []) d=none->H d=none:=λ z=>by rwa [upd_ne nld.symm] at z
  have s2:Same H (upd (upd H l (.lst [])) d (.dK [])):=(Same.upd hl0).trans (Same.upd hd0);have e1:upd (upd H l (.lst [])) d (.dK []) l=some (.lst []):=by rw [upd_ne nld];exact upd_same
  have e2:upd (upd H l (.lst [])) d (.dK []) d=some (.dK []):=upd_same;generalize upd (upd H l (.lst [])) d (.dK [])=H2 at s2 e1 e2⊢;have len:=z03 al;refine ⟨_,rfl,.inr (.inl ⟨t,_,1,.ref te,rfl,rfl,s2.seqT st,z04 (j:=1) rfl,te,ys,rfl,s2.seqT se,?_⟩)⟩;refine zh4 (K:=KX w.params) (a:=te) (xs:=ys) (λ i σ H'=>∃rs zs kvs,H' l=some (.lst zs)/\All2 (RcAt (KX w.params) H') rs zs/\H' d=some (.dK kvs)/\kvs.length<=i/\rs.length<=i/\(∀h,valV kvs (.inl h)=(lastI h (rs.map Rc.h)).map λ j=>V.int (j:Nat))/\dAll i rs (es.drop i)=dAll 0 [] es/\dWf i rs (es.drop i)/\Same H H'/\∃x3 x4 x5 x6,σ=[some (.ref t),some (.ref l),some (.ref d),x3,x4,x5,x6])
   ⟨[],[],[],e1,.nil,e2,F0 _,F0 _,λ h=>rfl,by rw [P4],by rw [P4];exact wf,s2,_,_,_,_,rfl⟩ (λ i σ H' h=>?_) ?_ ?_
  ·obtain ⟨rs,zs,kvs,_,_,_,_,_,_,_,_,s',_⟩:=h;exact s'.seqT se
  ·rintro i y σ H3 p hy ⟨rs,zs,kvs,el,ar,ed,hk,hr',hv,da,dw,s3,x3,x4,x5,x6,rfl⟩ hp;obtain ⟨e,he,ev⟩:=z0g al hy;obtain ⟨hi,ee⟩:=List.getElem?_eq_some_iff.mp he;have dr:es.drop i=e :: es.drop (i + 1):=by rw [j25 hi,ee]
   rw [dr] at da dw;have s4:=s3.trans (Same.upd (o:=.tup [.int i,y]) hp);have el4:=(Same.upd (o:=.tup [.int i,y]) hp) _ _ el;have ed4:=(Same.upd (o:=.tup [.int i,y]) hp) _ _ ed;have ar4:=z01 (λ a b z=>RcAt.tups (.of (Same.upd (o:=.tup [.int i,y]) hp)) z) ar;have ep4:upd H3 p (.tup [.int i,y]) p=some (.tup [.int i,y]):=upd_same;generalize upd H3 p (.tup [.int i,y])=H4 at s4 el4 ed4 ar4 ep4⊢;have ev4:=EvAt.tups (.of s4) ev;refine ⟨p,_,rfl,SqT.of ep4,rfl,.int i,_,rfl,y,_,rfl,rfl,?_⟩;have lz:zs.length=rs.length:=z03 ar4;have hz0:100<=sizeLine:=by decide
   have few:i < 100:=J1 hi hl;cases e with
   | beg h n v x=>
    obtain ⟨py,rfl,sy⟩:=ev4;refine ⟨_,rfl,.inr (.inl ⟨py,_,0,.str "begin",rfl,rfl,sy,z04 (j:=0) rfl,rfl,_,rfl,iteP (decide_eq_true rfl) ?_⟩)⟩;refine ⟨_,rfl,.inl ⟨l,zs,rfl,.inl (SqL.of el4),⟨_,rfl,⟨_,rfl,.inr (.inl ⟨py,_,1,.int h,rfl,rfl,sy,z04 (j:=1) rfl,d,_,rfl,DPut.k (k:=.inl h) ed4 (C1 hk (J1 few hz0)),?_⟩)⟩⟩⟩⟩;have nhd:H d=none:=s0 hd0;have t5:Tups (KX w.params) H4 (upd H4 d (.dK (putK kvs (.inl h) (.int (zs.length:Nat))))):=Tups.dict ed4;have s5:=Same.keep (o:=.dK (putK kvs (.inl h) (.int (zs.length:Nat)))) s4 nhd;have el5:upd H4 d (.dK (putK kvs (.inl h) (.int (zs.length:Nat)))) l=some (.lst zs):=by rw [upd_ne nld];exact el4
    have ed5:upd H4 d (.dK (putK kvs (.inl h) (.int (zs.length:Nat)))) d=some (.dK (putK kvs (.inl h) (.int (zs.length:Nat)))):=upd_same;generalize upd H4 d (.dK (putK kvs (.inl h) (.int (zs.length:Nat))))=H5 at t5 s5 el5 ed5⊢;have sy5:=t5 _ _ sy;have ar5:=z01 (λ a b z=>RcAt.tups t5 z) ar4;refine ⟨_,rfl,.inl ⟨rfl,zs,SqL.of el5⟩,⟨_,rfl,1,rfl,.inr (.inl ⟨py,_,rfl,sy5,λ z=>absurd z.1 (show ¬ HT.sIx 5 0 (some 1)=0 by decide),λ p1 hp1=>?_⟩)⟩⟩;have c1:cutV [V.str "begin",.int h,n,v,x] (some 1) none=[.int h,n,v,x]:=rfl;rw [c1];refine ⟨_,rfl,show (3:Nat)<=sizeLine by decide,λ p2 hp2=>.inr (.inr (.inr ⟨p1,p2,_,_,rfl,rfl,(Same.upd hp2).seqT (SqT.of upd_same),SqT.of upd_same,by simp,(show (7:Nat)<=sizeLine by decide),λ z=>(by cases z),λ _ p3 hp3=>?_⟩))⟩;have s6:Same H5 (upd (upd (upd H5 p1 (.tup [.int h,n,v,x])) p2 (.tup [.non,.int i,.non])) p3 (.tup ([.int h,n,v,x]++[.non,.int i,.non]))):=((Same.upd hp1).trans (Same.upd hp2)).trans (Same.upd hp3);have e3:upd (upd (upd H5 p1 (.tup [.int h,n,v,x])) p2 (.tup [.non,.int i,.non])) p3 (.tup ([.int h,n,v,x]++[.non,.int i,.non])) p3=some (.tup ([.int h,n,v,x]++[.non,.int i,.non])):=upd_same;generalize upd (upd (upd H5 p1 (.tup [.int h,n,v,x])) p2 (.tup [.non,.int i,.non])) p3 (.tup ([.int h,n,v,x]++[.non,.int i,.non]))=H6 at s6 e3⊢;have el6:=s6 _ _ el5;have ed6:=s6 _ _ ed5;have ar6:=z01 (λ a b z=>RcAt.tups (.of s6) z) ar5;have t7:Tups (KX w.params) H6 (upd H6 l (.lst (zs++[.ref p3]))):=Tups.lst el6;refine ⟨l,zs,_,rfl,rfl,el6,C1 (G0 (J8 lz) hr') (J1 few hz0),?_⟩;refine ⟨rs++[⟨h,n,v,x,.non,i,none⟩],zs++[.ref p3],putK kvs (.inl h) (.int (zs.length:Nat)),upd_same,?_,?_,?_,?_,?_,(show dAll (i + 1) (dstep i rs (.beg h n v x)) _=_ from da),dw.2,Same.keep (s5.trans s6) hl0,_,_,_,_,rfl⟩
    ·exact z1y (z01 (λ a b z=>RcAt.tups t7 z) ar6) ⟨p3,rfl,t7 _ _ (SqT.of e3)⟩
    ·rw [upd_ne nld.symm];exact ed6
    ·exact G0 zin (by omega)
    ·rw [K0];show rs.length + 1<=i + 1;omega
    ·intro k;rw [z1a,L1];show _=j0i _ (lastI k (rs.map Rc.h++[h]));rw [z3o,hv k,D0,lz];by_cases z:h=k
     ·rw [if_pos z,if_pos (by rw [z])];rfl
     ·rw [if_neg z,if_neg (λ y=>z (M3 y).symm)]
   | fin h a=>
    obtain ⟨py,rfl,sy⟩:=ev4;obtain ⟨j,hj⟩:=Option.isSome_iff_exists.mp (dw.1 h a rfl);have hvj:valV kvs (.inl h)=some (.int (j:Nat)):=by rw [hv h,hj];rfl
    have hjl:j < rs.length:=by have:=z7h hj;rwa [D0] at this
    have hrj:rs[j]? = some rs[j]:=J0 hjl;obtain ⟨yj,hyj,pj,rfl,sj⟩:=z18 ar4 hrj;have dgj:DGet H4 d (.int h) (some (.int (j:Nat))):=hvj ▸ DGet.k (k:=.inl h) ed4;refine ⟨_,rfl,.inr (.inl ⟨py,_,0,.str "end",rfl,rfl,sy,z04 (j:=0) rfl,rfl,_,rfl,iteN (by decide +kernel) ?_⟩)⟩;refine ⟨_,rfl,⟨_,rfl,.inr (.inl ⟨py,_,1,.int h,rfl,rfl,sy,z04 (j:=1) rfl,d,_,rfl,dgj,?_⟩)⟩⟩;refine ⟨_,rfl,_,rfl,.inl ⟨l,zs,j,.ref pj,rfl,rfl,SqL.of el4,z04 hyj,?_⟩⟩;refine ⟨_,rfl,4,rfl,.inr (.inl ⟨pj,_,rfl,sj,λ z=>absurd z.2 (show ¬ HT.sIx 7 7 (some 4)=7 by decide),λ p1 hp1=>?_⟩)⟩;have c1:cutV [.int rs[j].h,rs[j].n,rs[j].v,rs[j].x,rs[j].a,.int rs[j].b,endV rs[j].e] none (some 4)=[.int rs[j].h,rs[j].n,rs[j].v,rs[j].x]:=rfl;rw [c1];refine ⟨_,rfl,.inr (.inl ⟨py,_,2,a,rfl,rfl,(Same.upd hp1).seqT sy,z04 (j:=2) rfl,?_⟩)⟩;refine ⟨_,rfl,.inr (.inl ⟨pj,_,5,.int rs[j].b,rfl,rfl,(Same.upd hp1).seqT sj,z04 (j:=5) rfl,?_⟩)⟩;refine ⟨_,rfl,show (3:Nat)<=sizeLine by decide,λ p2 hp2=>.inr (.inr (.inr ⟨p1,p2,_,_,rfl,rfl,(Same.upd hp2).seqT (SqT.of upd_same),SqT.of upd_same,by simp,(show (7:Nat)<=sizeLine by decide),λ z=>(by cases z),λ _ p3 hp3=>?_⟩))⟩;have s6:Same H4 _:=((Same.upd hp1).trans (Same.upd hp2)).trans (Same.upd (o:=.tup ([.int rs[j].h,rs[j].n,rs[j].v,rs[j].x]++[a,.int rs[j].b,.int (i:Nat)])) hp3);have e3:upd (upd (upd H4 p1 (.tup [.int rs[j].h,rs[j].n,rs[j].v,rs[j].x])) p2 (.tup [a,.int rs[j].b,.int (i:Nat)])) p3 (.tup ([.int rs[j].h,rs[j].n,rs[j].v,rs[j].x]++[a,.int rs[j].b,.int (i:Nat)])) p3=some (.tup ([.int rs[j].h,rs[j].n,rs[j].v,rs[j].x]++[a,.int rs[j].b,.int (i:Nat)])):=upd_same;generalize upd (upd (upd H4 p1 (.tup [.int rs[j].h,rs[j].n,rs[j].v,rs[j].x])) p2 (.tup [a,.int rs[j].b,.int (i:Nat)])) p3 (.tup ([.int rs[j].h,rs[j].n,rs[j].v,rs[j].x]++[a,.int rs[j].b,.int (i:Nat)]))=H6 at s6 e3⊢;have el6:=s6 _ _ el4;have ed6:=s6 _ _ ed4;have ar6:=z01 (λ a b z=>RcAt.tups (.of s6) z) ar4;have t7:Tups (KX w.params) H6 (upd H6 l (.lst (zs.set j (.ref p3)))):=Tups.lst el6;refine ⟨_,rfl,_,rfl,l,zs,j,j,rfl,rfl,el6,zc2 (show j < zs.length by rw [lz];exact hjl),?_⟩;have dd:dstep i rs (.fin h a)=rs.modify j (λ r=>{ r with a:=a,e:=some i }):=by unfold dstep;dsimp only;rw [hj]
    have da2:dAll (i + 1) (dstep i rs (.fin h a)) (List.drop (i + 1) es)=_:=da;have dw2:=dw.2;rw [dd] at da2 dw2;have mh:(rs.modify j (λ r=>{ r with a:=a,e:=some i })).map Rc.h=rs.map Rc.h:=by
     apply J4;intro m;rw [V0,V0,U5];cases rs[m]? with
     | none=>rfl
     | some r=>
      show some (if j=m then _ else r).h=some r.h;by_cases z:j=m
      ·rw [if_pos z]
      ·rw [if_neg z]
    refine ⟨_,zs.set j (.ref p3),kvs,upd_same,?_,?_,?_,?_,?_,da2,dw2,Same.keep (s4.trans s6) hl0,_,_,_,_,rfl⟩
    ·exact z6p (z01 (λ a b z=>RcAt.tups t7 z) ar6) hrj ⟨p3,rfl,t7 _ _ (SqT.of e3)⟩
    ·rw [upd_ne nld.symm];exact ed6
    ·omega
    ·rw [K7];omega
    ·intro k;rw [mh];exact hv k
  ·rintro σ H3 ⟨rs,zs,kvs,el,ar,ed,hk,hr',hv,da,dw,s3,x3,x4,x5,x6,rfl⟩;have:es.drop ys.length=[]:=by rw [len];exact List.drop_length
   rw [this] at da;have da:rs=dAll 0 [] es:=da;rw [<-da] at q;exact ⟨_,rfl,q l zs H3 s3 hl0 el ar⟩
noncomputable def z0u:Nat->Str
 | 0=>"strict"
 | 1=>"hands"
 | _=>"bare"
noncomputable def ltO:Option Nat->Nat->Bool
 | some a,b=>decide (a < b)
 | none,_=>false
noncomputable def aheadB:Nat->Rc->Rc->Bool
 | 0,r,q=>ltO r.e q.b
 | 1,r,q=>decide (r.h=q.h) && decide (r.b < q.b)
 | _,_,_=>false
theorem dec_lt (a b:Nat):decide ((a:Int) < (b:Int))=decide (a < b):=decide_eq_decide.mpr (by omega)
theorem dec_iI (a b:Int):decide (V.int a=V.int b)=decide (a=b):=decide_eq_decide.mpr ⟨λ e=>by cases e;rfl,λ e=>by rw [e]⟩
def z4k (K:b0):Sp:=λ vs H Q _=>∃(x y:V) (r q:Rc) (m:Nat),vs=[x,y,.str (z0u m)]/\RcAt K H r x/\RcAt K H q y/\Q (.bl (aheadB m r q)) H
theorem z91 (T:TX (KX w.params) mg):FnOk P w (KX w.params) mg base CX0 1 212 fd_goes_ahead ["one","other","strictness"] (z4k (KX w.params)):=by
 refine (z3i w.params).ok z9n (λ vs H Q E h=>?_) (λ cdv A outer s H vs Q E hr h=>?_)
 ·obtain ⟨x,y,r,q,m,rfl,_⟩:=h;rfl
 ·obtain ⟨x,y,r,q,m,rfl,⟨px,rfl,sx⟩,⟨py,rfl,sy⟩,h⟩:=h;refine ⟨_,(z02 (ps_if (z09 opEq (pv 2) pe_str (nomark _))
   (z05 (ps_ret (pe_and (z0o z8n (pe_ix ix_seq (pv 0) pe_int (λ _ _=>rfl)) pe_non (nomark _)) (pe_one (z0o op_lt (pe_ix ix_seq (pv 0) pe_int (λ _ _=>rfl)) (pe_ix ix_seq (pv 1) pe_int (λ _ _=>rfl)) (nomark _))))))
   z0d)
   (z02 (ps_if (z09 opEq (pv 2) pe_str (nomark _))
   (z05 (ps_ret (pe_and (z0o opEq (pe_ix ix_seq (pv 0) pe_int (λ _ _=>rfl)) (pe_ix ix_seq (pv 1) pe_int (λ _ _=>rfl)) (nomark _)) (pe_one (z0o op_lt (pe_ix ix_seq (pv 0) pe_int (λ _ _=>rfl)) (pe_ix ix_seq (pv 1) pe_int (λ _ _=>rfl)) (nomark _))))))
   z0d)
   (z05 (ps_ret pe_bl)))),?_⟩
  match m,h with
  | 0,h=>
   refine ⟨_,rfl,rfl,_,rfl,iteP (decide_eq_true rfl) ?_⟩;refine ⟨_,rfl,.inr (.inl ⟨px,_,6,endV r.e,rfl,rfl,sx,z04 (j:=6) rfl,rfl,_,rfl,?_⟩)⟩;cases re:r.e with
   | none=>
    refine iteN (by show ¬ (!decide (V.non=V.non))=true;decide) ?_;have:aheadB 0 r q=false:=by show ltO r.e q.b=_;rw [re];rfl
    rw [this] at h;exact h
   | some b=>
    refine iteP rfl ?_;refine ⟨_,rfl,.inr (.inl ⟨px,_,6,.int (b:Nat),rfl,rfl,sx,z04 (j:=6) (by rw [re];rfl),?_⟩)⟩;refine ⟨_,rfl,.inr (.inl ⟨py,_,5,.int (q.b:Nat),rfl,rfl,sy,z04 (j:=5) rfl,b,q.b,rfl,rfl,?_⟩)⟩;have:aheadB 0 r q=decide (b < q.b):=by show ltO r.e q.b=_;rw [re];rfl
    rw [this,<-dec_lt] at h;exact h
  | 1,h=>
   refine ⟨_,rfl,rfl,_,rfl,iteN (by decide +kernel) ?_⟩;refine ⟨_,rfl,rfl,_,rfl,iteP (decide_eq_true rfl) ?_⟩;refine ⟨_,rfl,.inr (.inl ⟨px,_,0,.int r.h,rfl,rfl,sx,z04 (j:=0) rfl,?_⟩)⟩;refine ⟨_,rfl,.inr (.inl ⟨py,_,0,.int q.h,rfl,rfl,sy,z04 (j:=0) rfl,rfl,_,rfl,?_⟩)⟩;by_cases z:r.h=q.h
   ·refine iteP (decide_eq_true (by rw [z])) ?_;refine ⟨_,rfl,.inr (.inl ⟨px,_,5,.int (r.b:Nat),rfl,rfl,sx,z04 (j:=5) rfl,?_⟩)⟩;refine ⟨_,rfl,.inr (.inl ⟨py,_,5,.int (q.b:Nat),rfl,rfl,sy,z04 (j:=5) rfl,r.b,q.b,rfl,rfl,?_⟩)⟩;have:aheadB 1 r q=decide (r.b < q.b):=by show (decide (r.h=q.h) && _)=_;rw [decide_eq_true z];rfl
    rw [this,<-dec_lt] at h;exact h
   ·refine iteN (λ e=>z (V.int.inj (of_decide_eq_true e))) ?_;have:aheadB 1 r q=false:=by show (decide (r.h=q.h) && _)=_;rw [decide_eq_false z];rfl
    rw [this] at h;exact h
  | m + 2,h=>refine ⟨_,rfl,rfl,_,rfl,iteN (show ¬ decide (V.str "bare" = V.str "strict")=true by decide +kernel) ?_⟩;refine ⟨_,rfl,rfl,_,rfl,iteN (show ¬ decide (V.str "bare" = V.str "hands")=true by decide +kernel) ?_⟩;exact h
def z1l:Sp:=λ vs H Q _=>∃(m:Nat),vs=[.str (z0u m)]/\Q .non H
theorem zgt {H:Hp}:SqT (KX w.params) H 191 [.str "strict",.str "hands",.str "bare"]:=
 .inr ⟨⟨(.type "tuple"),none,(.seq #[(.str "strict" 493),(.str "hands" 494),(.str "bare" 495)] 0),#[]⟩,#[(.str "strict" 493),(.str "hands" 494),(.str "bare" 495)],0,by kernel_rfl,rfl,rfl,(show (3:Nat)<=sizeLine by decide),.cons ⟨_,rfl⟩ (.cons ⟨_,rfl⟩ (.cons ⟨_,rfl⟩ .nil))⟩
theorem z3s (T:TX (KX w.params) mg):FnOk P w (KX w.params) mg base CX0 1 205 fd_check_strictness ["strictness"] z1l:=by
 refine (z19 w.params).ok z3z (λ vs H Q E h=>?_) (λ cdv A outer s H vs Q E hr h=>?_)
 ·obtain ⟨m,rfl,_⟩:=h;rfl
 ·obtain ⟨m,rfl,h⟩:=h;refine ⟨_,(z05 (ps_if (PW.pt (pw_or (pt_not (pt_val (z08 z0i rfl (T.no (z0e _)) Z1 (z00 (pv 0) (z00 (z15 (v:=.ty "str") rfl (T.no (n_str _)) W9 rfl) pa_nil))) (λ _=>rfl))) (pw_or1 (z09 z3g (pv 0) (z5w (v:=.ref 191) rfl (T.of (z85 _)) rfl) (by with_unfolding_all rfl)))))
   (z05 za2)
   z0d)),?_⟩
  refine ⟨_,rfl,_,_,"str",rfl,rfl,by decide +kernel,_,rfl,iteN (by decide) ?_⟩;refine ⟨_,rfl,191,_,rfl,.inr zgt,rfl,rfl,_,rfl,iteN ?_ h⟩
  match m with
  | 0=>decide +kernel
  | 1=>decide +kernel
  | m + 2=>exact (by decide +kernel:¬ (if true=true then !inV (.str "bare") [V.str "strict",.str "hands",.str "bare"] else inV (.str "bare") [V.str "strict",.str "hands",.str "bare"])=true)
noncomputable def z0x (m:Nat) (rs:List Rc) (a b:Nat):Bool:=match rs[a]?,rs[b]? with|some r,some q=>aheadB m r q|_,_=>false
noncomputable def rowTo (m:Nat) (rs:List Rc) (a j:Nat):List (Nat×Nat):=((W1 j).filter λ b=>z0x m rs a b).map λ b=>(a,b)
noncomputable def z1k (m:Nat) (rs:List Rc) (i:Nat):List (Nat×Nat):=(W1 i).flatMap λ a=>rowTo m rs a rs.length
theorem z9e {m:Nat} {rs:List Rc} {a j:Nat}:rowTo m rs a (j + 1)=rowTo m rs a j++if z0x m rs a j then [(a,j)] else []:=by
 unfold rowTo;rw [K8,List.filter_append,L1];by_cases z:z0x m rs a j=true
 ·rw [if_pos z];simp [z]
 ·rw [if_neg z];simp [z]
theorem z5r {m:Nat} {rs:List Rc} {i:Nat}:z1k m rs (i + 1)=z1k m rs i++rowTo m rs i rs.length:=by unfold z1k;rw [K8,List.flatMap_append];simp
theorem zbo {m:Nat} {rs:List Rc} {a j:Nat}:(rowTo m rs a j).length<=j:=by unfold rowTo;rw [D0];exact G0 (U2 _ _) (by rw [x2];exact F0 _)
theorem z4b {m:Nat} {rs:List Rc} :∀i:Nat,(z1k m rs i).length<=i * rs.length
 | 0=>by simp [z1k]
 | i + 1=>by rw [z5r,K0,Nat.add_mul,Nat.one_mul];exact Nat.add_le_add (z4b i) zbo
theorem zgr {i:Nat} {rs:List Rc} {e:Ev}:(dstep i rs e).length<=rs.length + 1:=by
 cases e with
 | beg h n v x=>show (rs++[_]).length<=_;rw [K0];exact F0 _
 | fin h a=>
  unfold dstep;dsimp only;cases lastI h (rs.map Rc.h) with
  | none=>exact F2 _
  | some j=>show (rs.modify j _).length<=_;rw [K7];exact F2 _
theorem z5a :∀{i:Nat} {rs:List Rc} (es:List Ev),(dAll i rs es).length<=rs.length + es.length
 | _,_,[]=>F0 _
 | i,rs,e :: es=>by show (dAll (i + 1) (dstep i rs e) es).length<=_;have:=z5a (i:=i + 1) (rs:=dstep i rs e) es;have:=zgr (i:=i) (rs:=rs) (e:=e);rw [W0];omega
def PairAt (H:Hp) (p:Nat×Nat) (y:V):Prop:=∃a,y=.ref a/\H a=some (.tup [.int p.1,.int p.2])
theorem PairAt.same {H H':Hp} {p:Nat×Nat} {y:V} (s:Same H H') (h:PairAt H p y):PairAt H' p y:=h.elim λ a z=>⟨a,z.1,s _ _ z.2⟩
theorem PairAt.wrote {H:Hp} {l:Addr} {zs ws:List V} {p:Nat×Nat} {y:V} (e:H l=some (.lst zs)) (h:PairAt H p y):PairAt (upd H l (.lst ws)) p y:=h.elim λ a z=>⟨a,z.1,by rw [upd_ne (ne_of z.2 e (by intro z;cases z))];exact z.2⟩
def zbs (K:b0):Sp:=λ vs H Q _=>∃(t te:Addr) (th:V) (ys:List V) (es:List Ev) (m:Nat),vs=[.ref t,.str (z0u m)]/\SqT K H t [th,.ref te]/\SqT K H te ys/\All2 (EvAt K H) es ys/\es.length<=100/\dWf 0 [] es/\
 ∀l zs H',Same H H'->H l=none->H' l=some (.lst zs)->All2 (PairAt H') (z1k m (dAll 0 [] es) (dAll 0 [] es).length) zs->Q (.ref l) H'
theorem zh1 (T:TX (KX w.params) mg) (c_deeds:Cal P w (KX w.params) mg base "deeds" ["tale"] 1 (zb5 (KX w.params))) (c_check_strictness:Cal P w (KX w.params) mg base "check_strictness" ["strictness"] 1 z1l) (c_goes_ahead:Cal P w (KX w.params) mg base "goes_ahead" ["one","other","strictness"] 1 (z4k (KX w.params))):FnOk P w (KX w.params) mg base CX0 2 198 fd_has_to ["tale","strictness"] (zbs (KX w.params)):=by
 refine (za9 w.params).ok sc_has_to (λ vs H Q E h=>?_) (λ cdv A outer s H vs Q E hr h=>?_)
 ·obtain ⟨t,te,th,ys,es,m,rfl,_⟩:=h;rfl
 ·obtain ⟨t,te,th,ys,es,m,rfl,st,se,al,hl,wf,q⟩:=h;refine ⟨_,(z02 (z1c (pe_cal c_check_strictness (hr.mono (by first|decide|omega)) rfl (z00 (pv 1) pa_nil)))
   (z02 (ps_set (i:=2) sc_has_to.nd rfl (by first|exact Y0 rfl|exact X0 rfl) (pe_cal c_deeds (hr.mono (by first|decide|omega)) rfl (z00 (pv 0) pa_nil)))
   (z02 (ps_set (i:=3) sc_has_to.nd rfl (by first|exact Y0 rfl|exact X0 rfl) (pe_lst pa_nil))
   (z02 (ps_for D2 rfl (z5x rfl (T.no (z1f _)) (z00 (pv 2) pa_nil)) (pg_tup rfl (z0a (z0l (i:=4) sc_has_to.nd rfl (by first|exact Y0 rfl|exact X0 rfl)) (z0a (z0l (i:=5) sc_has_to.nd rfl (by first|exact Y0 rfl|exact X0 rfl)) z12)))
   (z05 (ps_for D2 rfl (z5x rfl (T.no (z1f _)) (z00 (pv 2) pa_nil)) (pg_tup rfl (z0a (z0l (i:=6) sc_has_to.nd rfl (by first|exact Y0 rfl|exact X0 rfl)) (z0a (z0l (i:=7) sc_has_to.nd rfl (by first|exact Y0 rfl|exact X0 rfl)) z12)))
   (z05 (ps_if (pt_val (pe_cal c_goes_ahead (hr.mono (by first|decide|omega)) rfl (z00 (pv 5) (z00 (pv 7) (z00 (pv 1) pa_nil)))) (λ _=>rfl))
   (z05 (z1c (z1d (pv 3) (z00 (pe_tup (z00 (pv 4) (z00 (pv 6) pa_nil))) pa_nil))))
   z0d)))))
   (z05 (ps_ret (pv 3))))))),?_⟩
  refine ⟨_,rfl,m,rfl,?_⟩;refine ⟨_,rfl,t,te,th,ys,es,rfl,st,se,al,hl,wf,λ l zs H1 s1 hl0 el al1=>?_⟩;generalize hrs:dAll 0 [] es=rs at al1 q;have hn:rs.length<=100:=by rw [<-hrs];have:=z5a (i:=0) (rs:=[]) es;simpa using G0 this (by simpa using hl)
  have lz:zs.length=rs.length:=z03 al1;refine ⟨(show (0:Nat)<=sizeLine by decide),λ l2 hl2=>?_⟩;have nl2:H l2=none:=s1.free hl2;have nl:l≠l2:=z0b el hl2;have s2:Same H (upd H1 l2 (.lst [])):=s1.trans (Same.upd hl2);have el2:upd H1 l2 (.lst []) l=some (.lst zs):=(Same.upd hl2) _ _ el;have al2:=z01 (λ a b z=>RcAt.tups (.of (Same.upd (o:=.lst []) hl2)) z) al1;have ep2:upd H1 l2 (.lst []) l2=some (.lst []):=upd_same;generalize upd H1 l2 (.lst [])=H2 at s2 el2 al2 ep2⊢;refine ⟨_,rfl,l,zs,rfl,SqL.of el2,?_⟩;refine z7o (K:=KX w.params) (a:=l) (xs:=zs) (λ i σ H'=>∃zs2,H' l=some (.lst zs)/\All2 (RcAt (KX w.params) H') rs zs/\H' l2=some (.lst zs2)/\All2 (PairAt H') (z1k m rs i) zs2/\Same H H'/\∃x4 x5 x6 x7,σ=[some (.ref t),some (.str (z0u m)),some (.ref l),some (.ref l2),x4,x5,x6,x7])
   ⟨[],el2,al2,ep2,.nil,s2,_,_,_,_,rfl⟩ (λ i σ H' h=>?_) ?_ ?_
  ·obtain ⟨zs2,e,_⟩:=h;exact SqL.of e
  ·rintro i x σ H3 p hx ⟨zs2,e3,a3,f3,b3,s3,x4,x5,x6,x7,rfl⟩ hp;have sp:=Same.upd (o:=.tup [.int i,x]) hp;have ep:upd H3 p (.tup [.int i,x]) p=some (.tup [.int i,x]):=upd_same;generalize upd H3 p (.tup [.int i,x])=H4 at sp ep⊢;have e4:=sp _ _ e3;have f4:=sp _ _ f3;have a4:=z01 (λ a b z=>RcAt.tups (.of sp) z) a3;have b4:=z01 (λ a b z=>PairAt.same sp z) b3;have s4:=s3.trans sp;refine ⟨p,_,rfl,SqT.of ep,rfl,.int i,_,rfl,x,_,rfl,rfl,?_⟩;have hil:i < rs.length:=by rw [<-lz];exact (List.getElem?_eq_some_iff.mp hx).1
   have pl:=z4b (m:=m) (rs:=rs) i;have pm:i * rs.length<=10000:=Nat.mul_le_mul (G0 (T3 hil) hn) hn;refine ⟨_,rfl,l,zs,rfl,SqL.of e4,?_⟩;refine z7o (K:=KX w.params) (a:=l) (xs:=zs) (λ j σ H'=>∃zs2,H' l=some (.lst zs)/\All2 (RcAt (KX w.params) H') rs zs/\H' l2=some (.lst zs2)/\All2 (PairAt H') (z1k m rs i++rowTo m rs i j) zs2/\Same H H'/\∃x6 x7,σ=[some (.ref t),some (.str (z0u m)),some (.ref l),some (.ref l2),some (.int (i:Nat)),some x,x6,x7])
    ⟨zs2,e4,a4,f4,by rw [show rowTo m rs i 0=[] from rfl,C3];exact b4,s4,_,_,rfl⟩ (λ j σ H' h=>?_) ?_ ?_
   ·obtain ⟨zs2,e,_⟩:=h;exact SqL.of e
   ·rintro j y σ H5 p' hy ⟨zs3,e5,a5,f5,b5,s5,x6,x7,rfl⟩ hp';have sp':=Same.upd (o:=.tup [.int j,y]) hp';have ep':upd H5 p' (.tup [.int j,y]) p'=some (.tup [.int j,y]):=upd_same;generalize upd H5 p' (.tup [.int j,y])=H6 at sp' ep'⊢;have e6:=sp' _ _ e5;have f6:=sp' _ _ f5;have a6:=z01 (λ a b z=>RcAt.tups (.of sp') z) a5;have b6:=z01 (λ a b z=>PairAt.same sp' z) b5;have s6:=s5.trans sp';refine ⟨p',_,rfl,SqT.of ep',rfl,.int j,_,rfl,y,_,rfl,rfl,?_⟩;obtain ⟨r1,hr1,ra1⟩:=z0g a6 hx;obtain ⟨r2,hr2,ra2⟩:=z0g a6 hy;have hjl:j < rs.length:=(List.getElem?_eq_some_iff.mp hr2).1;have ah:z0x m rs i j=aheadB m r1 r2:=by unfold z0x;rw [hr1,hr2]
    refine ⟨_,rfl,_,rfl,_,rfl,x,y,r1,r2,m,rfl,ra1,ra2,_,rfl,?_⟩;rw [<-ah];have rl:=zbo (m:=m) (rs:=rs) (a:=i) (j:=j);have zl:zs3.length=(z1k m rs i++rowTo m rs i j).length:=z03 b6;rw [K0] at zl;by_cases z:z0x m rs i j=true
    ·refine iteP z ?_;refine ⟨_,rfl,.inl ⟨rfl,zs3,SqL.of f6⟩,_,rfl,_,rfl,show (2:Nat)<=sizeLine by decide,λ p2 hp2=>?_⟩;have s7:=Same.upd (o:=.tup [.int (i:Nat),.int (j:Nat)]) hp2;have e7:upd H6 p2 (.tup [.int (i:Nat),.int (j:Nat)]) p2=some (.tup [.int (i:Nat),.int (j:Nat)]):=upd_same;generalize upd H6 p2 (.tup [.int (i:Nat),.int (j:Nat)])=H7 at s7 e7⊢;have f7:=s7 _ _ f6;refine ⟨l2,zs3,_,rfl,rfl,f7,C1 (m:=20000) (by omega) (by decide),?_⟩;refine ⟨zs3++[.ref p2],?_,?_,upd_same,?_,Same.keep (s6.trans s7) nl2,_,_,rfl⟩
     ·rw [upd_ne nl];exact s7 _ _ e6
     ·exact z01 (λ a b z=>RcAt.tups ((Tups.of s7).trans (Tups.lst f7)) z) a6
     ·rw [z9e,if_pos z,<-C5];exact z1y (z01 (λ a b z=>PairAt.wrote f7 (PairAt.same s7 z)) b6) (PairAt.wrote f7 ⟨p2,rfl,e7⟩)
    ·refine iteN z ?_;exact ⟨zs3,e6,a6,f6,by rw [z9e,if_neg z,C3];exact b6,s6,_,_,rfl⟩
   ·rintro σ H5 ⟨zs3,e5,a5,f5,b5,s5,x6,x7,rfl⟩;exact ⟨zs3,e5,a5,f5,by rw [z5r,<-lz];rw [lz] at b5;rw [lz];exact b5,s5,_,_,_,_,rfl⟩
  ·rintro σ H3 ⟨zs2,e3,a3,f3,b3,s3,x4,x5,x6,x7,rfl⟩;rw [lz] at b3;exact ⟨_,rfl,q l2 zs2 H3 s3 nl2 f3 b3⟩
def HandAt (H:Hp) (r:Addr):Prop:=∃a b c:Int,H r=some (.lst [.int a,.int b,.int c])/\0<=b/\b < 4294967296/\0<=c/\c < 2
theorem HandAt.same {H H':Hp} {r:Addr} (h:HandAt H r) (s:Same H H'):HandAt H' r:=by obtain ⟨a,b,c,e,z⟩:=h;exact ⟨a,b,c,s _ _ e,z⟩
theorem HandAt.fresh {r p:Addr} {H:Hp} (h:HandAt H r) (e:H p=none):p≠r:=λ z=>by obtain ⟨a,b,c,e2,_⟩:=h;rw [z,e2] at e;cases e
structure Hw (r:Addr) (H H':Hp):Prop where
 k:Kept r H H'
 r:HandAt H' r
theorem Hw.trans {r:Addr} {H H1 H2:Hp} (a:Hw r H H1) (b:Hw r H1 H2):Hw r H H2:=⟨a.k.trans b.k,b.r⟩
theorem Hw.same {r:Addr} {H H1 H2:Hp} (a:Hw r H H1) (s:Same H1 H2):Hw r H H2:=⟨a.k.trans s.kept,a.r.same s⟩
theorem HandAt.hw {r:Addr} {H:Hp} (h:HandAt H r):Hw r H H:=⟨.refl,h⟩
theorem z8p {K:b0} {H:Hp} :∀ns:List Int,IsPds K H (ns.map c8) (ns.map V.int)
 | []=>rfl
 | n :: ns=>⟨.int n,ns.map V.int,rfl,rfl,z8p ns⟩
theorem z94 :∀ns:List Int,z2m (ns.map c8)=true
 | []=>rfl
 | n :: ns=>by show (true && z2m (ns.map c8))=true;rw [z94 ns];rfl
theorem z9m :∀ns:List Int,O1 (ns.map c8)<=1
 | []=>by decide
 | n :: ns=>by have:=z9m ns;show max (B4 (.int n)) (O1 (ns.map c8))<=1;exact Nat.max_le.mpr ⟨(show (0:Nat)<=1 by decide),this⟩
def z37 (K:b0):Sp:=λ vs H Q _=>∃(a:Addr) (ns:List Int) (c k:Int),vs=[.ref a,.int c,.int k]/\SqL K H a (ns.map V.int)/\0<=k/\k < 1000/\∀r H',Same H H'->HandAt H' r->H r=none->Q (.ref r) H'
theorem zb4 (T:TX (KX w.params) mg):FnOk P w (KX w.params) mg base CX0 1 246 fd__law_hand ["script","cell","k"] (z37 (KX w.params)):=by
 refine (z44 w.params).ok sc__law_hand (λ vs H Q E h=>?_) (λ cdv A outer s H vs Q E hr h=>?_)
 ·obtain ⟨a,ns,c,k,rfl,_⟩:=h;rfl
 ·obtain ⟨a,ns,c,k,rfl,sq,hk0,hk1,q⟩:=h;refine ⟨_,(z02 (ps_set (i:=3) sc__law_hand.nd rfl (by first|exact Y0 rfl|exact X0 rfl) pe_int)
   (z02 (ps_if (z09 (op_neP hr) (pv 0) (pe_lst pa_nil) (nomark _))
   (z05 (ps_set (i:=3) sc__law_hand.nd rfl (by first|exact Y0 rfl|exact X0 rfl) (pe_op op_mod (z08 (zgi rfl) rfl (T.no (n_sum _)) boot_sum (z00 (pv 0) pa_nil)) pe_int)))
   z0d)
   (z05 (ps_ret (pe_lst (z00 (pv 1) (z00 (pe_op op_mod (pe_op op_mul (pe_op opAdd (pe_op opAdd (pe_op op_mod (pv 1) pe_int) (pe_op op_mul pe_int (pv 2))) pe_int) pe_int) pe_int) (z00 (pv 3) pa_nil)))))))),?_⟩
  refine z1b ?_;refine g_name ?_;refine z1t (λ σ1 H1=>Same H H1/\∃y:Int,(0<=y/\y < 2)/\σ1=[some (.ref a),some (.int c),some (.int k),some (.int y)]) ?_ (λ tl=>?_);rotate_left
  ·refine ⟨_,rfl,(show (0:Nat)<=sizeLine by decide),λ p hp=>?_⟩;have s1:=Same.upd (o:=.lst []) hp;refine ⟨.list (ns.map c8),.list [],⟨a,_,rfl,s1.seq sq,z8p ns⟩,⟨p,[],rfl,SqL.of upd_same,rfl⟩,z94 ns,rfl,G0 (Nat.add_le_add_right (z9m ns) 1) (by decide),_,rfl,?_⟩;refine ite2 (λ _=>?_) λ _=>?_
   ·exact ⟨_,rfl,a,ns,rfl,s1.seq sq,_,_,rfl,rfl,(show (0:Int) < 2 by decide),tl _ _ ⟨s1,_,⟨B7 _ (by decide),J6 _ (by decide)⟩,rfl⟩⟩
   ·exact tl _ _ ⟨s1,0,by decide,rfl⟩
  rintro σ1 H1 ⟨s1,y,⟨hy0,hy1⟩,rfl⟩;refine ⟨_,rfl,_,rfl,_,_,rfl,rfl,(show (0:Int) < 2147483629 by decide),?_⟩;refine ⟨_,rfl,_,_,rfl,rfl,.inl (by decide),.inl ⟨_,_,rfl,rfl,.inl ⟨_,_,rfl,rfl,?_⟩⟩⟩;refine ⟨_,_,rfl,rfl,.inr (by decide),_,_,rfl,rfl,(show (0:Int) < 2147483647 by decide),_,rfl,(show (3:Nat)<=sizeLine by decide),λ r hr=>?_⟩;have h0:0<=((c % 2147483629 + 7919 * k + 1) * 48271) % 2147483647:=B7 _ (by decide);have h1:((c % 2147483629 + 7919 * k + 1) * 48271) % 2147483647 < 2147483647:=J6 _ (by decide);exact q r _ (s1.trans (Same.upd hr)) ⟨_,_,_,upd_same,h0,by omega,hy0,hy1⟩ (s1.free hr)
def z0q:Sp:=λ vs H Q _=>∃(r:Addr) (m:Int),vs=[.ref r,.int m]/\HandAt H r/\0 < m/\m < 2 ^ 64/\∀t H',Hw r H H'->0<=t->t < m->Q (.int t) H'
theorem zax (T:TX (KX w.params) mg):FnOk P w (KX w.params) mg base CX0 1 253 fd__law_draw ["hand","limit"] z0q:=by
 refine (z4a w.params).ok sc__law_draw (λ vs H Q E h=>?_) (λ cdv A outer s H vs Q E hr h=>?_)
 ·obtain ⟨r,m,rfl,_⟩:=h;rfl
 ·obtain ⟨r,m,rfl,⟨a,b,c,e,hb0,hb1,hc0,hc1⟩,hm,hm',q⟩:=h;refine ⟨_,(z02 (ps_if (z09 opEq (pe_ix ix_seq (pv 0) pe_int (λ _ _=>rfl)) pe_int (nomark _))
   (z02 (ps_set (i:=2) sc__law_draw.nd rfl (by first|exact Y0 rfl|exact X0 rfl) (pe_op op_mod (pe_ix ix_seq (pv 0) pe_int (λ _ _=>rfl)) (pv 1)))
   (z02 (ps_asg (pe_op ze6 (pe_ix ix_seq (pv 0) pe_int (λ _ _=>rfl)) (pv 1)) (pg_sub (pv 0) pe_int z2a))
   (z05 (ps_ret (pv 2)))))
   z0d)
   (z02 (ps_asg (pe_op opAdd (pe_op op_mod (pe_op op_mul (pe_ix ix_seq (pv 0) pe_int (λ _ _=>rfl)) (pe_ix ix_seq (pv 0) pe_int (λ _ _=>rfl))) pe_int) pe_int) (pg_sub (pv 0) pe_int z2a))
   (z05 (ps_ret (pe_op op_mod (pe_op ze6 (pe_op op_mod (pe_op op_mul (pe_ix ix_seq (pv 0) pe_int (λ _ _=>rfl)) pe_int) pe_int) pe_int) (pv 1)))))),?_⟩
  refine ⟨_,rfl,.inl ⟨r,_,2,.int c,rfl,rfl,SqL.of e,rfl,rfl,_,rfl,?_⟩⟩;refine ite2 (λ _=>?_) λ _=>?_
  ·refine ⟨_,rfl,.inl ⟨r,_,0,.int a,rfl,rfl,SqL.of e,rfl,_,rfl,_,_,rfl,rfl,hm,?_⟩⟩;refine ⟨_,rfl,.inl ⟨r,_,0,.int a,rfl,rfl,SqL.of e,rfl,_,rfl,_,_,rfl,rfl,⟨hm,hm'⟩,?_⟩⟩;refine ⟨_,rfl,r,_,0,0,rfl,rfl,e,rfl,?_⟩;exact ⟨_,rfl,q _ _ ⟨.set,_,b,c,upd_same,hb0,hb1,hc0,hc1⟩ (B7 _ (by omega)) (J6 _ hm)⟩
  ·have h0:0<=(b * b) % 2147483629:=B7 _ (by decide);have h1:(b * b) % 2147483629 < 2147483629:=J6 _ (by decide);refine ⟨_,rfl,.inl ⟨r,_,1,.int b,rfl,rfl,SqL.of e,rfl,_,rfl,.inl ⟨r,_,1,.int b,rfl,rfl,SqL.of e,rfl,?_⟩⟩⟩;refine ⟨_,_,rfl,rfl,.inl ⟨by omega,by omega⟩,_,_,rfl,rfl,(show (0:Int) < 2147483629 by decide),.inl ⟨_,_,rfl,rfl,?_⟩⟩;refine ⟨_,rfl,r,_,1,1,rfl,rfl,e,rfl,?_⟩;refine ⟨_,rfl,.inl ⟨r,_,1,.int _,rfl,rfl,SqL.of upd_same,rfl,?_⟩⟩;refine ⟨_,_,rfl,rfl,.inr (by decide),_,_,rfl,rfl,(show (0:Int) < 2147483563 by decide),_,_,rfl,rfl,⟨by decide,by decide⟩,_,rfl,_,_,rfl,rfl,hm,?_⟩;exact q _ _ ⟨.set,a,_,c,upd_same,by omega,by omega,hc0,hc1⟩ (B7 _ (by omega)) (J6 _ hm)
def near (i:Int):Prop:=-1000000000<=i/\i<=1000000000
inductive DeedOk:Str->Str->Dt->Prop
 | regR:DeedOk "register" "read" .non
 | regW {i:Int}:near i->DeedOk "register" "write" (.int i)
 | cntR:DeedOk "counter" "read" .non
 | cntA {i:Int}:near i->DeedOk "counter" "add" (.int i)
 | quP {i:Int}:near i->DeedOk "queue" "put" (.int i)
 | quT:DeedOk "queue" "take" .non
 | setP {i:Int}:near i->DeedOk "set" "put" (.int i)
 | setC {i:Int}:near i->DeedOk "set" "cut" (.int i)
 | setH {i:Int}:near i->DeedOk "set" "has" (.int i)
 | celR:DeedOk "cell" "read" .non
 | celW {i:Int}:near i->DeedOk "cell" "write" (.int i)
 | celS {i j:Int}:near i->near j->DeedOk "cell" "swap" (.tup [.int i,.int j])
noncomputable def kinds5:List Str:=["register","counter","queue","set","cell"]
noncomputable def verbsT (k:Str):List Str:=if k = "register" then ["write","read"] else if k = "counter" then ["add","read"] else if k = "queue" then ["put","take"] else if k = "set" then ["put","cut","has"] else ["read","write","swap","swap"]
def VerbOk (k v:Str):Prop:=((v = "read"\/v = "take")/\DeedOk k v .non)\/(v = "swap"/\∀i j,near i->near j->DeedOk k v (.tup [.int i,.int j]))\/(v≠"read"/\v≠"take"/\v≠"swap"/\∀i,near i->DeedOk k v (.int i))
theorem zij {k v:Str} (hk:k∈kinds5) (hv:v∈verbsT k):VerbOk k v:=by
 unfold kinds5 at hk;simp only [T0,o0,or_false] at hk;rcases hk with rfl|rfl|rfl|rfl|rfl
 ·rw [show verbsT "register" = (["write","read"]:List Str) by decide +kernel] at hv;simp only [T0,o0,or_false] at hv;rcases hv with rfl|rfl
  ·exact .inr (.inr ⟨by decide +kernel,by decide +kernel,by decide +kernel,λ i h=>.regW h⟩)
  ·exact .inl ⟨.inl rfl,.regR⟩
 ·rw [show verbsT "counter" = (["add","read"]:List Str) by decide +kernel] at hv;simp only [T0,o0,or_false] at hv;rcases hv with rfl|rfl
  ·exact .inr (.inr ⟨by decide +kernel,by decide +kernel,by decide +kernel,λ i h=>.cntA h⟩)
  ·exact .inl ⟨.inl rfl,.cntR⟩
 ·rw [show verbsT "queue" = (["put","take"]:List Str) by decide +kernel] at hv;simp only [T0,o0,or_false] at hv;rcases hv with rfl|rfl
  ·exact .inr (.inr ⟨by decide +kernel,by decide +kernel,by decide +kernel,λ i h=>.quP h⟩)
  ·exact .inl ⟨.inr rfl,.quT⟩
 ·rw [show verbsT "set" = (["put","cut","has"]:List Str) by decide +kernel] at hv;simp only [T0,o0,or_false] at hv;rcases hv with rfl|rfl|rfl
  ·exact .inr (.inr ⟨by decide +kernel,by decide +kernel,by decide +kernel,λ i h=>.setP h⟩)
  ·exact .inr (.inr ⟨by decide +kernel,by decide +kernel,by decide +kernel,λ i h=>.setC h⟩)
  ·exact .inr (.inr ⟨by decide +kernel,by decide +kernel,by decide +kernel,λ i h=>.setH h⟩)
 ·rw [show verbsT "cell" = (["read","write","swap","swap"]:List Str) by decide +kernel] at hv;simp only [T0,o0,or_false] at hv;rcases hv with rfl|rfl|rfl|rfl
  ·exact .inl ⟨.inl rfl,.celR⟩
  ·exact .inr (.inr ⟨by decide +kernel,by decide +kernel,by decide +kernel,λ i h=>.celW h⟩)
  ·exact .inr (.inl ⟨rfl,λ i j h1 h2=>.celS h1 h2⟩)
  ·exact .inr (.inl ⟨rfl,λ i j h1 h2=>.celS h1 h2⟩)
theorem zhh (z:Str) (ws:List Str):inV (.str z) (ws.map V.str)=decide (z∈ws):=by
 unfold inV;rw [j31,Bool.eq_iff_iff,j0e,decide_eq_true_eq];constructor
 ·rintro ⟨x,hx,e⟩;have e:x=z:=eq_of_beq (show (x == z)=true from e);rw [<-e];exact hx
 ·exact λ h=>⟨z,h,(show (z == z)=true from beq_self_eq_true z)⟩
theorem z9w {L:List Addr} {H H':Hp} (k:KeptL L H H') (n :∀l∈L,H l=none):Same H H':=λ b o e=>k b o (λ z=>by rw [n b z] at e;cases e) e
structure WordsAt (H:Hp) (p:Addr) (n:Nat) (f:Str->Option (List Str)):Prop where
 ex :∃kvs:List (Key×V),H p=some (.dK kvs)/\kvs.length<=n/\∀k ws,f k=some ws->∃l,valV kvs (.inr k)=some (.ref l)/\H l=some (.lst (ws.map V.str))
theorem z4y (kvs:List (Key×V)) (k:Key) (v:V):(putK kvs k v).length<=kvs.length + 1:=by
 unfold putK;split
 ·rw [D0];exact F2 _
 ·rw [K0];exact F0 _
theorem WordsAt.put {H:Hp} {p l:Addr} {n:Nat} {f:Str->Option (List Str)} {kvs:List (Key×V)} {k:Str} {ws:List Str} (hl:H l=none) (e:H p=some (.dK kvs)) (hn:kvs.length<=n) (h :∀k ws,f k=some ws->∃l,valV kvs (.inr k)=some (.ref l)/\H l=some (.lst (ws.map V.str))) :
  ∃H',H'=upd (upd H l (.lst (ws.map V.str))) p (.dK (putK kvs (.inr k) (.ref l)))/\WordsAt H' p (n + 1) (λ j=>if j=k then some ws else f j)/\KeptL [p] H H':=by
 have np:p≠l:=z0b e hl;refine ⟨_,rfl,⟨_,upd_same,G0 (z4y _ _ _) (T4 hn),λ j us hj=>?_⟩,λ b o hb eb=>?_⟩
 ·by_cases z:j=k
  ·subst z;rw [if_pos rfl] at hj;cases hj;refine ⟨l,by rw [z1a,if_pos rfl],?_⟩;rw [upd_ne np.symm];exact upd_same
  ·rw [if_neg z] at hj;obtain ⟨m,e1,e2⟩:=h j us hj;refine ⟨m,by rw [z1a,if_neg (λ y=>z (B5 y))];exact e1,?_⟩;have nm:m≠p:=λ y=>by rw [y,e] at e2;cases e2
   rw [upd_ne nm,upd_ne (z0b e2 hl)];exact e2
 ·have nb:b≠p:=λ z=>hb (by rw [z];exact List.mem_singleton.mpr rfl);rw [upd_ne nb,upd_ne (z0b eb hl)];exact eb
theorem words3 {H:Hp} {p l1 l2 l3:Addr} {k1 k2 k3:Str} {w1 w2 w3:List Str} (hp:H p=none) (h1:upd H p (.dK []) l1=none) (h2:upd (upd H p (.dK [])) l1 (.lst (w1.map V.str)) l2=none)
  (h3:upd (upd (upd H p (.dK [])) l1 (.lst (w1.map V.str))) l2 (.lst (w2.map V.str)) l3=none) (n12:k1≠k2) (n13:k1≠k3) (n23:k2≠k3) :
  upd (upd (upd (upd H p (.dK [])) l1 (.lst (w1.map V.str))) l2 (.lst (w2.map V.str))) l3 (.lst (w3.map V.str)) p=some (.dK [])/\
  ∃H',H'=upd (upd (upd (upd (upd H p (.dK [])) l1 (.lst (w1.map V.str))) l2 (.lst (w2.map V.str))) l3 (.lst (w3.map V.str))) p (.dK [(.inr k1,.ref l1),(.inr k2,.ref l2),(.inr k3,.ref l3)])/\Same H H'/\
   H' p=some (.dK [(.inr k1,.ref l1),(.inr k2,.ref l2),(.inr k3,.ref l3)])/\∀k ws,(if k=k1 then some w1 else if k=k2 then some w2 else if k=k3 then some w3 else none)=some ws->∃l,valV [((.inr k1:Key),V.ref l1),(.inr k2,.ref l2),(.inr k3,.ref l3)] (.inr k)=some (.ref l)/\H' l=some (.lst (ws.map V.str)):=by
 have p1:p≠l1:=z0b upd_same h1;have p2:p≠l2:=z0b (by rw [upd_ne p1];exact upd_same) h2;have p3:p≠l3:=z0b (by rw [upd_ne p2,upd_ne p1];exact upd_same) h3;have a12:l1≠l2:=z0b upd_same h2;have a13:l1≠l3:=z0b (by rw [upd_ne a12];exact upd_same) h3;have a23:l2≠l3:=z0b upd_same h3;refine ⟨by rw [upd_ne p3,upd_ne p2,upd_ne p1];exact upd_same,_,rfl,λ b o e=>?_,upd_same,λ k ws e=>?_⟩
 ·rw [upd_ne (z0b e hp)];exact ((((Same.upd hp).trans (Same.upd h1)).trans (Same.upd h2)).trans (Same.upd h3)) b o e
 ·have ne :∀{a b:Str},a≠b->(Sum.inr a:Key)≠Sum.inr b:=λ h e=>h (B5 e);by_cases z1:k=k1
  ·rw [if_pos z1] at e;cases e;exact ⟨l1,by rw [z1];exact z0y rfl,by rw [upd_ne p1.symm,upd_ne a13,upd_ne a12];exact upd_same⟩
  ·rw [if_neg z1] at e;by_cases z2:k=k2
   ·rw [if_pos z2] at e;cases e;exact ⟨l2,by rw [z2,z0t (ne n12)];exact z0y rfl,by rw [upd_ne p2.symm,upd_ne a23];exact upd_same⟩
   ·rw [if_neg z2] at e;by_cases z3:k=k3
    ·rw [if_pos z3] at e;cases e;exact ⟨l3,by rw [z3,z0t (ne n13),z0t (ne n23)];exact z0y rfl,by rw [upd_ne p3.symm];exact upd_same⟩
    ·rw [if_neg z3] at e;cases e
def WorthIn (H:Hp) (d:Dt) (x:V):Prop:=∀a b:Int,d=.tup [.int a,.int b]->∃t,x=.ref t/\H t=some (.tup [.int a,.int b])
theorem e9:(10:Int) ^ (9:Int).toNat=1000000000:=by decide
theorem p9:CPow 10 9:=⟨by decide,by decide,by decide⟩
def z4n:Sp:=λ vs H Q _=>∃r:Addr,vs=[.ref r]/\HandAt H r/\∀i H',Hw r H H'->near i->Q (.int i) H'
theorem z9a (T:TX (KX w.params) mg) (c__law_draw:Cal P w (KX w.params) mg base "_law_draw" ["hand","limit"] 1 z0q):FnOk P w (KX w.params) mg base CX0 2 272 fd__law_worth ["hand"] z4n:=by
 refine (z3h w.params).ok z9o (λ vs H Q E h=>?_) (λ cdv A outer s H vs Q E hr h=>?_)
 ·obtain ⟨r,rfl,_⟩:=h;rfl
 ·obtain ⟨r,rfl,R,q⟩:=h;refine ⟨_,(z02 (ps_if (z09 opEq (pe_cal c__law_draw (hr.mono (by first|decide|omega)) rfl (z00 (pv 0) (z00 pe_int pa_nil))) pe_int (nomark _))
   (z05 (ps_ret (pe_ix ix_seq (pe_lst (z00 (pe_op op_pow pe_int pe_int) (z00 (pe_op op_sub pe_int (pe_op op_pow pe_int pe_int)) (z00 (pe_op op_sub (pe_cal c__law_draw (hr.mono (by first|decide|omega)) rfl (z00 (pv 0) (z00 (pe_op opAdd (pe_op op_mul pe_int (pe_op op_pow pe_int pe_int)) pe_int) pa_nil))) (pe_op op_pow pe_int pe_int)) pa_nil)))) (pe_cal c__law_draw (hr.mono (by first|decide|omega)) rfl (z00 (pv 0) (z00 pe_int pa_nil))) (λ _ _=>rfl))))
   z0d)
   (z05 (ps_ret (pe_ix ix_seq (pe_lst (z00 pe_int (z00 pe_int (z00 pe_int (z00 pe_int (z00 (pe_un un_neg pe_int) pa_nil)))))) (pe_cal c__law_draw (hr.mono (by first|decide|omega)) rfl (z00 (pv 0) (z00 pe_int pa_nil))) (λ _ _=>rfl))))),?_⟩
  refine ⟨_,rfl,r,6,rfl,R,by decide,by decide,λ t H1 w1 _ _=>⟨rfl,_,rfl,?_⟩⟩;refine ite2 (λ _=>?_) λ _=>?_
  ·refine ⟨_,_,rfl,rfl,p9,_,_,rfl,rfl,p9,_,_,rfl,rfl,_,rfl,_,_,rfl,rfl,p9,_,_,rfl,rfl,.inl ⟨by decide,by decide⟩,.inl ⟨_,_,rfl,rfl,r,_,rfl,w1.r,by decide,by decide,λ t2 H2 w2 h2 h3=>?_⟩⟩;rw [e9] at h3;refine ⟨_,_,rfl,rfl,p9,_,_,rfl,rfl,(show (3:Nat)<=sizeLine by decide),λ l hl=>?_⟩;rw [e9];have w12:=w1.trans w2;refine ⟨_,rfl,r,3,rfl,w12.r.same (Same.upd hl),by decide,by decide,λ t3 H3 w3 h4 h5=>?_⟩;obtain ⟨v,hv,hm⟩:=atI_of (xs:=[V.int 1000000000,.int (0 - 1000000000),.int (t2 - 1000000000)]) h4 h5;refine .inl ⟨l,_,t3,v,rfl,rfl,SqL.of (w3.k _ _ (w12.r.fresh hl) upd_same),hv,?_⟩;have w13:=(w12.same (Same.upd (o:=.lst [V.int 1000000000,.int (0 - 1000000000),.int (t2 - 1000000000)]) hl)).trans w3;simp only [T0,o0,or_false] at hm;rcases hm with rfl|rfl|rfl
   ·exact q _ _ w13 ⟨by decide,by decide⟩
   ·exact q _ _ w13 ⟨by decide,by decide⟩
   ·exact q _ _ w13 ⟨by omega,by omega⟩
  ·refine ⟨_,rfl,(show (5:Nat)<=sizeLine by decide),λ l hl=>⟨_,rfl,r,5,rfl,w1.r.same (Same.upd hl),by decide,by decide,λ t2 H2 w2 h0 h1=>?_⟩⟩;obtain ⟨v,hv,hm⟩:=atI_of (xs:=[V.int 0,.int 1,.int 2,.int 3,.int (-1)]) h0 h1;refine .inl ⟨l,_,t2,v,rfl,rfl,SqL.of (w2.k _ _ (w1.r.fresh hl) upd_same),hv,?_⟩;have w12:=(w1.same (Same.upd (o:=.lst [V.int 0,.int 1,.int 2,.int 3,.int (-1)]) hl)).trans w2;simp only [T0,o0,or_false] at hm;rcases hm with rfl|rfl|rfl|rfl|rfl<;>exact q _ _ w12 ⟨by decide,by decide⟩
def z70 (K:b0):Sp:=λ vs H Q _=>∃(r:Addr) (k:Str),vs=[.ref r,.str k]/\HandAt H r/\k∈kinds5/\∀p v x d H',Hw r H H'->H' p=some (.tup [.str v,x])->H p=none->DeedOk k v d->IsDt K H' d x->WorthIn H' d x->Q (.ref p) H'
theorem zci (T:TX (KX w.params) mg) (c__law_draw:Cal P w (KX w.params) mg base "_law_draw" ["hand","limit"] 1 z0q) (c__law_worth:Cal P w (KX w.params) mg base "_law_worth" ["hand"] 2 z4n):FnOk P w (KX w.params) mg base CX0 3 279 fd__law_act ["hand","kind"] (z70 (KX w.params)):=by
 refine (z5g w.params).ok sc__law_act (λ vs H Q E h=>?_) (λ cdv A outer s H vs Q E hr h=>?_)
 ·obtain ⟨r,k,rfl,_⟩:=h;rfl
 ·obtain ⟨r,k,rfl,R,hk,q⟩:=h;refine q_of (z0n (qs_set (i:=2) sc__law_act.nd rfl (by first|exact Y0 rfl|exact X0 rfl) (zjv (za3 (QE.mk pe_str) (qe_lst (z0v (QE.mk pe_str) (z0v (QE.mk pe_str) qa_nil))) (za3 (QE.mk pe_str) (qe_lst (z0v (QE.mk pe_str) (z0v (QE.mk pe_str) qa_nil))) (za3 (QE.mk pe_str) (qe_lst (z0v (QE.mk pe_str) (z0v (QE.mk pe_str) qa_nil))) zka))) rfl rfl (by simp) (by decide)))
   (z0n (zhv (hu_of hr) (QE.mk (pv 2)) (QE.mk pe_str) (qe_lst (z0v (QE.mk pe_str) (z0v (QE.mk pe_str) (z0v (QE.mk pe_str) qa_nil)))) rfl)
   (z0n (zhv (hu_of hr) (QE.mk (pv 2)) (QE.mk pe_str) (qe_lst (z0v (QE.mk pe_str) (z0v (QE.mk pe_str) (z0v (QE.mk pe_str) (z0v (QE.mk pe_str) qa_nil))))) rfl)
   (z0n (QS.mk (ps_set (i:=3) sc__law_act.nd rfl (by first|exact Y0 rfl|exact X0 rfl) (pe_ix ix_seq (z24 (hu_of hr) (pv 2) (pv 1) (λ _ _=>rfl)) (pe_cal c__law_draw (hr.mono (by first|decide|omega)) rfl (z00 (pv 0) (z00 (z08 z0w rfl (T.no (n_len _)) W2 (z00 (z24 (hu_of hr) (pv 2) (pv 1) (λ _ _=>rfl)) pa_nil)) pa_nil))) (λ _ _=>rfl))))
   (z0n (QS.mk (ps_if (z09 z1z (pv 3) (pe_tup (z00 pe_str (z00 pe_str pa_nil))) (by with_unfolding_all rfl))
   (z05 (ps_ret (pe_tup (z00 (pv 3) (z00 pe_non pa_nil)))))
   z0d))
   (z0n (QS.mk (ps_if (z09 opEq (pv 3) pe_str (nomark _))
   (z05 (ps_ret (pe_tup (z00 (pv 3) (z00 (pe_tup (z00 (pe_cal c__law_worth (hr.mono (by first|decide|omega)) rfl (z00 (pv 0) pa_nil)) (z00 (pe_cal c__law_worth (hr.mono (by first|decide|omega)) rfl (z00 (pv 0) pa_nil)) pa_nil))) pa_nil)))))
   z0d))
   (z23 (QS.mk (ps_ret (pe_tup (z00 (pv 3) (z00 (pe_cal c__law_worth (hr.mono (by first|decide|omega)) rfl (z00 (pv 0) pa_nil)) pa_nil)))))))))))) ?_
  refine z1b ?_;intro p hp;refine ⟨(show (2:Nat)<=sizeLine by decide),λ l1 h1=>⟨(show (2:Nat)<=sizeLine by decide),λ l2 h2=>⟨(show (2:Nat)<=sizeLine by decide),λ l3 h3=>?_⟩⟩⟩;obtain ⟨ep,H2,eH2,s2,e2,f2⟩:=words3 (H:=H) (k1:="register") (k2:="counter") (k3:="queue") (w1:=["write","read"]) (w2:=["add","read"]) (w3:=["put","take"]) hp h1 h2 h3 (by decide +kernel) (by decide +kernel) (by decide +kernel);refine ⟨ep,[(.inr "register",.ref l1),(.inr "counter",.ref l2),(.inr "queue",.ref l3)],rfl,(show (3:Nat)<=15 by decide),?_⟩;rw [show mergeK [] [((.inr "register" : Key),V.ref l1),(.inr "counter",.ref l2),(.inr "queue",.ref l3)]=[(.inr "register",.ref l1),(.inr "counter",.ref l2),(.inr "queue",.ref l3)] from rfl];refine g_name ?_;refine (show∀A,H2=A->tSeq _ _ _ _ A from ?_) _ eH2;intro A eA;subst eA;refine ⟨(show (3:Nat)<=sizeLine by decide),λ l4 h4=>⟨_,rfl,p,_,rfl,DPut.k (k:=.inr "set") ((Same.upd h4) _ _ e2) (show (3:Nat) < sizeLine by decide),?_⟩⟩;obtain ⟨H4,eH4,W4,k4⟩:=WordsAt.put (k:="set") (ws:=["put","cut","has"]) h4 e2 (n:=3) (F0 _) f2;refine (show∀A,H4=A->tSeq _ _ _ _ A from ?_) _ eH4;intro A eA;subst eA;obtain ⟨kvs4,e4,n4,f4⟩:=W4.ex;refine ⟨(show (4:Nat)<=sizeLine by decide),λ l5 h5=>⟨_,rfl,p,_,rfl,DPut.k (k:=.inr "cell") ((Same.upd h5) _ _ e4) (C1 n4 (by decide)),?_⟩⟩;obtain ⟨H5,eH5,W5,k5⟩:=WordsAt.put (k:="cell") (ws:=["read","write","swap","swap"]) h5 e4 n4 f4;refine (show∀A,H5=A->tSeq _ _ _ _ A from ?_) _ eH5;intro A eA;subst eA;have s5:Same H H5:=z9w (L:=[p]) ((s2.keptL.trans k4).trans k5) (λ l hl=>by rw [List.mem_singleton.mp hl];exact hp);obtain ⟨kvs,e5,_,f5⟩:=W5.ex;have w5:=R.hw.same s5;have fk:(if k = "cell" then some ["read","write","swap","swap"] else if k = "set" then some ["put","cut","has"] else if k = "register" then some ["write","read"] else if k = "counter" then some ["add","read"] else if k = "queue" then some ["put","take"] else none:Option (List Str))=some (verbsT k):=by have hk':=hk;unfold kinds5 at hk';simp only [T0,o0,or_false] at hk';rcases hk' with rfl|rfl|rfl|rfl|rfl<;>decide +kernel
  obtain ⟨l6,v6,e6⟩:=f5 k _ fk;have dg:DGet H5 p (.str k) (some (.ref l6)):=by have:=DGet.k (k:=.inr k) e5;rw [v6] at this;exact this
  refine ⟨_,rfl,_,rfl,p,.ref l6,rfl,dg,_,rfl,_,rfl,_,rfl,p,.ref l6,rfl,dg,.inl ⟨l6,_,rfl,.inl (SqL.of e6),?_⟩⟩;have hlen:0 < (verbsT k).length/\(verbsT k).length<=4:=by have hk':=hk;unfold kinds5 at hk';simp only [T0,o0,or_false] at hk';rcases hk' with rfl|rfl|rfl|rfl|rfl<;>decide +kernel
  refine ⟨r,_,rfl,w5.r,by rw [D0];omega,by rw [D0];omega,λ t7 H7 w7 h70 h71=>?_⟩;obtain ⟨v0,hv0,hm0⟩:=atI_of (xs:=(verbsT k).map V.str) h70 h71;obtain ⟨v,hv,rfl⟩:=List.mem_map.mp hm0;have n6:l6≠r:=λ z=>by
   obtain ⟨a,b,c,er,_⟩:=w5.r;rw [z,er] at e6;cases hws:verbsT k with
   | nil=>rw [hws] at hlen;exact absurd hlen.1 (by decide)
   | cons y ys=>rw [hws] at e6;cases e6
  refine .inl ⟨l6,_,t7,_,rfl,rfl,SqL.of (w7.k _ _ n6 e6),hv0,?_⟩;have w57:=w5.trans w7;refine ⟨_,rfl,(show (2:Nat)<=sizeLine by decide),λ p8 hp8=>⟨p8,[V.str "read",.str "take"],rfl,.inr (SqT.of upd_same),rfl,rfl,_,rfl,?_⟩⟩;have iv:inV (.str v) [.str "read",.str "take"]=decide (v∈(["read","take"]:List Str)):=zhh v ["read","take"];rw [if_neg U0,iv];have w8:=w57.same (Same.upd (o:=.tup [.str "read",.str "take"]) hp8);generalize upd H7 p8 (.tup [.str "read",.str "take"])=H8 at w8⊢;have fr :∀{H':Hp} {p':Addr},Hw r H H'->H' p'=none->H p'=none:=λ {H' p'} hw e=>by
   cases z:H p' with
   | none=>rfl
   | some o=>have nr:p'≠r:=hw.r.fresh e;rw [hw.k _ _ nr z] at e;cases e
  rcases zij hk hv with ⟨hrt,hd⟩|⟨hsw,hd⟩|⟨h1,h2,h3,hd⟩
  ·refine iteP (decide_eq_true (by rcases hrt with rfl|rfl<;>decide +kernel)) ?_;exact ⟨_,rfl,(show (2:Nat)<=sizeLine by decide),λ p9 hp9=>q p9 v .non .non _ (w8.same (Same.upd hp9)) upd_same (fr w8 hp9) hd rfl (λ _ _ e=>by cases e)⟩
  ·subst hsw;refine iteN (by decide +kernel) ⟨_,rfl,rfl,_,rfl,iteP (decide_eq_true rfl) ?_⟩;refine ⟨_,rfl,_,rfl,r,rfl,w8.r,λ i H9 w9 ni=>⟨_,rfl,r,rfl,w9.r,λ j H10 w10 nj=>⟨(show (2:Nat)<=sizeLine by decide),λ p11 hp11=>⟨(show (2:Nat)<=sizeLine by decide),λ p12 hp12=>?_⟩⟩⟩⟩;have s11:=Same.upd (o:=.tup [.int i,.int j]) hp11;have s12:=s11.trans (Same.upd (o:=.tup [.str "swap",.ref p11]) hp12);have w10:=(w8.trans w9).trans w10;exact q p12 "swap" (.ref p11) _ _ (w10.same s12) upd_same (fr (w10.same s11) hp12) (hd i j ni nj) (.mkT ((Same.upd hp12) _ _ upd_same) (.mk2 rfl rfl)) (λ a b e=>by cases e;exact ⟨p11,rfl,(Same.upd hp12) _ _ upd_same⟩)
  ·refine iteN (λ z=>?_) ⟨_,rfl,rfl,_,rfl,iteN (by rw [decide_eq_false λ e=>h3 (by injection e)];decide) ?_⟩
   ·have:=of_decide_eq_true z;simp only [T0,o0,or_false] at this;rcases this with z|z
    ·exact h1 z
    ·exact h2 z
   ·exact ⟨_,rfl,_,rfl,r,rfl,w8.r,λ i H9 w9 ni=>⟨(show (2:Nat)<=sizeLine by decide),λ p12 hp12=>q p12 v (.int i) _ _ ((w8.trans w9).same (Same.upd hp12)) upd_same (fr (w8.trans w9) hp12) (hd i ni) rfl (λ _ _ e=>by cases e)⟩⟩
end
section
noncomputable def oStep (os:List Int):Ev->List Int
 | .beg h _ _ _=>os++[h]
 | .fin h _=>os.filter λ k=>decide (k≠h)
noncomputable def oOk (os:List Int):Ev->Prop
 | .beg h _ _ _=>h∉os
 | .fin h _=>h∈os
noncomputable def EWf:List Int->List Ev->Prop
 | _,[]=>True
 | os,e :: es=>oOk os e/\EWf (oStep os e) es
theorem EWf.snoc :∀{es:List Ev} {os:List Int} {e:Ev},EWf os es->oOk (es.foldl oStep os) e->EWf os (es++[e])
 | [],os,e,_,h=>⟨h,trivial⟩
 | x :: es,os,e,w,h=>⟨w.1,EWf.snoc w.2 h⟩
theorem zgp {h:Int} (hs:List Int) :∀{j:Nat},lastI h hs=some j->hs[j]? = some h/\∀k,j < k->hs[k]?≠some h:=by
 suffices key :∀n (hs:List Int),hs.length=n->∀{j:Nat},lastI h hs=some j->hs[j]? = some h/\∀k,j < k->hs[k]?≠some h from λ {j} hj=>key _ hs rfl hj;intro n;induction n with
 | zero=>intro hs e j hj;have:=z7h hj;omega
 | succ n ih=>
  intro hs e j hj;have ne:hs≠[]:=λ z=>by rw [z] at e;cases e
  obtain ⟨ts,t,rfl⟩ :∃ts t,hs=ts++[t]:=⟨hs.dropLast,hs.getLast ne,(j11 ne).symm⟩
  rw [K0] at e;have e:ts.length=n:=by simpa using e
  rw [z3o] at hj;by_cases z:t=h
  ·rw [if_pos z] at hj;cases hj;refine ⟨by simp [z],λ k hk=>?_⟩;rw [y4 (by rw [K0];show ts.length + 1<=k;omega)];intro y;cases y
  ·rw [if_neg z] at hj;obtain ⟨h1,h2⟩:=ih ts e hj;have lt:=z7h hj;refine ⟨by rw [u3 lt];exact h1,λ k hk=>?_⟩;by_cases y:k < ts.length
   ·rw [u3 y];exact h2 k hk
   ·by_cases y2:k=ts.length
    ·subst y2;rw [c3 (F0 _)];simp;exact z
    ·rw [y4 (by rw [K0];show ts.length + 1<=k;omega)];intro y;cases y
theorem zdk {h:Int} (hs:List Int) (hm:h∈hs):(lastI h hs).isSome=true:=by
 suffices key :∀n (hs:List Int),hs.length=n->h∈hs->(lastI h hs).isSome=true from key _ hs rfl hm;intro n;induction n with
 | zero=>intro hs e hm;rw [List.length_eq_zero_iff.mp e] at hm;cases hm
 | succ n ih=>
  intro hs e hm;have ne:hs≠[]:=λ z=>by rw [z] at e;cases e
  obtain ⟨ts,t,rfl⟩ :∃ts t,hs=ts++[t]:=⟨hs.dropLast,hs.getLast ne,(j11 ne).symm⟩
  rw [K0] at e;rw [z3o];by_cases z:t=h
  ·rw [if_pos z];rfl
  ·rw [if_neg z];refine ih ts (by simpa using e) ?_;rcases List.mem_append.mp hm with y|y
   ·exact y
   ·exact absurd (List.mem_singleton.mp y).symm z
structure DInv (i:Nat) (rs:List Rc) (os:List Int):Prop where
 b :∀r∈rs,r.b < i
 e :∀r∈rs,∀e,r.e=some e->e < i
 p :∀(x y:Nat) (r q:Rc),x < y->rs[x]? = some r->rs[y]? = some q->r.b < q.b/\(r.h=q.h->∃e,r.e=some e/\e < q.b)
 o :∀r∈rs,r.h∉os->r.e.isSome=true
 m :∀h∈os,h∈rs.map Rc.h
theorem DInv.nil:DInv 0 [] []:=⟨λ _ h=>(by cases h),λ _ h=>(by cases h),λ x y r q _ h=>(by simp at h),λ _ h=>(by cases h),λ _ h=>(by cases h)⟩
theorem ze5 {rs:List Rc} {j:Nat} {f:Rc->Rc} (hf :∀r,(f r).h=r.h):(rs.modify j f).map Rc.h=rs.map Rc.h:=by
 apply J4;intro m;rw [V0,V0,U5];cases rs[m]? with
 | none=>rfl
 | some r=>
  show some (if j=m then f r else r).h=some r.h;by_cases z:j=m
  ·rw [if_pos z,hf]
  ·rw [if_neg z]
theorem DInv.step {i:Nat} {rs:List Rc} {os:List Int} (I:DInv i rs os) {e:Ev} (ok:oOk os e):DInv (i + 1) (dstep i rs e) (oStep os e)/\∀h a,e=.fin h a->(lastI h (rs.map Rc.h)).isSome=true:=by
 cases e with
 | beg h n v x=>
  have ok:h∉os:=ok;refine ⟨⟨λ r hr=>?_,λ r hr e he=>?_,λ x' y' r q hxy hx hy=>?_,λ r hr ho=>?_,λ k hk=>?_⟩,λ h a e=>by cases e⟩
  ·rcases List.mem_append.mp hr with z|z
   ·have:=I.b r z;omega
   ·rw [List.mem_singleton.mp z];exact K2 i
  ·rcases List.mem_append.mp hr with z|z
   ·have:=I.e r z e he;omega
   ·rw [List.mem_singleton.mp z] at he;cases he
  ·have hy':y' < (dstep i rs (.beg h n v x)).length:=(List.getElem?_eq_some_iff.mp hy).1;have hl:(dstep i rs (.beg h n v x)).length=rs.length + 1:=by show (rs++[_]).length=_;rw [K0];rfl
   have hx2:rs[x']? = some r:=by
    have:(rs++[_])[x']? = some r:=hx
    rwa [u3 (by omega)] at this
   by_cases z:y' < rs.length
   ·have hy2:rs[y']? = some q:=by
     have:(rs++[_])[y']? = some q:=hy
     rwa [u3 z] at this
    exact I.p x' y' r q hxy hx2 hy2
   ·have hy3:(rs++[_])[y']? = some q:=hy;have ey:y'=rs.length:=by omega
    subst ey;rw [c3 (F0 _)] at hy3;simp at hy3;have mr:=R0 hx2;rw [<-hy3];refine ⟨I.b r mr,λ hh=>?_⟩;have:r.e.isSome=true:=I.o r mr (by rw [hh];exact ok);obtain ⟨e,he⟩:=Option.isSome_iff_exists.mp this;exact ⟨e,he,I.e r mr e he⟩
  ·rcases List.mem_append.mp hr with z|z
   ·exact I.o r z λ y=>ho (List.mem_append.mpr (.inl y))
   ·rw [List.mem_singleton.mp z] at ho;exact absurd (List.mem_append.mpr (.inr (List.mem_singleton.mpr rfl))) ho
  ·show k∈(rs++[_]).map Rc.h;rw [L1];rcases List.mem_append.mp hk with z|z
   ·exact List.mem_append.mpr (.inl (I.m k z))
   ·rw [List.mem_singleton.mp z];exact List.mem_append.mpr (.inr (List.mem_singleton.mpr rfl))
 | fin h a=>
  have ok:h∈os:=ok;obtain ⟨j,hj⟩:=Option.isSome_iff_exists.mp (zdk _ (I.m h ok));refine ⟨?_,λ h' a' e=>by cases e;rw [hj];rfl⟩;obtain ⟨g1,g2⟩:=zgp _ hj;have hd:dstep i rs (.fin h a)=rs.modify j (λ r=>{ r with a:=a,e:=some i }):=by unfold dstep;dsimp only;rw [hj]
  rw [hd];have hs:oStep os (.fin h a)=os.filter λ k=>decide (k≠h):=rfl;rw [hs];rw [V0] at g1;obtain ⟨rj,ej,hjh⟩:=Option.map_eq_some_iff.mp g1;have get :∀m q,(rs.modify j (λ r=>{ r with a:=a,e:=some i }))[m]? = some q->∃r,rs[m]? = some r/\q.h=r.h/\q.b=r.b/\(m=j->q.e=some i)/\(m≠j->q=r):=λ m q hq=>by
   rw [U5] at hq;obtain ⟨r,hr,e⟩:=Option.map_eq_some_iff.mp hq;refine ⟨r,hr,?_⟩;by_cases z:j=m
   ·rw [if_pos z] at e;rw [<-e];exact ⟨rfl,rfl,λ _=>rfl,λ y=>absurd z.symm y⟩
   ·rw [if_neg z] at e;rw [<-e];exact ⟨rfl,rfl,λ y=>absurd y.symm z,λ _=>rfl⟩
  refine ⟨λ r hr=>?_,λ r hr e he=>?_,λ x' y' r q hxy hx hy=>?_,λ r hr ho=>?_,λ k hk=>?_⟩
  ·obtain ⟨m,hm⟩:=List.mem_iff_getElem?.mp hr;obtain ⟨r',h1,_,h3,_⟩:=get m r hm;have:=I.b r' (R0 h1);omega
  ·obtain ⟨m,hm⟩:=List.mem_iff_getElem?.mp hr;obtain ⟨r',h1,_,_,h4,h5⟩:=get m r hm;by_cases z:m=j
   ·rw [h4 z] at he;cases he;exact K2 i
   ·rw [h5 z] at he;have:=I.e r' (R0 h1) e he;omega
  ·obtain ⟨r',r1,r2,r3,r4,r5⟩:=get x' r hx;obtain ⟨q',q1,q2,q3,_⟩:=get y' q hy;obtain ⟨p1,p2⟩:=I.p x' y' r' q' hxy r1 q1;refine ⟨by omega,λ hh=>?_⟩;by_cases z:x'=j
   ·subst z;rw [ej] at r1;cases r1;refine absurd ?_ (g2 y' hxy);rw [V0,q1];show some q'.h=some h;rw [<-q2,<-hh,r2,hjh]
   ·rw [r5 z] at hh⊢;rw [q2] at hh;obtain ⟨e,he,lt⟩:=p2 hh;exact ⟨e,he,by omega⟩
  ·obtain ⟨m,hm⟩:=List.mem_iff_getElem?.mp hr;obtain ⟨r',h1,h2,_,h4,h5⟩:=get m r hm;by_cases z:m=j
   ·rw [h4 z];rfl
   ·rw [h5 z] at ho⊢;by_cases y:r'.h=h
    ·have lt:m < j:=by
      rcases Nat.lt_or_gt_of_ne z with l|l
      ·exact l
      ·exact absurd (by rw [V0,h1];show some r'.h=_;rw [y]) (g2 m l)
     obtain ⟨_,p2⟩:=I.p m j r' rj lt h1 ej;obtain ⟨e,he,_⟩:=p2 (by rw [y,hjh]);rw [he];rfl
    ·exact I.o r' (R0 h1) λ w=>ho (List.mem_filter.mpr ⟨w,decide_eq_true y⟩)
  ·rw [ze5 (f:=λ r=>{ r with a:=a,e:=some i }) (λ r=>rfl)];exact I.m k (List.mem_filter.mp hk).1
theorem DInv.all :∀{es:List Ev} {i:Nat} {rs:List Rc} {os:List Int},DInv i rs os->EWf os es->dWf i rs es/\∃os',DInv (i + es.length) (dAll i rs es) os'
 | [],i,rs,os,I,_=>⟨trivial,os,I⟩
 | e :: es,i,rs,os,I,w=>by obtain ⟨I1,h1⟩:=I.step w.1;obtain ⟨h2,os',I2⟩:=DInv.all I1 w.2;refine ⟨⟨h1,h2⟩,os',?_⟩;rw [W0,show i + (es.length + 1)=i + 1 + es.length by omega];exact I2
theorem zc9 {kvs:List (Key×V)} {k j:Key} (h:j≠k):valV (dropK kvs k) j=valV kvs j:=by
 induction kvs with
 | nil=>rfl
 | cons p r ih=>
  by_cases z:p.1=k
  ·rw [zbh z,ih];have:p.1≠j:=λ y=>h (y.symm.trans z);obtain ⟨pk,pv⟩:=p;exact (z0t this).symm
  ·rw [zcd z];obtain ⟨pk,pv⟩:=p;by_cases y:pk=j
   ·subst y;rw [z0y rfl,z0y rfl]
   ·rw [z0t y,z0t y,ih]
theorem zbf {kvs:List (Key×V)} {h:Int} :∀{os:List Int},kvs.map (·.1)=os.map Sum.inl->(dropK kvs (.inl h)).map (·.1)=(os.filter λ k=>decide (k≠h)).map Sum.inl:=by
 induction kvs with
 | nil=>intro os e;cases os with|nil=>rfl|cons o os=>cases e
 | cons p r ih=>
  intro os e;cases os with
  | nil=>cases e
  | cons o os=>
   rw [v1,v1] at e;injection e with e1 e2;by_cases z:o=h
   ·rw [zbh (by rw [e1,z]),List.filter_cons_of_neg (by simp [z])];exact ih e2
   ·rw [zcd (by rw [e1];exact λ y=>z (M3 y)),List.filter_cons_of_pos (by simp [z]),v1,v1,e1,ih e2]
theorem valV_isSome {kvs:List (Key×V)} {k:Key}:(valV kvs k).isSome=true↔k∈kvs.map (·.1):=by
 induction kvs with
 | nil=>simp [valV]
 | cons p r ih=>
  obtain ⟨pk,pv⟩:=p;by_cases y:pk=k
  ·subst y;rw [z0y rfl];simp
  ·rw [z0t y,ih,v1,T0];exact ⟨λ z=>.inr z,λ z=>z.resolve_left λ x=>y x.symm⟩
theorem z3r {kvs:List (Key×V)} {k:Key} {v:V} (h:k∉kvs.map (·.1)):putK kvs k v=kvs++[(k,v)]:=by unfold putK;rw [if_neg];intro z;obtain ⟨p,hp,e⟩:=List.any_eq_true.mp z;exact h (List.mem_map.mpr ⟨p,hp,of_decide_eq_true e⟩)
theorem z6u {α β:Type} {R S:α->β->Prop} :∀{xs:List α} {ys:List β},(∀a b,b∈ys->R a b->S a b)->All2 R xs ys->All2 S xs ys
 | _,_,_,.nil=>.nil
 | _,_,h,.cons a r=>.cons (h _ _ B1 a) (z6u (λ x y hy z=>h x y (G1 _ hy) z) r)
theorem z14 {α β:Type} {R:α->β->Prop} :∀{xs:List α} {ys:List β},ys.length=xs.length->(∀(k:Nat) a b,xs[k]? = some a->ys[k]? = some b->R a b)->All2 R xs ys
 | [],[],_,_=>.nil
 | [],y :: ys,h,_=>by cases h
 | x :: xs,[],h,_=>by cases h
 | x :: xs,y :: ys,h,f=>.cons (f 0 x y rfl rfl) (z14 (by simpa using h) λ k a b ha hb=>f (k + 1) a b (by rw [Z2];exact ha) (by rw [Z2];exact hb))
end
section
theorem z60 {m:Nat} {rs:List Rc} {a b:Nat} {r q:Rc} (ha:rs[a]? = some r) (hb:rs[b]? = some q):z0x m rs a b=aheadB m r q:=by unfold z0x;rw [ha,hb]
theorem DInv.hands {i:Nat} {rs:List Rc} {os:List Int} (I:DInv i rs os) {a b:Nat} {r q:Rc} (ha:rs[a]? = some r) (hb:rs[b]? = some q):aheadB 1 r q=(decide (a < b) && decide (r.h=q.h)):=by
 show (decide (r.h=q.h) && decide (r.b < q.b))=_;rw [Bool.and_comm];congr 1;apply decide_eq_decide.mpr;constructor
 ·intro lt;rcases j08 a b with l|l|l
  ·exact l
  ·subst l;rw [ha] at hb;cases hb;omega
  ·have:=(I.p b a q r l hb ha).1;omega
 ·exact λ l=>(I.p a b r q l ha hb).1
theorem mem_pairsTo {m:Nat} {rs:List Rc} {p:Nat×Nat} {n:Nat}:p∈z1k m rs n↔p.1 < n/\p.2 < rs.length/\z0x m rs p.1 p.2=true:=by
 unfold z1k rowTo;rw [List.mem_flatMap];constructor
 ·rintro ⟨a,ha,h⟩;obtain ⟨b,hb,rfl⟩:=List.mem_map.mp h;obtain ⟨h1,h2⟩:=List.mem_filter.mp hb;exact ⟨List.mem_range.mp ha,List.mem_range.mp h1,h2⟩
 ·rintro ⟨h1,h2,h3⟩;exact ⟨p.1,List.mem_range.mpr h1,List.mem_map.mpr ⟨p.2,List.mem_filter.mpr ⟨List.mem_range.mpr h2,h3⟩,rfl⟩⟩
end
section
inductive Sv
 | num (i:Int)
 | row (ns:List Int)
def rowK (k:Str):Prop:=k = "queue"\/k = "set"
instance (k:Str):Decidable (rowK k):=by unfold rowK;infer_instance
noncomputable def opOf (k v:Str):Nat:=if k = "queue" then (if v = "put" then 0 else 1) else if k = "set" then (if v = "put" then 2 else if v = "cut" then 3 else 4) else if v = "read" then 5 else if v = "add" then 6 else if v = "write" then 7 else 8
noncomputable def dI:Dt->Int
 | .int i=>i
 | _=>0
noncomputable def srtI (ns:List Int):List Int:=ns.mergeSort λ a b=>decide (a<=b)
noncomputable def dzo:Nat->Dt->Sv->Sv×V
 | 0,d,.row ns=>(.row (ns++[dI d]),.str "ok")
 | 1,_,.row []=>(.row [],.str "none")
 | 1,_,.row (m :: r)=>(.row r,.int m)
 | 2,d,.row ns=>if dI d∈ns then (.row ns,.int 0) else (.row (srtI (ns++[dI d])),.int 1)
 | 3,d,.row ns=>(.row (ns.filter λ j=>!decide (j=dI d)),.int (if dI d∈ns then 1 else 0))
 | 4,d,.row ns=>(.row ns,.int (if dI d∈ns then 1 else 0))
 | 5,_,.num i=>(.num i,.int i)
 | 6,d,.num i=>(.num (i + dI d),.int i)
 | 7,d,.num _=>(.num (dI d),.str "ok")
 | 8,.tup [.int a,.int b],.num i=>if i=a then (.num b,.int 1) else (.num i,.int 0)
 | _,_,s=>(s,.non)
noncomputable def dz (k v:Str) (d:Dt) (s:Sv):Sv×V:=dzo (opOf k v) d s
theorem dz_at {k v:Str} {d:Dt} {s:Sv} {n:Nat} (h:opOf k v=n):dz k v d s=dzo n d s:=by unfold dz;rw [h]
theorem dz_quP {i:Int} {ns:List Int}:dz "queue" "put" (.int i) (.row ns)=(.row (ns++[i]),.str "ok"):=dz_at (n:=0) (by decide +kernel)
theorem zeu {d:Dt}:dz "queue" "take" d (.row [])=(.row [],.str "none"):=dz_at (n:=1) (by decide +kernel)
theorem dz_quT {d:Dt} {m:Int} {r:List Int}:dz "queue" "take" d (.row (m :: r))=(.row r,.int m):=dz_at (n:=1) (by decide +kernel)
theorem zdx {i:Int} {ns:List Int}:dz "set" "put" (.int i) (.row ns)=if i∈ns then (.row ns,.int 0) else (.row (srtI (ns++[i])),.int 1):=dz_at (n:=2) (by decide +kernel)
theorem zen {i:Int} {ns:List Int}:dz "set" "cut" (.int i) (.row ns)=(.row (ns.filter λ j=>!decide (j=i)),.int (if i∈ns then 1 else 0)):=dz_at (n:=3) (by decide +kernel)
theorem zed {i:Int} {ns:List Int}:dz "set" "has" (.int i) (.row ns)=(.row ns,.int (if i∈ns then 1 else 0)):=dz_at (n:=4) (by decide +kernel)
theorem zfg {d:Dt} {i:Int}:dz "register" "read" d (.num i)=(.num i,.int i):=dz_at (n:=5) (by decide +kernel)
theorem zer {d:Dt} {i:Int}:dz "counter" "read" d (.num i)=(.num i,.int i):=dz_at (n:=5) (by decide +kernel)
theorem zez {d:Dt} {i:Int}:dz "cell" "read" d (.num i)=(.num i,.int i):=dz_at (n:=5) (by decide +kernel)
theorem zdh {i j:Int}:dz "counter" "add" (.int j) (.num i)=(.num (i + j),.int i):=dz_at (n:=6) (by decide +kernel)
theorem zeb {i j:Int}:dz "register" "write" (.int j) (.num i)=(.num j,.str "ok"):=dz_at (n:=7) (by decide +kernel)
theorem zey {i j:Int}:dz "cell" "write" (.int j) (.num i)=(.num j,.str "ok"):=dz_at (n:=7) (by decide +kernel)
theorem zf9 {i a b:Int}:dz "cell" "swap" (.tup [.int a,.int b]) (.num i)=if i=a then (.num b,.int 1) else (.num i,.int 0):=dz_at (n:=8) (by decide +kernel)
theorem z7n (ns:List Int):(srtI ns).Perm ns:=List.mergeSort_perm ns _
theorem z41 (ns:List Int):(srtI ns).Pairwise (·<=·):=by have:=List.pairwise_mergeSort (le:=λ a b:Int=>decide (a<=b)) (λ a b c h1 h2=>decide_eq_true (Int.le_trans (of_decide_eq_true h1) (of_decide_eq_true h2))) (λ a b=>by rcases Int.le_total a b with h|h<;>simp [h]) ns;exact this.imp λ h=>of_decide_eq_true h
theorem z78 {xs ys:List Int} (p:xs.Perm ys) (hx:xs.Pairwise (·<=·)) (hy:ys.Pairwise (·<=·)):xs=ys:=p.eq_of_pairwise (le:=(·<=·)) (λ _ _ _ _ h1 h2=>Int.le_antisymm h1 h2) hx hy
theorem zdy {ns:List Int} {i:Int} (h:i∉ns):addI ns i=ns++[i]:=by unfold addI;rw [if_neg h]
theorem zi7 {ns:List Int} {i:Int} (h:i∈ns):addI ns i=ns:=by unfold addI;rw [if_pos h]
theorem z5o :∀(ns acc:List Int),(acc++ns).Nodup->ns.foldl addI acc=acc++ns
 | [],acc,_=>(C3 acc).symm
 | n :: ns,acc,h=>by
  have hn:n∉acc:=λ z=>by have:=(List.nodup_append.mp h).2.2 n z n B1;exact this rfl
  rw [i5,zdy hn,z5o ns (acc++[n]) (by rw [C5];exact h),C5];rfl
theorem za8 {ns:List Int} (h:ns.Pairwise (· < ·)):ns.Nodup:=h.imp λ z e=>by omega
theorem zjj {ns ns':List Int} {i:Int} (hs:ns.Pairwise (· < ·)) (hi:i∈ns) (pm:ns'.Perm ((ns++[i]).foldl addI [])) (pw:ns'.Pairwise (·<=·)):ns'=ns:=by rw [G4,z5o ns [] (za8 hs)] at pm;rw [show [i].foldl addI ([]++ns)=ns from zi7 hi] at pm;exact z78 pm pw (hs.imp λ h=>Int.le_of_lt h)
theorem zk2 {ns ns':List Int} {i:Int} (hs:ns.Pairwise (· < ·)) (hi:i∉ns) (pm:ns'.Perm ((ns++[i]).foldl addI [])) (pw:ns'.Pairwise (·<=·)):ns'=srtI (ns++[i]):=by rw [G4,z5o ns [] (za8 hs)] at pm;rw [show [i].foldl addI ([]++ns)=ns++[i] from zdy hi] at pm;exact z78 (pm.trans (z7n _).symm) pw (z41 _)
noncomputable def SvOk (n:Nat) (k:Str):Sv->Prop
 | .row ns=>rowK k/\ns.length<=n/\(∀i∈ns,near i)/\(k = "set"->ns.Pairwise (· < ·))
 | .num i=>¬ rowK k/\-(1000000000 * (n:Int))<=i/\i<=1000000000 * (n:Int)
def AnsV (a:V):Prop:=a=.str "ok"\/a=.str "none"\/∃i:Int,a=.int i/\-100000000000<=i/\i<=100000000000
theorem SvOk.le {n m:Nat} {k:Str} :∀{s:Sv},n<=m->SvOk n k s->SvOk m k s
 | .row _,l,h=>⟨h.1,G0 h.2.1 l,h.2.2⟩
 | .num _,l,h=>⟨h.1,by have:=h.2.1;omega,by have:=h.2.2;omega⟩
theorem SvOk.isRow {n:Nat} {k:Str} :∀{s:Sv},SvOk n k s->rowK k->∃ns,s=.row ns/\ns.length<=n/\(∀i∈ns,near i)/\(k = "set"->ns.Pairwise (· < ·))
 | .row ns,h,_=>⟨ns,rfl,h.2⟩
 | .num _,h,hk=>absurd hk h.1
theorem SvOk.isNum {n:Nat} {k:Str} :∀{s:Sv},SvOk n k s->¬ rowK k->∃i,s=.num i/\-(1000000000 * (n:Int))<=i/\i<=1000000000 * (n:Int)
 | .row _,h,hk=>absurd h.1 hk
 | .num i,h,_=>⟨i,rfl,h.2⟩
theorem SvOk.row {n:Nat} {k:Str} {ns:List Int} (h1:rowK k) (h2:ns.length<=n) (h3 :∀i∈ns,near i) (h4:k = "set"->ns.Pairwise (· < ·)):SvOk n k (.row ns):=⟨h1,h2,h3,h4⟩
theorem SvOk.num {n:Nat} {k:Str} {i:Int} (h1:¬ rowK k) (h2:-(1000000000 * (n:Int))<=i) (h3:i<=1000000000 * (n:Int)):SvOk n k (.num i):=⟨h1,h2,h3⟩
theorem z1i {i:Int} (h0:-100000000000<=i) (h1:i<=100000000000):AnsV (.int i):=.inr (.inr ⟨i,rfl,h0,h1⟩)
theorem ans_b {p:Prop} [Decidable p]:AnsV (.int (if p then 1 else 0)):=by
 by_cases h:p
 ·rw [if_pos h];exact z1i (by decide) (by decide)
 ·rw [if_neg h];exact z1i (by decide) (by decide)
theorem dz_ok {n:Nat} {k v:Str} {d:Dt} {s:Sv} (hd:DeedOk k v d) (h:SvOk n k s) (hn:n < 63):SvOk (n + 1) k (dz k v d s).1/\AnsV (dz k v d s).2:=by
 have isQ:rowK "queue":=.inl rfl;have isS:rowK "set":=.inr rfl;have nq:("queue" : Str)≠"set":=by decide +kernel
 have nR:¬ rowK "register":=by decide +kernel
 have nC:¬ rowK "counter":=by decide +kernel
 have nL:¬ rowK "cell":=by decide +kernel
 cases hd with
 | quP ni=>
  obtain ⟨ns,rfl,h1,h2,h3⟩:=h.isRow isQ;rw [dz_quP];refine ⟨.row isQ (by rw [K0];exact T4 h1) (λ j hj=>?_) λ z=>absurd z nq,.inl rfl⟩;rcases List.mem_append.mp hj with y|y
  ·exact h2 j y
  ·rw [List.mem_singleton.mp y];exact ni
 | quT=>
  obtain ⟨ns,rfl,h1,h2,h3⟩:=h.isRow isQ;cases ns with
  | nil=>rw [zeu];exact ⟨.row isQ (Q1 _) (λ j hj=>by cases hj) (λ z=>absurd z nq),.inr (.inl rfl)⟩
  | cons m r=>rw [dz_quT];rw [W0] at h1;have hm:=h2 m B1;exact ⟨.row isQ (by omega) (λ j hj=>h2 j (G1 _ hj)) (λ z=>absurd z nq),z1i (by have:=hm.1;omega) (by have:=hm.2;omega)⟩
 | setP ni=>
  rename_i i;obtain ⟨ns,rfl,h1,h2,h3⟩:=h.isRow isS;rw [zdx];by_cases z:i∈ns
  ·rw [if_pos z];exact ⟨.row isS (S6 h1) h2 h3,z1i (by decide) (by decide)⟩
  ·rw [if_neg z];have pm:=z7n (ns++[i]);refine ⟨.row isS (by rw [pm.length_eq,K0];exact T4 h1) (λ j hj=>?_) (λ _=>?_),z1i (by decide) (by decide)⟩
   ·rcases List.mem_append.mp (pm.mem_iff.mp hj) with y|y
    ·exact h2 j y
    ·rw [List.mem_singleton.mp y];exact ni
   ·have nd:(srtI (ns++[i])).Nodup:=pm.nodup_iff.mpr (by rw [N6];exact ⟨za8 (h3 rfl),by simp,λ a ha b hb e=>z (by rw [<-List.mem_singleton.mp hb,<-e];exact ha)⟩);exact ((z41 (ns++[i])).and nd).imp λ h=>by have:=h.1;have:=h.2;omega
 | setC ni=>obtain ⟨ns,rfl,h1,h2,h3⟩:=h.isRow isS;rw [zen];exact ⟨.row isS (G0 (U2 _ _) (S6 h1)) (λ j hj=>h2 j (List.mem_filter.mp hj).1) (λ z=>(h3 z).filter _),ans_b⟩
 | setH ni=>obtain ⟨ns,rfl,h1,h2,h3⟩:=h.isRow isS;rw [zed];exact ⟨.row isS (S6 h1) h2 h3,ans_b⟩
 | regR=>obtain ⟨a,rfl,h1,h2⟩:=h.isNum nR;rw [zfg];exact ⟨.num nR (by omega) (by omega),z1i (by omega) (by omega)⟩
 | cntR=>obtain ⟨a,rfl,h1,h2⟩:=h.isNum nC;rw [zer];exact ⟨.num nC (by omega) (by omega),z1i (by omega) (by omega)⟩
 | celR=>obtain ⟨a,rfl,h1,h2⟩:=h.isNum nL;rw [zez];exact ⟨.num nL (by omega) (by omega),z1i (by omega) (by omega)⟩
 | cntA ni=>obtain ⟨a,rfl,h1,h2⟩:=h.isNum nC;rw [zdh];have:=ni.1;have:=ni.2;exact ⟨.num nC (by omega) (by omega),z1i (by omega) (by omega)⟩
 | regW ni=>obtain ⟨a,rfl,h1,h2⟩:=h.isNum nR;rw [zeb];have:=ni.1;have:=ni.2;exact ⟨.num nR (by omega) (by omega),.inl rfl⟩
 | celW ni=>obtain ⟨a,rfl,h1,h2⟩:=h.isNum nL;rw [zey];have:=ni.1;have:=ni.2;exact ⟨.num nL (by omega) (by omega),.inl rfl⟩
 | celS ni nj=>
  rename_i i j;obtain ⟨a,rfl,h1,h2⟩:=h.isNum nL;rw [zf9];have:=nj.1;have:=nj.2;by_cases z:a=i
  ·rw [if_pos z];exact ⟨.num nL (by omega) (by omega),z1i (by decide) (by decide)⟩
  ·rw [if_neg z];exact ⟨.num nL (by omega) (by omega),z1i (by decide) (by decide)⟩
noncomputable def StZ (K:b0) (H:Hp):Sv->V->Prop
 | .row ns,v=>∃p,v=.ref p/\SqT K H p (ns.map V.int)
 | .num i,v=>v=.int i
theorem StZ.tups {K:b0} {H H':Hp} (t:Tups K H H') :∀{s:Sv} {v:V},StZ K H s v->StZ K H' s v
 | .row _,_,h=>h.elim λ p z=>⟨p,z.1,t _ _ z.2⟩
 | .num _,_,h=>h
def StAt (K:b0) (H:Hp) (n:Nat) (k:Str) (v:V):Prop:=∃s,SvOk n k s/\StZ K H s v
theorem StAt.tups {K:b0} {H H':Hp} {n:Nat} {k:Str} {v:V} (t:Tups K H H') (h:StAt K H n k v):StAt K H' n k v:=h.elim λ s z=>⟨s,z.1,z.2.tups t⟩
theorem StAt.le {K:b0} {H:Hp} {n m:Nat} {k:Str} {v:V} (l:n<=m) (h:StAt K H n k v):StAt K H m k v:=h.elim λ s z=>⟨s,z.1.le l,z.2⟩
noncomputable def zeroK (k:Str):Sv:=if rowK k then .row [] else .num 0
theorem z7a (k:Str):SvOk 0 k (zeroK k):=by
 unfold zeroK;by_cases h:rowK k
 ·rw [if_pos h];exact .row h (F0 _) (λ i hi=>by cases hi) (λ _=>.nil)
 ·rw [if_neg h];exact .num h (by omega) (by omega)
end
section
variable {P:Program} {w:y1} {mg:Str->Option Value} {base:Heap}
def z1n (K:b0):Sp:=λ vs H Q _=>∃(k:Str),vs=[.str k]/\∀v H',Same H H'->StZ K H' (zeroK k) v->Q v H'
theorem z8g (T:TX (KX w.params) mg):FnOk P w (KX w.params) mg base CX0 1 260 fd__law_begun ["kind"] (z1n (KX w.params)):=by
 refine (z39 w.params).ok z9c (λ vs H Q E h=>?_) (λ cdv A outer s H vs Q E hr h=>?_)
 ·obtain ⟨k,rfl,_⟩:=h;rfl
 ·obtain ⟨k,rfl,q⟩:=h;refine ⟨_,(z02 (ps_if (z09 z1z (pv 0) (pe_tup (z00 pe_str (z00 pe_str pa_nil))) (by with_unfolding_all rfl))
   (z05 (ps_ret (pe_tup pa_nil)))
   z0d)
   (z05 (ps_ret pe_int))),?_⟩
  refine ⟨_,rfl,(show (2:Nat)<=sizeLine by decide),λ p hp=>⟨p,[V.str "queue",.str "set"],rfl,.inr (SqT.of upd_same),rfl,rfl,_,rfl,?_⟩⟩;have iv:inV (.str k) [.str "queue",.str "set"]=decide (k∈(["queue","set"]:List Str)):=zhh k ["queue","set"];rw [if_neg U0,iv];have s1:=Same.upd (o:=.tup [.str "queue",.str "set"]) hp;by_cases z:k∈(["queue","set"]:List Str)
  ·refine iteP (decide_eq_true z) ⟨(show (0:Nat)<=sizeLine by decide),λ p2 hp2=>?_⟩;have hk:rowK k:=by simpa [rowK] using z
   exact q _ _ (s1.trans (Same.upd hp2)) (by unfold zeroK;rw [if_pos hk];exact ⟨p2,rfl,SqT.of upd_same⟩)
  ·refine iteN (by rw [decide_eq_false z];decide) ?_;exact q _ _ s1 (by unfold zeroK;rw [if_neg λ hk=>z (by simpa [rowK] using hk)];rfl)
def z1g (K:b0):Sp:=λ vs H Q _=>∃(k v:Str) (st x:V) (d:Dt) (n:Nat) (sv:Sv),vs=[.str k,st,.str v,x]/\SvOk n k sv/\StZ K H sv st/\n < 63/\DeedOk k v d/\IsDt K H d x/\WorthIn H d x/\∀p st' H',Same H H'->H' p=some (.tup [st',(dz k v d sv).2])->StZ K H' (dz k v d sv).1 st'->Q (.ref p) H'
theorem zaf (T:TX (KX w.params) mg):FnOk P w (KX w.params) mg base CX0 1 265 fd__law_does ["kind","state","verb","worth"] (z1g (KX w.params)):=by
 refine (z42 w.params).ok sc__law_does (λ vs H Q E h=>?_) (λ cdv A outer s H vs Q E hr h=>?_)
 ·obtain ⟨k,v,st,x,d,n,sv,rfl,_⟩:=h;rfl
 ·obtain ⟨k,v,st,x,d,n,sv,rfl,so,sz,hn,hd,hx,wi,q⟩:=h;refine ⟨_,(z02 (ps_if (z09 opEq (pv 0) pe_str (nomark _))
   (z02 (ps_if (z09 opEq (pv 2) pe_str (nomark _))
   (z05 (ps_ret (pe_tup (z00 (pe_op op_catS (pv 1) (pe_tup (z00 (pv 3) pa_nil))) (z00 pe_str pa_nil)))))
   z0d)
   (z05 (ps_ret (pe_tup (z00 (z27 slSeqW (pv 1) (z2t pe_int) z62) (z00 (pe_ix ix_seq (pe_op op_catS (pv 1) (pe_tup (z00 pe_str pa_nil))) pe_int (λ _ _=>rfl)) pa_nil))))))
   z0d)
   (z02 (ps_if (z09 opEq (pv 0) pe_str (nomark _))
   (z02 (ps_set (i:=4) sc__law_does.nd rfl (by first|exact Y0 rfl|exact X0 rfl) (z0h z5q rfl (T.no (n_int _)) X9 (z00 (z0o z1z (pv 3) (pv 1) (by with_unfolding_all rfl)) pa_nil)))
   (z02 (ps_if (z09 opEq (pv 2) pe_str (nomark _))
   (z05 (ps_ret (pe_tup (z00 (z0h z0p rfl (T.no (z26 _)) S4 (z00 (zam rfl rfl (T.no (z89 _)) rfl (T.no (n_set _)) j29 boot_set (pe_op op_catS (pv 1) (pe_tup (z00 (pv 3) pa_nil)))) pa_nil)) (z00 (pe_op op_sub pe_int (pv 4)) pa_nil)))))
   z0d)
   (z02 (ps_if (z09 opEq (pv 2) pe_str (nomark _))
   (z05 (ps_ret (pe_tup (z00 (z0h z0p rfl (T.no (z26 _)) S4 (z00 (z0s (xs:=["one"]) (g:=gName 0) (fr:=[(3,"worth")]) rfl (pi_tup (pv 1)) (by intro p hp;obtain rfl:=List.mem_singleton.mp hp;first|exact ⟨rfl,.inl rfl⟩|exact ⟨rfl,.inr rfl⟩) (z2i (n:="worth") (by decide +kernel) (λ _=>by first|exact .inl rfl|exact .inr rfl)) (by intro p hp;obtain rfl:=List.mem_singleton.mp hp;exact ⟨by decide +kernel,by first|exact .inl rfl|exact .inr rfl⟩) (by decide +kernel) rfl (by decide +kernel) (λ _ _ _ _ _=>(z0j (N:=["one","worth"]) 0 (by decide +kernel) rfl rfl)) (λ _ _ _ _ _=>(pf_one (z09 opNe (pv 0) (pv 1) (nomark _)))) (λ _ _ _ _ _=>(pv 0))) pa_nil)) (z00 (pv 4) pa_nil)))))
   z0d)
   (z05 (ps_ret (pe_tup (z00 (pv 1) (z00 (pv 4) pa_nil))))))))
   z0d)
   (z02 (ps_if (z09 opEq (pv 2) pe_str (nomark _))
   (z05 (ps_ret (pe_tup (z00 (pv 1) (z00 (pv 1) pa_nil)))))
   z0d)
   (z02 (ps_if (z09 opEq (pv 2) pe_str (nomark _))
   (z05 (ps_ret (pe_tup (z00 (pe_op opAdd (pv 1) (pv 3)) (z00 (pv 1) pa_nil)))))
   z0d)
   (z02 (ps_if (z09 opEq (pv 2) pe_str (nomark _))
   (z05 (ps_ret (pe_tup (z00 (pv 3) (z00 pe_str pa_nil)))))
   z0d)
   (z05 (ps_ret (pe_tup (z00 (pe_ix ix_seq (pe_lst (z00 (pv 1) (z00 (pe_ix ix_seq (pv 3) pe_int (λ _ _=>rfl)) pa_nil))) (z0h z5q rfl (T.no (n_int _)) X9 (z00 (z0o opEq (pv 1) (pe_ix ix_seq (pv 3) pe_int (λ _ _=>rfl)) (nomark _)) pa_nil)) (λ _ _=>rfl)) (z00 (z0h z5q rfl (T.no (n_int _)) X9 (z00 (z0o opEq (pv 1) (pe_ix ix_seq (pv 3) pe_int (λ _ _=>rfl)) (nomark _)) pa_nil)) pa_nil)))))))))),?_⟩
  have big :∀{ns:List Int},ns.length<=n->(ns.map V.int).length + 1<=sizeLine:=λ l=>by rw [D0];exact G0 (m:=64) (by omega) (by decide)
  have mapS :∀(ns:List Int) (i:Int),ns.map V.int++[V.int i]=(ns++[i]).map V.int:=λ ns i=>by rw [L1];rfl
  have isQ:rowK "queue":=.inl rfl;have isS:rowK "set":=.inr rfl;cases hd with
  | quP ni=>rename_i i;obtain ⟨ns,rfl,ln,_,_⟩:=so.isRow isQ;obtain ⟨t,rfl,sq⟩:=sz;cases (show x=V.int i from hx);refine ⟨_,rfl,rfl,_,rfl,iteP (decide_eq_true rfl) ⟨_,rfl,rfl,_,rfl,iteP (decide_eq_true rfl) ?_⟩⟩;refine ⟨_,rfl,_,rfl,(show (1:Nat)<=sizeLine by decide),λ p1 hp1=>?_⟩;have s1:=Same.upd (o:=.tup [.int i]) hp1;refine ⟨t,p1,ns.map V.int,[.int i],rfl,rfl,s1.seqT sq,SqT.of upd_same,by simp,big ln,λ p2 H2 s2 sq2=>?_⟩;rw [mapS] at sq2;rw [dz_quP] at q;exact ⟨(show (2:Nat)<=sizeLine by decide),λ p3 hp3=>q p3 _ _ ((s1.trans s2).trans (Same.upd hp3)) upd_same ⟨p2,rfl,(Same.upd hp3).seqT sq2⟩⟩
  | quT=>
   obtain ⟨ns,rfl,ln,_,_⟩:=so.isRow isQ;obtain ⟨t,rfl,sq⟩:=sz;refine ⟨_,rfl,rfl,_,rfl,iteP (decide_eq_true rfl) ⟨_,rfl,rfl,_,rfl,iteN (by decide +kernel) ?_⟩⟩;have sized:(ns.map V.int).length + 1<=sizeLine:=big ln;cases ns with
   | nil=>refine ⟨_,rfl,_,rfl,.inr ⟨t,[],rfl,sq,⟨rfl,rfl⟩,?_⟩⟩;refine ⟨_,rfl,(show (1:Nat)<=sizeLine by decide),λ p1 hp1=>?_⟩;have s1:=Same.upd (o:=.tup [.str "none"]) hp1;refine ⟨t,p1,[],[.str "none"],rfl,rfl,s1.seqT sq,SqT.of upd_same,by simp,(show (1:Nat)<=sizeLine by decide),λ p2 H2 s2 sq2=>?_⟩;refine .inr (.inl ⟨p2,_,0,_,rfl,rfl,sq2,z04 (j:=0) rfl,(show (2:Nat)<=sizeLine by decide),λ p3 hp3=>?_⟩);rw [zeu] at q;exact q p3 _ _ ((s1.trans s2).trans (Same.upd hp3)) upd_same ⟨t,rfl,((s1.trans s2).trans (Same.upd hp3)).seqT sq⟩
   | cons m r=>
    refine ⟨_,rfl,_,rfl,.inl (.inr (.inl ⟨t,_,rfl,sq,?_,λ p0 hp0=>?_⟩))⟩
    ·intro z;have:HT.sIx ((m :: r).map V.int).length 0 (some 1)=1:=by rw [D0,W0];simp [HT.sIx]
     omega
    ·have ec:cutV ((m :: r).map V.int) (some 1) none=r.map V.int:=by unfold cutV;simp [HT.sIx];exact M6 (by rw [D0];exact F0 _)
     have s0:=Same.upd (o:=.tup (cutV ((m :: r).map V.int) (some 1) none)) hp0;have e0:upd H p0 (.tup (cutV ((m :: r).map V.int) (some 1) none)) p0=some (.tup (r.map V.int)):=by rw [upd_same,ec]
     generalize upd H p0 (.tup (cutV ((m :: r).map V.int) (some 1) none))=H0 at s0 e0⊢;refine ⟨_,rfl,(show (1:Nat)<=sizeLine by decide),λ p1 hp1=>?_⟩;have s1:=Same.upd (o:=.tup [.str "none"]) hp1;refine ⟨t,p1,(m :: r).map V.int,[.str "none"],rfl,rfl,(s0.trans s1).seqT sq,SqT.of upd_same,by simp,sized,λ p2 H2 s2 sq2=>?_⟩;refine .inr (.inl ⟨p2,_,0,.int m,rfl,rfl,sq2,z04 (j:=0) rfl,(show (2:Nat)<=sizeLine by decide),λ p3 hp3=>?_⟩);have s3:=(s1.trans s2).trans (Same.upd (o:=.tup [.ref p0,.int m]) hp3);rw [dz_quT] at q;exact q p3 _ _ (s0.trans s3) upd_same ⟨p0,rfl,s3.seqT (SqT.of e0)⟩
  | setP ni=>
   rename_i i;obtain ⟨ns,rfl,ln,_,asc⟩:=so.isRow isS;obtain ⟨t,rfl,sq⟩:=sz;cases (show x=V.int i from hx);refine ⟨_,rfl,rfl,_,rfl,iteN (by decide +kernel) ⟨_,rfl,rfl,_,rfl,iteP (decide_eq_true rfl) ?_⟩⟩;refine ⟨_,rfl,_,rfl,t,_,rfl,.inr sq,rfl,z2v ns,.inl (.inr ⟨decide (i∈ns),by rw [if_neg U0,z49],?_⟩)⟩;refine ⟨_,rfl,rfl,_,rfl,iteP (decide_eq_true rfl) ?_⟩;refine ⟨_,rfl,_,rfl,(show (1:Nat)<=sizeLine by decide),λ p1 hp1=>?_⟩;have s1:=Same.upd (o:=.tup [.int i]) hp1;refine ⟨t,p1,ns.map V.int,[.int i],rfl,rfl,s1.seqT sq,SqT.of upd_same,by simp,big ln,λ p2 H2 s2 sq2=>?_⟩;rw [mapS] at sq2;refine ⟨p2,ns++[i],rfl,sq2,by rw [K0];exact (show ns.length + 1 < 64 by omega),λ l ns' hl pm pw=>?_⟩;have s3:=Same.upd (o:=.lst (ns'.map V.int)) hl;refine ⟨l,_,rfl,.inl ⟨SqL.of upd_same,λ p4 hp4=>?_⟩⟩;refine ⟨_,rfl,_,_,rfl,rfl,(show (2:Nat)<=sizeLine by decide),λ p5 hp5=>?_⟩;rw [zdx] at q;by_cases z:i∈ns
   ·rw [zjj (asc rfl) z pm pw] at *;rw [if_pos z] at q;refine q p5 _ _ ((((s1.trans s2).trans s3).trans (Same.upd hp4)).trans (Same.upd hp5)) (upd_same.trans (by rw [decide_eq_true z];rfl)) ⟨p4,rfl,SqT.of ((Same.upd hp5) _ _ upd_same)⟩
   ·rw [zk2 (asc rfl) z pm pw] at *;rw [if_neg z] at q;refine q p5 _ _ ((((s1.trans s2).trans s3).trans (Same.upd hp4)).trans (Same.upd hp5)) (upd_same.trans (by rw [decide_eq_false z];rfl)) ⟨p4,rfl,SqT.of ((Same.upd hp5) _ _ upd_same)⟩
  | setC ni=>
   rename_i i;obtain ⟨ns,rfl,ln,_,asc⟩:=so.isRow isS;obtain ⟨t,rfl,sq⟩:=sz;cases (show x=V.int i from hx);refine ⟨_,rfl,rfl,_,rfl,iteN (by decide +kernel) ⟨_,rfl,rfl,_,rfl,iteP (decide_eq_true rfl) ?_⟩⟩;refine ⟨_,rfl,_,rfl,t,_,rfl,.inr sq,rfl,z2v ns,.inl (.inr ⟨decide (i∈ns),by rw [if_neg U0,z49],?_⟩)⟩;refine ⟨_,rfl,rfl,_,rfl,iteN (by decide +kernel) ⟨_,rfl,rfl,_,rfl,iteP (decide_eq_true rfl) ?_⟩⟩;have zl:(ns.map V.int).length<=sizeLine:=G0 (F2 _) (big ln);simp only [tRet,tTup,tCB,tCons,tNil];refine z1o (K:=KX w.params) (a:=t) (xs:=ns.map V.int) (H1:=H) (λ j=>(ns[j]?.map λ n=>!decide (n=i)).getD false) (λ j y _=>ns[j]?.map V.int=some y) (λ _ _ _ _ _ z=>z) (λ R h=>⟨_,rfl,h⟩) sq zl (λ j hj v H' s' hv KT KF k1 k2=>?_) λ l H' ys s' hl' al=>?_
   ·rw [V0] at hv;obtain ⟨n,hn,rfl⟩:=Option.map_eq_some_iff.mp hv;rw [hn] at k1 k2;refine ⟨[some (.int n)],rfl,rfl,_,rfl,_,rfl,rfl,_,rfl,?_⟩;rw [dec_i0];exact ite2 (λ z=>⟨_,rfl,k1 z _ _ (Same.refl _) rfl⟩) λ z=>k2 (Bool.eq_false_iff.mpr z) _ (Same.refl _)
   ·rw [D0] at al;rw [zcb ns ys al];have s3:=Same.upd (o:=.lst ((ns.filter λ j=>!decide (j=i)).map V.int)) hl';refine ⟨l,_,rfl,.inl ⟨SqL.of upd_same,λ p4 hp4=>⟨_,rfl,(show (2:Nat)<=sizeLine by decide),λ p5 hp5=>?_⟩⟩⟩;rw [zen] at q;exact q p5 _ _ (((s'.trans s3).trans (Same.upd hp4)).trans (Same.upd hp5)) (upd_same.trans (by simp only [decide_eq_true_eq])) ⟨p4,rfl,SqT.of ((Same.upd hp5) _ _ upd_same)⟩
  | setH ni=>rename_i i;obtain ⟨ns,rfl,ln,_,asc⟩:=so.isRow isS;obtain ⟨t,rfl,sq⟩:=sz;cases (show x=V.int i from hx);refine ⟨_,rfl,rfl,_,rfl,iteN (by decide +kernel) ⟨_,rfl,rfl,_,rfl,iteP (decide_eq_true rfl) ?_⟩⟩;refine ⟨_,rfl,_,rfl,t,_,rfl,.inr sq,rfl,z2v ns,.inl (.inr ⟨decide (i∈ns),by rw [if_neg U0,z49],?_⟩)⟩;refine ⟨_,rfl,rfl,_,rfl,iteN (by decide +kernel) ⟨_,rfl,rfl,_,rfl,iteN (by decide +kernel) ?_⟩⟩;rw [zed] at q;exact ⟨_,rfl,_,rfl,(show (2:Nat)<=sizeLine by decide),λ p hp=>q p _ _ (Same.upd hp) (upd_same.trans (by simp only [decide_eq_true_eq])) ⟨t,rfl,(Same.upd hp).seqT sq⟩⟩
  | regR=>
   have nk:¬ rowK "register":=by decide +kernel
   obtain ⟨a,rfl,_⟩:=so.isNum nk;cases (show st=V.int a from sz);refine ⟨_,rfl,rfl,_,rfl,iteN (by decide +kernel) ⟨_,rfl,rfl,_,rfl,iteN (by decide +kernel) ⟨_,rfl,rfl,_,rfl,iteP (decide_eq_true rfl) ?_⟩⟩⟩;rw [zfg] at q;exact ⟨_,rfl,_,rfl,(show (2:Nat)<=sizeLine by decide),λ p hp=>q p _ _ (Same.upd hp) upd_same rfl⟩
  | cntR=>
   have nk:¬ rowK "counter":=by decide +kernel
   obtain ⟨a,rfl,_⟩:=so.isNum nk;cases (show st=V.int a from sz);refine ⟨_,rfl,rfl,_,rfl,iteN (by decide +kernel) ⟨_,rfl,rfl,_,rfl,iteN (by decide +kernel) ⟨_,rfl,rfl,_,rfl,iteP (decide_eq_true rfl) ?_⟩⟩⟩;rw [zer] at q;exact ⟨_,rfl,_,rfl,(show (2:Nat)<=sizeLine by decide),λ p hp=>q p _ _ (Same.upd hp) upd_same rfl⟩
  | celR=>
   have nk:¬ rowK "cell":=by decide +kernel
   obtain ⟨a,rfl,_⟩:=so.isNum nk;cases (show st=V.int a from sz);refine ⟨_,rfl,rfl,_,rfl,iteN (by decide +kernel) ⟨_,rfl,rfl,_,rfl,iteN (by decide +kernel) ⟨_,rfl,rfl,_,rfl,iteP (decide_eq_true rfl) ?_⟩⟩⟩;rw [zez] at q;exact ⟨_,rfl,_,rfl,(show (2:Nat)<=sizeLine by decide),λ p hp=>q p _ _ (Same.upd hp) upd_same rfl⟩
  | cntA ni=>
   rename_i i;have nk:¬ rowK "counter":=by decide +kernel
   obtain ⟨a,rfl,_⟩:=so.isNum nk;cases (show st=V.int a from sz);cases (show x=V.int i from hx);refine ⟨_,rfl,rfl,_,rfl,iteN (by decide +kernel) ⟨_,rfl,rfl,_,rfl,iteN (by decide +kernel) ⟨_,rfl,rfl,_,rfl,iteN (by decide +kernel) ⟨_,rfl,rfl,_,rfl,iteP (decide_eq_true rfl) ?_⟩⟩⟩⟩;rw [zdh] at q;exact ⟨_,rfl,_,rfl,.inl ⟨a,i,rfl,rfl,_,rfl,(show (2:Nat)<=sizeLine by decide),λ p hp=>q p _ _ (Same.upd hp) upd_same rfl⟩⟩
  | regW ni=>
   rename_i i;have nk:¬ rowK "register":=by decide +kernel
   obtain ⟨a,rfl,_⟩:=so.isNum nk;cases (show x=V.int i from hx);refine ⟨_,rfl,rfl,_,rfl,iteN (by decide +kernel) ⟨_,rfl,rfl,_,rfl,iteN (by decide +kernel) ⟨_,rfl,rfl,_,rfl,iteN (by decide +kernel) ⟨_,rfl,rfl,_,rfl,iteN (by decide +kernel) ⟨_,rfl,rfl,_,rfl,iteP (decide_eq_true rfl) ?_⟩⟩⟩⟩⟩;rw [zeb] at q;exact ⟨_,rfl,(show (2:Nat)<=sizeLine by decide),λ p hp=>q p _ _ (Same.upd hp) upd_same rfl⟩
  | celW ni=>
   rename_i i;have nk:¬ rowK "cell":=by decide +kernel
   obtain ⟨a,rfl,_⟩:=so.isNum nk;cases (show x=V.int i from hx);refine ⟨_,rfl,rfl,_,rfl,iteN (by decide +kernel) ⟨_,rfl,rfl,_,rfl,iteN (by decide +kernel) ⟨_,rfl,rfl,_,rfl,iteN (by decide +kernel) ⟨_,rfl,rfl,_,rfl,iteN (by decide +kernel) ⟨_,rfl,rfl,_,rfl,iteP (decide_eq_true rfl) ?_⟩⟩⟩⟩⟩;rw [zey] at q;exact ⟨_,rfl,(show (2:Nat)<=sizeLine by decide),λ p hp=>q p _ _ (Same.upd hp) upd_same rfl⟩
  | celS ni nj=>
   rename_i i j;have nk:¬ rowK "cell":=by decide +kernel
   obtain ⟨a,rfl,_⟩:=so.isNum nk;cases (show st=V.int a from sz);obtain ⟨t,rfl,et⟩:=wi i j rfl;refine ⟨_,rfl,rfl,_,rfl,iteN (by decide +kernel) ⟨_,rfl,rfl,_,rfl,iteN (by decide +kernel) ⟨_,rfl,rfl,_,rfl,iteN (by decide +kernel) ⟨_,rfl,rfl,_,rfl,iteN (by decide +kernel) ⟨_,rfl,rfl,_,rfl,iteN (by decide +kernel) ?_⟩⟩⟩⟩⟩;refine ⟨_,rfl,_,rfl,.inr (.inl ⟨t,_,1,.int j,rfl,rfl,SqT.of et,z04 (j:=1) rfl,(show (2:Nat)<=sizeLine by decide),λ l hl=>?_⟩)⟩;have s1:=Same.upd (o:=.lst [.int a,.int j]) hl;have e1:upd H l (.lst [.int a,.int j]) l=some (.lst [.int a,.int j]):=upd_same;generalize upd H l (.lst [.int a,.int j])=H1 at s1 e1⊢;have et1:=s1 _ _ et;refine ⟨_,rfl,_,rfl,.inr (.inl ⟨t,_,0,.int i,rfl,rfl,SqT.of et1,z04 (j:=0) rfl,rfl,.inl (.inr ⟨_,rfl,?_⟩)⟩)⟩;rw [zf9] at q;by_cases z:a=i
   ·rw [if_pos z] at q;refine .inl ⟨l,_,1,.int j,rfl,by rw [if_pos (decide_eq_true (by rw [z]))],SqL.of e1,rfl,?_⟩;refine ⟨_,rfl,_,rfl,.inr (.inl ⟨t,_,0,.int i,rfl,rfl,SqT.of et1,z04 (j:=0) rfl,rfl,.inl (.inr ⟨_,rfl,?_⟩)⟩)⟩;exact ⟨(show (2:Nat)<=sizeLine by decide),λ p hp=>q p _ _ (s1.trans (Same.upd hp)) (upd_same.trans (by rw [if_pos (decide_eq_true (by rw [z]))])) rfl⟩
   ·rw [if_neg z] at q;have nz:¬ decide (V.int a=V.int i)=true:=λ y=>z (by cases of_decide_eq_true y;rfl);refine .inl ⟨l,_,0,.int a,rfl,by rw [if_neg nz],SqL.of e1,rfl,?_⟩;refine ⟨_,rfl,_,rfl,.inr (.inl ⟨t,_,0,.int i,rfl,rfl,SqT.of et1,z04 (j:=0) rfl,rfl,.inl (.inr ⟨_,rfl,?_⟩)⟩)⟩;exact ⟨(show (2:Nat)<=sizeLine by decide),λ p hp=>q p _ _ (s1.trans (Same.upd hp)) (upd_same.trans (by rw [if_neg nz])) rfl⟩
theorem do_can {H:Hp} {k v:Str} {st x:V} {d:Dt} {n:Nat} {sv:Sv} {Q:VK} {E:XK} (so:SvOk n k sv) (sz:StZ (KX w.params) H sv st) (hn:n < 63) (hd:DeedOk k v d) (hx:IsDt (KX w.params) H d x) (wi:WorthIn H d x)
  (q :∀p st' H',Same H H'->H' p=some (.tup [st',(dz k v d sv).2])->StZ (KX w.params) H' (dz k v d sv).1 st'->Q (.ref p) H'):sp_do (KX w.params) [.str k,st,.str v,x] H Q E:=by
 have noT :∀i:Int,Flat H (.int i):=λ i xs e=>by cases e
 have noN:Flat H .non:=λ xs e=>by cases e
 have wh :∀i:Int,near i->z17 (.int i) 1000000000=true:=λ i h=>by unfold z17;dsimp only;rw [decide_eq_true h.1,decide_eq_true h.2];rfl
 have isQ:rowK "queue":=.inl rfl;have isS:rowK "set":=.inr rfl;cases hd with
 | quP ni=>rename_i i;obtain ⟨ns,rfl,ln,_,_⟩:=so.isRow isQ;obtain ⟨t,rfl,sq⟩:=sz;cases (show x=V.int i from hx);rw [dz_quP] at q;refine ⟨_,_,_,_,_,_,_,rfl,rfl,noT i,(deedB1 (by decide +kernel)).trans (wh i ni),by decide +kernel,.inr (.inr (.inr (.inl ⟨rfl,rfl⟩))),λ H' s'=>⟨t,_,_,rfl,s'.seqT sq,by rw [D0];omega,λ p p' H2 s2 e2 sq2=>q p _ _ (s'.trans s2) e2 ⟨p',rfl,?_⟩⟩⟩;rw [show (ns++[i]).map V.int=ns.map V.int++[V.int i] by rw [L1];rfl];exact sq2
 | quT=>
  obtain ⟨ns,rfl,ln,_,_⟩:=so.isRow isQ;obtain ⟨t,rfl,sq⟩:=sz;cases (show x=V.non from hx);refine ⟨_,_,_,_,_,_,_,rfl,rfl,noN,(deedB0 (by decide +kernel)).trans rfl,by decide +kernel,.inr (.inr (.inr (.inr (.inl ⟨rfl,rfl⟩)))),λ H' s'=>⟨t,ns.map V.int,_,rfl,s'.seqT sq,λ e p H2 s2 e2=>?_,λ m r e p p' H2 s2 e2 sq2=>?_⟩⟩
  ·cases ns with
   | nil=>rw [zeu] at q;exact q p _ _ (s'.trans s2) e2 ⟨t,rfl,(s'.trans s2).seqT sq⟩
   | cons m r=>cases e
  ·cases ns with
   | nil=>cases e
   | cons m' r'=>rw [dz_quT] at q;rw [v1] at e;injection e with e1 e3;subst e1 e3;exact q p _ _ (s'.trans s2) e2 ⟨p',rfl,sq2⟩
 | setP ni=>
  rename_i i;obtain ⟨ns,rfl,ln,_,asc⟩:=so.isRow isS;obtain ⟨t,rfl,sq⟩:=sz;cases (show x=V.int i from hx);rw [zdx] at q;refine ⟨_,_,_,_,_,_,_,rfl,rfl,noT i,(deedB1 (by decide +kernel)).trans (wh i ni),by decide +kernel,.inr (.inr (.inr (.inr (.inr (.inl ⟨rfl,rfl⟩))))),λ H' s'=>⟨t,ns,_,rfl,s'.seqT sq,by omega,λ z p H2 s2 e2=>?_,λ z p p' ns' H2 s2 e2 sq2 pm pw=>?_⟩⟩
  ·rw [if_pos z] at q;exact q p _ _ (s'.trans s2) e2 ⟨t,rfl,(s'.trans s2).seqT sq⟩
  ·rw [if_neg z] at q;rw [z78 (pm.trans (z7n _).symm) pw (z41 _)] at sq2;exact q p _ _ (s'.trans s2) e2 ⟨p',rfl,sq2⟩
 | setC ni=>
  rename_i i;obtain ⟨ns,rfl,ln,_,asc⟩:=so.isRow isS;obtain ⟨t,rfl,sq⟩:=sz;cases (show x=V.int i from hx);rw [zen] at q;refine ⟨_,_,_,_,_,_,_,rfl,rfl,noT i,(deedB1 (by decide +kernel)).trans (wh i ni),by decide +kernel,.inr (.inr (.inr (.inr (.inr (.inr (.inl ⟨rfl,rfl⟩)))))),λ H' s'=>⟨t,ns,_,rfl,s'.seqT sq,by omega,λ z p H2 s2 e2=>?_,λ z p p' H2 s2 e2 sq2=>?_⟩⟩
  ·rw [if_neg z,List.filter_eq_self.mpr (λ j hj=>by simp;exact λ e=>z (e ▸ hj))] at q;exact q p _ _ (s'.trans s2) e2 ⟨t,rfl,(s'.trans s2).seqT sq⟩
  ·rw [if_pos z] at q;exact q p _ _ (s'.trans s2) e2 ⟨p',rfl,sq2⟩
 | setH ni=>rename_i i;obtain ⟨ns,rfl,ln,_,asc⟩:=so.isRow isS;obtain ⟨t,rfl,sq⟩:=sz;cases (show x=V.int i from hx);rw [zed] at q;exact ⟨_,_,_,_,_,_,_,rfl,rfl,noT i,(deedB1 (by decide +kernel)).trans (wh i ni),by decide +kernel,.inr (.inr (.inr (.inr (.inr (.inr (.inr (.inl ⟨rfl,rfl⟩))))))),λ H' s'=>⟨t,ns,_,rfl,s'.seqT sq,λ p H2 s2 e2=>q p _ _ (s'.trans s2) e2 ⟨t,rfl,(s'.trans s2).seqT sq⟩⟩⟩
 | regR=>obtain ⟨a,rfl,_⟩:=so.isNum (by decide +kernel);cases (show st=V.int a from sz);cases (show x=V.non from hx);rw [zfg] at q;exact ⟨_,_,_,_,_,_,_,rfl,rfl,noN,(deedB0 (by decide +kernel)).trans rfl,by decide +kernel,.inl ⟨rfl,rfl⟩,λ H' s'=>⟨_,_,rfl,λ p hp=>q p _ _ (s'.trans (Same.upd hp)) upd_same rfl⟩⟩
 | cntR=>obtain ⟨a,rfl,_⟩:=so.isNum (by decide +kernel);cases (show st=V.int a from sz);cases (show x=V.non from hx);rw [zer] at q;exact ⟨_,_,_,_,_,_,_,rfl,rfl,noN,(deedB0 (by decide +kernel)).trans rfl,by decide +kernel,.inl ⟨rfl,rfl⟩,λ H' s'=>⟨_,_,rfl,λ p hp=>q p _ _ (s'.trans (Same.upd hp)) upd_same rfl⟩⟩
 | celR=>obtain ⟨a,rfl,_⟩:=so.isNum (by decide +kernel);cases (show st=V.int a from sz);cases (show x=V.non from hx);rw [zez] at q;exact ⟨_,_,_,_,_,_,_,rfl,rfl,noN,(deedB0 (by decide +kernel)).trans rfl,by decide +kernel,.inl ⟨rfl,rfl⟩,λ H' s'=>⟨_,_,rfl,λ p hp=>q p _ _ (s'.trans (Same.upd hp)) upd_same rfl⟩⟩
 | cntA ni=>rename_i i;obtain ⟨a,rfl,_⟩:=so.isNum (by decide +kernel);cases (show st=V.int a from sz);cases (show x=V.int i from hx);rw [zdh] at q;exact ⟨_,_,_,_,_,_,_,rfl,rfl,noT i,(deedB1 (by decide +kernel)).trans (wh i ni),by decide +kernel,.inr (.inr (.inl ⟨rfl,rfl⟩)),λ H' s'=>⟨_,_,rfl,λ p hp=>q p _ _ (s'.trans (Same.upd hp)) upd_same rfl⟩⟩
 | regW ni=>rename_i i;obtain ⟨a,rfl,_⟩:=so.isNum (by decide +kernel);cases (show st=V.int a from sz);cases (show x=V.int i from hx);rw [zeb] at q;exact ⟨_,_,_,_,_,_,_,rfl,rfl,noT i,(deedB1 (by decide +kernel)).trans (wh i ni),by decide +kernel,.inr (.inl ⟨rfl,rfl⟩),λ H' s'=>⟨_,_,rfl,λ p hp=>q p _ _ (s'.trans (Same.upd hp)) upd_same rfl⟩⟩
 | celW ni=>rename_i i;obtain ⟨a,rfl,_⟩:=so.isNum (by decide +kernel);cases (show st=V.int a from sz);cases (show x=V.int i from hx);rw [zey] at q;exact ⟨_,_,_,_,_,_,_,rfl,rfl,noT i,(deedB1 (by decide +kernel)).trans (wh i ni),by decide +kernel,.inr (.inl ⟨rfl,rfl⟩),λ H' s'=>⟨_,_,rfl,λ p hp=>q p _ _ (s'.trans (Same.upd hp)) upd_same rfl⟩⟩
 | celS ni nj=>
  rename_i i j;obtain ⟨a,rfl,_⟩:=so.isNum (by decide +kernel);cases (show st=V.int a from sz);obtain ⟨t,rfl,e⟩:=wi i j rfl;have et:tupOf H (.ref t)=some [.int i,.int j]:=by unfold tupOf;dsimp only;rw [e]
  rw [zf9] at q;refine ⟨_,_,_,_,_,_,"tuple",rfl,.inr (.inl ⟨⟨_,e⟩,rfl⟩),λ xs z=>?_,?_,by decide +kernel,.inr (.inr (.inr (.inr (.inr (.inr (.inr (.inr ⟨rfl,rfl⟩))))))),λ H' s'=>⟨a,i,j,t,rfl,SqT.of (s' _ _ e),λ p hp=>?_⟩⟩
  ·rw [et] at z;cases z;exact ⟨(show (2:Nat)<=1000 by decide),λ y hy=>⟨"int",by simp only [T0,o0,or_false] at hy;rcases hy with rfl|rfl<;>rfl⟩⟩
  ·rw [deedB2 (by decide +kernel) et];show (true && (z17 (.int i) 1000000000 && (z17 (.int j) 1000000000 && true)))=true;rw [wh i ni,wh j nj];rfl
  ·by_cases z:a=i
   ·rw [if_pos z] at q⊢;exact q p _ _ (s'.trans (Same.upd hp)) upd_same rfl
   ·rw [if_neg z] at q⊢;exact q p _ _ (s'.trans (Same.upd hp)) upd_same rfl
structure Tt (K:b0) (H H':Hp):Prop where
 t:Tups K H H'
 l :∀a xs,H a=some (.tup xs)->H' a=some (.tup xs)
theorem Tt.of {K:b0} {H H':Hp} (s:Same H H'):Tt K H H':=⟨.of s,λ _ _ h=>s _ _ h⟩
theorem Tt.trans {K:b0} {H H1 H2:Hp} (a:Tt K H H1) (b:Tt K H1 H2):Tt K H H2:=⟨a.t.trans b.t,λ _ _ h=>b.l _ _ (a.l _ _ h)⟩
def MutAt (H:Hp) (l:Addr):Prop:=(∃zs,H l=some (.lst zs))\/∃kvs:List (Key×V),H l=some (.dK kvs)
theorem HandAt.mutAt {H:Hp} {r:Addr} (h:HandAt H r):MutAt H r:=by obtain ⟨a,b,c,e,_⟩:=h;exact .inl ⟨_,e⟩
theorem KeptL.tt {K:b0} {L:List Addr} {H H':Hp} (k:KeptL L H H') (m :∀l∈L,MutAt H l):Tt K H H':=by
 refine ⟨λ a xs h=>?_,λ a xs h=>k _ _ (λ z=>?_) h⟩
 ·rcases h with (h|⟨ob,h⟩)|h
  ·exact .inl (.inl (k _ _ (λ z=>by rcases m a z with ⟨_,e⟩|⟨_,e⟩<;>(rw [h] at e;cases e)) h))
  ·exact .inl (.inr ⟨ob,k _ _ (λ z=>by rcases m a z with ⟨_,e⟩|⟨_,e⟩<;>(rw [h] at e;cases e)) h⟩)
  ·exact .inr h
 ·rcases m a z with ⟨_,e⟩|⟨_,e⟩<;>(rw [h] at e;cases e)
theorem Hw.keptL {r:Addr} {H H':Hp} {L:List Addr} (h:Hw r H H') (hr:r∈L):KeptL L H H':=λ b o n e=>h.k b o (λ z=>n (z ▸ hr)) e
theorem Hw.tt {K:b0} {r:Addr} {H H':Hp} (R:HandAt H r) (h:Hw r H H'):Tt K H H':=KeptL.tt (h.keptL (List.mem_singleton.mpr rfl)) λ l hl=>by rw [List.mem_singleton.mp hl];exact R.mutAt
theorem Hw.free {r:Addr} {H H':Hp} {p:Addr} (h:Hw r H H') (e:H' p=none):H p=none:=by
 cases z:H p with
 | none=>rfl
 | some o=>rw [h.k _ _ (h.r.fresh e) z] at e;cases e
def ThAt (H:Hp) (p:Addr) (ts:List (Str×Str)):Prop:=∃ys,H p=some (.tup ys)/\All2 (λ (t:Str×Str) y=>∃b,y=.ref b/\H b=some (.tup [.str t.1,.str t.2])) ts ys
structure ThOk (ts:List (Str×Str)):Prop where
 n0:0 < ts.length
 n6:ts.length<=6
 nd:(ts.map (·.1)).Nodup
 ks :∀t∈ts,t.2∈kinds5
theorem ThAt.tt {K:b0} {H H':Hp} {p:Addr} {ts:List (Str×Str)} (t:Tt K H H') (h:ThAt H p ts):ThAt H' p ts:=h.elim λ ys z=>⟨ys,t.l _ _ z.1,z01 (λ _ _ y=>y.elim λ b x=>⟨b,x.1,t.l _ _ x.2⟩) z.2⟩
theorem zcf {α β:Type} {f:α->β} :∀(xs:List α) (i:Nat),(xs.map f).eraseIdx i=(xs.eraseIdx i).map f
 | [],_=>rfl
 | x :: xs,0=>rfl
 | x :: xs,i + 1=>by show f x :: (xs.map f).eraseIdx i=f x :: (xs.eraseIdx i).map f;rw [zcf xs i]
theorem z74 {α:Type} {xs:List α} (h:xs.Nodup) (i:Nat):(xs.eraseIdx i).Nodup:=h.sublist (j3j xs i)
theorem z7u {j n:Nat} (h:j < n):PySem.seqIndex? (j:Int) n=some j:=by
 unfold PySem.seqIndex?;have:¬ ((j:Int) < 0):=by omega
 simp only [if_neg this];rw [if_pos (by simp [h])];rfl
def kindR (K:b0) (x y:V) (H:Hp):Prop:=∃(n k:Str) (b:Addr),x=.str n/\y=.ref b/\k∈kinds5/\H b=some (.tup [.str n,.str k])
theorem z6v {K:b0} {H:Hp} :∀{ks:List Str} {ys:List V},All2 (λ x y=>kindR K x y H) (ks.map V.str) ys->∃ts:List (Str×Str),ts.map (·.1)=ks/\(∀t∈ts,t.2∈kinds5)/\All2 (λ (t:Str×Str) y=>∃b,y=.ref b/\H b=some (.tup [.str t.1,.str t.2])) ts ys
 | [],_,h=>by cases h;exact ⟨[],rfl,λ _ z=>absurd z o0,.nil⟩
 | n :: ks,_,h=>by
  cases h with
  | cons a r=>
   obtain ⟨ts,e,hk,al⟩:=z6v r;obtain ⟨n',k,b,en,ey,kk,hb⟩:=a;cases en;refine ⟨(n,k) :: ts,by rw [v1,e],λ t ht=>?_,.cons ⟨b,ey,hb⟩ al⟩;rcases List.mem_cons.mp ht with z|z
   ·rw [z];exact kk
   ·exact hk t z
def z3u:Sp:=λ vs H Q _=>∃(r:Addr),vs=[.ref r]/\HandAt H r/\∀p ts H',Hw r H H'->H p=none->ThAt H' p ts->ThOk ts->Q (.ref p) H'
theorem z7z (T:TX (KX w.params) mg) (c__law_draw:Cal P w (KX w.params) mg base "_law_draw" ["hand","limit"] 1 z0q):FnOk P w (KX w.params) mg base CX0 2 284 fd__law_things ["hand"] z3u:=by
 refine (z2n w.params).ok sc__law_things (λ vs H Q E h=>?_) (λ cdv A outer s H vs Q E hr h=>?_)
 ·obtain ⟨r,rfl,_⟩:=h;rfl
 ·obtain ⟨r,rfl,R,q⟩:=h;refine q_of (z0n (qs_set (i:=1) sc__law_things.nd rfl (by first|exact Y0 rfl|exact X0 rfl) (qe_lst (z0v (QE.mk pe_str) (z0v (QE.mk pe_str) (z0v (QE.mk pe_str) (z0v (QE.mk pe_str) (z0v (QE.mk pe_str) (z0v (QE.mk pe_str) qa_nil))))))))
   (z0n (qs_set (i:=2) sc__law_things.nd rfl (by first|exact Y0 rfl|exact X0 rfl) (qe_ix ix_seq (qe_lst (z0v (QE.mk pe_int) (z0v (QE.mk pe_int) (z0v (QE.mk pe_int) (z0v (QE.mk pe_int) (z0v (QE.mk pe_int) qa_nil)))))) (QE.mk (pe_cal c__law_draw (hr.mono (by first|decide|omega)) rfl (z00 (pv 0) (z00 pe_int pa_nil)))) (λ _ _=>rfl)))
   (z0n (QS.mk (zfm D2 (z09 op_gt (z08 z0w rfl (T.no (n_len _)) W2 (z00 (pv 1) pa_nil)) (pv 2) (nomark _))
   (z05 (z1c (zf4 (pv 1) (z00 (pe_cal c__law_draw (hr.mono (by first|decide|omega)) rfl (z00 (pv 0) (z00 (z08 z0w rfl (T.no (n_len _)) W2 (z00 (pv 1) pa_nil)) pa_nil))) pa_nil))))))
   (z23 (QS.mk (ps_ret (z0h z0p rfl (T.no (z26 _)) S4 (z00 (z0s (xs:=["name"]) (g:=gName 0) (fr:=[(0,"hand")]) rfl (z25 (pv 1)) (by intro p hp;obtain rfl:=List.mem_singleton.mp hp;first|exact ⟨rfl,.inl rfl⟩|exact ⟨rfl,.inr rfl⟩) (z2i (n:="hand") (by decide +kernel) (λ _=>by first|exact .inl rfl|exact .inr rfl)) (by intro p hp;obtain rfl:=List.mem_singleton.mp hp;exact ⟨by decide +kernel,by first|exact .inl rfl|exact .inr rfl⟩) (by decide +kernel) rfl (by decide +kernel) (λ _ _ _ _ _=>(z0j (N:=["name","hand"]) 0 (by decide +kernel) rfl rfl)) (λ _ _ _ _ _=>pf_nil) (λ _ _ _ _ _=>(pe_tup (z00 (pv 0) (z00 (pe_ix (z2p (K:=KX w.params) rfl) (pe_lst (z00 pe_str (z00 pe_str (z00 pe_str (z00 pe_str (z00 pe_str pa_nil)))))) (pe_cal c__law_draw (hr.mono (by first|decide|omega)) rfl (z00 (pv 1) (z00 pe_int pa_nil))) (λ _ _=>rfl)) pa_nil))))) pa_nil)))))))) ?_
  refine z1b ?_;refine ⟨(show (6:Nat)<=sizeLine by decide),λ l hl=>?_⟩;refine g_name ?_;have nl:l≠r:=R.fresh hl;have s1:=Same.upd (o:=.lst [.str "a",.str "b",.str "it",.str "thing",.str "x",.str "zzzzzzzz"]) hl;have e1:upd H l (.lst [.str "a",.str "b",.str "it",.str "thing",.str "x",.str "zzzzzzzz"]) l=some (.lst ((["a","b","it","thing","x","zzzzzzzz"]:List Str).map V.str)):=upd_same;generalize upd H l (.lst [.str "a",.str "b",.str "it",.str "thing",.str "x",.str "zzzzzzzz"])=H1 at s1 e1⊢;have w1:Hw r H H1:=R.hw.same s1;refine z1b ?_;refine ⟨(show (5:Nat)<=sizeLine by decide),λ l2 hl2=>⟨_,rfl,r,5,rfl,w1.r.same (Same.upd hl2),by decide,by decide,λ t H2 w2 h0 h1=>?_⟩⟩;obtain ⟨v,hv,hm⟩:=atI_of (xs:=[V.int 1,.int 1,.int 2,.int 3,.int 6]) h0 h1;refine .inl ⟨l2,_,t,v,rfl,rfl,SqL.of (w2.k _ _ (w1.r.fresh hl2) upd_same),hv,?_⟩;refine g_name ?_;have e2:=w2.k _ _ nl ((Same.upd (o:=.lst [V.int 1,.int 1,.int 2,.int 3,.int 6]) hl2) _ _ e1);have w2:=(w1.same (Same.upd (o:=.lst [V.int 1,.int 1,.int 2,.int 3,.int 6]) hl2)).trans w2;obtain ⟨m,rfl,m1⟩ :∃m:Int,v=.int m/\1<=m:=by simp only [T0,o0,or_false] at hm;rcases hm with rfl|rfl|rfl|rfl|rfl<;>exact ⟨_,rfl,by decide⟩
  refine z1t (λ σ1 H3=>∃ks:List Str,σ1=[some (.ref r),some (.ref l),some (.int m)]/\H3 l=some (.lst (ks.map V.str))/\ks.Nodup/\0 < ks.length/\ks.length<=6/\Hw r H H3) ?_ (λ tl=>?_);rotate_left
  ·refine ⟨λ k σ1 H3=>∃ks:List Str,k=ks.length/\σ1=[some (.ref r),some (.ref l),some (.int m)]/\H3 l=some (.lst (ks.map V.str))/\ks.Nodup/\0 < ks.length/\ks.length<=6/\Hw r H H3,⟨6,["a","b","it","thing","x","zzzzzzzz"],rfl,rfl,e2,by decide +kernel,by decide,by decide,w2⟩,?_⟩;rintro k σ1 H3 ⟨ks,rfl,rfl,e3,nd,k0,k6,w3⟩;refine ⟨_,rfl,.inl ⟨l,_,rfl,.inl (SqL.of e3),_,rfl,_,_,rfl,rfl,_,rfl,?_⟩⟩;refine ite2 (λ z=>?_) λ z=>tl _ _ ⟨ks,rfl,e3,nd,k0,k6,w3⟩;have z:m < ((ks.map V.str).length:Int):=of_decide_eq_true z;rw [D0] at z;refine ⟨_,λ _ _ h=>h,?_⟩;refine ⟨_,rfl,.inl ⟨rfl,_,SqL.of e3⟩,_,rfl,_,rfl,.inl ⟨l,_,rfl,.inl (SqL.of e3),r,_,rfl,w3.r,by rw [D0];omega,by rw [D0];omega,λ t4 H4 w4 h40 h41=>?_⟩⟩;rw [D0] at h41;have e4:=w4.k _ _ nl e3;obtain ⟨j,rfl⟩:=Int.eq_ofNat_of_zero_le h40;have hj:j < ks.length:=by omega
   refine ⟨l,_,_,j,.str ks[j],rfl,rfl,e4,by omega,by omega,?_,?_,?_⟩
   ·rw [D0];exact z7u hj
   ·rw [V0,J0 hj];rfl
   ·refine ⟨ks.length - 1,by omega,ks.eraseIdx j,by rw [Q5,if_pos hj],rfl,?_,z74 nd j,?_,?_,?_⟩
    ·rw [upd_same,zcf]
    ·rw [Q5,if_pos hj];omega
    ·rw [Q5,if_pos hj];omega
    ·have w5:=w3.trans w4;refine ⟨λ b o hb e=>by rw [upd_ne (z0b e hl)];exact w5.k b o hb e,?_⟩;obtain ⟨a1,b1,c1,e1,z1⟩:=w5.r;exact ⟨a1,b1,c1,by rw [upd_ne nl.symm];exact e1,z1⟩
  rintro σ1 H3 ⟨ks,rfl,e3,nd,k0,k6,w3⟩;refine zje ?_;refine zcg (S:=λ H H'=>HandAt H r/\Hw r H H') (K:=KX w.params) (a:=l) (xs:=ks.map V.str) (kindR (KX w.params)) ⟨w3.r,w3.r.hw⟩ (λ _ _ _ a b=>⟨a.1,a.2.trans b.2⟩) (λ _ s=>⟨s.2.r,s.2.r.hw⟩) ?_ (λ R h=>⟨_,rfl,h⟩) (λ H' s'=>SqL.of (s'.2.k _ _ nl e3)) (by rw [D0];exact G0 k6 (by decide)) ?_ ?_
  ·rintro x y Ha Hb ⟨Ra,wa⟩ ⟨n,k,b,e1,e2,e3,e4⟩;exact ⟨n,k,b,e1,e2,e3,(wa.tt (K:=KX w.params) Ra).l _ _ e4⟩
  ·intro v hv H4 s4 KT hKT KF;obtain ⟨n,_,rfl⟩:=List.mem_map.mp hv;refine ⟨[some (.str n)],rfl,rfl,iteT ?_⟩;refine ⟨_,rfl,(show (5:Nat)<=sizeLine by decide),λ l5 hl5=>⟨_,rfl,r,5,rfl,s4.2.r.same (Same.upd hl5),by decide,by decide,λ t6 H6 w6 h60 h61=>?_⟩⟩;obtain ⟨v6,hv6,hm6⟩:=atI_of (xs:=kinds5.map V.str) h60 h61;obtain ⟨k,hk,rfl⟩:=List.mem_map.mp hm6;refine .inl ⟨l5,_,t6,_,rfl,rfl,SqL.of (w6.k _ _ (s4.2.r.fresh hl5) upd_same),hv6,(show (2:Nat)<=sizeLine by decide),λ p7 hp7=>?_⟩;exact hKT _ _ ⟨s4.2.r,((s4.2.r.hw.same (Same.upd hl5)).trans w6).same (Same.upd hp7)⟩ ⟨n,k,p7,rfl,rfl,hk,upd_same⟩
  ·intro l7 H7 ys s7 hl7 al7;obtain ⟨ts,e1,e2,al8⟩:=z6v al7;have s8:=Same.upd (o:=.lst ys) hl7;refine ⟨l7,ys,rfl,.inl ⟨SqL.of upd_same,λ p8 hp8=>?_⟩⟩;have w8:=(w3.trans s7.2).same s8;have s9:=s8.trans (Same.upd (o:=.tup ys) hp8);have tl:ts.length=ks.length:=by rw [<-e1,D0]
   exact q p8 ts _ (w8.same (Same.upd hp8)) (w8.free hp8) ⟨ys,upd_same,z01 (λ _ _ z=>z.elim λ b y=>⟨b,y.1,s9 _ _ y.2⟩) al8⟩ ⟨by omega,by omega,by rw [e1];exact nd,e2⟩
def StsAt (K:b0) (H:Hp) (d:Addr) (n:Nat) (ts:List (Str×Str)):Prop:=∃kvs:List (Key×V),H d=some (.dK kvs)/\kvs.length<=6 + n/\∀t∈ts,∃v,valV kvs (.inr t.1)=some v/\StAt K H n t.2 v
def AcAt (K:b0) (H:Hp) (ts:List (Str×Str)) (y:V):Prop:=∃(p:Addr) (nm v:Str) (x hd:V) (k:Str) (dt:Dt),y=.ref p/\H p=some (.tup [.str nm,.str v,x,hd])/\(nm,k)∈ts/\DeedOk k v dt/\IsDt K H dt x/\WorthIn H dt x/\(hd=.non\/AnsV hd)
theorem WorthIn.tt {K:b0} {H H':Hp} {d:Dt} {x:V} (t:Tt K H H') (h:WorthIn H d x):WorthIn H' d x:=λ a b e=>(h a b e).elim λ p z=>⟨p,z.1,t.l _ _ z.2⟩
theorem AcAt.tt {K:b0} {H H':Hp} {ts:List (Str×Str)} {y:V} (t:Tt K H H') (h:AcAt K H ts y):AcAt K H' ts y:=by obtain ⟨p,nm,v,x,hd,k,dt,e,ep,hm,dk,ix,wi,hh⟩:=h;exact ⟨p,nm,v,x,hd,k,dt,e,t.l _ _ ep,hm,dk,IsDt.mono' t.t dt x ix,wi.tt t,hh⟩
theorem StsAt.tt {K:b0} {H H':Hp} {d:Addr} {n:Nat} {ts:List (Str×Str)} (t:Tt K H H') (e :∀o,H d=some o->H' d=some o) (h:StsAt K H d n ts):StsAt K H' d n ts:=by obtain ⟨kvs,ed,l,f⟩:=h;exact ⟨kvs,e _ ed,l,λ u hu=>(f u hu).elim λ v z=>⟨v,z.1,z.2.tups t.t⟩⟩
theorem StsAt.le {K:b0} {H:Hp} {d:Addr} {n m:Nat} {ts:List (Str×Str)} (l:n<=m) (h:StsAt K H d n ts):StsAt K H d m ts:=by obtain ⟨kvs,ed,l',f⟩:=h;exact ⟨kvs,ed,by omega,λ u hu=>(f u hu).elim λ v z=>⟨v,z.1,z.2.le l⟩⟩
theorem StsAt.mutAt {K:b0} {H:Hp} {d:Addr} {n:Nat} {ts:List (Str×Str)} (h:StsAt K H d n ts):MutAt H d:=h.elim λ kvs z=>.inr ⟨kvs,z.1⟩
theorem zk8 {ts:List (Str×Str)} (ok:ThOk ts) {n k k':Str} (h1:(n,k)∈ts) (h2:(n,k')∈ts):k=k':=by
 have go :∀{ts:List (Str×Str)},(ts.map (·.1)).Nodup->(n,k)∈ts->(n,k')∈ts->k=k':=by
  intro ts;induction ts with
  | nil=>intro _ h;cases h
  | cons t ts ih=>
   intro nd h1 h2;rw [v1,B6] at nd;rcases List.mem_cons.mp h1 with z1|z1
   ·rcases List.mem_cons.mp h2 with z2|z2
    ·rw [<-z1] at z2;cases z2;rfl
    ·exact absurd (List.mem_map.mpr ⟨_,z2,rfl⟩) (by rw [<-z1] at nd;exact nd.1)
   ·rcases List.mem_cons.mp h2 with z2|z2
    ·exact absurd (List.mem_map.mpr ⟨_,z1,rfl⟩) (by rw [<-z2] at nd;exact nd.1)
    ·exact ih nd.2 z1 z2
 exact go ok.nd h1 h2
theorem StsAt.put {K:b0} {H H2:Hp} {d:Addr} {n:Nat} {ts:List (Str×Str)} {nm k:Str} {v:V} {kvs:List (Key×V)} (ok:ThOk ts) (s:Same H H2) (ed:H d=some (.dK kvs)) (l:kvs.length<=6 + n) (f :∀t∈ts,∃v,valV kvs (.inr t.1)=some v/\StAt K H n t.2 v) (hm:(nm,k)∈ts) (sa:StAt K H2 (n + 1) k v) :
  StsAt K (upd H2 d (.dK (putK kvs (.inr nm) v))) d (n + 1) ts:=by
 have t2:Tups K H2 (upd H2 d (.dK (putK kvs (.inr nm) v))):=Tups.dict (s _ _ ed);refine ⟨_,upd_same,G0 (z4y _ _ _) (by omega),λ t ht=>?_⟩;by_cases z:t.1=nm
 ·refine ⟨v,by rw [z1a,if_pos (by rw [z])],?_⟩;have:t.2=k:=zk8 ok (n:=nm) (by rw [<-z];exact ht) hm;rw [this];exact sa.tups t2
 ·obtain ⟨u,e,h⟩:=f t ht;exact ⟨u,by rw [z1a,if_neg (λ y=>z (B5 y))];exact e,(h.tups ((Tups.of s).trans t2)).le (F2 _)⟩
theorem z2j :∀{more acc:List (Key×V)} {k:Key},k∉more.map (·.1)->valV (mergeK acc more) k=valV acc k
 | [],_,_,_=>rfl
 | p :: r,acc,k,h=>by rw [v1,T0,not_or] at h;show valV (mergeK (putK acc p.1 p.2) r) k=_;rw [z2j h.2,z1a,if_neg h.1]
theorem z13 :∀{more acc:List (Key×V)} {k:Key} {v:V},(more.map (·.1)).Nodup->(k,v)∈more->valV (mergeK acc more) k=some v
 | [],_,_,_,_,h=>by cases h
 | p :: r,acc,k,v,nd,h=>by
  rw [v1,B6] at nd;show valV (mergeK (putK acc p.1 p.2) r) k=_;rcases List.mem_cons.mp h with z|z
  ·subst z;rw [z2j nd.1,z1a,if_pos rfl]
  ·exact z13 nd.2 z
theorem z16 :∀{more acc:List (Key×V)},(mergeK acc more).length<=acc.length + more.length
 | [],_=>F0 _
 | p :: r,acc=>by have h1:=z16 (more:=r) (acc:=putK acc p.1 p.2);have h2:=z4y acc p.1 p.2;show (mergeK (putK acc p.1 p.2) r).length<=_;rw [W0];omega
noncomputable def thK (ts:List (Str×Str)):List (Key×V):=ts.map λ t=>(.inr t.1,.str t.2)
theorem zav {ts:List (Str×Str)} (nd:(ts.map (·.1)).Nodup):((thK ts).map (·.1)).Nodup:=by unfold thK;rw [S3];have:((λ x:Key×V=>x.1) ∘ λ t:Str×Str=>((.inr t.1,.str t.2):Key×V))=(Sum.inr:Str->Key) ∘ (λ t:Str×Str=>t.1):=rfl;rw [this,<-S3];exact Q4 _ (λ a b h e=>h (B5 e)) nd
theorem zf3 {K:b0} {H:Hp} {ts:List (Str×Str)} :∀{ys:List V},All2 (λ (t:Str×Str) y=>∃b,y=.ref b/\H b=some (.tup [.str t.1,.str t.2])) ts ys->All2 (λ (p:Key×V) y=>∃b,y=.ref b/\SqT K H b [kV p.1,p.2]) (thK ts) ys:=by
 induction ts with
 | nil=>intro ys h;cases h;exact .nil
 | cons t ts ih=>intro ys h;cases h with|cons a r=>exact .cons (a.elim λ b z=>⟨b,z.1,SqT.of z.2⟩) (ih r)
def z4u (K:b0):Sp:=λ vs H Q _=>∃(r pt d:Addr) (y:V) (ts:List (Str×Str)) (n:Nat),vs=[.ref r,.ref pt,.ref d,y]/\HandAt H r/\ThAt H pt ts/\ThOk ts/\StsAt K H d n ts/\n < 63/\AcAt K H ts y/\∀a H',AnsV a->KeptL [r,d] H H'->HandAt H' r->StsAt K H' d (n + 1) ts->Q a H'
theorem z8m (T:TX (KX w.params) mg) (c__law_draw:Cal P w (KX w.params) mg base "_law_draw" ["hand","limit"] 1 z0q) (c__law_does:Cal P w (KX w.params) mg base "_law_does" ["kind","state","verb","worth"] 1 (z1g (KX w.params))):FnOk P w (KX w.params) mg base CX0 2 291 fd__law_ended ["hand","things","states","act"] (z4u (KX w.params)):=by
 refine (z3f w.params).ok sc__law_ended (λ vs H Q E h=>?_) (λ cdv A outer s H vs Q E hr h=>?_)
 ·obtain ⟨r,pt,d,y,ts,n,rfl,_⟩:=h;rfl
 ·obtain ⟨r,pt,d,y,ts,n,rfl,R,th,ok,sts,hn,⟨p,nm,v,x,hd,k,dt,rfl,ep,hm,dk,ix,wi,hh⟩,q⟩:=h;have nrd:r≠d:=λ z=>by obtain ⟨a,b,c,e,_⟩:=R;obtain ⟨kvs,e2,_⟩:=sts;rw [z,e2] at e;cases e
  refine ⟨_,(z02 (ps_asg (pv 3) (pg_tup rfl (z0a (z0l (i:=4) sc__law_ended.nd rfl (by first|exact Y0 rfl|exact X0 rfl)) (z0a (z0l (i:=5) sc__law_ended.nd rfl (by first|exact Y0 rfl|exact X0 rfl)) (z0a (z0l (i:=6) sc__law_ended.nd rfl (by first|exact Y0 rfl|exact X0 rfl)) (z0a (z0l (i:=7) sc__law_ended.nd rfl (by first|exact Y0 rfl|exact X0 rfl)) z12))))))
   (z02 (ps_if (z09 op_isN (pv 7) pe_non (nomark _))
   (z02 (ps_set (i:=8) sc__law_ended.nd rfl (by first|exact Y0 rfl|exact X0 rfl) (z24 (hu_of hr) (z0h (z10 rfl) rfl (T.no (n_dict _)) W6 (z00 (pv 1) pa_nil)) (pv 4) (λ _ _=>rfl)))
   (z05 (ps_asg (pe_cal c__law_does (hr.mono (by first|decide|omega)) rfl (z00 (pv 8) (z00 (z24 (hu_of hr) (pv 2) (pv 4) (λ _ _=>rfl)) (z00 (pv 5) (z00 (pv 6) pa_nil))))) (pg_tup rfl (z0a (pg_sub (pv 2) (pv 4) (zba (hu_of hr))) (z0a (z0l (i:=7) sc__law_ended.nd rfl (by first|exact Y0 rfl|exact X0 rfl)) z12))))))
   z0d)
   (z02 (ps_if (z09 opEq (pe_cal c__law_draw (hr.mono (by first|decide|omega)) rfl (z00 (pv 0) (z00 pe_int pa_nil))) pe_int (nomark _))
   (z05 (ps_set (i:=7) sc__law_ended.nd rfl (by first|exact Y0 rfl|exact X0 rfl) (pe_ix ix_seq (pe_lst (z00 pe_int (z00 pe_int (z00 pe_str (z00 pe_str (z00 pe_int (z00 (pe_un un_neg pe_int) (z00 (pv 7) pa_nil)))))))) (pe_cal c__law_draw (hr.mono (by first|decide|omega)) rfl (z00 (pv 0) (z00 pe_int pa_nil))) (λ _ _=>rfl))))
   z0d)
   (z05 (ps_ret (pv 7)))))),?_⟩
  refine ⟨_,rfl,p,_,rfl,SqT.of ep,rfl,_,_,rfl,_,_,rfl,_,_,rfl,_,_,rfl,rfl,t_nx ?_⟩;refine z1t (λ σ1 H1=>KeptL [r,d] H H1/\HandAt H1 r/\StsAt (KX w.params) H1 d (n + 1) ts/\∃hd' x8,AnsV hd'/\σ1=[some (.ref r),some (.ref pt),some (.ref d),some (.ref p),some (.str nm),some (.str v),some x,some hd',x8]) ?_ (λ tl=>?_);rotate_left
  ·refine ⟨_,rfl,rfl,_,rfl,ite2 (λ _=>?_) λ zn=>tl _ _ ⟨KeptL.refl,R,sts.le (F2 _),_,_,hh.resolve_left (λ e=>zn (by rw [e];rfl)),rfl⟩⟩;obtain ⟨ys,ey,al⟩:=th;refine ⟨_,rfl,pt,ys,thK ts,rfl,.inr ey,zf3 al,λ pd hpd=>?_⟩;have s1:=Same.upd (o:=.dK (mergeK [] (thK ts))) hpd;have dg:DGet (upd H pd (.dK (mergeK [] (thK ts)))) pd (.str nm) (some (.str k)):=by have:=DGet.k (k:=.inr nm) (upd_same (H:=H) (a:=pd) (o:=.dK (mergeK [] (thK ts))));rw [z13 (zav ok.nd) (List.mem_map.mpr ⟨(nm,k),hm,rfl⟩)] at this;exact this
   refine ⟨_,rfl,pd,.str k,rfl,dg,?_⟩;generalize upd H pd (.dK (mergeK [] (thK ts)))=H1 at s1⊢;obtain ⟨kvs,ed,hl,f⟩:=StsAt.tt (.of s1) (λ o e=>s1 _ _ e) sts;obtain ⟨st,ev,sv,so,sz⟩:=f _ hm;have dg2:DGet H1 d (.str nm) (some st):=by have:=DGet.k (k:=.inr nm) ed;rw [ev] at this;exact this
   refine ⟨_,rfl,_,rfl,_,rfl,d,st,rfl,dg2,_,rfl,_,rfl,k,v,st,x,dt,n,sv,rfl,so,sz,hn,dk,ix.same s1,wi.tt (.of (K:=KX w.params) s1),λ p2 st' H2 s2 e2 sa2=>?_⟩;have zok:=dz_ok dk so hn;refine ⟨p2,_,rfl,SqT.of e2,rfl,st',_,rfl,_,rfl,_,rfl,d,_,rfl,DPut.k (k:=.inr nm) (s2 _ _ ed) (C1 (m:=100) (by omega) (by decide)),_,_,rfl,rfl,?_⟩;refine tl _ _ ⟨((s1.trans s2).keptL).trans (KeptL.set (by simp)),?_,.put ok s2 ed hl f hm ⟨_,zok.1,sa2⟩,_,_,zok.2,rfl⟩;obtain ⟨a1,b1,c1,e1,z1⟩:=R.same (s1.trans s2);exact ⟨a1,b1,c1,by rw [upd_ne nrd];exact e1,z1⟩
  rintro σ1 H1 ⟨k1,R1,st1,hd',x8,hA,rfl⟩;refine ⟨_,rfl,r,10,rfl,R1,by decide,by decide,λ t H2 w2 _ _=>⟨rfl,_,rfl,?_⟩⟩;have fin :∀H3,Hw r H1 H3->∀a,AnsV a->Q a H3:=λ H3 w3 a ha=>by refine q a H3 ha (k1.trans (w3.keptL (by simp))) w3.r (st1.tt (w3.tt R1) λ o e=>w3.k _ _ nrd.symm e)
  refine ite2 (λ _=>?_) λ _=>⟨_,rfl,fin _ w2 _ hA⟩
  refine ⟨_,rfl,_,rfl,(show (7:Nat)<=sizeLine by decide),λ l hl=>⟨_,rfl,r,7,rfl,w2.r.same (Same.upd hl),by decide,by decide,λ t3 H3 w3 h0 h1=>?_⟩⟩;obtain ⟨u,hu,hmu⟩:=atI_of (xs:=[V.int 0,.int 1,.str "ok",.str "none",.int 2,.int (-1),hd']) h0 h1;have hAu:AnsV u:=by
   simp only [T0,o0,or_false] at hmu;rcases hmu with rfl|rfl|rfl|rfl|rfl|rfl|rfl
   ·exact z1i (by decide) (by decide)
   ·exact z1i (by decide) (by decide)
   ·exact .inl rfl
   ·exact .inr (.inl rfl)
   ·exact z1i (by decide) (by decide)
   ·exact z1i (by decide) (by decide)
   ·exact hA
  refine .inl ⟨l,_,t3,u,rfl,rfl,SqL.of (w3.k _ _ (w2.r.fresh hl) upd_same),hu,?_⟩;exact ⟨_,rfl,fin _ ((w2.same (Same.upd hl)).trans w3) _ hAu⟩
def BzAt (K:b0) (H:Hp) (b:Addr) (ts:List (Str×Str)) (os:List Int):Prop:=∃kvs:List (Key×V),H b=some (.dK kvs)/\kvs.map (·.1)=os.map Sum.inl/\∀h v,valV kvs (.inl h)=some v->AcAt K H ts v
theorem BzAt.tt {K:b0} {H H':Hp} {b:Addr} {ts:List (Str×Str)} {os:List Int} (t:Tt K H H') (e :∀o,H b=some o->H' b=some o) (h:BzAt K H b ts os):BzAt K H' b ts os:=by obtain ⟨kvs,eb,ek,f⟩:=h;exact ⟨kvs,e _ eb,ek,λ h v z=>(f h v z).tt t⟩
noncomputable def EvGd (K:b0) (H:Hp) (ts:List (Str×Str)):Ev->Prop
 | .beg _ n v x=>∃(nm k vb:Str) (dt:Dt),n=.str nm/\v=.str vb/\(nm,k)∈ts/\DeedOk k vb dt/\IsDt K H dt x/\WorthIn H dt x
 | .fin _ a=>AnsV a
theorem EvGd.tt {K:b0} {H H':Hp} {ts:List (Str×Str)} (t:Tt K H H') :∀{e:Ev},EvGd K H ts e->EvGd K H' ts e
 | .beg _ _ _ _,⟨nm,k,vb,dt,e1,e2,hm,dk,ix,wi⟩=>⟨nm,k,vb,dt,e1,e2,hm,dk,IsDt.mono' t.t dt _ ix,wi.tt t⟩
 | .fin _ _,h=>h
structure TaI (K:b0) (H:Hp) (pt d b l:Addr) (ts:List (Str×Str)) (i:Nat) (es:List Ev):Prop where
 th:ThAt H pt ts
 st:StsAt K H d i ts
 bz:BzAt K H b ts (es.foldl oStep [])
 ev :∃ys,H l=some (.lst ys)/\All2 (EvAt K H) es ys
 ln:es.length<=i
 gd :∀e∈es,EvGd K H ts e
theorem TaI.tt {K:b0} {H H':Hp} {pt d b l:Addr} {ts:List (Str×Str)} {i:Nat} {es:List Ev} (t:Tt K H H') (e :∀c∈[d,b,l],∀o,H c=some o->H' c=some o) (h:TaI K H pt d b l ts i es):TaI K H' pt d b l ts i es:=
 ⟨h.th.tt t,h.st.tt t (e d (by simp)),h.bz.tt t (e b (by simp)),h.ev.elim λ ys z=>⟨ys,e l (by simp) _ z.1,z01 (λ _ _ y=>EvAt.tups t.t y) z.2⟩,h.ln,λ e he=>(h.gd e he).tt t⟩
theorem TaI.same {K:b0} {H H':Hp} {pt d b l:Addr} {ts:List (Str×Str)} {i:Nat} {es:List Ev} (s:Same H H') (h:TaI K H pt d b l ts i es):TaI K H' pt d b l ts i es:=h.tt (.of s) λ _ _ _ e=>s _ _ e
theorem TaI.hw {K:b0} {H H':Hp} {pt d b l r:Addr} {ts:List (Str×Str)} {i:Nat} {es:List Ev} (R:HandAt H r) (w:Hw r H H') (n:r∉[d,b,l]) (h:TaI K H pt d b l ts i es):TaI K H' pt d b l ts i es:=h.tt (w.tt R) λ c hc o e=>w.k c o (λ z=>n (z ▸ hc)) e
theorem zbi :∀(es:List Ev) (os:List Int),(es.foldl oStep os).length<=os.length + es.length
 | [],os=>F0 _
 | e :: es,os=>by
  have h1:=zbi es (oStep os e);have h2:(oStep os e).length<=os.length + 1:=by
   cases e with
   | beg h _ _ _=>show (os++[h]).length<=_;rw [K0];exact F0 _
   | fin h _=>exact G0 (U2 _ _) (F2 _)
  show ((es.foldl oStep (oStep os e))).length<=_;rw [W0];omega
theorem z1p {L:List Addr} {H H1 H2:Hp} (s:Same H H1) (k:KeptL L H1 H2) (n :∀l∈L,H l=none):Same H H2:=λ c o e=>k c o (λ z=>by rw [n c z] at e;cases e) (s c o e)
theorem zhp {K:b0} {H:Hp} {ts:List (Str×Str)} {es:List Ev} {e:Ev} (h :∀e∈es,EvGd K H ts e) (g:EvGd K H ts e) :∀x∈es++[e],EvGd K H ts x:=λ x hx=>by
 rcases List.mem_append.mp hx with z|z
 ·exact h x z
 ·rw [List.mem_singleton.mp z];exact g
theorem z6x {K:b0} {H:Hp} :∀{ts:List (Str×Str)} {ys zs:List V},All2 (λ (t:Str×Str) y=>∃b,y=.ref b/\H b=some (.tup [.str t.1,.str t.2])) ts ys->All2 (λ x y=>∃(n k:Str) (b c:Addr) (v:V),x=.ref b/\H b=some (.tup [.str n,.str k])/\y=.ref c/\H c=some (.tup [.str n,v])/\StAt K H 0 k v) ys zs->
  ∃kvs:List (Key×V),kvs.map (·.1)=ts.map (λ t=>Sum.inr t.1)/\All2 (λ (p:Key×V) y=>∃b,y=.ref b/\SqT K H b [kV p.1,p.2]) kvs zs/\∀t∈ts,∃v,((.inr t.1:Key),v)∈kvs/\StAt K H 0 t.2 v
 | [],_,_,.nil,.nil=>⟨[],rfl,.nil,λ _ h=>absurd h o0⟩
 | t :: ts,_,_,.cons a r,.cons a' r'=>by
  obtain ⟨kvs,e1,e2,e3⟩:=z6x r r';obtain ⟨b,rfl,hb⟩:=a;obtain ⟨n,k,b',c,v,eb,hb',rfl,hc,sa⟩:=a';cases eb;rw [hb] at hb';injection hb' with hb';injection hb' with hb';have h1:t.1=n:=by injection hb' with h _;injection h
  have h2:t.2=k:=by injection hb' with _ h;injection h with h _;injection h
  subst h1 h2;refine ⟨(.inr t.1,v) :: kvs,by rw [v1,v1,e1],.cons ⟨c,rfl,SqT.of hc⟩ e2,λ u hu=>?_⟩;rcases List.mem_cons.mp hu with z|z
  ·rw [z];exact ⟨v,B1,sa⟩
  ·obtain ⟨v',h,s⟩:=e3 u z;exact ⟨v',G1 _ h,s⟩
def z53 (K:b0):Sp:=λ vs H Q _=>∃(sc:Addr) (ns:List Int) (hs mo:Int),vs=[.ref sc,.int 5,.int hs,.int mo]/\SqL K H sc (ns.map V.int)/\ns.length<=63/\0 < hs/\hs<=6/\
 ∀t pt te ys es ts H',Same H H'->H' t=some (.tup [.ref pt,.ref te])->H' te=some (.tup ys)->ThAt H' pt ts->ThOk ts->All2 (EvAt K H') es ys->es.length<=63->EWf [] es->(∀e∈es,EvGd K H' ts e)->Q (.ref t) H'
theorem zb3 (T:TX (KX w.params) mg) (c__law_hand:Cal P w (KX w.params) mg base "_law_hand" ["script","cell","k"] 1 (z37 (KX w.params))) (c__law_draw:Cal P w (KX w.params) mg base "_law_draw" ["hand","limit"] 1 z0q) (c__law_things:Cal P w (KX w.params) mg base "_law_things" ["hand"] 2 z3u) (c__law_begun:Cal P w (KX w.params) mg base "_law_begun" ["kind"] 1 (z1n (KX w.params))) (c__law_ended:Cal P w (KX w.params) mg base "_law_ended" ["hand","things","states","act"] 2 (z4u (KX w.params))) (c__law_act:Cal P w (KX w.params) mg base "_law_act" ["hand","kind"] 3 (z70 (KX w.params))) (c__law_does:Cal P w (KX w.params) mg base "_law_does" ["kind","state","verb","worth"] 1 (z1g (KX w.params))):FnOk P w (KX w.params) mg base CX0 4 296 fd__law_tale ["script","first","hands","most"] (z53 (KX w.params)):=by
 refine (z4i w.params).ok sc__law_tale (λ vs H Q E h=>?_) (λ cdv A outer s H vs Q E hr h=>?_)
 ·obtain ⟨sc,ns,hs,mo,rfl,_⟩:=h;rfl
 ·obtain ⟨sc,ns,hs,mo,rfl,sq,hn,h0,h6,q⟩:=h;refine ⟨_,(z02 (ps_set (i:=4) sc__law_tale.nd rfl (by first|exact Y0 rfl|exact X0 rfl) (pe_cal c__law_hand (hr.mono (by first|decide|omega)) rfl (z00 (pv 0) (z00 (pe_ix ix_seq (pe_op zfn (pv 0) (pe_lst (z00 pe_int (z00 pe_int pa_nil)))) pe_int (λ _ _=>rfl)) (z00 pe_int pa_nil)))))
   (z02 (ps_set (i:=5) sc__law_tale.nd rfl (by first|exact Y0 rfl|exact X0 rfl) (pe_cal c__law_things (hr.mono (by first|decide|omega)) rfl (z00 (pv 4) pa_nil)))
   (z02 (ps_set (i:=6) sc__law_tale.nd rfl (by first|exact Y0 rfl|exact X0 rfl) (z0h (z10 rfl) rfl (T.no (n_dict _)) W6 (z00 (z0s (xs:=["name","kind"]) (g:=gTup (KX w.params) 2 (gCons (gName 0) (gCons (gName 1) gNil))) (fr:=[]) rfl (pi_tup (pv 5)) (λ _ z=>absurd z o0) (z1e rfl) (λ _ z=>absurd z o0) (by decide +kernel) rfl (by decide +kernel) (λ _ _ _ _ _=>(pg_tup rfl (z0a (z0j (N:=["name","kind"]) 0 (by decide +kernel) rfl rfl) (z0a (z0j (N:=["name","kind"]) 1 (by decide +kernel) rfl rfl) z12)))) (λ _ _ _ _ _=>pf_nil) (λ _ _ _ _ _=>(pe_tup (z00 (pv 0) (z00 (pe_cal c__law_begun (hr.mono (by first|decide|omega)) rfl (z00 (pv 1) pa_nil)) pa_nil))))) pa_nil)))
   (z02 (ps_set (i:=7) sc__law_tale.nd rfl (by first|exact Y0 rfl|exact X0 rfl) (pe_and (z0o opEq (pe_cal c__law_draw (hr.mono (by first|decide|omega)) rfl (z00 (pv 4) (z00 pe_int pa_nil))) pe_int (nomark _)) (pe_one (z0o op_gt (pv 3) pe_int (nomark _)))))
   (z02 (ps_set (i:=8) sc__law_tale.nd rfl (by first|exact Y0 rfl|exact X0 rfl) z5m)
   (z02 (ps_set (i:=9) sc__law_tale.nd rfl (by first|exact Y0 rfl|exact X0 rfl) pe_int)
   (z02 (ps_set (i:=10) sc__law_tale.nd rfl (by first|exact Y0 rfl|exact X0 rfl) (pe_lst pa_nil))
   (z02 (ps_for D2 rfl (z5x rfl (T.no (z1f _)) (z00 (z27 slSeq (pv 0) (z2t (pv 1)) (z2t pe_int)) pa_nil)) (pg_tup rfl (z0a (z0l (i:=11) sc__law_tale.nd rfl (by first|exact Y0 rfl|exact X0 rfl)) (z0a (z0l (i:=12) sc__law_tale.nd rfl (by first|exact Y0 rfl|exact X0 rfl)) z12)))
   (z02 (ps_set (i:=13) sc__law_tale.nd rfl (by first|exact Y0 rfl|exact X0 rfl) (pe_cal c__law_hand (hr.mono (by first|decide|omega)) rfl (z00 (pv 0) (z00 (pv 12) (z00 (pv 11) pa_nil)))))
   (z02 (ps_set (i:=14) sc__law_tale.nd rfl (by first|exact Y0 rfl|exact X0 rfl) (pe_cal c__law_draw (hr.mono (by first|decide|omega)) rfl (z00 (pv 13) (z00 (pv 2) pa_nil))))
   (z02 (ps_if (PW.pt (pw_and (pt_val (pv 7) (λ _=>rfl)) (pw_and (z09 (zkh (hu_of hr)) (pv 8) z5m (nomark _)) (z6o (PW.pt (pw_or (z09 op_gt (pe_cal c__law_draw (hr.mono (by first|decide|omega)) rfl (z00 (pv 13) (z00 pe_int pa_nil))) pe_int (nomark _)) (pw_or1 (z09 op_gt (z08 z7m rfl (T.no (n_len _)) W2 (z00 (pv 8) pa_nil)) pe_int (nomark _)))))))))
   (z05 (ps_set (i:=14) sc__law_tale.nd rfl (by first|exact Y0 rfl|exact X0 rfl) (pe_ix ix_seq (z08 (zah rfl) rfl (T.no (z89 _)) j29 (z00 (pv 8) pa_nil)) (pe_cal c__law_draw (hr.mono (by first|decide|omega)) rfl (z00 (pv 13) (z00 (z08 z7m rfl (T.no (n_len _)) W2 (z00 (pv 8) pa_nil)) pa_nil))) (λ _ _=>rfl))))
   z0d)
   (z05 (ps_if (pt_cmp (pc_din (hu_of hr) (pv 14) (pv 8)) (by with_unfolding_all rfl))
   (z05 (z1c (z1d (pv 10) (z00 (pe_tup (z00 pe_str (z00 (pv 14) (z00 (pe_cal c__law_ended (hr.mono (by first|decide|omega)) rfl (z00 (pv 13) (z00 (pv 5) (z00 (pv 6) (z00 (zdl (pv 8) (pv 14) ⟨rfl,rfl,rfl,rfl⟩) pa_nil))))) pa_nil)))) pa_nil))))
   (z05 (ps_if (z09 op_lt (pv 9) (pe_ix ix_seq (pe_lst (z00 (pv 3) (z00 pe_int pa_nil))) (z0h z5q rfl (T.no (n_int _)) X9 (z00 (pv 7) pa_nil)) (λ _ _=>rfl)) (nomark _))
   (z02 (ps_asg (pe_ix ix_seq (pv 5) (pe_cal c__law_draw (hr.mono (by first|decide|omega)) rfl (z00 (pv 13) (z00 (z08 z0w rfl (T.no (n_len _)) W2 (z00 (pv 5) pa_nil)) pa_nil))) (λ _ _=>rfl)) (pg_tup rfl (z0a (z0l (i:=15) sc__law_tale.nd rfl (by first|exact Y0 rfl|exact X0 rfl)) (z0a (z0l (i:=16) sc__law_tale.nd rfl (by first|exact Y0 rfl|exact X0 rfl)) z12))))
   (z02 (ps_asg (pe_cal c__law_act (hr.mono (by first|decide|omega)) rfl (z00 (pv 13) (z00 (pv 16) pa_nil))) (pg_tup rfl (z0a (z0l (i:=17) sc__law_tale.nd rfl (by first|exact Y0 rfl|exact X0 rfl)) (z0a (z0l (i:=18) sc__law_tale.nd rfl (by first|exact Y0 rfl|exact X0 rfl)) z12))))
   (z02 (ps_set (i:=19) sc__law_tale.nd rfl (by first|exact Y0 rfl|exact X0 rfl) pe_non)
   (z02 (ps_if (z09 opEq (pe_cal c__law_draw (hr.mono (by first|decide|omega)) rfl (z00 (pv 13) (z00 pe_int pa_nil))) pe_int (nomark _))
   (z05 (ps_asg (pe_cal c__law_does (hr.mono (by first|decide|omega)) rfl (z00 (pv 16) (z00 (z24 (hu_of hr) (pv 6) (pv 15) (λ _ _=>rfl)) (z00 (pv 17) (z00 (pv 18) pa_nil))))) (pg_tup rfl (z0a (pg_sub (pv 6) (pv 15) (zba (hu_of hr))) (z0a (z0l (i:=19) sc__law_tale.nd rfl (by first|exact Y0 rfl|exact X0 rfl)) z12)))))
   z0d)
   (z02 (z97 (hu_of hr) (pv 8) (pv 14) (pe_tup (z00 (pv 15) (z00 (pv 17) (z00 (pv 18) (z00 (pv 19) pa_nil))))) rfl)
   (z02 (z1c (z1d (pv 10) (z00 (pe_tup (z00 pe_str (z00 (pv 14) (z00 (pv 15) (z00 (pv 17) (z00 (pv 18) pa_nil)))))) pa_nil)))
   (z05 (ps_set (i:=9) sc__law_tale.nd rfl (by first|exact Y0 rfl|exact X0 rfl) (pe_op opAdd (pv 9) pe_int)))))))))
   z0d))))))))
   (z05 (ps_ret (pe_tup (z00 (pv 5) (z00 (z0h z0p rfl (T.no (z26 _)) S4 (z00 (pv 10) pa_nil)) pa_nil))))))))))))),?_⟩
  have hc :∃c:Int,atI (ns.map V.int++[V.int 0,.int 0]) 1=some (.int c):=by
   match ns with
   | []=>exact ⟨0,rfl⟩
   | [a]=>exact ⟨0,rfl⟩
   | a :: b :: r=>exact ⟨b,z04 (j:=1) rfl⟩
  obtain ⟨c,hc⟩:=hc;refine ⟨_,rfl,_,rfl,(show (2:Nat)<=sizeLine by decide),λ l0 hl0=>?_⟩;have sA:=Same.upd (o:=.lst [V.int 0,.int 0]) hl0;refine ⟨sc,l0,ns.map V.int,[.int 0,.int 0],rfl,rfl,sA.seq sq,SqL.of upd_same,by rw [D0];exact G0 (m:=65) (by show ns.length + 2<=65;omega) (by decide),λ l1 hl1=>?_⟩;have sB:=sA.trans (Same.upd (o:=.lst (ns.map V.int++[V.int 0,.int 0])) hl1);refine .inl ⟨l1,_,1,.int c,rfl,rfl,SqL.of upd_same,hc,sc,ns,c,1,rfl,sB.seq sq,by decide,by decide,λ r H1 s1 R1 hr1=>?_⟩;have s1:=sB.trans s1;have fr:H r=none:=sB.free hr1;refine ⟨_,rfl,r,rfl,R1,λ pt ts H2 w2 hpt th ok=>?_⟩;have s2:Same H H2:=z1p s1 (w2.keptL (L:=[r]) (by simp)) (λ l hl=>by rw [List.mem_singleton.mp hl];exact fr);obtain ⟨yt,eyt,alt⟩:=th;refine g_name (t_nx ?_);refine z8r ?_;refine ze9 (S:=Same) (K:=KX w.params) (a:=pt) (xs:=yt) (λ x y H=>∃(n k:Str) (b c:Addr) (v:V),x=.ref b/\H b=some (.tup [.str n,.str k])/\y=.ref c/\H c=some (.tup [.str n,v])/\StAt (KX w.params) H 0 k v) (Same.refl _) (λ _ _ _ a b=>a.trans b) (λ _ _=>Same.refl _) ?_ (λ R h=>⟨_,rfl,h⟩) (λ H' s'=>s'.seqT (SqT.of eyt)) (G0 (J8 (z03 alt)) (G0 ok.n6 (by decide))) ?_ ?_
  ·rintro x y H3 H4 s4 ⟨n,k,b,c,v,e1,e2,e3,e4,e5⟩;exact ⟨n,k,b,c,v,e1,s4 _ _ e2,e3,s4 _ _ e4,e5.tups (.of s4)⟩
  ·intro v hv H3 s3 KT hKT KF;obtain ⟨m,hm⟩:=List.mem_iff_getElem?.mp hv;obtain ⟨t,ht,b,rfl,eb⟩:=z0g alt hm;refine ⟨b,_,rfl,SqT.of (s3 _ _ eb),rfl,_,_,rfl,_,_,rfl,rfl,[some (.str t.1),some (.str t.2)],rfl,rfl,iteT ?_⟩;refine ⟨_,rfl,_,rfl,t.2,rfl,λ u H4 s4 sa=>⟨(show (2:Nat)<=sizeLine by decide),λ p5 hp5=>hKT _ _ (s4.trans (Same.upd hp5)) ?_⟩⟩;exact ⟨t.1,t.2,b,p5,u,rfl,(s4.trans (Same.upd hp5)) _ _ (s3 _ _ eb),rfl,upd_same,zeroK t.2,z7a _,sa.tups (.of (Same.upd hp5))⟩
  intro l3 H3 zs s3 hl3 al3;have alt3:All2 (λ (t:Str×Str) y=>∃b,y=.ref b/\H3 b=some (.tup [.str t.1,.str t.2])) ts yt:=z01 (λ _ _ z=>z.elim λ b y=>⟨b,y.1,s3 _ _ y.2⟩) alt;obtain ⟨kvs,ek,alk,fk⟩:=z6x alt3 al3;have sl3:=Same.upd (o:=.lst zs) hl3;have el3:upd H3 l3 (.lst zs) l3=some (.lst zs):=upd_same;generalize upd H3 l3 (.lst zs)=H4 at sl3 el3⊢;refine ⟨l3,zs,kvs,rfl,.inl el3,z01 (λ _ _ z=>z.elim λ b y=>⟨b,y.1,sl3.seqT y.2⟩) alk,λ d hd=>?_⟩;refine g_name ?_;have ed:upd H4 d (.dK (mergeK [] kvs)) d=some (.dK (mergeK [] kvs)):=upd_same;have s5:=Same.upd (o:=.dK (mergeK [] kvs)) hd;have fd:H d=none:=(s2.trans (s3.trans sl3)).free hd;have st5:StsAt (KX w.params) (upd H4 d (.dK (mergeK [] kvs))) d 0 ts:=by
   refine ⟨_,ed,?_,λ t ht=>?_⟩
   ·have h1:=z16 (more:=kvs) (acc:=[]);have h2:=congrArg S5 ek;rw [D0,D0] at h2;have:=ok.n6;rw [G2,K4] at h1;omega
   ·obtain ⟨v,hv,sa⟩:=fk t ht;refine ⟨v,z13 ?_ hv,sa.tups (.of (sl3.trans s5))⟩;rw [ek,show (ts.map λ t=>(Sum.inr t.1:Key))=(ts.map (·.1)).map Sum.inr by rw [S3];rfl];exact Q4 _ (λ a b h e=>h (B5 e)) ok.nd
  have th5:ThAt (upd H4 d (.dK (mergeK [] kvs))) pt ts:=ThAt.tt (K:=KX w.params) (.of (sl3.trans s5)) ⟨yt,s3 _ _ eyt,alt3⟩;have R5:HandAt (upd H4 d (.dK (mergeK [] kvs))) r:=w2.r.same ((s3.trans sl3).trans s5);have s5:=(s2.trans (s3.trans sl3)).trans s5;generalize upd H4 d (.dK (mergeK [] kvs))=H5 at ed s5 st5 th5 R5⊢;refine z1t (λ σ1 H6=>Hw r H5 H6/\∃cm:Bool,σ1=[some (.ref sc),some (.int 5),some (.int hs),some (.int mo),some (.ref r),some (.ref pt),some (.ref d),some (.bl cm),none,none,none,none,none,none,none,none,none,none,none,none]) ?_ (λ tl=>?_);rotate_left
  ·refine ⟨_,rfl,r,3,rfl,R5,by decide,by decide,λ t6 H6 w6 _ _=>⟨rfl,_,rfl,?_⟩⟩;refine ite2 (λ _=>?_) λ _=>tl _ _ ⟨w6,_,rfl⟩;exact ⟨_,rfl,_,_,rfl,rfl,tl _ _ ⟨w6,_,rfl⟩⟩
  rintro σ1 H6 ⟨w6,cm,rfl⟩;have s6:Same H H6:=z1p s5 (w6.keptL (L:=[r]) (by simp)) (λ l hl=>by rw [List.mem_singleton.mp hl];exact fr);have ndr:d≠r:=λ z=>by obtain ⟨a1,b1,c1,e1,_⟩:=R5;rw [<-z,ed] at e1;cases e1
  have st6:StsAt (KX w.params) H6 d 0 ts:=st5.tt (w6.tt R5) λ o e=>w6.k _ _ ndr e;have th6:ThAt H6 pt ts:=th5.tt (w6.tt (K:=KX w.params) R5);intro b hb;have fb:H b=none:=s6.free hb;have nbd:b≠d:=λ z=>by obtain ⟨kv,e,_⟩:=st6;rw [z,e] at hb;cases hb
  have s7:=Same.upd (o:=.dK []) hb;have eb:upd H6 b (.dK []) b=some (.dK []):=upd_same;have st7:=st6.tt (.of s7) λ o e=>s7 _ _ e;have th7:=th6.tt (.of (K:=KX w.params) s7);have s7:=s6.trans s7;generalize upd H6 b (.dK [])=H7 at eb s7 st7 th7⊢;refine ⟨(show (0:Nat)<=sizeLine by decide),λ l hl=>?_⟩;have fl:H l=none:=s7.free hl;have s8:=Same.upd (o:=.lst []) hl;have el:upd H7 l (.lst []) l=some (.lst []):=upd_same;have I8:TaI (KX w.params) (upd H7 l (.lst [])) pt d b l ts 0 []:=⟨th7.tt (.of (K:=KX w.params) s8),st7.tt (.of s8) (λ o e=>s8 _ _ e),⟨[],s8 _ _ eb,rfl,λ h v e=>by cases e⟩,⟨[],el,.nil⟩,F0 _,λ e he=>absurd he o0⟩
  have s8:=s7.trans s8;generalize upd H7 l (.lst [])=H8 at s8 I8⊢;have cut :∃ms:List Int,cutV (ns.map V.int) (some 5) (some 63)=ms.map V.int/\ms.length<=63:=by
   refine ⟨(ns.drop (HT.sIx (ns.map V.int).length 0 (some 5))).take (HT.sIx (ns.map V.int).length (ns.map V.int).length (some 63) - HT.sIx (ns.map V.int).length 0 (some 5)),?_,?_⟩
   ·unfold cutV;rw [List.map_take,List.map_drop]
   ·rw [R3,i4];omega
  obtain ⟨ms,em,hms⟩:=cut;refine ⟨_,rfl,_,rfl,5,rfl,63,rfl,.inl ⟨sc,_,rfl,s8.seq sq,λ qa hqa=>?_⟩⟩;rw [em];have s9:=Same.upd (o:=.lst (ms.map V.int)) hqa;have eq9:upd H8 qa (.lst (ms.map V.int)) qa=some (.lst (ms.map V.int)):=upd_same;have I9:=I8.same s9;have fqa:H qa=none:=s8.free hqa;have nqa:qa∉[d,b,l]:=λ z=>by
   simp only [T0,o0,or_false] at z;rcases z with z|z|z
   ·obtain ⟨kv,e,_⟩:=I8.st;rw [z,e] at hqa;cases hqa
   ·obtain ⟨kv,e,_⟩:=I8.bz;rw [z,e] at hqa;cases hqa
   ·obtain ⟨kv,e,_⟩:=I8.ev;rw [z,e] at hqa;cases hqa
  have s9:=s8.trans s9;generalize upd H8 qa (.lst (ms.map V.int))=H9 at s9 eq9 I9⊢;refine ⟨qa,_,rfl,SqL.of eq9,?_⟩;refine z7o (K:=KX w.params) (a:=qa) (xs:=ms.map V.int) (λ i σ H'=>∃es many,TaI (KX w.params) H' pt d b l ts i es/\EWf [] es/\H' qa=some (.lst (ms.map V.int))/\Same H H'/\∃x11 x12 x13 x14 x15 x16 x17 x18 x19,σ=[some (.ref sc),some (.int 5),some (.int hs),some (.int mo),some (.ref r),some (.ref pt),some (.ref d),some (.bl cm),some (.ref b),some (.int many),some (.ref l),x11,x12,x13,x14,x15,x16,x17,x18,x19])
   ⟨[],0,I9,trivial,eq9,s9,_,_,_,_,_,_,_,_,_,rfl⟩ (λ i σ H' h=>?_) ?_ ?_
  ·obtain ⟨es,many,_,_,e,_⟩:=h;exact SqL.of e
  ·rintro i y σ H3 p hy ⟨es,many,ti,wf,eq3,s3,x11,x12,x13,x14,x15,x16,x17,x18,x19,rfl⟩ hp;obtain ⟨cell,hcell,rfl⟩:=V0 .. ▸ hy |> Option.map_eq_some_iff.mp;have hi:i < ms.length:=(List.getElem?_eq_some_iff.mp hcell).1;have sp:=Same.upd (o:=.tup [.int i,.int cell]) hp;have ep4:upd H3 p (.tup [.int i,.int cell]) p=some (.tup [.int i,.int cell]):=upd_same;have ti4:=ti.same sp;have eq4:=sp _ _ eq3;have s4:=s3.trans sp;generalize upd H3 p (.tup [.int i,.int cell])=H4 at ep4 ti4 eq4 s4⊢;refine ⟨p,_,rfl,SqT.of ep4,rfl,.int i,_,rfl,.int cell,_,rfl,rfl,?_⟩;refine ⟨_,rfl,_,rfl,_,rfl,sc,ns,cell,i,rfl,s4.seq sq,by omega,by omega,λ ha H5 s5 R5 fha=>?_⟩;have fH:H ha=none:=s4.free fha;have nhd:ha≠d:=λ z=>by obtain ⟨kv,e,_⟩:=ti4.st;rw [z,e] at fha;cases fha
   have nhb:ha≠b:=λ z=>by obtain ⟨kv,e,_⟩:=ti4.bz;rw [z,e] at fha;cases fha
   have nhl:ha≠l:=λ z=>by obtain ⟨kv,e,_⟩:=ti4.ev;rw [z,e] at fha;cases fha
   have nhq:ha≠qa:=λ z=>by rw [z,eq4] at fha;cases fha
   have nha:ha∉[d,b,l]:=by simp [nhd,nhb,nhl]
   have ti5:=ti4.same s5;have eq5:=s5 _ _ eq4;have s5:=s4.trans s5;refine ⟨_,rfl,_,rfl,ha,hs,rfl,R5,h0,by omega,λ one H6 w6 _ _=>?_⟩;have ti6:=ti5.hw R5 w6 nha;have eq6:=w6.k _ _ (Q2 nhq) eq5;have s6:Same H H6:=z1p s5 (w6.keptL (L:=[ha]) (by simp)) (λ l hl=>by rw [List.mem_singleton.mp hl];exact fH);have hlen:(es.foldl oStep []).length<=i:=by have h1:=zbi es [];have h2:=ti.ln;rw [G2,K4] at h1;omega
   refine g_name (t_nx ?_);refine z1t (λ σ1 H7=>Hw ha H6 H7/\∃one:Int,σ1=[some (.ref sc),some (.int 5),some (.int hs),some (.int mo),some (.ref r),some (.ref pt),some (.ref d),some (.bl cm),some (.ref b),some (.int many),some (.ref l),some (.int i),some (.int cell),some (.ref ha),some (.int one),x15,x16,x17,x18,x19]) ?_ (λ tl=>?_);rotate_left
   ·refine ⟨_,rfl,cm,rfl,?_⟩;cases cm with
    | false=>exact iteF (iteF (tl _ _ ⟨w6.r.hw,_,rfl⟩))
    | true=>
     refine iteT ?_;obtain ⟨kvs,eb6,ek6,fk6⟩:=ti6.bz;refine ⟨_,rfl,λ p7 hp7=>?_⟩;have sp7:=Same.upd (o:=.dK []) hp7;have e7:upd H6 p7 (.dK []) p7=some (.dK []):=upd_same;generalize upd H6 p7 (.dK [])=H7 at sp7 e7⊢;have w7:Hw ha H6 H7:=w6.r.hw.same sp7;have eb7:=sp7 _ _ eb6;refine ⟨b,p7,kvs,rfl,rfl,eb7,e7,_,rfl,?_⟩;have kl:kvs.length=(es.foldl oStep []).length:=by have:=congrArg S5 ek6;simpa using this
     by_cases z:kvs≠[]
     ·refine iteP (decide_eq_true z) ?_;have kpos:0 < kvs.length:=List.length_pos_iff.mpr z;refine ⟨_,rfl,ha,5,rfl,w7.r,by decide,by decide,λ t8 H8 w8 _ _=>⟨_,_,rfl,rfl,_,rfl,?_⟩⟩;have w8:=w7.trans w8;have eb8:H8 b=some (.dK kvs):=w8.k _ _ (Q2 nhb) eb6;refine ite2 (λ _=>?_) λ _=>?_
      ·refine iteT ?_;refine ⟨_,rfl,b,kvs,_,rfl,eb8,ek6,by omega,λ lS os' hlS pm pw=>?_⟩;refine ⟨_,rfl,_,rfl,b,kvs,rfl,(Same.upd hlS) _ _ eb8,ha,_,rfl,w8.r.same (Same.upd hlS),by omega,by omega,λ t9 H9 w9 h90 h91=>?_⟩;have osl:os'.length=kvs.length:=by rw [pm.length_eq,kl]
       obtain ⟨v,hv,hm⟩:=atI_of (xs:=os'.map V.int) h90 (by rw [D0];omega);obtain ⟨o,_,rfl⟩:=List.mem_map.mp hm;refine .inl ⟨lS,_,t9,_,rfl,rfl,SqL.of (w9.k _ _ (w8.r.fresh hlS) upd_same),hv,?_⟩;exact tl _ _ ⟨(w8.same (Same.upd hlS)).trans w9,_,rfl⟩
      ·refine ⟨_,rfl,b,kvs,rfl,eb8,_,_,rfl,rfl,_,rfl,?_⟩;refine ite2 (λ _=>?_) λ _=>tl _ _ ⟨w8,_,rfl⟩;refine ⟨_,rfl,b,kvs,_,rfl,eb8,ek6,by omega,λ lS os' hlS pm pw=>?_⟩;refine ⟨_,rfl,_,rfl,b,kvs,rfl,(Same.upd hlS) _ _ eb8,ha,_,rfl,w8.r.same (Same.upd hlS),by omega,by omega,λ t9 H9 w9 h90 h91=>?_⟩;have osl:os'.length=kvs.length:=by rw [pm.length_eq,kl]
       obtain ⟨v,hv,hm⟩:=atI_of (xs:=os'.map V.int) h90 (by rw [D0];omega);obtain ⟨o,_,rfl⟩:=List.mem_map.mp hm;refine .inl ⟨lS,_,t9,_,rfl,rfl,SqL.of (w9.k _ _ (w8.r.fresh hlS) upd_same),hv,?_⟩;exact tl _ _ ⟨(w8.same (Same.upd hlS)).trans w9,_,rfl⟩
     ·exact iteN (by rw [decide_eq_false z];decide) (iteF (tl _ _ ⟨w7,_,rfl⟩))
   rintro σ7 H7 ⟨w7,one,rfl⟩;have ti7:=ti6.hw w6.r w7 nha;have R7:=w7.r;have eq7:=w7.k _ _ (Q2 nhq) eq6;have s7:Same H H7:=z1p s6 (w7.keptL (L:=[ha]) (by simp)) (λ l hl=>by rw [List.mem_singleton.mp hl];exact fH);obtain ⟨kvs,eb7,ek7,fk7⟩:=ti7.bz;obtain ⟨ys,el7,ev7⟩:=ti7.ev;have kl:kvs.length=(es.foldl oStep []).length:=by have:=congrArg S5 ek7;simpa using this
   have nlb:l≠b:=λ z=>by rw [z,eb7] at el7;cases el7
   have nld:l≠d:=λ z=>by obtain ⟨kv,e,_⟩:=ti7.st;rw [z,e] at el7;cases el7
   have yl:ys.length<=i:=by rw [z03 ev7];exact ti.ln
   have dg:DGet H7 b (.int one) (valV kvs (.inl one)):=DGet.k (k:=.inl one) eb7;refine ⟨_,rfl,_,rfl,b,_,rfl,dg,_,rfl,?_⟩;cases hv:valV kvs (.inl one) with
   | some v=>
    refine iteP rfl ?_;have hin:one∈es.foldl oStep []:=by have:(Sum.inl one:Key)∈kvs.map (·.1):=valV_isSome.mp (by rw [hv];rfl);rw [ek7] at this;obtain ⟨k,hk,e⟩:=List.mem_map.mp this;exact M3 e ▸ hk
    refine ⟨_,rfl,.inl ⟨rfl,_,SqL.of el7⟩,_,rfl,_,rfl,_,rfl,_,rfl,_,rfl,b,rfl,.inl ⟨_,.inl eb7⟩,_,rfl,kvs,.inl one,v,eb7,rfl,hv,?_⟩;have k8:KeptL [b] H7 (upd H7 b (.dK (dropK kvs (.inl one)))):=KeptL.set (by simp);have T8:Tt (KX w.params) H7 (upd H7 b (.dK (dropK kvs (.inl one)))):=KeptL.tt k8 λ c hc=>by rw [List.mem_singleton.mp hc];exact .inr ⟨_,eb7⟩
    have eb8:upd H7 b (.dK (dropK kvs (.inl one))) b=some (.dK (dropK kvs (.inl one))):=upd_same;generalize upd H7 b (.dK (dropK kvs (.inl one)))=H8 at k8 T8 eb8⊢;have R8:HandAt H8 ha:=by obtain ⟨a1,b1,c1,e1,z1⟩:=R7;exact ⟨a1,b1,c1,k8 _ _ (by simp [nhb]) e1,z1⟩
    have st8:StsAt (KX w.params) H8 d i ts:=ti7.st.tt T8 λ o e=>k8 _ _ (by simp [nbd.symm]) e;have el8:H8 l=some (.lst ys):=k8 _ _ (by simp [nlb]) el7;refine ⟨ha,pt,d,v,ts,i,rfl,R8,ti7.th.tt T8,ok,st8,by omega,(fk7 _ _ hv).tt T8,λ a H9 hA k9 R9 st9=>?_⟩;have T9:Tt (KX w.params) H8 H9:=KeptL.tt k9 λ c hc=>by
     simp only [T0,o0,or_false] at hc;rcases hc with rfl|rfl
     ·exact R8.mutAt
     ·exact st8.mutAt
    have eb9:H9 b=_:=k9 _ _ (by simp [nbd,Q2 nhb]) eb8;have el9:H9 l=_:=k9 _ _ (by simp [nld,Q2 nhl]) el8;refine ⟨(show (3:Nat)<=sizeLine by decide),λ p9 hp9=>?_⟩;have sp9:=Same.upd (o:=.tup [.str "end",.int one,a]) hp9;have e10:upd H9 p9 (.tup [.str "end",.int one,a]) p9=some (.tup [.str "end",.int one,a]):=upd_same;have st10:=st9.tt (.of sp9) λ o e=>sp9 _ _ e;generalize upd H9 p9 (.tup [.str "end",.int one,a])=H10 at sp9 e10 st10⊢;have el10:=sp9 _ _ el9;refine ⟨l,ys,_,rfl,rfl,el10,C1 (m:=63) (by omega) (by decide),?_⟩;have k11:KeptL [l] H10 (upd H10 l (.lst (ys++[.ref p9]))):=KeptL.set (by simp);have T11:Tt (KX w.params) H10 (upd H10 l (.lst (ys++[.ref p9]))):=KeptL.tt k11 λ c hc=>by rw [List.mem_singleton.mp hc];exact .inl ⟨_,el10⟩
    have el11:upd H10 l (.lst (ys++[.ref p9])) l=some (.lst (ys++[.ref p9])):=upd_same;generalize upd H10 l (.lst (ys++[.ref p9]))=H11 at k11 T11 el11⊢;have T:Tt (KX w.params) H7 H11:=((T8.trans T9).trans (.of sp9)).trans T11;have kk:KeptL [ha,d,b,l] H7 H11:=λ c o n e=>by simp only [T0,o0,or_false,not_or] at n;exact k11 _ _ (by simp [n]) (sp9 _ _ (k9 _ _ (by simp [n]) (k8 _ _ (by simp [n]) e)))
    have nlq:qa∉[ha,d,b,l]:=by
     intro z;rcases List.mem_cons.mp z with z|z
     ·exact nhq z.symm
     ·exact nqa z
    refine ⟨es++[.fin one a],many,⟨ti7.th.tt T,st10.tt T11 (λ o e=>k11 _ _ (by simp [Q2 nld]) e),?_,⟨_,el11,?_⟩,?_,zhp (e:=.fin one a) (λ e he=>(ti7.gd e he).tt T) hA⟩,EWf.snoc (e:=.fin one a) wf hin,kk _ _ nlq eq7,z1p s7 kk (λ c hc=>?_),_,_,_,_,_,_,_,_,_,rfl⟩
    ·refine ⟨_,k11 _ _ (by simp [Q2 nlb]) (sp9 _ _ eb9),?_,λ h u hu=>?_⟩
     ·rw [G4];exact zbf ek7
     ·refine (fk7 h u ?_).tt T;by_cases z:h=one
      ·subst z;have:(Sum.inl h:Key)∈(dropK kvs (.inl h)).map (·.1):=valV_isSome.mp (by rw [hu];rfl);obtain ⟨q1,hq1,e1⟩:=List.mem_map.mp this;have:=(List.mem_filter.mp hq1).2;exact absurd e1 (of_decide_eq_true this)
      ·rwa [zc9 (λ e=>z (M3 e))] at hu
    ·exact z1y (z01 (λ _ _ z=>EvAt.tups T.t z) ev7) ⟨p9,rfl,T11.t _ _ (SqT.of e10)⟩
    ·rw [K0];exact T4 ti.ln
    ·simp only [T0,o0,or_false] at hc;rcases hc with rfl|rfl|rfl|rfl
     ·exact fH
     ·exact fd
     ·exact fb
     ·exact fl
   | none=>
    refine iteN (by decide) ?_;have hno:one∉es.foldl oStep []:=λ z=>by have:(valV kvs (.inl one)).isSome=true:=valV_isSome.mpr (by rw [ek7];exact List.mem_map.mpr ⟨one,z,rfl⟩);rw [hv] at this;cases this
    obtain ⟨mc,at24⟩ :∃mc:Int,atI [V.int mo,.int 24] (if cm=true then 1 else 0)=some (.int mc):=by cases cm with|true=>exact ⟨24,rfl⟩|false=>exact ⟨mo,rfl⟩
    refine ⟨_,rfl,_,rfl,(show (2:Nat)<=sizeLine by decide),λ l8 hl8=>⟨_,rfl,.inl (.inr ⟨cm,rfl,.inl ⟨l8,_,_,.int mc,rfl,rfl,SqL.of upd_same,at24,_,_,rfl,rfl,_,rfl,?_⟩⟩)⟩⟩;have s8:=Same.upd (o:=.lst [V.int mo,.int 24]) hl8;generalize upd H7 l8 (.lst [V.int mo,.int 24])=H8 at s8⊢;have ti8:=ti7.same s8;have R8:=R7.same s8;refine ite2 (λ _=>?_) λ _=>⟨es,many,⟨ti8.th,ti8.st.le (F2 _),ti8.bz,ti8.ev,S6 ti8.ln,ti8.gd⟩,wf,s8 _ _ eq7,s7.trans s8,_,_,_,_,_,_,_,_,_,rfl⟩
    obtain ⟨yt,eyt,alt⟩:=ti8.th;have ytl:yt.length=ts.length:=z03 alt;have ok0:=ok.n0;have ok6:=ok.n6;refine ⟨_,rfl,_,rfl,_,rfl,.inl ⟨pt,yt,rfl,.inr (SqT.of eyt),ha,_,rfl,R8,by omega,by omega,λ t9 H9 w9 h90 h91=>?_⟩⟩;obtain ⟨v9,hv9,hm9⟩:=atI_of (xs:=yt) h90 h91;obtain ⟨j,hj⟩:=List.mem_iff_getElem?.mp hm9;obtain ⟨t,ht,b9,rfl,e9⟩:=z0g alt hj;have tmem:=R0 ht;have T9:Tt (KX w.params) H8 H9:=w9.tt R8;refine .inr (.inl ⟨pt,yt,t9,_,rfl,rfl,SqT.of (T9.l _ _ eyt),hv9,b9,_,rfl,SqT.of (T9.l _ _ e9),rfl,_,_,rfl,_,_,rfl,rfl,?_⟩);refine ⟨_,rfl,_,rfl,ha,t.2,rfl,w9.r,ok.ks t tmem,λ p10 v10 x10 d10 H10 w10 e10 _ dk ix wi=>⟨p10,_,rfl,SqT.of e10,rfl,_,_,rfl,_,_,rfl,rfl,t_nx ?_⟩⟩;have w810:=w9.trans w10;have T810:Tt (KX w.params) H8 H10:=w810.tt R8;have st10:StsAt (KX w.params) H10 d i ts:=ti8.st.tt T810 λ o e=>w810.k _ _ (Q2 nhd) e;refine z1b ?_;refine g_name ?_;refine z1t (λ σ1 H11=>KeptL [ha,d] H10 H11/\HandAt H11 ha/\StsAt (KX w.params) H11 d (i + 1) ts/\∃hd',(hd'=.non\/AnsV hd')/\σ1=[some (.ref sc),some (.int 5),some (.int hs),some (.int mo),some (.ref r),some (.ref pt),some (.ref d),some (.bl cm),some (.ref b),some (.int many),some (.ref l),some (.int i),some (.int cell),some (.ref ha),some (.int one),some (.str t.1),some (.str t.2),some (.str v10),some x10,some hd']) ?_ (λ tl2=>?_);rotate_left
    ·refine ⟨_,rfl,ha,3,rfl,w10.r,by decide,by decide,λ t11 H11 w11 _ _=>⟨rfl,_,rfl,?_⟩⟩;have T11:Tt (KX w.params) H10 H11:=w11.tt w10.r;have st11:StsAt (KX w.params) H11 d i ts:=st10.tt T11 λ o e=>w11.k _ _ (Q2 nhd) e;refine ite2 (λ _=>?_) λ _=>tl2 _ _ ⟨w11.keptL (by simp),w11.r,st11.le (F2 _),_,.inl rfl,rfl⟩;obtain ⟨kvs2,ed2,hl2,f2⟩:=st11;obtain ⟨st,ev,sv,so,sz⟩:=f2 t tmem;have dg2:DGet H11 d (.str t.1) (some st):=by have:=DGet.k (k:=.inr t.1) ed2;rw [ev] at this;exact this
     refine ⟨_,rfl,_,rfl,_,rfl,d,st,rfl,dg2,_,rfl,_,rfl,t.2,v10,st,x10,d10,i,sv,rfl,so,sz,by omega,dk,IsDt.mono' T11.t _ _ ix,wi.tt T11,λ p12 st' H12 s12 e12 sa12=>?_⟩;have zok:=dz_ok dk so (show i < 63 by omega);refine ⟨p12,_,rfl,SqT.of e12,rfl,st',_,rfl,_,rfl,_,rfl,d,_,rfl,DPut.k (k:=.inr t.1) (s12 _ _ ed2) (C1 (m:=100) (by omega) (by decide)),_,_,rfl,rfl,?_⟩;refine tl2 _ _ ⟨((w11.keptL (by simp)).trans s12.keptL).trans (KeptL.set (by simp)),?_,.put ok s12 ed2 hl2 f2 tmem ⟨_,zok.1,sa12⟩,_,.inr zok.2,rfl⟩;obtain ⟨a1,b1,c1,e1,z1⟩:=w11.r.same s12;exact ⟨a1,b1,c1,by rw [upd_ne nhd];exact e1,z1⟩
    rintro σ11 H11 ⟨k11,R11,st11,hd',hh,rfl⟩;have k7:KeptL [ha,d] H7 H11:=(s8.keptL.trans (w810.keptL (by simp))).trans k11;have T1:Tt (KX w.params) H10 H11:=KeptL.tt k11 λ c hc=>by
     simp only [T0,o0,or_false] at hc;rcases hc with rfl|rfl
     ·exact w10.r.mutAt
     ·exact st10.mutAt
    have T7:Tt (KX w.params) H7 H11:=(Tt.trans (.of s8) T810).trans T1;have eb11:H11 b=_:=k7 _ _ (by simp [nbd,Q2 nhb]) eb7;have el11:H11 l=_:=k7 _ _ (by simp [nld,Q2 nhl]) el7;refine ⟨_,rfl,_,rfl,_,rfl,_,rfl,(show (4:Nat)<=sizeLine by decide),λ p12 hp12=>?_⟩;have s12:=Same.upd (o:=.tup [.str t.1,.str v10,x10,hd']) hp12;have e12:upd H11 p12 (.tup [.str t.1,.str v10,x10,hd']) p12=some (.tup [.str t.1,.str v10,x10,hd']):=upd_same;have st12:=st11.tt (.of s12) λ o e=>s12 _ _ e;generalize upd H11 p12 (.tup [.str t.1,.str v10,x10,hd'])=H12 at s12 e12 st12⊢;have eb12:=s12 _ _ eb11;have el12:=s12 _ _ el11;refine ⟨_,rfl,_,rfl,b,_,rfl,DPut.k (k:=.inl one) eb12 (C1 (m:=100) (by omega) (by decide)),?_⟩;have k13:KeptL [b] H12 (upd H12 b (.dK (putK kvs (.inl one) (.ref p12)))):=KeptL.set (by simp);have T13:Tt (KX w.params) H12 (upd H12 b (.dK (putK kvs (.inl one) (.ref p12)))):=KeptL.tt k13 λ c hc=>by rw [List.mem_singleton.mp hc];exact .inr ⟨_,eb12⟩
    have eb13:upd H12 b (.dK (putK kvs (.inl one) (.ref p12))) b=some (.dK (putK kvs (.inl one) (.ref p12))):=upd_same;have st13:=st12.tt T13 λ o e=>k13 _ _ (by simp [Q2 nbd]) e;have el13:upd H12 b (.dK (putK kvs (.inl one) (.ref p12))) l=_:=k13 _ _ (by simp [nlb]) el12;generalize upd H12 b (.dK (putK kvs (.inl one) (.ref p12)))=H13 at k13 T13 eb13 st13 el13⊢;refine ⟨_,rfl,.inl ⟨rfl,_,SqL.of el13⟩,_,rfl,_,rfl,_,rfl,_,rfl,(show (5:Nat)<=sizeLine by decide),λ p14 hp14=>?_⟩;have s14:=Same.upd (o:=.tup [.str "begin",.int one,.str t.1,.str v10,x10]) hp14;have e14:upd H13 p14 (.tup [.str "begin",.int one,.str t.1,.str v10,x10]) p14=some (.tup [.str "begin",.int one,.str t.1,.str v10,x10]):=upd_same;have st14:=st13.tt (.of s14) λ o e=>s14 _ _ e;generalize upd H13 p14 (.tup [.str "begin",.int one,.str t.1,.str v10,x10])=H14 at s14 e14 st14⊢;have el14:=s14 _ _ el13;have eb14:=s14 _ _ eb13;refine ⟨l,ys,_,rfl,rfl,el14,C1 (m:=63) (by omega) (by decide),?_⟩;have k15:KeptL [l] H14 (upd H14 l (.lst (ys++[.ref p14]))):=KeptL.set (by simp);have T15:Tt (KX w.params) H14 (upd H14 l (.lst (ys++[.ref p14]))):=KeptL.tt k15 λ c hc=>by rw [List.mem_singleton.mp hc];exact .inl ⟨_,el14⟩
    have el15:upd H14 l (.lst (ys++[.ref p14])) l=some (.lst (ys++[.ref p14])):=upd_same;generalize upd H14 l (.lst (ys++[.ref p14]))=H15 at k15 T15 el15⊢;refine ⟨_,rfl,.inl ⟨_,_,rfl,rfl,?_⟩⟩;have T1215:Tt (KX w.params) H12 H15:=(T13.trans (.of s14)).trans T15;have T1115:Tt (KX w.params) H11 H15:=Tt.trans (.of s12) T1215;have T:Tt (KX w.params) H7 H15:=T7.trans T1115;have kk:KeptL [ha,d,b,l] H7 H15:=λ c o n e=>by simp only [T0,o0,or_false,not_or] at n;exact k15 _ _ (by simp [n]) (s14 _ _ (k13 _ _ (by simp [n]) (s12 _ _ (k7 _ _ (by simp [n]) e))))
    have nlq:qa∉[ha,d,b,l]:=by
     intro z;rcases List.mem_cons.mp z with z|z
     ·exact nhq z.symm
     ·exact nqa z
    have hkn:(Sum.inl one:Key)∉kvs.map (·.1):=by rw [ek7];intro z;obtain ⟨k,hk,e⟩:=List.mem_map.mp z;exact hno (M3 e ▸ hk)
    refine ⟨es++[.beg one (.str t.1) (.str v10) x10],many + 1,⟨ti7.th.tt T,st14.tt T15 (λ o e=>k15 _ _ (by simp [Q2 nld]) e),?_,⟨_,el15,?_⟩,?_,zhp (e:=.beg one (.str t.1) (.str v10) x10) (λ e he=>(ti7.gd e he).tt T) ⟨t.1,t.2,v10,d10,rfl,rfl,tmem,dk,IsDt.mono' (T1.trans T1115).t _ _ ix,wi.tt (T1.trans T1115)⟩⟩,EWf.snoc (e:=.beg one (.str t.1) (.str v10) x10) wf hno,kk _ _ nlq eq7,z1p s7 kk (λ c hc=>?_),_,_,_,_,_,_,_,_,_,rfl⟩
    ·refine ⟨_,k15 _ _ (by simp [Q2 nlb]) eb14,?_,λ h u hu=>?_⟩
     ·rw [G4,z3r hkn,L1,ek7];show _=((es.foldl oStep [])++[one]).map Sum.inl;rw [L1];rfl
     ·rw [z1a] at hu;by_cases z:(Sum.inl h:Key)=Sum.inl one
      ·rw [if_pos z] at hu;cases hu;exact ⟨p12,t.1,v10,x10,hd',t.2,d10,rfl,T1215.l _ _ e12,tmem,dk,IsDt.mono' (T1.trans T1115).t _ _ ix,wi.tt (T1.trans T1115),hh⟩
      ·rw [if_neg z] at hu;exact (fk7 h u hu).tt T
    ·exact z1y (z01 (λ _ _ z=>EvAt.tups T.t z) ev7) ⟨p14,rfl,T15.t _ _ (SqT.of e14)⟩
    ·rw [K0];exact T4 ti.ln
    ·simp only [T0,o0,or_false] at hc;rcases hc with rfl|rfl|rfl|rfl
     ·exact fH
     ·exact fd
     ·exact fb
     ·exact fl
  ·rintro σ H3 ⟨es,many,ti,wf,eq3,s3,x11,x12,x13,x14,x15,x16,x17,x18,x19,rfl⟩;obtain ⟨ys,el3,ev3⟩:=ti.ev;refine ⟨_,rfl,_,rfl,l,ys,rfl,.inl ⟨SqL.of el3,λ te hte=>⟨(show (2:Nat)<=sizeLine by decide),λ t ht=>?_⟩⟩⟩;have sE:=Same.upd (o:=.tup ys) hte;have sF:=sE.trans (Same.upd (o:=.tup [.ref pt,.ref te]) ht);refine q t pt te ys es ts _ (s3.trans sF) upd_same ((Same.upd ht) _ _ upd_same) (ti.th.tt (.of (K:=KX w.params) sF)) ok (z01 (λ _ _ z=>EvAt.tups (.of sF) z) ev3) ?_ wf (λ e he=>(ti.gd e he).tt (.of sF));have:=ti.ln;rw [D0] at this;omega
def ActAt (H:Hp) (r:Rc) (y:V):Prop:=∃p,y=.ref p/\H p=some (.lst [.int r.h,r.n,r.v,r.x,r.a,.int r.b,endV r.e])
theorem ActAt.same {H H':Hp} {r:Rc} {y:V} (s:Same H H') (h:ActAt H r y):ActAt H' r y:=h.elim λ p z=>⟨p,z.1,s _ _ z.2⟩
theorem ActAt.wrote {H:Hp} {l:Addr} {o:HO} {r:Rc} {y:V} (n:y≠.ref l) (h:ActAt H r y):ActAt (upd H l o) r y:=h.elim λ p z=>⟨p,z.1,by rw [upd_ne (λ e=>n (by rw [z.1,e]))];exact z.2⟩
def z34:Sp:=λ vs H Q _=>∃(l:Addr) (zs:List V) (rs:List Rc) (i m a b:Nat) (os:List Int),vs=[.ref l,.str (z0u m),.int a,.int b]/\H l=some (.lst zs)/\All2 (ActAt H) rs zs/\DInv i rs os/\a < rs.length/\b < rs.length/\Q (.bl (z0x m rs a b)) H
theorem z9x (T:TX (KX w.params) mg):FnOk P w (KX w.params) mg base CX0 1 310 fd__law_must ["acts","strictness","one","other"] z34:=by
 refine (z45 w.params).ok zab (λ vs H Q E h=>?_) (λ cdv A outer s H vs Q E hr h=>?_)
 ·obtain ⟨l,zs,rs,i,m,a,b,os,rfl,_⟩:=h;rfl
 ·obtain ⟨l,zs,rs,i,m,a,b,os,rfl,el,al,I,ha,hb,h⟩:=h;refine ⟨_,(z02 (ps_if (z09 opEq (pv 1) pe_str (nomark _))
   (z05 (ps_ret (pe_and (z0o z8n (pe_ix ix_seq (pe_ix ix_seq (pv 0) (pv 2) (λ _ _=>rfl)) pe_int (λ _ _=>rfl)) pe_non (nomark _)) (pe_one (z0o op_lt (pe_ix ix_seq (pe_ix ix_seq (pv 0) (pv 2) (λ _ _=>rfl)) pe_int (λ _ _=>rfl)) (pe_ix ix_seq (pe_ix ix_seq (pv 0) (pv 3) (λ _ _=>rfl)) pe_int (λ _ _=>rfl)) (nomark _))))))
   z0d)
   (z05 (ps_ret (pe_and (z0o opEq (pv 1) pe_str (nomark _)) (pe_and (z0o op_lt (pv 2) (pv 3) (nomark _)) (pe_one (z0o opEq (pe_ix ix_seq (pe_ix ix_seq (pv 0) (pv 2) (λ _ _=>rfl)) pe_int (λ _ _=>rfl)) (pe_ix ix_seq (pe_ix ix_seq (pv 0) (pv 3) (λ _ _=>rfl)) pe_int (λ _ _=>rfl)) (nomark _)))))))),?_⟩
  have ga:rs[a]? = some rs[a]:=J0 ha;have gb:rs[b]? = some rs[b]:=J0 hb;obtain ⟨ya,za,pa,rfl,ea⟩:=z18 al ga;obtain ⟨yb,zb,pb,rfl,eb⟩:=z18 al gb;rw [z60 ga gb] at h
  match m,h with
  | 0,h=>
   refine ⟨_,rfl,rfl,_,rfl,iteP (decide_eq_true rfl) ?_⟩;refine ⟨_,rfl,_,rfl,.inl ⟨l,zs,a,.ref pa,rfl,rfl,SqL.of el,z04 za,.inl ⟨pa,_,6,endV rs[a].e,rfl,rfl,SqL.of ea,z04 (j:=6) rfl,rfl,_,rfl,?_⟩⟩⟩;cases re:rs[a].e with
   | none=>
    refine iteN (by show ¬ (!decide (V.non=V.non))=true;decide) ?_;have:aheadB 0 rs[a] rs[b]=false:=by show ltO rs[a].e rs[b].b=_;rw [re];rfl
    rw [this] at h;exact h
   | some e=>
    refine iteP rfl ?_;refine ⟨_,rfl,_,rfl,.inl ⟨l,zs,a,.ref pa,rfl,rfl,SqL.of el,z04 za,.inl ⟨pa,_,6,.int (e:Nat),rfl,rfl,SqL.of ea,z04 (j:=6) (by rw [re];rfl),?_⟩⟩⟩;refine ⟨_,rfl,_,rfl,.inl ⟨l,zs,b,.ref pb,rfl,rfl,SqL.of el,z04 zb,.inl ⟨pb,_,5,.int (rs[b].b:Nat),rfl,rfl,SqL.of eb,z04 (j:=5) rfl,e,rs[b].b,rfl,rfl,?_⟩⟩⟩;have:aheadB 0 rs[a] rs[b]=decide (e < rs[b].b):=by show ltO rs[a].e rs[b].b=_;rw [re];rfl
    rw [this,<-dec_lt] at h;exact h
  | 1,h=>
   rw [I.hands ga gb] at h;refine ⟨_,rfl,rfl,_,rfl,iteN (by decide +kernel) ?_⟩;refine ⟨_,rfl,rfl,_,rfl,iteP (decide_eq_true rfl) ?_⟩;refine ⟨_,rfl,_,rfl,a,b,rfl,rfl,_,rfl,?_⟩;rw [dec_lt];by_cases z:a < b
   ·refine iteP (decide_eq_true z) ?_;refine ⟨_,rfl,_,rfl,.inl ⟨l,zs,a,.ref pa,rfl,rfl,SqL.of el,z04 za,.inl ⟨pa,_,0,.int rs[a].h,rfl,rfl,SqL.of ea,z04 (j:=0) rfl,?_⟩⟩⟩;refine ⟨_,rfl,_,rfl,.inl ⟨l,zs,b,.ref pb,rfl,rfl,SqL.of el,z04 zb,.inl ⟨pb,_,0,.int rs[b].h,rfl,rfl,SqL.of eb,z04 (j:=0) rfl,rfl,?_⟩⟩⟩;rw [decide_eq_true z,Y7] at h;rw [dec_iI];exact h
   ·refine iteN (by rw [decide_eq_false z];decide) ?_;rw [decide_eq_false z,c9] at h;exact h
  | m + 2,h=>refine ⟨_,rfl,rfl,_,rfl,iteN (show ¬ decide (V.str "bare" = V.str "strict")=true by decide +kernel) ?_⟩;refine ⟨_,rfl,rfl,_,rfl,iteN (show ¬ decide (V.str "bare" = V.str "hands")=true by decide +kernel) ?_⟩;exact h
def z35 (K:b0):Sp:=λ vs H Q _=>∃(t te:Addr) (th:V) (ys:List V) (es:List Ev),vs=[.ref t]/\SqT K H t [th,.ref te]/\SqT K H te ys/\All2 (EvAt K H) es ys/\es.length<=100/\EWf [] es/\
 ∀l zs H',Same H H'->H' l=some (.lst zs)->All2 (ActAt H') (dAll 0 [] es) zs->Q (.ref l) H'
theorem zb6 (T:TX (KX w.params) mg):FnOk P w (KX w.params) mg base CX0 1 303 fd__law_acts ["tale"] (z35 (KX w.params)):=by
 refine (z4g w.params).ok sc__law_acts (λ vs H Q E h=>?_) (λ cdv A outer s H vs Q E hr h=>?_)
 ·obtain ⟨t,te,th,ys,es,rfl,_⟩:=h;rfl
 ·obtain ⟨t,te,th,ys,es,rfl,st,se,al,hl,wf,q⟩:=h;refine ⟨_,(z02 (ps_set (i:=1) sc__law_acts.nd rfl (by first|exact Y0 rfl|exact X0 rfl) (pe_lst pa_nil))
   (z02 (ps_set (i:=2) sc__law_acts.nd rfl (by first|exact Y0 rfl|exact X0 rfl) z5m)
   (z02 (ps_for D2 rfl (z2w rfl (T.no (z6y _)) (z00 (z08 z0w rfl (T.no (n_len _)) W2 (z00 (pe_ix ix_seq (pv 0) pe_int (λ _ _=>rfl)) pa_nil)) pa_nil)) (z0l (i:=3) sc__law_acts.nd rfl (by first|exact Y0 rfl|exact X0 rfl))
   (z02 (ps_set (i:=4) sc__law_acts.nd rfl (by first|exact Y0 rfl|exact X0 rfl) (pe_ix ix_seq (pe_ix ix_seq (pv 0) pe_int (λ _ _=>rfl)) (pv 3) (λ _ _=>rfl)))
   (z05 (ps_if (z09 opEq (pe_ix ix_seq (pv 4) pe_int (λ _ _=>rfl)) pe_str (nomark _))
   (z02 (z97 (hu_of hr) (pv 2) (pe_ix ix_seq (pv 4) pe_int (λ _ _=>rfl)) (z08 z0w rfl (T.no (n_len _)) W2 (z00 (pv 1) pa_nil)) rfl)
   (z05 (z1c (z1d (pv 1) (z00 (pe_lst (z00 (pe_ix ix_seq (pv 4) pe_int (λ _ _=>rfl)) (z00 (pe_ix ix_seq (pv 4) pe_int (λ _ _=>rfl)) (z00 (pe_ix ix_seq (pv 4) pe_int (λ _ _=>rfl)) (z00 (pe_ix ix_seq (pv 4) pe_int (λ _ _=>rfl)) (z00 pe_non (z00 (pv 3) (z00 pe_non pa_nil)))))))) pa_nil)))))
   (z02 (ps_set (i:=5) sc__law_acts.nd rfl (by first|exact Y0 rfl|exact X0 rfl) (pe_ix ix_seq (pv 1) (zdl (pv 2) (pe_ix ix_seq (pv 4) pe_int (λ _ _=>rfl)) ⟨rfl,rfl,rfl,rfl⟩) (λ _ _=>rfl)))
   (z02 (ps_asg (pe_ix ix_seq (pv 4) pe_int (λ _ _=>rfl)) (pg_sub (pv 5) pe_int z2a))
   (z05 (ps_asg (pv 3) (pg_sub (pv 5) pe_int z2a)))))))))
   (z05 (ps_ret (pv 1)))))),?_⟩
  refine ⟨(show (0:Nat)<=sizeLine by decide),λ l hl0=>?_⟩;intro d hd0;have nld:l≠d:=z0b upd_same hd0;have nhd:H d=none:=by rwa [upd_ne nld.symm] at hd0
  have s2:Same H (upd (upd H l (.lst [])) d (.dK [])):=(Same.upd hl0).trans (Same.upd hd0);have e1:upd (upd H l (.lst [])) d (.dK []) l=some (.lst []):=by rw [upd_ne nld];exact upd_same
  have e2:upd (upd H l (.lst [])) d (.dK []) d=some (.dK []):=upd_same;generalize upd (upd H l (.lst [])) d (.dK [])=H2 at s2 e1 e2⊢;have len:=z03 al;have hz0:100<=sizeLine:=by decide
  refine ⟨_,rfl,.inr (.inl ⟨t,_,1,.ref te,rfl,rfl,s2.seqT st,z04 (j:=1) rfl,.inl ⟨te,ys,rfl,.inr (s2.seqT se),ys.length,rfl,by omega,by omega,?_⟩⟩)⟩;refine z7y (lo:=0) (n:=ys.length) (λ i σ H'=>∃rs zs kvs os,H' l=some (.lst zs)/\All2 (ActAt H') rs zs/\zs.Nodup/\(∀p,V.ref p∈zs->p≠l/\H p=none)/\H' d=some (.dK kvs)/\kvs.map (·.1)=os.map Sum.inl/\os.length<=i/\rs.length<=i/\(∀h∈os,valV kvs (.inl h)=(lastI h (rs.map Rc.h)).map λ j=>V.int (j:Nat))/\DInv i rs os/\dAll i rs (es.drop i)=dAll 0 [] es/\EWf os (es.drop i)/\Same H H'/\∃x3 x4 x5,σ=[some (.ref t),some (.ref l),some (.ref d),x3,x4,x5])
   ⟨[],[],[],[],e1,.nil,.nil,λ _ z=>absurd z o0,e2,rfl,F0 _,F0 _,λ _ z=>absurd z o0,.nil,by rw [P4],by rw [P4];exact wf,s2,_,_,_,rfl⟩ ?_ ?_
  ·rintro i σ H4 hi ⟨rs,zs,kvs,os,el4,ar4,nd,nzl,ed4,ek,ho,hr',hv,I,da,dw,s4,x3,x4,x5,rfl⟩;rw [j0a];have hie:i < es.length:=by omega
   have hy:ys[i]? = some ys[i]:=J0 hi;obtain ⟨e,he,ev⟩:=z0g al hy;obtain ⟨_,ee⟩:=List.getElem?_eq_some_iff.mp he;have dr:es.drop i=e :: es.drop (i + 1):=by rw [j25 hie,ee]
   rw [dr] at da dw;have ev4:=EvAt.tups (.of s4) ev;obtain ⟨I1,hI⟩:=I.step dw.1;have few:i < 100:=J1 hie hl;have lz:zs.length=rs.length:=z03 ar4;have kl:kvs.length=os.length:=by have:=congrArg S5 ek;simpa using this
   refine g_name ?_;refine ⟨_,rfl,.inr (.inl ⟨t,_,1,.ref te,rfl,rfl,s4.seqT st,z04 (j:=1) rfl,_,rfl,.inr (.inl ⟨te,ys,i,ys[i],rfl,rfl,s4.seqT se,z04 hy,?_⟩)⟩)⟩;generalize ys[i]=y at ev4⊢;cases e with
   | beg h n v x=>
    obtain ⟨py,rfl,sy⟩:=ev4;have hno:h∉os:=dw.1;have hkn:(Sum.inl h:Key)∉kvs.map (·.1):=by rw [ek];intro z;obtain ⟨k,hk,e⟩:=List.mem_map.mp z;exact hno (M3 e ▸ hk)
    refine ⟨_,rfl,.inr (.inl ⟨py,_,0,.str "begin",rfl,rfl,sy,z04 (j:=0) rfl,rfl,_,rfl,iteP (decide_eq_true rfl) ?_⟩)⟩;refine ⟨_,rfl,.inl ⟨l,zs,rfl,.inl (SqL.of el4),⟨_,rfl,⟨_,rfl,.inr (.inl ⟨py,_,1,.int h,rfl,rfl,sy,z04 (j:=1) rfl,d,_,rfl,DPut.k (k:=.inl h) ed4 (C1 (m:=100) (by omega) (by decide)),?_⟩)⟩⟩⟩⟩;have t5:Tups (KX w.params) H4 (upd H4 d (.dK (putK kvs (.inl h) (.int (zs.length:Nat))))):=Tups.dict ed4;have s5:=Same.keep (o:=.dK (putK kvs (.inl h) (.int (zs.length:Nat)))) s4 nhd;have el5:upd H4 d (.dK (putK kvs (.inl h) (.int (zs.length:Nat)))) l=some (.lst zs):=by rw [upd_ne nld];exact el4
    have ed5:upd H4 d (.dK (putK kvs (.inl h) (.int (zs.length:Nat)))) d=some (.dK (putK kvs (.inl h) (.int (zs.length:Nat)))):=upd_same;have ar5:All2 (ActAt (upd H4 d (.dK (putK kvs (.inl h) (.int (zs.length:Nat)))))) rs zs:=z01 (λ a b z=>z.wrote (λ e=>by obtain ⟨p,e1,e2⟩:=z;rw [e1] at e;cases e;rw [ed4] at e2;cases e2)) ar4;generalize upd H4 d (.dK (putK kvs (.inl h) (.int (zs.length:Nat))))=H5 at t5 s5 el5 ed5 ar5⊢;have sy5:=t5 _ _ sy;refine ⟨_,rfl,.inl ⟨rfl,zs,SqL.of el5⟩,?_⟩;refine ⟨_,rfl,.inr (.inl ⟨py,_,1,.int h,rfl,rfl,sy5,z04 (j:=1) rfl,_,rfl,.inr (.inl ⟨py,_,2,n,rfl,rfl,sy5,z04 (j:=2) rfl,_,rfl,.inr (.inl ⟨py,_,3,v,rfl,rfl,sy5,z04 (j:=3) rfl,_,rfl,.inr (.inl ⟨py,_,4,x,rfl,rfl,sy5,z04 (j:=4) rfl,_,rfl,(show (7:Nat)<=sizeLine by decide),λ p3 hp3=>?_⟩)⟩)⟩)⟩)⟩;have s6:=Same.upd (o:=.lst [.int h,n,v,x,.non,.int (i:Nat),.non]) hp3;have e6:upd H5 p3 (.lst [.int h,n,v,x,.non,.int (i:Nat),.non]) p3=some (.lst [.int h,n,v,x,.non,.int (i:Nat),.non]):=upd_same;have fr :∀z∈zs,z≠.ref p3:=λ z hz e=>by obtain ⟨m,hm⟩:=List.mem_iff_getElem?.mp hz;obtain ⟨_,_,p,e1,e2⟩:=z0g ar5 hm;rw [e1] at e;cases e;rw [hp3] at e2;cases e2
    have np3:p3≠l:=λ z=>by rw [z,el5] at hp3;cases hp3
    generalize upd H5 p3 (.lst [.int h,n,v,x,.non,.int (i:Nat),.non])=H6 at s6 e6⊢;have el6:=s6 _ _ el5;have ed6:=s6 _ _ ed5;have ar6:=z01 (λ a b z=>ActAt.same s6 z) ar5;refine ⟨l,zs,_,rfl,rfl,el6,C1 (m:=100) (by omega) (by decide),?_⟩;refine ⟨rs++[⟨h,n,v,x,.non,i,none⟩],zs++[.ref p3],putK kvs (.inl h) (.int (zs.length:Nat)),os++[h],upd_same,?_,?_,?_,?_,?_,?_,?_,?_,I1,(show dAll (i + 1) (dstep i rs (.beg h n v x)) _=_ from da),dw.2,Same.keep (s5.trans s6) hl0,_,_,_,rfl⟩
    ·refine z1y ?_ ⟨p3,rfl,by rw [upd_ne np3];exact e6⟩;refine z6u (λ a b hb z=>ActAt.wrote (λ e=>(nzl l (e ▸ hb)).1 rfl) z) ar6
    ·rw [N6];refine ⟨nd,by simp,λ a ha b hb=>?_⟩;rw [List.mem_singleton.mp hb];exact fr a ha
    ·intro p hz;rcases List.mem_append.mp hz with y|y
     ·exact nzl p y
     ·have e:=List.mem_singleton.mp y;cases e;exact ⟨np3,s5.free hp3⟩
    ·rw [upd_ne nld.symm];exact ed6
    ·rw [z3r hkn,L1,L1,ek];rfl
    ·rw [K0];show os.length + 1<=i + 1;omega
    ·rw [K0];show rs.length + 1<=i + 1;omega
    ·intro k hk;rw [z1a,L1];show _=j0i _ (lastI k (rs.map Rc.h++[h]));rw [z3o,D0,lz];by_cases z:h=k
     ·rw [if_pos z,if_pos (by rw [z])];rfl
     ·rw [if_neg z,if_neg (λ y=>z (M3 y).symm)];exact hv k ((List.mem_append.mp hk).resolve_right λ y=>z (List.mem_singleton.mp y).symm)
   | fin h a=>
    obtain ⟨py,rfl,sy⟩:=ev4;have hin:h∈os:=dw.1;obtain ⟨j,hj⟩:=Option.isSome_iff_exists.mp (hI h a rfl);have hvj:valV kvs (.inl h)=some (.int (j:Nat)):=by rw [hv h hin,hj];rfl
    have hjl:j < rs.length:=by have:=z7h hj;rwa [D0] at this
    have hrj:rs[j]? = some rs[j]:=J0 hjl;obtain ⟨yj,hyj,pj,rfl,ej⟩:=z18 ar4 hrj;refine ⟨_,rfl,.inr (.inl ⟨py,_,0,.str "end",rfl,rfl,sy,z04 (j:=0) rfl,rfl,_,rfl,iteN (by decide +kernel) ?_⟩)⟩;refine ⟨_,rfl,_,rfl,d,rfl,.inl ⟨_,.inl ed4⟩,_,rfl,.inr (.inl ⟨py,_,1,.int h,rfl,rfl,sy,z04 (j:=1) rfl,kvs,.inl h,.int (j:Nat),ed4,rfl,hvj,?_⟩)⟩;have t5:Tups (KX w.params) H4 (upd H4 d (.dK (dropK kvs (.inl h)))):=Tups.dict ed4;have s5:=Same.keep (o:=.dK (dropK kvs (.inl h))) s4 nhd;have el5:upd H4 d (.dK (dropK kvs (.inl h))) l=some (.lst zs):=by rw [upd_ne nld];exact el4
    have ed5:upd H4 d (.dK (dropK kvs (.inl h))) d=some (.dK (dropK kvs (.inl h))):=upd_same;have ar5:All2 (ActAt (upd H4 d (.dK (dropK kvs (.inl h))))) rs zs:=z01 (λ a b z=>z.wrote (λ e=>by obtain ⟨p,e1,e2⟩:=z;rw [e1] at e;cases e;rw [ed4] at e2;cases e2)) ar4;have npd:pj≠d:=λ z=>by rw [z,ed4] at ej;cases ej
    have ej5:upd H4 d (.dK (dropK kvs (.inl h))) pj=some (.lst [.int rs[j].h,rs[j].n,rs[j].v,rs[j].x,rs[j].a,.int rs[j].b,endV rs[j].e]):=by rw [upd_ne npd];exact ej
    generalize upd H4 d (.dK (dropK kvs (.inl h)))=H5 at t5 s5 el5 ed5 ar5 ej5⊢;have sy5:=t5 _ _ sy;refine .inl ⟨l,zs,j,.ref pj,rfl,rfl,SqL.of el5,z04 hyj,?_⟩;refine ⟨_,rfl,.inr (.inl ⟨py,_,2,a,rfl,rfl,sy5,z04 (j:=2) rfl,_,rfl,pj,_,4,4,rfl,rfl,ej5,rfl,?_⟩)⟩;refine ⟨_,rfl,_,rfl,pj,_,6,6,rfl,rfl,upd_same,rfl,?_⟩;obtain ⟨npl,fpj⟩:=nzl pj (R0 hyj);have hs7:([V.int rs[j].h,rs[j].n,rs[j].v,rs[j].x,rs[j].a,.int rs[j].b,endV rs[j].e].set 4 a).set 6 (.int (i:Nat))=[.int rs[j].h,rs[j].n,rs[j].v,rs[j].x,a,.int rs[j].b,.int (i:Nat)]:=rfl;rw [hs7];have hd:dstep i rs (.fin h a)=rs.modify j (λ r=>{ r with a:=a,e:=some i }):=by unfold dstep;dsimp only;rw [hj]
    rw [hd] at I1;have da:dAll (i + 1) (dstep i rs (.fin h a)) (es.drop (i + 1))=_:=da;rw [hd] at da;generalize hH7:upd (upd H5 pj (.lst ([V.int rs[j].h,rs[j].n,rs[j].v,rs[j].x,rs[j].a,.int rs[j].b,endV rs[j].e].set 4 a))) pj (.lst [.int rs[j].h,rs[j].n,rs[j].v,rs[j].x,a,.int rs[j].b,.int (i:Nat)])=H7;have o7 :∀b,b≠pj->H7 b=H5 b:=λ b hb=>by rw [<-hH7,upd_ne hb,upd_ne hb]
    have j7:H7 pj=some (.lst [.int rs[j].h,rs[j].n,rs[j].v,rs[j].x,a,.int rs[j].b,.int (i:Nat)]):=by rw [<-hH7];exact upd_same
    refine ⟨rs.modify j (λ r=>{ r with a:=a,e:=some i }),zs,dropK kvs (.inl h),os.filter λ k=>decide (k≠h),by rw [o7 _ npl.symm];exact el5,?_,nd,nzl,by rw [o7 _ npd.symm];exact ed5,zbf ek,?_,?_,?_,I1,da,dw.2,?_,_,_,_,rfl⟩
    ·refine z14 (by rw [K7];exact z03 ar5) λ k r y hk hy'=>?_;rw [U5] at hk;obtain ⟨r',hr1,hr2⟩:=Option.map_eq_some_iff.mp hk;obtain ⟨y2,hy2,p2,rfl,e2⟩:=z18 ar5 hr1;rw [hy'] at hy2;cases hy2;by_cases z:j=k
     ·subst z;rw [hyj] at hy';cases hy';rw [if_pos rfl] at hr2;rw [hrj] at hr1;cases hr1;subst hr2;exact ⟨pj,rfl,j7⟩
     ·rw [if_neg z] at hr2;subst hr2;refine ⟨p2,rfl,?_⟩;rw [o7 p2 (λ e=>z ?_)]
      ·exact e2
      ·subst e;have h1:j < zs.length:=(List.getElem?_eq_some_iff.mp hyj).1;exact (List.getElem?_inj h1 nd).mp (hyj.trans hy'.symm)
    ·exact G0 (U2 _ _) (S6 ho)
    ·rw [K7];omega
    ·intro k hk;obtain ⟨h1,h2⟩:=List.mem_filter.mp hk;have h2:k≠h:=of_decide_eq_true h2;rw [ze5 (f:=λ r=>{ r with a:=a,e:=some i }) (λ r=>rfl),zc9 (λ e=>h2 (M3 e))];exact hv k h1
    ·intro b o e;rw [o7 b (λ z=>by rw [z,fpj] at e;cases e)];exact s5 b o e
  ·rintro σ H3 ⟨rs,zs,kvs,os,el,ar,_,_,_,_,_,_,_,_,da,_,s3,x3,x4,x5,rfl⟩;have:es.drop ys.length=[]:=by rw [len];exact List.drop_length
   rw [this] at da;have da:rs=dAll 0 [] es:=da;rw [<-da] at q;exact ⟨_,rfl,q l zs H3 s3 el ar⟩
structure DD where
 nm:Str
 k:Str
 vb:Str
 dt:Dt
def RcGd (K:b0) (H:Hp) (ts:List (Str×Str)) (r:Rc) (p:DD):Prop:=r.n=.str p.nm/\r.v=.str p.vb/\(p.nm,p.k)∈ts/\DeedOk p.k p.vb p.dt/\IsDt K H p.dt r.x/\WorthIn H p.dt r.x/\((r.e=none/\r.a=.non)\/(r.e.isSome=true/\AnsV r.a))
theorem RcGd.tt {K:b0} {H H':Hp} {ts:List (Str×Str)} {r:Rc} {p:DD} (t:Tt K H H') (h:RcGd K H ts r p):RcGd K H' ts r p:=⟨h.1,h.2.1,h.2.2.1,h.2.2.2.1,IsDt.mono' t.t _ _ h.2.2.2.2.1,h.2.2.2.2.2.1.tt t,h.2.2.2.2.2.2⟩
theorem zf0 {α β:Type} {R:α->β->Prop} {f:α->α} (hf :∀x y,R x y->R (f x) y) :∀{xs:List α} {ys:List β} (j:Nat),All2 R xs ys->All2 R (xs.modify j f) ys
 | _,_,j,.nil=>by cases j<;>exact .nil
 | _,_,0,.cons a r=>.cons (hf _ _ a) r
 | _,_,j + 1,.cons a r=>.cons a (zf0 hf j r)
theorem rc_gd {K:b0} {H:Hp} {ts:List (Str×Str)} :∀{es:List Ev} {i:Nat} {rs:List Rc} {ps:List DD},(∀e∈es,EvGd K H ts e)->All2 (RcGd K H ts) rs ps->∃ps',All2 (RcGd K H ts) (dAll i rs es) ps'
 | [],_,_,ps,_,h=>⟨ps,h⟩
 | e :: es,i,rs,ps,g,h=>by
  have ge:=g e B1;have gr :∀x∈es,EvGd K H ts x:=λ x hx=>g x (G1 _ hx);cases e with
  | beg hd n v x=>obtain ⟨nm,k,vb,dt,e1,e2,hm,dk,ix,wi⟩:=ge;exact rc_gd (es:=es) gr (z1y (x:=(⟨hd,n,v,x,.non,i,none⟩:Rc)) (y:=(⟨nm,k,vb,dt⟩:DD)) h ⟨e1,e2,hm,dk,ix,wi,.inl ⟨rfl,rfl⟩⟩)
  | fin hd a=>
   have ge:AnsV a:=ge;show∃ps',All2 _ (dAll (i + 1) (dstep i rs (.fin hd a)) es) ps';unfold dstep;dsimp only;cases lastI hd (rs.map Rc.h) with
   | none=>exact rc_gd (es:=es) gr h
   | some j=>exact rc_gd (es:=es) gr (zf0 (λ x y z=>⟨z.1,z.2.1,z.2.2.1,z.2.2.2.1,z.2.2.2.2.1,z.2.2.2.2.2.1,.inr ⟨rfl,ge⟩⟩) j h)
theorem be_all :∀{es:List Ev} {i:Nat} {rs:List Rc},(∀r∈rs,r.b < i/\∀e,r.e=some e->r.b < e)->∀r∈dAll i rs es,∀e,r.e=some e->r.b < e
 | [],_,_,h=>λ r hr=>(h r hr).2
 | e :: es,i,rs,h=>by
  refine be_all (es:=es) (i:=i + 1) (rs:=dstep i rs e) λ r hr=>?_;cases e with
  | beg hd n v x=>
   rcases List.mem_append.mp hr with z|z
   ·exact ⟨N1 (h r z).1,(h r z).2⟩
   ·rw [List.mem_singleton.mp z];exact ⟨K2 i,λ e he=>by cases he⟩
  | fin hd a=>
   unfold dstep at hr;dsimp only at hr;cases hj:lastI hd (rs.map Rc.h) with
   | none=>rw [hj] at hr;exact ⟨N1 (h r hr).1,(h r hr).2⟩
   | some j=>
    rw [hj] at hr;obtain ⟨m,hm⟩:=List.mem_iff_getElem?.mp hr;rw [U5] at hm;obtain ⟨q,hq,e⟩:=Option.map_eq_some_iff.mp hm;have hq':=h q (R0 hq);by_cases z:j=m
    ·rw [if_pos z] at e;rw [<-e];exact ⟨N1 hq'.1,λ e he=>by cases he;exact hq'.1⟩
    ·rw [if_neg z] at e;rw [<-e];exact ⟨N1 hq'.1,hq'.2⟩
theorem zge {es:List Ev} {m n:Nat}:z0x m (dAll 0 [] es) n n=false:=by
 cases h:(dAll 0 [] es)[n]? with
 | none=>unfold z0x;rw [h]
 | some r=>
  rw [z60 h h]
  match m with
  | 0=>
   show ltO r.e r.b=false;cases he:r.e with
   | none=>rfl
   | some e=>have:=be_all (es:=es) (i:=0) (rs:=[]) (λ r hr=>absurd hr o0) r (R0 h) e he;exact decide_eq_false (by omega)
  | 1=>show (decide (r.h=r.h) && decide (r.b < r.b))=false;rw [decide_eq_false (N3 _),j1i]
  | m + 2=>rfl
end
section
mutual
noncomputable def HPd (H:Hp):PyData->V->Prop
 | .none,v=>v=.non
 | .bool b,v=>v=.bl b
 | .int i,v=>v=.int i
 | .str z,v=>v=.str z
 | .list ds,v=>∃a xs,v=.ref a/\H a=some (.lst xs)/\HPds H ds xs
 | .tuple ds,v=>∃a xs,v=.ref a/\H a=some (.tup xs)/\HPds H ds xs
 | .dict kvs,v=>kvs=[]/\∃a,v=.ref a/\H a=some (.dK [])
noncomputable def HPds (H:Hp):List PyData->List V->Prop
 | [],xs=>xs=[]
 | d :: ds,xs=>∃x r,xs=x :: r/\HPd H d x/\HPds H ds r
end
mutual
theorem HPd.mono' {H H':Hp} (s :∀a xs,H a=some (.tup xs)->H' a=some (.tup xs)) (t :∀a xs,H a=some (.lst xs)->H' a=some (.lst xs)) (u :∀a,H a=some (.dK [])->H' a=some (.dK [])) :∀(d:PyData) (v:V),HPd H d v->HPd H' d v
 | .none,_,h=>h
 | .bool _,_,h=>h
 | .int _,_,h=>h
 | .str _,_,h=>h
 | .list ds,v,h=>by obtain ⟨a,xs,rfl,e,r⟩:=h;exact ⟨a,xs,rfl,t _ _ e,HPds.mono' s t u ds xs r⟩
 | .tuple ds,v,h=>by obtain ⟨a,xs,rfl,e,r⟩:=h;exact ⟨a,xs,rfl,s _ _ e,HPds.mono' s t u ds xs r⟩
 | .dict _,v,h=>by obtain ⟨e,a,rfl,ea⟩:=h;exact ⟨e,a,rfl,u _ ea⟩
theorem HPds.mono' {H H':Hp} (s :∀a xs,H a=some (.tup xs)->H' a=some (.tup xs)) (t :∀a xs,H a=some (.lst xs)->H' a=some (.lst xs)) (u :∀a,H a=some (.dK [])->H' a=some (.dK [])) :∀(ds:List PyData) (xs:List V),HPds H ds xs->HPds H' ds xs
 | [],_,h=>h
 | d :: ds,xs,h=>by obtain ⟨x,r,rfl,a,b⟩:=h;exact ⟨x,r,rfl,HPd.mono' s t u d x a,HPds.mono' s t u ds r b⟩
end
theorem HPd.same {H H':Hp} {d:PyData} {v:V} (h:HPd H d v) (s:Same H H'):HPd H' d v:=HPd.mono' (λ _ _ q=>s _ _ q) (λ _ _ q=>s _ _ q) (λ _ q=>s _ _ q) d v h
theorem HPds.same {H H':Hp} {ds:List PyData} {xs:List V} (h:HPds H ds xs) (s:Same H H'):HPds H' ds xs:=HPds.mono' (λ _ _ q=>s _ _ q) (λ _ _ q=>s _ _ q) (λ _ q=>s _ _ q) ds xs h
theorem HPds.all {H:Hp} :∀{ds:List PyData} {xs:List V},HPds H ds xs->All2 (HPd H) ds xs
 | [],_,h=>by cases (show _=[] from h);exact .nil
 | d :: ds,xs,h=>by obtain ⟨x,r,rfl,a,b⟩:=h;exact .cons a (HPds.all b)
theorem zki {H:Hp} {ds:List PyData} {xs:List V} (h:All2 (HPd H) ds xs):HPds H ds xs:=by
 induction h with
 | nil=>exact (rfl:([]:List V)=[])
 | cons a r ih=>exact ⟨_,_,rfl,a,ih⟩
noncomputable def dif (B H:Hp):Hp:=λ p=>if B p=none then H p else none
theorem z3j {B H:Hp}:Same (dif B H) H:=λ p o e=>by
 unfold dif at e;split at e
 ·exact e
 ·cases e
theorem dif_at {B H:Hp} {p:Addr} {o:HO} (n:B p=none) (e:H p=some o):dif B H p=some o:=by unfold dif;rw [if_pos n];exact e
theorem z5i {B H:Hp} {p:Addr} {o:HO} (e:dif B H p=some o):B p=none:=by
 unfold dif at e;split at e
 ·assumption
 ·cases e
theorem dif_up {B H H':Hp} (s:Same H H'):Same (dif B H) (dif B H'):=λ _ _ e=>dif_at (z5i e) (s _ _ (z3j _ _ e))
theorem dif_in {B H H':Hp} (s:Same B H):Same (dif H H') (dif B H'):=λ _ _ e=>dif_at (s.free (z5i e)) (z3j _ _ e)
noncomputable def tDat (P:L2.St->Prop) (d:PyData):TE:=λ σ H Q=>P σ/\∀v H',Same H H'->HPd (dif H H') d v->Q v H'
noncomputable def tDats (P:L2.St->Prop) (ds:List PyData):TA:=λ σ H Q=>P σ/\∀xs H',Same H H'->HPds (dif H H') ds xs->Q xs H'
variable {X:Cx} {pos:Pos} {P:L2.St->Prop}
theorem z4p {e:Expr} {t u:TE} (h:PE X e t) (i :∀σ H Q,u σ H Q->t σ H Q):PE X e u:=λ pins s σ H Q I q=>h pins s σ H Q I (i _ _ _ q)
theorem zhd {es:List Expr} {t u:TA} (h:PA X es t) (i :∀σ H Q,u σ H Q->t σ H Q):PA X es u:=λ pos pins s σ H Q I q=>h pos pins s σ H Q I (i _ _ _ q)
structure QD (X:Cx) (P:L2.St->Prop) (e:Expr) (d:PyData):Prop where
 run:PE X e (tDat P d)
structure QDs (X:Cx) (P:L2.St->Prop) (es:List Expr) (ds:List PyData):Prop where
 run:PA X es (tDats P ds)
theorem qd_int {i j pos}:QD X P (.Constant (.int i) j pos) (.int i):=⟨z4p pe_int λ _ _ _ q=>q.2 _ _ (Same.refl _) rfl⟩
theorem qd_str {i j pos}:QD X P (.Constant (.str i) j pos) (.str i):=⟨z4p pe_str λ _ _ _ q=>q.2 _ _ (Same.refl _) rfl⟩
theorem qd_bl {i j pos}:QD X P (.Constant (.bool i) j pos) (.bool i):=⟨z4p pe_bl λ _ _ _ q=>q.2 _ _ (Same.refl _) rfl⟩
theorem qd_non {j pos}:QD X P (.Constant .none j pos) .none:=⟨z4p pe_non λ _ _ _ q=>q.2 _ _ (Same.refl _) rfl⟩
theorem qd_neg {e:Expr} {i:Int} (h:QD X P e (.int i)):QD X P (.UnaryOp .USub e pos) (.int (-i)):=⟨z4p (pe_un un_neg h.run) λ σ H Q q=>⟨q.1,λ v H1 s hv=>by cases (show v=.int i from hv);exact ⟨i,rfl,q.2 _ _ s rfl⟩⟩⟩
theorem qd_dct:QD X P (.Dict [] [] pos) (.dict []):=⟨z4p z5m λ _ _ _ q=>λ a ha=>q.2 _ _ (Same.upd ha) ⟨rfl,a,rfl,dif_at ha upd_same⟩⟩
theorem z11:QDs X P [] []:=⟨zhd pa_nil λ _ _ _ q=>q.2 _ _ (Same.refl _) rfl⟩
theorem z06 {e:Expr} {es:List Expr} {d:PyData} {ds:List PyData} (ha:QD X P e d) (hr:QDs X P es ds) (hs:K1 (e :: es) X.env=(false,Y3 e X.env) :: K1 es X.env:=by rfl):QDs X P (e :: es) (d :: ds):=
 ⟨zhd (z00 ha.run hr.run hs) λ σ H Q q=>⟨q.1,λ v H1 s hv=>⟨q.1,λ vs H2 s2 hvs=>q.2 _ _ (s.trans s2) ⟨_,_,rfl,hv.same (dif_up s2),hvs.same (dif_in s)⟩⟩⟩⟩
theorem HPds.length {H:Hp} {ds:List PyData} {xs:List V} (h:HPds H ds xs):xs.length=ds.length:=z03 h.all
theorem qd_tup {es:List Expr} {ds:List PyData} {x1} (h:QDs X P es ds) (hl:ds.length<=sizeLine:=by first|decide|(simp only [W0,G2];decide)):QD X P (.Tuple es x1 pos) (.tuple ds):=
 ⟨z4p (pe_tup h.run) λ σ H Q q=>⟨q.1,λ xs H1 s hv=>⟨by rw [hv.length];exact hl,λ p hp=>q.2 _ _ (s.trans (Same.upd hp)) ⟨p,xs,rfl,dif_at (s.free hp) upd_same,hv.same (dif_up (Same.upd hp))⟩⟩⟩⟩
theorem qd_lst {es:List Expr} {ds:List PyData} (h:QDs X P es ds) (hl:ds.length<=sizeLine:=by first|decide|(simp only [W0,G2];decide)):QD X P (.List es pos) (.list ds):=
 ⟨z4p (pe_lst h.run) λ σ H Q q=>⟨q.1,λ xs H1 s hv=>⟨by rw [hv.length];exact hl,λ p hp=>q.2 _ _ (s.trans (Same.upd hp)) ⟨p,xs,rfl,dif_at (s.free hp) upd_same,hv.same (dif_up (Same.upd hp))⟩⟩⟩⟩
theorem qe_dat (P:L2.St->Prop) {e:Expr} {d:PyData} (h:QD X P e d):QE X e (tDat P d):=⟨h.run⟩
theorem t_dat {d:PyData} {σ:L2.St} {H:Hp} {Q:VK} (h :∀v H',Same H H'->HPd (dif H H') d v->Q v H'):tDat (λ _=>True) d σ H Q:=⟨trivial,h⟩
theorem zbw {P P':Program} {w w':y1} {h:Heap} {a:Addr} (d:h.DictOf (z0k P w) a []):h.DictOf (z0k P' w') a []:=by
 obtain ⟨o,es,ep,ho,hx,hd,hk,hp,nd⟩:=d;have he:es = #[]:=by have:=hp.length;exact Array.eq_empty_of_size_eq_zero (by simpa using this)
 subst he;exact ⟨o,#[],ep,ho,hx,hd,(λ e he=>by simp at he),.nil,nd⟩
theorem zdi (n:Nat):(W1 n).all (λ _=>true)=true:=List.all_eq_true.mpr λ _ _=>rfl
mutual
theorem zkb {pins:List (Addr×Obj)} {σ:L2.St} {H:Hp} {s:A0} (I:Inv X pins σ H s) :∀(d:PyData) (A:A2) (x y:V) (u v:Value),HPd H d x->HPd H d y->RelV x u->RelV y v->A.units + d.depth + 1 < cLine->j19 A s u v true
 | .none,A,x,y,u,v,hx,hy,rx,ry,hu=>by cases (show x=.non from hx);cases (show y=.non from hy);cases (show u=.none from rx);cases (show v=.none from ry);exact V5 _
 | .bool b,A,x,y,u,v,hx,hy,rx,ry,hu=>by cases (show x=.bl b from hx);cases (show y=.bl b from hy);cases (show u=.bool b from rx);cases (show v=.bool b from ry);exact V5 _
 | .int i,A,x,y,u,v,hx,hy,rx,ry,hu=>by
  cases (show x=.int i from hx);cases (show y=.int i from hy);obtain ⟨t,rfl⟩:=rx;obtain ⟨t',rfl⟩:=ry;have:=j2c (A:=A) (s:=s) i t i t'
  rwa [beq_self_eq_true] at this
 | .str i,A,x,y,u,v,hx,hy,rx,ry,hu=>by
  cases (show x=.str i from hx);cases (show y=.str i from hy);obtain ⟨t,rfl⟩:=rx;obtain ⟨t',rfl⟩:=ry;have:=M8 (A:=A) (s:=s) i t i t'
  rwa [beq_self_eq_true] at this
 | .list ds,A,x,y,u,v,hx,hy,rx,ry,hu=>by
  obtain ⟨a,xs,rfl,ea,hxs⟩:=hx;obtain ⟨b,ys,rfl,eb,hys⟩:=hy;cases (show u=.ref a from rx);cases (show v=.ref b from ry);obtain ⟨its,rv,pl,_⟩:=I.list (SqL.of ea);obtain ⟨its',rv',pl',_⟩:=I.list (SqL.of eb);have hd:A.units + (O1 ds + 1) + 1 < cLine:=hu;have l1:=rv.length;have l2:=rv'.length;have l3:=hxs.length;have l4:=hys.length;by_cases hll:a=b
  ·subst hll;exact V5 _
  ·refine N8 hll ?_;have:=B9 (A:=A) (e:=λ _=>true) pl.isList pl'.isList (by simp;omega) (by omega) (λ j j1 j2=>?_)
   ·rwa [zdi] at this
   ·have:=z7d I ds A.in1 xs ys its its' hxs hys rv rv' (show A.units + 1 + O1 ds + 1 < cLine by omega) j (by simpa using j1) (by simpa using j2);simpa using this
 | .tuple ds,A,x,y,u,v,hx,hy,rx,ry,hu=>by
  obtain ⟨a,xs,rfl,ea,hxs⟩:=hx;obtain ⟨b,ys,rfl,eb,hys⟩:=hy;cases (show u=.ref a from rx);cases (show v=.ref b from ry);obtain ⟨its,rv,pl,_⟩:=I.tuple (SqT.of ea);obtain ⟨its',rv',pl',_⟩:=I.tuple (SqT.of eb);have hd:A.units + (O1 ds + 1) + 1 < cLine:=hu;have l1:=rv.length;have l2:=rv'.length;have l3:=hxs.length;have l4:=hys.length;by_cases hll:a=b
  ·subst hll;exact V5 _
  ·refine N8 hll ?_;have:=SeqAt.RcAt.tuples (A:=A) (e:=λ _=>true) pl pl' (by omega) (λ j j1 j2=>?_)
   ·rw [zdi,Y7] at this
    rwa [show (its.toArray.size == its'.toArray.size)=true by simp;omega] at this
   ·have:=z7d I ds A.in1 xs ys its its' hxs hys rv rv' (show A.units + 1 + O1 ds + 1 < cLine by omega) j (by simpa using j1) (by simpa using j2);simpa using this
 | .dict kvs,A,x,y,u,v,hx,hy,rx,ry,hu=>by
  obtain ⟨rfl,a,rfl,ea⟩:=hx;obtain ⟨_,b,rfl,eb⟩:=hy;cases (show u=.ref a from rx);cases (show v=.ref b from ry);by_cases hll:a=b
  ·subst hll;exact V5 _
  ·refine N8 hll λ prog w E Q q=>?_;obtain ⟨_,la,vs,rv,da⟩:=dk_of I.hok ea;obtain ⟨_,lb,us,ru,db⟩:=dk_of I.hok eb;cases rv;cases ru;exact PySem.W.keq_eq (r:=true) la lb (zbw da) (zbw db) (by omega) (λ _=>.nil) q
theorem z7d {pins:List (Addr×Obj)} {σ:L2.St} {H:Hp} {s:A0} (I:Inv X pins σ H s) :∀(ds:List PyData) (A:A2) (xs ys:List V) (us vs:List Value),HPds H ds xs->HPds H ds ys->Vals xs us->Vals ys vs->A.units + O1 ds + 1 < cLine->∀j (h1:j < us.length) (h2:j < vs.length),j19 A s us[j] vs[j] true
 | [],A,xs,ys,us,vs,hx,hy,rx,ry,hu,j,h1,h2=>by cases (show xs=[] from hx);cases rx;exact absurd h1 (n5 _)
 | d :: ds,A,xs,ys,us,vs,hx,hy,rx,ry,hu,j,h1,h2=>by
  obtain ⟨x,xr,rfl,a1,b1⟩:=hx;obtain ⟨y,yr,rfl,a2,b2⟩:=hy;cases rx with
  | cons r1 r2=>
   cases ry with
   | cons q1 q2=>
    have hd:A.units + max d.depth (O1 ds) + 1 < cLine:=hu;cases j with
    | zero=>exact zkb I d A x y _ _ a1 a2 r1 q1 (by omega)
    | succ j=>exact z7d I ds A xr yr _ _ b1 b2 r2 q2 (by omega) j (j3h h1) (j3h h2)
end
end
section
noncomputable def tupD:PyData->Option (List PyData)
 | .tuple ds=>some ds
 | _=>none
theorem tup_D {H:Hp} {d:PyData} {v:V} (h:HPd H d v):(tupD d=none/\tupOf H v=none)\/∃ds xs,d=.tuple ds/\tupOf H v=some xs/\All2 (HPd H) ds xs:=by
 cases d with
 | none=>cases (show v=.non from h);exact .inl ⟨rfl,rfl⟩
 | bool b=>cases (show v=.bl b from h);exact .inl ⟨rfl,rfl⟩
 | int i=>cases (show v=.int i from h);exact .inl ⟨rfl,rfl⟩
 | str z=>cases (show v=.str z from h);exact .inl ⟨rfl,rfl⟩
 | list ds=>obtain ⟨a,xs,rfl,e,_⟩:=h;refine .inl ⟨rfl,?_⟩;unfold tupOf;dsimp only;rw [e]
 | tuple ds=>obtain ⟨a,xs,rfl,e,hx⟩:=h;exact .inr ⟨ds,xs,rfl,by unfold tupOf;dsimp only;rw [e],hx.all⟩
 | dict ds=>obtain ⟨_,a,rfl,e⟩:=h;refine .inl ⟨rfl,?_⟩;unfold tupOf;dsimp only;rw [e]
theorem z51 {α β:Type} {R:α->β->Prop} {xs:List α} {ys:List β} (h:All2 R xs ys) {y:β} (hy:y∈ys) :∃x∈xs,R x y:=by
 induction h with
 | nil=>cases hy
 | cons a r ih=>
  rcases List.mem_cons.mp hy with rfl|hy
  ·exact ⟨_,.head _,a⟩
  ·obtain ⟨x,hx,h⟩:=ih hy;exact ⟨x,.tail _ hx,h⟩
noncomputable def stepO (n:Nat):PyData->Option (Nat×V)
 | .tuple [.int i,.int j]=>if 0<=i/\i < n then some (i.toNat,.int j) else none
 | .tuple [.int i,.str z]=>if 0<=i/\i < n then some (i.toNat,.str z) else none
 | _=>none
noncomputable def tagD:PyData->String
 | .none=>"NoneType"
 | .bool _=>"bool"
 | .int _=>"int"
 | .str _=>"str"
 | .list _=>"list"
 | .tuple _=>"tuple"
 | .dict _=>"dict"
theorem z2b {H:Hp} {d:PyData} {v:V} (h:HPd H d v):TagOf H v (tagD d):=by
 cases d with
 | none=>cases (show v=.non from h);rfl
 | bool b=>cases (show v=.bl b from h);rfl
 | int i=>cases (show v=.int i from h);rfl
 | str z=>cases (show v=.str z from h);rfl
 | list ds=>obtain ⟨a,xs,rfl,e,_⟩:=h;exact .inl ⟨⟨_,e⟩,rfl⟩
 | tuple ds=>obtain ⟨a,xs,rfl,e,_⟩:=h;exact .inr (.inl ⟨⟨_,e⟩,rfl⟩)
 | dict ds=>obtain ⟨_,a,rfl,e⟩:=h;exact .inr (.inr ⟨⟨_,e⟩,rfl⟩)
theorem two_of {H:Hp} {ds:List PyData} {xs:List V} (al:All2 (HPd H) ds xs) (h:((xs.length:Nat):Int)=2) :∃a b x y,ds=[a,b]/\xs=[x,y]/\HPd H a x/\HPd H b y:=by
 cases al with
 | nil=>exact absurd h (by decide)
 | cons h1 r=>
  cases r with
  | nil=>simp only [W0,G2] at h;omega
  | cons h2 r=>
   cases r with
   | nil=>exact ⟨_,_,_,_,rfl,rfl,h1,h2⟩
   | cons h3 r=>simp only [W0] at h;omega
theorem zhy {ds:List PyData} {n:Nat} (h:¬ ((ds.length:Nat):Int)=2):stepO n (.tuple ds)=none:=by
 unfold stepO;split
 ·rename_i e;injection e with e;rw [e] at h;exact absurd rfl h
 ·rename_i e;injection e with e;rw [e] at h;exact absurd rfl h
 ·rfl
theorem zc6 {n:Nat} {i j:Int}:stepO n (.tuple [.int i,.int j])=if 0<=i/\i < n then some (i.toNat,.int j) else none:=rfl
theorem zbe {n:Nat} {i:Int} {z:Str}:stepO n (.tuple [.int i,.str z])=if 0<=i/\i < n then some (i.toNat,.str z) else none:=rfl
theorem z81 {n:Nat} {a b:PyData} (h :∀i,a≠.int i):stepO n (.tuple [a,b])=none:=by cases a<;>first|exact absurd rfl (h _)|rfl
theorem zg4 {n:Nat} {a b:PyData} (h:tagD b≠"int") (h2:tagD b≠"str"):stepO n (.tuple [a,b])=none:=by cases b<;>first|exact absurd rfl h|exact absurd rfl h2|(cases a<;>rfl)
theorem z7w {n:Nat} {i:Int} {b:PyData} (h:¬ (0<=i/\i < n)):stepO n (.tuple [.int i,b])=none:=by cases b<;>first|rfl|exact if_neg h
theorem zjl {a:PyData} (na :∀i,a≠.int i):tagD a≠"int":=by cases a<;>first|exact absurd rfl (na _)|simp [tagD]
theorem zhi {cs:List V} {bs:List Bool} (h:All2 (λ (b:Bool) y=>y=V.bl b) bs cs):(∀y∈cs,∃b,y=V.bl b)/\(cs.all λ y=>decide (y=.bl true))=bs.all id:=by
 induction h with
 | nil=>exact ⟨(λ y hy=>nomatch hy),rfl⟩
 | cons e r ih=>
  subst e;refine ⟨λ y hy=>?_,?_⟩
  ·rcases List.mem_cons.mp hy with rfl|hy
   ·exact ⟨_,rfl⟩
   ·exact ih.1 y hy
  ·rw [d7,d7,ih.2];congr 1;simp
theorem zc1 {bs:List Bool} {cs:List V} {n:Nat} (hb:bs.length=n) (h:All2 (λ i y=>∀b,bs[i]? = some b->y=V.bl b) (W1 n) cs):All2 (λ (b:Bool) y=>y=V.bl b) bs cs:=by
 have lc:=z03 h;rw [x2] at lc;refine z14 (by omega) λ i b y e2 e1=>?_;obtain ⟨j,hj,hz⟩:=z0g h e1;have hi:i < n:=by have:=(List.getElem?_eq_some_iff.mp e2).1;omega
 rw [O3 hi] at hj;cases hj;exact hz b e2
def StpAt (H:Hp) (s:Nat×V) (y:V):Prop:=∃b,y=.ref b/\H b=some (.tup [.int s.1,s.2])
theorem StpAt.same {H H':Hp} {s:Nat×V} {y:V} (e:Same H H') (h:StpAt H s y):StpAt H' s y:=h.elim λ b z=>⟨b,z.1,e _ _ z.2⟩
def IsA (a:V):Prop:=(∃i,a=.int i)\/∃z,a=.str z
theorem AnsV.isA {a:V} (h:AnsV a):IsA a:=by
 rcases h with rfl|rfl|⟨i,rfl,_⟩
 ·exact .inr ⟨_,rfl⟩
 ·exact .inr ⟨_,rfl⟩
 ·exact .inl ⟨_,rfl⟩
theorem zjt {H:Hp} {n:Nat} {d:PyData} {y:V} {s:Nat×V} (h:HPd H d y) (e:stepO n d=some s):StpAt H s y/\s.1 < n/\IsA s.2:=by
 unfold stepO at e;split at e
 ·rename_i i j;obtain ⟨p,xs,rfl,ep,x,r1,rfl,hx,z,r2,rfl,hz,hr⟩:=h;cases (show x=.int i from hx);cases (show z=.int j from hz);cases (show r2=[] from hr);by_cases hi:0<=i/\i < n
  ·rw [if_pos hi] at e;cases e;refine ⟨⟨p,rfl,?_⟩,by show i.toNat < n;omega,.inl ⟨_,rfl⟩⟩;rw [ep];show _=some (HO.tup [V.int (i.toNat:Int),V.int j]);rw [o6 hi.1]
  ·rw [if_neg hi] at e;cases e
 ·rename_i i j;obtain ⟨p,xs,rfl,ep,x,r1,rfl,hx,z,r2,rfl,hz,hr⟩:=h;cases (show x=.int i from hx);cases (show z=.str j from hz);cases (show r2=[] from hr);by_cases hi:0<=i/\i < n
  ·rw [if_pos hi] at e;cases e;refine ⟨⟨p,rfl,?_⟩,by show i.toNat < n;omega,.inr ⟨_,rfl⟩⟩;rw [ep];show _=some (HO.tup [V.int (i.toNat:Int),V.str j]);rw [o6 hi.1]
  ·rw [if_neg hi] at e;cases e
 ·cases e
noncomputable def stepsO (n:Nat):List PyData->Option (List (Nat×V))
 | []=>some []
 | d :: ds=>match stepO n d,stepsO n ds with
  | some s,some r=>some (s :: r)
  | _,_=>none
theorem z46 {n:Nat} :∀{ds:List PyData},ds.all (λ d=>(stepO n d).isSome)=false->stepsO n ds=none
 | [],h=>by cases h
 | d :: ds,h=>by
  show (match stepO n d,stepsO n ds with|some s,some r=>some (s :: r)|_,_=>none)=none;cases e:stepO n d with
  | none=>rfl
  | some s=>rw [d7,e] at h;rw [z46 (ds:=ds) (by simpa using h)]
theorem z4f {H:Hp} {n:Nat} :∀{ds:List PyData} {xs:List V},All2 (HPd H) ds xs->ds.all (λ d=>(stepO n d).isSome)=true->∃st,stepsO n ds=some st/\All2 (StpAt H) st xs/\∀s∈st,s.1 < n/\IsA s.2
 | [],_,.nil,_=>⟨[],rfl,.nil,λ _ h=>absurd h o0⟩
 | d :: ds,_,.cons a r,h=>by
  rw [d7,j3] at h;obtain ⟨s,e⟩:=Option.isSome_iff_exists.mp h.1;obtain ⟨st,e2,al,g⟩:=z4f r h.2;obtain ⟨h1,h2⟩:=zjt a e;refine ⟨s :: st,?_,.cons h1 al,λ x hx=>?_⟩
  ·show (match stepO n d,stepsO n ds with|some s,some r=>some (s :: r)|_,_=>none)=_;rw [e,e2]
  ·rcases List.mem_cons.mp hx with z|z
   ·rw [z];exact h2
   ·exact g x z
noncomputable def stK (st:List (Nat×V)):List (Key×V):=st.map λ s=>(.inl (s.1:Int),s.2)
theorem mergeK_keys :∀{more acc:List (Key×V)} {k:Key},k∈(mergeK acc more).map (·.1)↔k∈acc.map (·.1)\/k∈more.map (·.1)
 | [],acc,k=>by simp [mergeK]
 | p :: r,acc,k=>by
  show k∈(mergeK (putK acc p.1 p.2) r).map (·.1)↔_;rw [mergeK_keys,<-valV_isSome,z1a,v1,T0,<-valV_isSome (kvs:=acc)];by_cases e:k=p.1
  ·rw [if_pos e];simp [e]
  ·rw [if_neg e];simp [e]
theorem zi8 {kvs:List (Key×V)} {k:Key} {v:V} (h:k∈kvs.map (·.1)):(putK kvs k v).length=kvs.length:=by unfold putK;rw [if_pos,D0];obtain ⟨p,hp,e⟩:=List.mem_map.mp h;exact List.any_eq_true.mpr ⟨p,hp,decide_eq_true e⟩
theorem ziw {kvs:List (Key×V)} {k:Key} {v:V} (h:k∉kvs.map (·.1)):(putK kvs k v).length=kvs.length + 1:=by rw [z3r h,K0];rfl
theorem z72 :∀{more acc:List (Key×V)},(mergeK acc more).length=acc.length + more.length↔(more.map (·.1)).Nodup/\∀k∈more.map (·.1),k∉acc.map (·.1)
 | [],acc=>by simp [mergeK]
 | p :: r,acc=>by
  show (mergeK (putK acc p.1 p.2) r).length=_↔_;rw [W0,v1,B6];by_cases h:p.1∈acc.map (·.1)
  ·have hl:(putK acc p.1 p.2).length=acc.length:=zi8 h;have:=z16 (more:=r) (acc:=putK acc p.1 p.2);constructor
   ·intro e;omega
   ·intro e;exact absurd h (e.2 p.1 B1)
  ·have hl:(putK acc p.1 p.2).length=acc.length + 1:=ziw h;have ih:=z72 (more:=r) (acc:=putK acc p.1 p.2);rw [hl,show acc.length + 1 + r.length=acc.length + (r.length + 1) by omega] at ih;rw [ih];have km :∀k,k∈(putK acc p.1 p.2).map (·.1)↔k=p.1\/k∈acc.map (·.1):=λ k=>by rw [z3r h,L1,List.mem_append,List.map_singleton,List.mem_singleton];exact or_comm
   constructor
   ·rintro ⟨n,g⟩;refine ⟨⟨λ z=>g p.1 z ((km _).mpr (.inl rfl)),n⟩,λ k hk=>?_⟩;rcases List.mem_cons.mp hk with z|z
    ·rw [z];exact h
    ·exact λ y=>g k z ((km _).mpr (.inr y))
   ·rintro ⟨⟨n1,n2⟩,g⟩;refine ⟨n2,λ k hk y=>?_⟩;rcases (km _).mp y with z|z
    ·exact n1 (z ▸ hk)
    ·exact g k (G1 _ hk) z
theorem zj8 {X:Cx} {K:b0} (hK:X.K=K):CallR X (.builtin "len") (λ xs H Q=>(∃p ys,xs=[V.ref p]/\(SqL K H p ys\/SqT K H p ys)/\Q (V.int (ys.length:Nat)) H)\/∃z,xs=[V.str z]/\z.length<=sizeLine/\Q (V.int (z.length:Nat)) H):=hK ▸ z0w
theorem z31 :∀{more acc:List (Key×V)} {k:Key} {v:V},valV (mergeK acc more) k=some v->(k,v)∈more\/valV acc k=some v
 | [],_,_,_,h=>.inr h
 | p :: r,acc,k,v,h=>by
  rcases z31 (more:=r) (acc:=putK acc p.1 p.2) h with z|z
  ·exact .inl (G1 _ z)
  ·rw [z1a] at z;by_cases e:k=p.1
   ·rw [if_pos e] at z;cases z;exact .inl (by rw [e];exact B1)
   ·rw [if_neg e] at z;exact .inr z
theorem IsA.scal {a b:V} (ha:IsA a\/a=.non) (hb:IsA b\/b=.non):L2.scal a b=true:=by rcases ha with (⟨i,rfl⟩|⟨i,rfl⟩)|rfl<;>rcases hb with (⟨j,rfl⟩|⟨j,rfl⟩)|rfl<;>rfl
theorem z4t {X:Cx} {K:b0} (hK:X.K=K):OpR X (v2 .NotIn) (rIn K true):=hK ▸ z3g
theorem z2h {n:Nat} {d:PyData} {s:Nat×V} (h:stepO n d=some s) :∃b,d=.tuple [.int (s.1:Int),b]/\s.1 < n/\((∃j,b=.int j/\s.2=.int j)\/∃z,b=.str z/\s.2=.str z):=by
 unfold stepO at h;split at h
 ·rename_i i j;by_cases hi:0<=i/\i < n
  ·rw [if_pos hi] at h;cases h;exact ⟨.int j,by show V4 [.int i,.int j]=.tuple [.int ((i.toNat:Nat):Int),.int j];rw [o6 hi.1],by show i.toNat < n;omega,.inl ⟨j,rfl,rfl⟩⟩
  ·rw [if_neg hi] at h;cases h
 ·rename_i i j;by_cases hi:0<=i/\i < n
  ·rw [if_pos hi] at h;cases h;exact ⟨.str j,by show V4 [.int i,.str j]=.tuple [.int ((i.toNat:Nat):Int),.str j];rw [o6 hi.1],by show i.toNat < n;omega,.inr ⟨j,rfl,rfl⟩⟩
  ·rw [if_neg hi] at h;cases h
 ·cases h
end
section
variable {P:Program} {w:y1} {mg:Str->Option Value} {base:Heap}
def z9s:Sp:=λ vs H Q _=>∃(v:V) (d:PyData) (n:Nat),vs=[v,.int n]/\HPd H d v/\Q (.bl (stepO n d).isSome) H
theorem zfe (T:TX (KX w.params) mg) (c_is_tuple_of:Cal P w (KX w.params) mg base "is_tuple_of" ["value","many"] 1 z21) (c_is_whole:Cal P w (KX w.params) mg base "is_whole" ["value"] 1 z40):FnOk P w (KX w.params) mg base CX0 2 229 fd_is_step ["step","many"] z9s:=by
 refine (z7l w.params).ok zfh (λ vs H Q E h=>?_) (λ cdv A outer s H vs Q E hr h=>?_)
 ·obtain ⟨v,d,n,rfl,_⟩:=h;rfl
 ·obtain ⟨v,d,n,rfl,hd,q⟩:=h;refine ⟨_,(z02 (ps_if (PW.pt (pw_or (pt_not (pt_val (pe_cal c_is_tuple_of (hr.mono (by first|decide|omega)) rfl (z00 (pv 0) (z00 pe_int pa_nil))) (λ _=>rfl))) (pw_or (pt_not (pt_val (pe_cal c_is_whole (hr.mono (by first|decide|omega)) rfl (z00 (pe_ix ix_seq (pv 0) pe_int (λ _ _=>rfl)) pa_nil)) (λ _=>rfl))) (pw_or1 (pt_not (ziq op_le op_lt pe_int (pe_ix ix_seq (pv 0) pe_int (λ _ _=>rfl)) (pv 1)))))))
   (z05 (ps_ret pe_bl))
   z0d)
   (z05 (ps_ret (pe_or (pe_cal c_is_whole (hr.mono (by first|decide|omega)) rfl (z00 (pe_ix ix_seq (pv 0) pe_int (λ _ _=>rfl)) pa_nil)) (pe_one (z08 z0i rfl (T.no (z0e _)) Z1 (z00 (pe_ix ix_seq (pv 0) pe_int (λ _ _=>rfl)) (z00 (z15 (v:=.ty "str") rfl (T.no (n_str _)) W9 rfl) pa_nil)))))))),?_⟩
  rcases tup_D hd with ⟨e1,e2⟩|⟨ds,xs,rfl,e2,al⟩
  ·have e:stepO n d=none:=by cases d<;>first|rfl|cases e1
   rw [e] at q;refine ⟨_,rfl,v,_,2,rfl,z2b hd,_,rfl,?_⟩;rw [e2];exact iteT (iteT q)
  refine ⟨_,rfl,v,_,2,rfl,z2b hd,_,rfl,?_⟩;rw [e2];by_cases ht:((xs.length:Nat):Int)=2;rotate_left
  ·rw [zhy (by rw [z03 al] at ht;exact ht)] at q;exact iteP (show (!decide ((xs.length:Int)=2))=true by rw [decide_eq_false ht];rfl) (iteT q)
  obtain ⟨a,b,x,y,rfl,rfl,hx,hy⟩:=two_of al ht;obtain ⟨p,zs,rfl,ep,_⟩:=hd;have ez:zs=[x,y]:=by unfold tupOf at e2;dsimp only at e2;rw [ep] at e2;cases e2;rfl
  subst ez;refine iteN (show ¬ (!decide ((2:Int)=2))=true by decide) ?_;refine ⟨_,rfl,.inr (.inl ⟨p,_,0,x,rfl,rfl,SqT.of ep,z04 (j:=0) rfl,x,_,rfl,z2b hx,_,rfl,?_⟩)⟩;by_cases ha :∃i,a=.int i;rotate_left
  ·have na :∀i,a≠.int i:=λ i z=>ha ⟨i,z⟩;rw [z81 na] at q;have e:=zjl na;exact iteP (show (!decide (tagD a = "int"))=true by rw [decide_eq_false e];rfl) (iteT q)
  obtain ⟨i,rfl⟩:=ha;cases (show x=.int i from hx);refine iteF ?_;refine ⟨_,rfl,.inr (.inl ⟨p,_,0,.int i,rfl,rfl,SqT.of ep,z04 (j:=0) rfl,0,i,rfl,rfl,_,rfl,?_⟩)⟩;by_cases hi:0<=i/\i < n;rotate_left
  ·rw [z7w hi] at q;by_cases h0:0<=i
   ·refine iteP (decide_eq_true h0) ⟨_,rfl,i,n,rfl,rfl,_,rfl,?_⟩;exact iteP (show (!decide (i < (n:Int)))=true by rw [decide_eq_false λ z=>hi ⟨h0,z⟩];rfl) q
   ·exact iteN (λ z=>h0 (of_decide_eq_true z)) ⟨_,rfl,iteT q⟩
  refine iteP (decide_eq_true hi.1) ⟨_,rfl,i,n,rfl,rfl,_,rfl,?_⟩;refine iteN (show ¬ (!decide (i < (n:Int)))=true by rw [decide_eq_true hi.2];decide) ?_;refine ⟨_,rfl,.inr (.inl ⟨p,_,1,y,rfl,rfl,SqT.of ep,z04 (j:=1) rfl,y,_,rfl,z2b hy,?_⟩)⟩;have str :∀Q':VK,Q' (.bl (instB (tagD b) "str")) H->(tCB (λ xs H Q=>∃x C T,xs=[x,V.ty C]/\TagOf H x T/\C∈isiC/\Q (V.bl (instB T C)) H) (tCons (tOp (rIx (KX w.params)) (tVar 0) (tC (V.int 1))) (tCons (tC (V.ty "str")) tNil)) (L2.start ["step","many"] [V.ref p,V.int n]) H Q'):=λ Q' q'=>⟨_,rfl,.inr (.inl ⟨p,_,1,y,rfl,rfl,SqT.of ep,z04 (j:=1) rfl,y,"str",_,rfl,z2b hy,by decide,q'⟩)⟩
  cases b with
  | int j=>rw [zc6,if_pos hi] at q;exact ⟨_,rfl,iteT q⟩
  | str z=>rw [zbe,if_pos hi] at q;exact ⟨_,rfl,iteF (str _ q)⟩
  | none=>exact ⟨_,rfl,iteF (str _ q)⟩
  | bool z=>exact ⟨_,rfl,iteF (str _ q)⟩
  | list z=>exact ⟨_,rfl,iteF (str _ q)⟩
  | tuple z=>exact ⟨_,rfl,iteF (str _ q)⟩
  | dict z=>exact ⟨_,rfl,iteF (str _ q)⟩
def OrdP (rs:List Rc) (ds:List PyData):Prop:=∃st,stepsO rs.length ds=some st/\(st.map (·.1)).Nodup/\∀n r,rs[n]? = some r->r.e.isSome=true->(n,r.a)∈st
noncomputable def getA (st:List (Nat×V)) (n:Nat) (r:Rc):Bool:=r.e.isNone || decide ((valV (mergeK [] (stK st)) (.inl (n:Int))).getD .non=r.a)
def z6n (K:b0):Sp:=λ vs H Q _=>∃(l o:Addr) (zs xs:List V) (rs:List Rc) (ds:List PyData),vs=[.ref l,.ref o]/\H l=some (.lst zs)/\All2 (RcAt K H) rs zs/\rs.length<=100/\(∀r∈rs,r.e.isSome=true->IsA r.a)/\H o=some (.lst xs)/\All2 (HPd H) ds xs/\ds.length<=100/\
 ∀b H',Same H H'->(b=true↔OrdP rs ds)->Q (.bl b) H'
theorem zct (T:TX (KX w.params) mg) (c_is_step:Cal P w (KX w.params) mg base "is_step" ["step","many"] 2 z9s):FnOk P w (KX w.params) mg base CX0 3 222 fd_is_order ["told","order"] (z6n (KX w.params)):=by
 refine (z67 w.params).ok sc_is_order (λ vs H Q E h=>?_) (λ cdv A outer s H vs Q E hr h=>?_)
 ·obtain ⟨l,o,zs,xs,rs,ds,rfl,_⟩:=h;rfl
 ·obtain ⟨l,o,zs,xs,rs,ds,rfl,el,ar,r100,ra,eo,al,d100,q⟩:=h;have lx:xs.length=ds.length:=z03 al;have lz:zs.length=rs.length:=z03 ar;refine ⟨_,(z02 (ps_if (PW.pt (pw_or (pt_not (pt_val (z08 z0i rfl (T.no (z0e _)) Z1 (z00 (pv 1) (z00 (z15 (v:=.ty "list") rfl (T.no (n_list _)) boot_list rfl) pa_nil))) (λ _=>rfl))) (pw_or1 (pt_not (pt_val (z08 (z4w rfl) rfl (T.no (n_all _)) boot_all (z00 (z0s (xs:=["step"]) (g:=gName 0) (fr:=[(0,"told")]) rfl (z25 (pv 1)) (by intro p hp;obtain rfl:=List.mem_singleton.mp hp;first|exact ⟨rfl,.inl rfl⟩|exact ⟨rfl,.inr rfl⟩) (z2i (n:="told") (by decide +kernel) (λ _=>by first|exact .inl rfl|exact .inr rfl)) (by intro p hp;obtain rfl:=List.mem_singleton.mp hp;exact ⟨by decide +kernel,by first|exact .inl rfl|exact .inr rfl⟩) (by decide +kernel) rfl (by decide +kernel) (λ _ _ _ _ _=>(z0j (N:=["step","told"]) 0 (by decide +kernel) rfl rfl)) (λ _ _ _ _ _=>pf_nil) (λ _ _ _ _ _=>(pe_cal c_is_step (hr.mono (by first|decide|omega)) rfl (z00 (pv 0) (z00 (z08 (zj8 (K:=KX w.params) rfl) rfl (T.no (n_len _)) W2 (z00 (pv 1) pa_nil)) pa_nil))))) pa_nil)) (λ _=>rfl))))))
   (z05 (ps_ret pe_bl))
   z0d)
   (z02 (ps_set (i:=2) sc_is_order.nd rfl (by first|exact Y0 rfl|exact X0 rfl) (z0h (z10 rfl) rfl (T.no (n_dict _)) W6 (z00 (pv 1) pa_nil)))
   (z02 (ps_if (z09 op_lt (z08 z7m rfl (T.no (n_len _)) W2 (z00 (pv 2) pa_nil)) (z08 z0w rfl (T.no (n_len _)) W2 (z00 (pv 1) pa_nil)) (nomark _))
   (z05 (ps_ret pe_bl))
   z0d)
   (z05 (ps_ret (z08 (z4w rfl) rfl (T.no (n_all _)) boot_all (z00 (z0s (xs:=["number","deed"]) (g:=gTup (KX w.params) 2 (gCons (gName 0) (gCons (gName 1) gNil))) (fr:=[(2,"answers")]) rfl (z5x rfl (T.no (z1f _)) (z00 (pv 0) pa_nil)) (by intro p hp;obtain rfl:=List.mem_singleton.mp hp;first|exact ⟨rfl,.inl rfl⟩|exact ⟨rfl,.inr rfl⟩) (z2i (n:="answers") (by decide +kernel) (λ _=>by first|exact .inl rfl|exact .inr rfl)) (by intro p hp;obtain rfl:=List.mem_singleton.mp hp;exact ⟨by decide +kernel,by first|exact .inl rfl|exact .inr rfl⟩) (by decide +kernel) rfl (by decide +kernel) (λ _ _ _ _ _=>(pg_tup rfl (z0a (z0j (N:=["number","deed","answers"]) 0 (by decide +kernel) rfl rfl) (z0a (z0j (N:=["number","deed","answers"]) 1 (by decide +kernel) rfl rfl) z12)))) (λ _ _ _ _ _=>pf_nil) (λ _ _ _ _ _=>(pe_or (z0o op_isN (pe_ix (z2p (K:=KX w.params) rfl) (pv 1) pe_int (λ _ _=>rfl)) pe_non (nomark _)) (pe_one (z0o opEq (zif (hu_of hr) (pv 2) (pv 0) ⟨rfl,rfl,rfl,rfl⟩) (pe_ix (z2p (K:=KX w.params) rfl) (pv 1) pe_int (λ _ _=>rfl)) (nomark _)))))) pa_nil))))))),?_⟩
  refine sq_if (t_or ?_);refine ⟨_,rfl,_,_,"list",rfl,.inl ⟨⟨_,eo⟩,rfl⟩,by decide,_,rfl,iteN (by decide) ?_⟩;refine tB_not (e_cb1 ?_);refine z58 (K:=KX w.params) (a:=o) (xs:=xs) (H1:=H) (λ _=>true) (λ i y _=>∀b,(ds.map λ d=>(stepO rs.length d).isSome)[i]? = some b->y=.bl b) (λ _ _ _ _ _ z=>z) (λ R h=>⟨_,rfl,h⟩) (SqL.of eo) (G0 (m:=100) (by omega) (by decide)) ?_ ?_
  ·intro i hi v H1 s1 hv KT KF k1 k2;obtain ⟨d,hd,hp⟩:=z0g al hv;refine ⟨[some v],rfl,rfl,iteT ?_⟩;refine ⟨_,rfl,_,rfl,.inl ⟨l,zs,rfl,.inl (SqL.of (s1 _ _ el)),v,d,rs.length,by rw [<-lz];rfl,hp.same s1,?_⟩⟩;refine k1 rfl _ _ (Same.refl _) λ b hb=>?_;rw [V0,hd] at hb;cases hb;rfl
  intro l1 H1 bs s1 hl1 al1;rw [List.filter_eq_self.mpr (λ _ _=>rfl)] at al1;obtain ⟨c1,c2⟩:=zhi (zc1 (by rw [D0,lx]) al1);refine ⟨l1,bs,rfl,SqL.of upd_same,c1,?_⟩;rw [c2,j32];have s2:=s1.trans (Same.upd (o:=.lst bs) hl1);generalize upd H1 l1 (.lst bs)=H2 at s2⊢;cases hall:ds.all (id ∘ λ d=>(stepO rs.length d).isSome) with
  | false=>refine ⟨_,rfl,iteP rfl (q _ _ s2 ⟨λ z=>(by cases z),λ ⟨st,e,_⟩=>?_⟩)⟩;rw [z46 hall] at e;cases e
  | true=>
  obtain ⟨st,est,als,gst⟩:=z4f al hall;refine ⟨_,rfl,iteN (by decide) ?_⟩;have eo2:=s2 _ _ eo;have als2:All2 (λ (p:Key×V) y=>∃b,y=.ref b/\SqT (KX w.params) H2 b [kV p.1,p.2]) (stK st) xs:=by
   have:=z01 (λ _ _ z=>StpAt.same s2 z) als;clear als est gst hall al eo lx eo2;generalize xs=ys at this;induction this with
   | nil=>exact .nil
   | cons a r ih=>exact .cons (a.elim λ b z=>⟨b,z.1,SqT.of z.2⟩) ih
  refine t_nx ?_;refine ⟨_,rfl,o,xs,stK st,rfl,.inl eo2,als2,λ pd hpd=>?_⟩;have s3:=s2.trans (Same.upd (o:=.dK (mergeK [] (stK st))) hpd);have e3:upd H2 pd (.dK (mergeK [] (stK st))) pd=some (.dK (mergeK [] (stK st))):=upd_same;generalize upd H2 pd (.dK (mergeK [] (stK st)))=H3 at s3 e3⊢;have eo3:=s3 _ _ eo;refine g_name (t_nx (sq_if ?_));refine ⟨_,rfl,pd,_,rfl,e3,_,rfl,.inl ⟨o,xs,rfl,.inl (SqL.of eo3),_,_,rfl,rfl,_,rfl,?_⟩⟩;have ls:st.length=xs.length:=(z03 als).symm;have lk:(stK st).length=xs.length:=by unfold stK;rw [D0,ls]
  have ml:=z16 (more:=stK st) (acc:=[]);have full:=z72 (more:=stK st) (acc:=[]);rw [G2,K4] at ml full;have keys:((stK st).map (·.1)).Nodup↔(st.map (·.1)).Nodup:=by unfold stK;rw [S3,show ((λ x:Key×V=>x.1) ∘ λ s:Nat×V=>((.inl (s.1:Int),s.2):Key×V))=(λ n:Nat=>(.inl (n:Int):Key)) ∘ (λ s:Nat×V=>s.1) from rfl,<-S3];exact ⟨λ h=>List.Pairwise.of_map _ (λ a b n e=>n (by rw [e])) h,λ h=>Q4 _ (λ a b n e=>n (by have:=M3 e;omega)) h⟩
  by_cases nd:(st.map (·.1)).Nodup;rotate_left
  ·refine iteP (decide_eq_true ?_) (q _ _ s3 ⟨λ z=>(by cases z),λ ⟨st',e',nd',_⟩=>?_⟩)
   ·have:¬ (mergeK [] (stK st)).length=(stK st).length:=λ z=>nd (keys.mp (full.mp z).1);omega
   ·rw [est] at e';cases e';exact absurd nd' nd
  have len:(mergeK [] (stK st)).length=(stK st).length:=full.mpr ⟨keys.mpr nd,λ k _ z=>by cases z⟩;refine iteN (λ z=>by have:=of_decide_eq_true z;omega) ?_;refine t_nx (sq_ret (e_cb1 ?_));have ar3:=z01 (λ _ _ z=>RcAt.tups (.of s3) z) ar;refine zbl (K:=KX w.params) (a:=l) (xs:=zs) (H1:=H3) (λ _=>true) (λ i y _=>∀b,(rs.mapIdx λ n r=>getA st n r)[i]? = some b->y=.bl b) (λ _ _ _ _ _ z=>z) (λ R h=>⟨_,rfl,h⟩) (SqL.of (s3 _ _ el)) (G0 (m:=100) (by omega) (by decide)) ?_ ?_
  ·intro i hi v H4 s4 hx KT KF k1 k2;obtain ⟨x,p0,hv,rfl,e0⟩:=hx;obtain ⟨r,hri,p,rfl,sp⟩:=z0g ar3 hv;have sp4:=s4.seqT sp;refine ⟨p0,_,rfl,SqT.of e0,rfl,_,_,rfl,_,_,rfl,rfl,[some (.int (i:Nat)),some (.ref p)],rfl,rfl,iteT ?_⟩;have k1:KT (.bl (getA st i r)) H4:=k1 rfl _ _ (Same.refl _) λ b hb=>by rw [F4,hri] at hb;cases hb;rfl
   cases he:r.e with
   | none=>have k1:KT (.bl (r.e.isNone || _)) H4:=k1;rw [he] at k1;exact ⟨_,rfl,.inr (.inl ⟨p,_,6,.non,rfl,rfl,sp4,by rw [he];exact z04 (j:=6) rfl,rfl,_,rfl,iteP rfl k1⟩)⟩
   | some e=>
    have k1:KT (.bl (r.e.isNone || _)) H4:=k1;rw [he] at k1;refine ⟨_,rfl,.inr (.inl ⟨p,_,6,.int e,rfl,rfl,sp4,by rw [he];exact z04 (j:=6) rfl,rfl,_,rfl,iteN (by simp) ?_⟩)⟩;refine ⟨_,rfl,pd,rfl,.inl ⟨_,.inl (s4 _ _ e3)⟩,_,rfl,_,DGet.k (k:=.inl (i:Int)) (s4 _ _ e3),_,rfl,.inr (.inl ⟨p,_,4,r.a,rfl,rfl,sp4,z04 (j:=4) rfl,?_,k1⟩)⟩;refine IsA.scal ?_ (.inl (ra r (R0 hri) (by rw [he];rfl)));cases hv:valV (mergeK [] (stK st)) (.inl (i:Int)) with
    | none=>exact .inr rfl
    | some v=>
     rcases z31 hv with z|z
     ·obtain ⟨s',hs',e'⟩:=List.mem_map.mp z;cases e';exact .inl (gst s' hs').2
     ·cases z
  intro l5 H5 cs s5 hl5 al5;rw [List.filter_eq_self.mpr (λ _ _=>rfl)] at al5;obtain ⟨c1,c2⟩:=zhi (zc1 (by rw [List.length_mapIdx,lz]) al5);refine ⟨l5,cs,rfl,SqL.of upd_same,c1,?_⟩;rw [c2];refine q _ _ (s3.trans (s5.trans (Same.upd hl5))) ?_;rw [Z6];constructor
  ·intro h;refine ⟨st,est,nd,λ n r hn he=>?_⟩;have:=h (getA st n r) (R0 (i:=n) (by rw [F4,hn];rfl));have this:(r.e.isNone || _)=true:=this;rw [Option.isNone_eq_false_iff.mpr he,Bool.false_or] at this;have this:=of_decide_eq_true this;cases hv:valV (mergeK [] (stK st)) (.inl (n:Int)) with
   | none=>rw [hv] at this;rcases ra r (R0 hn) he with ⟨i,ei⟩|⟨i,ei⟩<;>(rw [ei] at this;cases this)
   | some v=>
    rw [hv] at this;have this:v=r.a:=this;have mk:(Sum.inl (n:Int):Key)∈(stK st).map (·.1):=(mergeK_keys.mp (valV_isSome.mp (by rw [hv];rfl))).resolve_left λ z=>by cases z
    obtain ⟨p,hp,e1⟩:=List.mem_map.mp mk;obtain ⟨s',hs',rfl⟩:=List.mem_map.mp hp;have e1:s'.1=n:=by have:=M3 e1;omega
    have hv2:=z13 (acc:=[]) (keys.mpr nd) hp;rw [show (Sum.inl (s'.1:Int):Key)=.inl (n:Int) by rw [e1],hv] at hv2;cases hv2;rw [<-this,<-e1];exact hs'
  ·rintro ⟨st',e',nd',g⟩ b hb;rw [est] at e';cases e';obtain ⟨n,hn⟩:=List.mem_iff_getElem?.mp hb;rw [F4] at hn;obtain ⟨r,hr1,rfl⟩:=Option.map_eq_some_iff.mp hn;show (r.e.isNone || _)=true;cases he:r.e with
   | none=>rfl
   | some e=>have hm:=g n r hr1 (by rw [he];rfl);have:=z13 (acc:=[]) (k:=.inl (n:Int)) (v:=r.a) (keys.mpr nd) (List.mem_map.mpr ⟨(n,r.a),hm,rfl⟩);rw [this];exact decide_eq_true rfl
noncomputable def nsV (ns:List Nat):List V:=ns.map λ (n:Nat)=>V.int (n:Int)
noncomputable def idK (ns:List Nat):List (Key×V):=ns.mapIdx λ (i n:Nat)=>(.inl (n:Int),.int (i:Int))
theorem zdt (ns:List Nat):(idK ns).map (·.1)=ns.map λ (n:Nat)=>(.inl (n:Int):Key):=by apply J4;intro i;unfold idK;rw [V0,F4,V0];cases ns[i]?<;>rfl
theorem zh3 {ns:List Nat} (h:ns.Nodup):((idK ns).map (·.1)).Nodup:=by rw [zdt];exact Q4 _ (λ a b n e=>n (by have:=M3 e;omega)) h
theorem zhx {ns:List Nat} (h:ns.Nodup) {i n:Nat} (e:ns[i]? = some n):valV (mergeK [] (idK ns)) (.inl (n:Int))=some (.int (i:Int)):=
 z13 (zh3 h) (R0 (i:=i) (by unfold idK;rw [F4,e];rfl))
theorem zj3 {ns:List Nat} {n:Nat} (h:n∉ns):valV (mergeK [] (idK ns)) (.inl (n:Int))=none:=
 (z2j (λ z=>h (by rw [zdt] at z;obtain ⟨m,hm,e⟩:=List.mem_map.mp z;have:=M3 e;rw [show n=m by omega];exact hm))).trans rfl
def keepP (ps:List (Nat×Nat)) (ns:List Nat):Prop:=∀p∈ps,∀i j:Nat,ns[i]? = some p.1->ns[j]? = some p.2->i < j
def z71 (K:b0):Sp:=λ vs H Q _=>∃(lp ln:Addr) (zs:List V) (ps:List (Nat×Nat)) (ns:List Nat),vs=[.ref lp,.ref ln]/\H lp=some (.lst zs)/\All2 (PairAt H) ps zs/\ps.length<=10000/\H ln=some (.lst (nsV ns))/\ns.Nodup/\ns.length<=100/\
 ∀b H',Same H H'->(b=true↔keepP ps ns)->Q (.bl b) H'
theorem zcv (T:TX (KX w.params) mg):FnOk P w (KX w.params) mg base CX0 1 234 fd_keeps_to ["pairs","numbers"] (z71 (KX w.params)):=by
 refine (z5b w.params).ok sc_keeps_to (λ vs H Q E h=>?_) (λ cdv A outer s H vs Q E hr h=>?_)
 ·obtain ⟨lp,ln,zs,ps,ns,rfl,_⟩:=h;rfl
 ·obtain ⟨lp,ln,zs,ps,ns,rfl,ep,ap,p4,en,nd,n100,q⟩:=h;refine ⟨_,(z02 (ps_set (i:=2) sc_keeps_to.nd rfl (by first|exact Y0 rfl|exact X0 rfl) (z0h (z10 rfl) rfl (T.no (n_dict _)) W6 (z00 (z0s (xs:=["place","number"]) (g:=gTup (KX w.params) 2 (gCons (gName 0) (gCons (gName 1) gNil))) (fr:=[]) rfl (z5x rfl (T.no (z1f _)) (z00 (pv 1) pa_nil)) (λ _ z=>absurd z o0) (z1e rfl) (λ _ z=>absurd z o0) (by decide +kernel) rfl (by decide +kernel) (λ _ _ _ _ _=>(pg_tup rfl (z0a (z0j (N:=["place","number"]) 0 (by decide +kernel) rfl rfl) (z0a (z0j (N:=["place","number"]) 1 (by decide +kernel) rfl rfl) z12)))) (λ _ _ _ _ _=>pf_nil) (λ _ _ _ _ _=>(pe_tup (z00 (pv 1) (z00 (pv 0) pa_nil))))) pa_nil)))
   (z02 (zhr (i:=3) sc_keeps_to.nd rfl (by first|exact Y0 rfl|exact X0 rfl) (xs:=["pair"]) (g:=gName 0) (fr:=[(2,"stands")]) rfl (z25 (pv 0)) (by intro p hp;obtain rfl:=List.mem_singleton.mp hp;first|exact ⟨rfl,.inl rfl⟩|exact ⟨rfl,.inr rfl⟩) (z2i (n:="stands") (by decide +kernel) (λ _=>by first|exact .inl rfl|exact .inr rfl)) (by intro p hp;obtain rfl:=List.mem_singleton.mp hp;exact ⟨by decide +kernel,by first|exact .inl rfl|exact .inr rfl⟩) (by decide +kernel) rfl (by decide +kernel) (λ _ _ _ _ _=>(z0j (N:=["pair","stands"]) 0 (by decide +kernel) rfl rfl)) (λ _ _ _ _ _=>(pf_one (PW.pt (pw_and (pt_cmp (pc_din (hu_of hr) (pe_ix (z2p (K:=KX w.params) rfl) (pv 0) pe_int (λ _ _=>rfl)) (pv 1)) (by with_unfolding_all rfl)) (z6o (pt_cmp (pc_din (hu_of hr) (pe_ix (z2p (K:=KX w.params) rfl) (pv 0) pe_int (λ _ _=>rfl)) (pv 1)) (by with_unfolding_all rfl))))))) (λ _ _ _ _ _=>(pv 0)))
   (z05 (ps_ret (z08 (z4w rfl) rfl (T.no (n_all _)) boot_all (z00 (z0s (xs:=["ahead","behind"]) (g:=gTup (KX w.params) 2 (gCons (gName 0) (gCons (gName 1) gNil))) (fr:=[(2,"stands")]) rfl (z25 (pv 3)) (by intro p hp;obtain rfl:=List.mem_singleton.mp hp;first|exact ⟨rfl,.inl rfl⟩|exact ⟨rfl,.inr rfl⟩) (z2i (n:="stands") (by decide +kernel) (λ _=>by first|exact .inl rfl|exact .inr rfl)) (by intro p hp;obtain rfl:=List.mem_singleton.mp hp;exact ⟨by decide +kernel,by first|exact .inl rfl|exact .inr rfl⟩) (by decide +kernel) rfl (by decide +kernel) (λ _ _ _ _ _=>(pg_tup rfl (z0a (z0j (N:=["ahead","behind","stands"]) 0 (by decide +kernel) rfl rfl) (z0a (z0j (N:=["ahead","behind","stands"]) 1 (by decide +kernel) rfl rfl) z12)))) (λ _ _ _ _ _=>pf_nil) (λ _ _ _ _ _=>(z0o op_lt (z24 (hu_of hr) (pv 2) (pv 0) (λ _ _=>rfl)) (z24 (hu_of hr) (pv 2) (pv 1) (λ _ _=>rfl)) (nomark _)))) pa_nil)))))),?_⟩
  have lz:zs.length=ps.length:=z03 ap;have lv:(nsV ns).length=ns.length:=D0 ..;refine z8r ?_;refine zbl (K:=KX w.params) (a:=ln) (xs:=nsV ns) (H1:=H) (λ _=>true) (λ i y H'=>∃n b,ns[i]? = some n/\y=.ref b/\H' b=some (.tup [.int (n:Int),.int (i:Int)])) (λ _ _ _ _ s ⟨n,b,e1,e2,e3⟩=>⟨n,b,e1,e2,s _ _ e3⟩) (λ R h=>⟨_,rfl,h⟩) (SqL.of en) (G0 (m:=100) (by omega) (by decide)) ?_ ?_
  ·intro i hi v H1 s1 hx KT KF k1 k2;obtain ⟨x,p0,hv,rfl,e0⟩:=hx;obtain ⟨n,hn,rfl⟩:=Option.map_eq_some_iff.mp ((V0 ..).symm.trans hv);refine ⟨p0,_,rfl,SqT.of e0,rfl,_,_,rfl,_,_,rfl,rfl,[some (.int (i:Nat)),some (.int (n:Int))],rfl,rfl,iteT ?_⟩;exact ⟨_,rfl,_,rfl,(show (2:Nat)<=sizeLine by decide),λ p1 hp1=>k1 rfl _ _ (Same.upd hp1) ⟨n,p1,hn,rfl,upd_same⟩⟩
  intro l1 H1 ys s1 hl1 al1;rw [List.filter_eq_self.mpr (λ _ _=>rfl),lv] at al1;have s2:=Same.upd (o:=.lst ys) hl1;have e2:upd H1 l1 (.lst ys) l1=some (.lst ys):=upd_same;have al2:All2 (λ (p:Key×V) y=>∃b,y=.ref b/\SqT (KX w.params) (upd H1 l1 (.lst ys)) b [kV p.1,p.2]) (idK ns) ys:=by
   have ly:=z03 al1;rw [x2] at ly;refine z14 (by unfold idK;rw [List.length_mapIdx];exact ly) λ i p y hp hy=>?_;obtain ⟨j,hj,n,b,e1,e2,e3⟩:=z0g al1 hy;have hi:i < ns.length:=by rw [<-ly];exact (List.getElem?_eq_some_iff.mp hy).1
   rw [O3 hi] at hj;cases hj;unfold idK at hp;rw [F4,e1] at hp;cases hp;exact ⟨b,e2,SqT.of (s2 _ _ e3)⟩
  generalize upd H1 l1 (.lst ys)=H2 at s2 e2 al2⊢;have s2:=s1.trans s2;refine ⟨l1,ys,idK ns,rfl,.inl e2,al2,λ pd hpd=>?_⟩;have s3:=s2.trans (Same.upd (o:=.dK (mergeK [] (idK ns))) hpd);have e3:upd H2 pd (.dK (mergeK [] (idK ns))) pd=some (.dK (mergeK [] (idK ns))):=upd_same;generalize upd H2 pd (.dK (mergeK [] (idK ns)))=H3 at s3 e3⊢;refine g_name ?_;have inB :∀n:Nat,(valV (mergeK [] (idK ns)) (.inl (n:Int))).isSome=decide (n∈ns):=λ n=>by
   by_cases z:n∈ns
   ·obtain ⟨i,hi⟩:=List.mem_iff_getElem?.mp z;rw [zhx nd hi,decide_eq_true z];rfl
   ·rw [zj3 z,decide_eq_false z];rfl
  refine z1b ?_;refine z58 (K:=KX w.params) (a:=lp) (xs:=zs) (H1:=H3) (λ i=>(ps[i]?.map λ p=>decide (p.1∈ns) && decide (p.2∈ns)).getD false) (λ i y _=>zs[i]? = some y) (λ _ _ _ _ _ z=>z) (λ R h=>⟨_,rfl,h⟩) (SqL.of (s3 _ _ ep)) (G0 (m:=10000) (by omega) (by decide)) ?_ ?_
  ·intro i hi v H4 s4 hv KT KF k1 k2;obtain ⟨p,hp,b,rfl,eb⟩:=z0g ap hv;have eb4:=(s3.trans s4) _ _ eb;refine ⟨[some (.ref b)],rfl,rfl,?_⟩;rw [hp] at k1 k2;have in1 :∀{n:Nat},DGet H4 pd (.int (n:Int)) (valV (mergeK [] (idK ns)) (.inl (n:Int))):=λ {n}=>DGet.k (k:=.inl (n:Int)) (s4 _ _ e3);refine ⟨_,rfl,.inr (.inl ⟨b,_,0,.int (p.1:Int),rfl,rfl,SqT.of eb4,z04 (j:=0) rfl,_,rfl,pd,_,rfl,in1,_,rfl,?_⟩)⟩;rw [inB];by_cases h1:p.1∈ns;rotate_left
   ·exact iteN (by rw [decide_eq_false h1];decide) (iteF (k2 (by show (decide _ && _)=false;rw [decide_eq_false h1];rfl) _ (Same.refl _)))
   refine iteP (decide_eq_true h1) ?_;refine ⟨_,rfl,.inr (.inl ⟨b,_,1,.int (p.2:Int),rfl,rfl,SqT.of eb4,z04 (j:=1) rfl,_,rfl,pd,_,rfl,in1,_,rfl,?_⟩)⟩;rw [inB];by_cases h2:p.2∈ns;rotate_left
   ·exact iteN (by rw [decide_eq_false h2];decide) (k2 (by show (decide _ && decide _)=false;rw [decide_eq_false h2,j1i]) _ (Same.refl _))
   refine iteP (decide_eq_true h2) ?_;exact ⟨_,rfl,k1 (by show (decide _ && decide _)=true;rw [decide_eq_true h1,decide_eq_true h2];rfl) _ _ (Same.refl _) hv⟩
  intro l4 H4 bs s4 hl4 al4;generalize hjs:(W1 zs.length).filter (λ i=>(ps[i]?.map λ p=>decide (p.1∈ns) && decide (p.2∈ns)).getD false)=js at al4;have s5:=s3.trans (s4.trans (Same.upd (o:=.lst bs) hl4));have e5:=(s4.trans (Same.upd (o:=.lst bs) hl4)) _ _ e3;have eb5:upd H4 l4 (.lst bs) l4=some (.lst bs):=upd_same;generalize upd H4 l4 (.lst bs)=H5 at s5 e5 eb5⊢;have lb:bs.length=js.length:=z03 al4;have lj:js.length<=zs.length:=by rw [<-hjs];exact G0 (U2 _ _) (by rw [x2];exact F0 _)
  have jp :∀j∈js,∃p,ps[j]? = some p/\p.1∈ns/\p.2∈ns:=λ j hj=>by
   rw [<-hjs] at hj;have:=(List.mem_filter.mp hj).2;cases hp:ps[j]? with
   | none=>rw [hp] at this;cases this
   | some p=>rw [hp] at this;have this:=Bool.and_eq_true_iff.mp this;exact ⟨p,rfl,of_decide_eq_true this.1,of_decide_eq_true this.2⟩
  refine g_name ?_;refine sq_ret (e_cb1 ?_);refine z58 (K:=KX w.params) (a:=l4) (xs:=bs) (H1:=H5) (λ _=>true) (λ k y _=>∃(j:Nat) (p:Nat×Nat) (i1 i2:Nat),js[k]? = some j/\ps[j]? = some p/\ns[i1]? = some p.1/\ns[i2]? = some p.2/\y=.bl (decide (i1 < i2))) (λ _ _ _ _ _ z=>z) (λ R h=>⟨_,rfl,h⟩) (SqL.of eb5) (G0 (m:=10000) (by omega) (by decide)) ?_ ?_
  ·intro k hk v H6 s6 hv KT KF k1 k2;obtain ⟨j,hj,hz⟩:=z0g al4 hv;obtain ⟨p,hp,m1,m2⟩:=jp j (R0 hj);obtain ⟨p',hp',b,rfl,eb⟩:=z0g ap hz;rw [hp] at hp';cases hp';have eb6:=(s5.trans s6) _ _ eb;obtain ⟨i1,h1⟩:=List.mem_iff_getElem?.mp m1;obtain ⟨i2,h2⟩:=List.mem_iff_getElem?.mp m2;refine ⟨b,_,rfl,SqT.of eb6,rfl,_,_,rfl,_,_,rfl,rfl,[some (.int (p.1:Int)),some (.int (p.2:Int))],rfl,rfl,iteT ?_⟩;have in1 :∀{n i:Nat},ns[i]? = some n->DGet H6 pd (.int (n:Int)) (some (.int (i:Int))):=λ {n i} h=>by have:=DGet.k (k:=.inl (n:Int)) (s6 _ _ e5);rw [zhx nd h] at this;exact this
   refine ⟨_,rfl,_,rfl,pd,_,rfl,in1 h1,_,rfl,_,rfl,pd,_,rfl,in1 h2,_,_,rfl,rfl,?_⟩;refine k1 rfl _ _ (Same.refl _) ⟨j,p,i1,i2,hj,hp,h1,h2,?_⟩;show V.bl (decide ((i1:Int) < (i2:Int)))=_;rw [dec_lt]
  intro l6 H6 cs s6 hl6 al6;rw [List.filter_eq_self.mpr (λ _ _=>rfl)] at al6;have lc:=z03 al6;rw [x2] at lc;have c1 :∀y∈cs,∃b,y=V.bl b:=λ y hy=>by obtain ⟨k,hk⟩:=List.mem_iff_getElem?.mp hy;obtain ⟨_,_,j,p,i1,i2,_,_,_,_,e⟩:=z0g al6 hk;exact ⟨_,e⟩
  refine ⟨l6,cs,rfl,SqL.of upd_same,c1,?_⟩;refine q _ _ (s5.trans (s6.trans (Same.upd hl6))) ?_;rw [Z6];have uniq :∀{i j n:Nat},ns[i]? = some n->ns[j]? = some n->i=j:=λ {i j n} h1 h2=>by
   obtain ⟨l1,e1⟩:=List.getElem?_eq_some_iff.mp h1;obtain ⟨l2,e2⟩:=List.getElem?_eq_some_iff.mp h2;rcases j08 i j with l|l|l
   ·exact absurd (e1.trans e2.symm) (List.pairwise_iff_getElem.mp nd i j l1 l2 l)
   ·exact l
   ·exact absurd (e2.trans e1.symm) (List.pairwise_iff_getElem.mp nd j i l2 l1 l)
  constructor
  ·intro h p hp i j hi hj;obtain ⟨m,hm⟩:=List.mem_iff_getElem?.mp hp;have mj:m∈js:=by rw [<-hjs];refine List.mem_filter.mpr ⟨List.mem_range.mpr (by rw [lz];exact (List.getElem?_eq_some_iff.mp hm).1),?_⟩;rw [hm];show (decide _ && decide _)=true;rw [decide_eq_true (R0 hi),decide_eq_true (R0 hj)];rfl
   obtain ⟨k,hk⟩:=List.mem_iff_getElem?.mp mj;have kl:k < bs.length:=by rw [lb];exact (List.getElem?_eq_some_iff.mp hk).1
   obtain ⟨y,hy,j',p',i1,i2,e1,e2,e3,e4,e5⟩:=z18 al6 (O3 kl);rw [hk] at e1;cases e1;rw [hm] at e2;cases e2;have:=of_decide_eq_true (h y (R0 hy));rw [e5] at this;have this:decide (i1 < i2)=true:=by injection this
   rw [uniq hi e3,uniq hj e4];exact of_decide_eq_true this
  ·intro h y hy;obtain ⟨k,hk⟩:=List.mem_iff_getElem?.mp hy;obtain ⟨_,_,j,p,i1,i2,_,e2,e3,e4,e5⟩:=z0g al6 hk;rw [e5,decide_eq_true (h p (R0 e2) i1 i2 e3 e4)];exact decide_eq_true rfl
noncomputable def z0 (ts:List (Str×Str)) (n:Str):Sv:=match ts.lookup n with|some k=>zeroK k|none=>.num 0
noncomputable def setZ (z:Str->Sv) (n:Str) (s:Sv):Str->Sv:=λ m=>if m=n then s else z m
theorem zgl {z:Str->Sv} {n:Str} {s:Sv}:setZ z n s n=s:=if_pos rfl
theorem zkd {z:Str->Sv} {n m:Str} {s:Sv} (h:m≠n):setZ z n s m=z m:=if_neg h
noncomputable def DoneS (ps:List DD):(Str->Sv)->List (Nat×V)->Prop
 | _,[]=>True
 | z,s :: st=>∃p,ps[s.1]? = some p/\(dz p.k p.vb p.dt (z p.nm)).2=s.2/\DoneS ps (setZ z p.nm (dz p.k p.vb p.dt (z p.nm)).1) st
noncomputable def runS (ps:List DD) (z:Str->Sv) (st:List (Nat×V)):Str->Sv:=st.foldl (λ z s=>match ps[s.1]? with|some p=>setZ z p.nm (dz p.k p.vb p.dt (z p.nm)).1|none=>z) z
def StD (K:b0) (H:Hp) (d:Addr) (n:Nat) (ts:List (Str×Str)) (z:Str->Sv):Prop:=∃kvs:List (Key×V),H d=some (.dK kvs)/\kvs.length<=6 + n/\∀t∈ts,SvOk n t.2 (z t.1)/\∃v,valV kvs (.inr t.1)=some v/\StZ K H (z t.1) v
structure ThW (ts:List (Str×Str)):Prop where
 n6:ts.length<=6
 nd:(ts.map (·.1)).Nodup
 ks :∀t∈ts,t.2∈kinds5
theorem ThOk.thw {ts:List (Str×Str)} (h:ThOk ts):ThW ts:=⟨h.n6,h.nd,h.ks⟩
theorem ze0 :∀{ts:List (Str×Str)},(ts.map (·.1)).Nodup->∀{n k k':Str},(n,k)∈ts->(n,k')∈ts->k=k'
 | [],_,_,_,_,h,_=>by cases h
 | t :: ts,nd,n,k,k',h1,h2=>by
  rw [v1,B6] at nd;rcases List.mem_cons.mp h1 with z1|z1
  ·rcases List.mem_cons.mp h2 with z2|z2
   ·rw [<-z1] at z2;cases z2;rfl
   ·exact absurd (List.mem_map.mpr ⟨_,z2,rfl⟩) (by rw [<-z1] at nd;exact nd.1)
  ·rcases List.mem_cons.mp h2 with z2|z2
   ·exact absurd (List.mem_map.mpr ⟨_,z1,rfl⟩) (by rw [<-z2] at nd;exact nd.1)
   ·exact ze0 nd.2 z1 z2
theorem zbq :∀{ts:List (Str×Str)},(ts.map (·.1)).Nodup->∀{n k:Str},(n,k)∈ts->ts.lookup n=some k
 | [],_,_,_,h=>by cases h
 | (a,b) :: ts,nd,n,k,h=>by
  rw [v1,B6] at nd;rw [g4];rcases List.mem_cons.mp h with z|z
  ·cases z;rw [beq_self_eq_true]
  ·by_cases e:n=a
   ·subst e;exact absurd (List.mem_map.mpr ⟨_,z,rfl⟩) nd.1
   ·rw [beq_eq_false_iff_ne.mpr e];exact zbq nd.2 z
theorem z0_of {ts:List (Str×Str)} (h:ThW ts) {t:Str×Str} (ht:t∈ts):z0 ts t.1=zeroK t.2:=by unfold z0;rw [zbq h.nd (k:=t.2) ht]
theorem StD.tt {K:b0} {H H':Hp} {d:Addr} {n:Nat} {ts:List (Str×Str)} {z:Str->Sv} (t:Tups K H H') (e :∀o,H d=some o->H' d=some o) (h:StD K H d n ts z):StD K H' d n ts z:=by obtain ⟨kvs,ed,l,f⟩:=h;exact ⟨kvs,e _ ed,l,λ u hu=>⟨(f u hu).1,(f u hu).2.elim λ v z=>⟨v,z.1,z.2.tups t⟩⟩⟩
theorem StD.put {K:b0} {H H2:Hp} {d:Addr} {n:Nat} {ts:List (Str×Str)} {z:Str->Sv} {nm k:Str} {v:V} {sv:Sv} {kvs:List (Key×V)} (ok:ThW ts) (s:Same H H2) (ed:H d=some (.dK kvs)) (l:kvs.length<=6 + n) (f :∀t∈ts,SvOk n t.2 (z t.1)/\∃v,valV kvs (.inr t.1)=some v/\StZ K H (z t.1) v) (hm:(nm,k)∈ts) (so:SvOk (n + 1) k sv) (sa:StZ K H2 sv v) :
  StD K (upd H2 d (.dK (putK kvs (.inr nm) v))) d (n + 1) ts (setZ z nm sv):=by
 have t2:Tups K H2 (upd H2 d (.dK (putK kvs (.inr nm) v))):=Tups.dict (s _ _ ed);refine ⟨_,upd_same,G0 (z4y _ _ _) (by omega),λ t ht=>?_⟩;by_cases e:t.1=nm
 ·have:t.2=k:=ze0 ok.nd (n:=nm) (by rw [<-e];exact ht) hm;rw [e,zgl,this];exact ⟨so,v,by rw [z1a,if_pos rfl],sa.tups t2⟩
 ·obtain ⟨so',u,eu,h⟩:=f t ht;rw [zkd e];exact ⟨so'.le (F2 _),u,by rw [z1a,if_neg (λ y=>e (B5 y))];exact eu,h.tups ((Tups.of s).trans t2)⟩
theorem zit {H:Hp} {k:Str} (hk:k∈kinds5) :∃v,kl_FIRST_STATES.lookup k=some v/\StZ (KX w.params) H (zeroK k) v:=by
 have fz:SqT (KX w.params) H 81 []:=.inr ⟨⟨.type "tuple",none,.seq #[] 0,#[]⟩,#[],0,by kernel_rfl,rfl,rfl,by decide,.nil⟩;have fz2:SqT (KX w.params) H 82 []:=.inr ⟨⟨.type "tuple",none,.seq #[] 0,#[]⟩,#[],0,by kernel_rfl,rfl,rfl,by decide,.nil⟩;unfold kinds5 at hk;simp only [T0,o0,or_false] at hk;unfold zeroK;rcases hk with rfl|rfl|rfl|rfl|rfl
 ·exact ⟨.int 0,by decide +kernel,by rw [if_neg (by decide +kernel)];rfl⟩
 ·exact ⟨.int 0,by decide +kernel,by rw [if_neg (by decide +kernel)];rfl⟩
 ·exact ⟨.ref 81,by decide +kernel,by rw [if_pos (by decide +kernel)];exact ⟨_,rfl,fz⟩⟩
 ·exact ⟨.ref 82,by decide +kernel,by rw [if_pos (by decide +kernel)];exact ⟨_,rfl,fz2⟩⟩
 ·exact ⟨.int 0,by decide +kernel,by rw [if_neg (by decide +kernel)];rfl⟩
theorem DoneS.app {ps:List DD} :∀{st st':List (Nat×V)} {z:Str->Sv},DoneS ps z (st++st')↔DoneS ps z st/\DoneS ps (runS ps z st) st'
 | [],st',z=>by show DoneS ps z st'↔True/\_;rw [true_and];rfl
 | s :: st,st',z=>by
  show (∃p,_)↔(∃p,_)/\_;constructor
  ·rintro ⟨p,h1,h2,h3⟩;obtain ⟨g1,g2⟩:=DoneS.app.mp h3;refine ⟨⟨p,h1,h2,g1⟩,?_⟩;unfold runS;rw [i5,h1];exact g2
  ·rintro ⟨⟨p,h1,h2,h3⟩,g⟩;unfold runS at g;rw [i5,h1] at g;exact ⟨p,h1,h2,DoneS.app.mpr ⟨h3,g⟩⟩
theorem firsts {K:b0} {H H':Hp} (s:Same H H') {ts:List (Str×Str)} {ys:List V} (al:All2 (λ (i:Nat) y=>∃t b v,ts[i]? = some t/\y=.ref b/\H b=some (.tup [.str t.1,v])/\StZ K H (zeroK t.2) v) (W1 ts.length) ys) :
  ∃kvs:List (Key×V),kvs.map (·.1)=ts.map (λ t=>(.inr t.1:Key))/\All2 (λ (p:Key×V) y=>∃b,y=.ref b/\SqT K H' b [kV p.1,p.2]) kvs ys/\∀t∈ts,∃v,((.inr t.1:Key),v)∈kvs/\StZ K H' (zeroK t.2) v:=by
 have ly:=z03 al;rw [x2] at ly;have al':All2 (λ (t:Str×Str) y=>∃b v,y=.ref b/\H b=some (.tup [.str t.1,v])/\StZ K H (zeroK t.2) v) ts ys:=z14 ly λ i t y ht hy=>by obtain ⟨j,hj,t',b,v,h1,h2,h3,h4⟩:=z0g al hy;rw [O3 (List.getElem?_eq_some_iff.mp ht).1] at hj;cases hj;rw [ht] at h1;cases h1;exact ⟨b,v,h2,h3,h4⟩
 clear ly al;induction al' with
 | nil=>exact ⟨[],rfl,.nil,λ _ h=>absurd h o0⟩
 | @cons t y ts ys a r ih=>
  obtain ⟨kvs,h1,h2,h3⟩:=ih;obtain ⟨b,v,rfl,e,z⟩:=a;refine ⟨(.inr t.1,v) :: kvs,by rw [v1,v1,h1],.cons ⟨b,rfl,SqT.of (s _ _ e)⟩ h2,λ u hu=>?_⟩;rcases List.mem_cons.mp hu with e|e
  ·rw [e];exact ⟨v,B1,z.tups (.of s)⟩
  ·obtain ⟨v',m,z'⟩:=h3 u e;exact ⟨v',G1 _ m,z'⟩
def z4l (K:b0):Sp:=λ vs H Q _=>∃(pt l o:Addr) (zs xs:List V) (ts:List (Str×Str)) (rs:List Rc) (ps:List DD) (st:List (Nat×V)),vs=[.ref pt,.ref l,.ref o]/\ThAt H pt ts/\ThW ts/\H l=some (.lst zs)/\All2 (RcAt K H) rs zs/\All2 (RcGd K H ts) rs ps/\H o=some (.lst xs)/\All2 (StpAt H) st xs/\(∀s∈st,s.1 < rs.length/\IsA s.2)/\st.length<=63/\
 ∀b H',Same H H'->(b=true↔DoneS ps (z0 ts) st)->Q (.bl b) H'
theorem z8s (T:TX (KX w.params) mg) (c_first_state:Cal P w (KX w.params) mg base "first_state" ["kind"] 2 z3y) (c_do:Cal P w (KX w.params) mg base "do" ["kind","state","verb","worth"] 5 (sp_do (KX w.params))):FnOk P w (KX w.params) mg base CX0 6 239 fd_is_done_so ["things","told","order"] (z4l (KX w.params)):=by
 refine (z3c w.params).ok sc_is_done_so (λ vs H Q E h=>?_) (λ cdv A outer s H vs Q E hr h=>?_)
 ·obtain ⟨pt,l,o,zs,xs,ts,rs,ps,st,rfl,_⟩:=h;rfl
 ·obtain ⟨pt,l,o,zs,xs,ts,rs,ps,st,rfl,th,ok,el,ar,gd,eo,al,gs,s63,q⟩:=h;refine ⟨_,(z02 (ps_set (i:=3) sc_is_done_so.nd rfl (by first|exact Y0 rfl|exact X0 rfl) (z0h (z10 rfl) rfl (T.no (n_dict _)) W6 (z00 (pv 0) pa_nil)))
   (z02 (ps_set (i:=4) sc_is_done_so.nd rfl (by first|exact Y0 rfl|exact X0 rfl) (z0h (z10 rfl) rfl (T.no (n_dict _)) W6 (z00 (z0s (xs:=["name","kind"]) (g:=gTup (KX w.params) 2 (gCons (gName 0) (gCons (gName 1) gNil))) (fr:=[]) rfl (pi_tup (pv 0)) (λ _ z=>absurd z o0) (z1e rfl) (λ _ z=>absurd z o0) (by decide +kernel) rfl (by decide +kernel) (λ _ _ _ _ _=>(pg_tup rfl (z0a (z0j (N:=["name","kind"]) 0 (by decide +kernel) rfl rfl) (z0a (z0j (N:=["name","kind"]) 1 (by decide +kernel) rfl rfl) z12)))) (λ _ _ _ _ _=>pf_nil) (λ _ _ _ _ _=>(pe_tup (z00 (pv 0) (z00 (pe_cal c_first_state (hr.mono (by first|decide|omega)) rfl (z00 (pv 1) pa_nil)) pa_nil))))) pa_nil)))
   (z02 (ps_for D2 rfl (z25 (pv 2)) (pg_tup rfl (z0a (z0l (i:=5) sc_is_done_so.nd rfl (by first|exact Y0 rfl|exact X0 rfl)) (z0a (z0l (i:=6) sc_is_done_so.nd rfl (by first|exact Y0 rfl|exact X0 rfl)) z12)))
   (z02 (ps_set (i:=7) sc_is_done_so.nd rfl (by first|exact Y0 rfl|exact X0 rfl) (pe_ix ix_seq (pv 1) (pv 5) (λ _ _=>rfl)))
   (z02 (ps_set (i:=8) sc_is_done_so.nd rfl (by first|exact Y0 rfl|exact X0 rfl) (pe_cal c_do (hr.mono (by first|decide|omega)) rfl (z00 (z24 (hu_of hr) (pv 3) (pe_ix ix_seq (pv 7) pe_int (λ _ _=>rfl)) (λ _ _=>rfl)) (z00 (z24 (hu_of hr) (pv 4) (pe_ix ix_seq (pv 7) pe_int (λ _ _=>rfl)) (λ _ _=>rfl)) (z00 (pe_ix ix_seq (pv 7) pe_int (λ _ _=>rfl)) (z00 (pe_ix ix_seq (pv 7) pe_int (λ _ _=>rfl)) pa_nil))))))
   (z02 (ps_if (z09 opNe (pe_ix ix_seq (pv 8) pe_int (λ _ _=>rfl)) (pv 6) (nomark _))
   (z05 (ps_ret pe_bl))
   z0d)
   (z05 (z97 (hu_of hr) (pv 4) (pe_ix ix_seq (pv 7) pe_int (λ _ _=>rfl)) (pe_ix ix_seq (pv 8) pe_int (λ _ _=>rfl)) rfl))))))
   (z05 (ps_ret pe_bl))))),?_⟩
  obtain ⟨yt,eyt,alt⟩:=th;refine ⟨_,rfl,pt,yt,thK ts,rfl,.inr eyt,zf3 alt,λ pk hpk=>?_⟩;have s1:=Same.upd (o:=.dK (mergeK [] (thK ts))) hpk;have e1:upd H pk (.dK (mergeK [] (thK ts))) pk=some (.dK (mergeK [] (thK ts))):=upd_same;generalize upd H pk (.dK (mergeK [] (thK ts)))=H1 at s1 e1⊢;refine g_name (t_nx ?_);refine z8r ?_;refine z1o (K:=KX w.params) (a:=pt) (xs:=yt) (H1:=H1) (λ _=>true) (λ i y H'=>∃t b v,ts[i]? = some t/\y=.ref b/\H' b=some (.tup [.str t.1,v])/\StZ (KX w.params) H' (zeroK t.2) v) (λ _ _ _ _ s ⟨t,b,v,h1,h2,h3,h4⟩=>⟨t,b,v,h1,h2,s _ _ h3,h4.tups (.of s)⟩) (λ R h=>⟨_,rfl,h⟩) (s1.seqT (SqT.of eyt)) (G0 (m:=6) (by rw [z03 alt];exact ok.n6) (by decide)) ?_ ?_
  ·intro i hi v H2 s2 hv KT KF k1 k2;obtain ⟨t,ht,b,rfl,eb⟩:=z0g alt hv;have eb2:=(s1.trans s2) _ _ eb;obtain ⟨v,hv,hz⟩:=zit (w:=w) (H:=H2) (ok.ks t (R0 ht));refine ⟨b,_,rfl,SqT.of eb2,rfl,_,_,rfl,_,_,rfl,rfl,[some (.str t.1),some (.str t.2)],rfl,rfl,iteT ?_⟩;exact ⟨_,rfl,_,rfl,t.2,v,rfl,hv,(show (2:Nat)<=sizeLine by decide),λ p hp=>k1 rfl _ _ (Same.upd hp) ⟨t,p,v,ht,rfl,upd_same,hz.tups (.of (Same.upd hp))⟩⟩
  intro l2 H2 ys s2 hl2 al2;rw [List.filter_eq_self.mpr (λ _ _=>rfl),z03 alt] at al2;have s3:=Same.upd (o:=.lst ys) hl2;have e3:upd H2 l2 (.lst ys) l2=some (.lst ys):=upd_same;generalize upd H2 l2 (.lst ys)=H3 at s3 e3⊢;obtain ⟨kvs,ek,al3,fk⟩ :∃kvs:List (Key×V),kvs.map (·.1)=ts.map (λ t=>(.inr t.1:Key))/\All2 (λ (p:Key×V) y=>∃b,y=.ref b/\SqT (KX w.params) H3 b [kV p.1,p.2]) kvs ys/\∀t∈ts,∃v,((.inr t.1:Key),v)∈kvs/\StZ (KX w.params) H3 (zeroK t.2) v:=firsts s3 al2;refine ⟨l2,ys,kvs,rfl,.inl e3,al3,λ d hd=>?_⟩;have s4:=Same.upd (o:=.dK (mergeK [] kvs)) hd;have e4:upd H3 d (.dK (mergeK [] kvs)) d=some (.dK (mergeK [] kvs)):=upd_same;have st4:StD (KX w.params) (upd H3 d (.dK (mergeK [] kvs))) d 0 ts (z0 ts):=by
   refine ⟨_,e4,?_,λ t ht=>?_⟩
   ·have h1:=z16 (more:=kvs) (acc:=[]);have h2:=congrArg S5 ek;rw [D0,D0] at h2;have:=ok.n6;rw [G2,K4] at h1;omega
   ·obtain ⟨v,hv,sa⟩:=fk t ht;rw [z0_of ok ht];refine ⟨z7a _,v,z13 ?_ hv,sa.tups (.of s4)⟩;rw [ek,show (ts.map λ t=>(Sum.inr t.1:Key))=(ts.map (·.1)).map Sum.inr by rw [S3];rfl];exact Q4 _ (λ a b h e=>h (B5 e)) ok.nd
  have s13:Same H H3:=(s1.trans s2).trans s3;have fd:H d=none:=s13.free hd;have fd1:H1 d=none:=(s2.trans s3).free hd;have s4:=s13.trans s4;have k4:upd H3 d (.dK (mergeK [] kvs)) pk=some (.dK (mergeK [] (thK ts))):=((s2.trans s3).trans (Same.upd hd)) _ _ e1;have npd:pk≠d:=λ z=>by rw [z,fd1] at e1;cases e1
  generalize upd H3 d (.dK (mergeK [] kvs))=H4 at s4 st4 k4⊢;refine g_name ?_;refine ⟨_,rfl,o,rfl,⟨xs,SqL.of (s4 _ _ eo)⟩,?_⟩;refine z48 (K:=KX w.params) (a:=o) (xs:=xs) (λ i σ H'=>Same H H'/\H' pk=some (.dK (mergeK [] (thK ts)))/\StD (KX w.params) H' d i ts (runS ps (z0 ts) (st.take i))/\DoneS ps (z0 ts) (st.take i)/\∃x5 x6 x7 x8,σ=[some (.ref pt),some (.ref l),some (.ref o),some (.ref pk),some (.ref d),x5,x6,x7,x8])
   ⟨s4,k4,by rw [X8];exact st4,by rw [X8];trivial,_,_,_,_,rfl⟩ (λ i σ H' _ h=>SqL.of (h.1 _ _ eo)) ?_ ?_
  ·rintro i x σ H5 hx ⟨s5,k5,st5,dn,x5,x6,x7,x8,rfl⟩;obtain ⟨sp,hsp,b,rfl,eb⟩:=z0g al hx;obtain ⟨hn,ha⟩:=gs sp (R0 hsp);have hi:i < st.length:=(List.getElem?_eq_some_iff.mp hsp).1;obtain ⟨y,hy,p,rfl,sq⟩:=z18 ar (J0 hn);obtain ⟨dd,hdd,g1,g2,hm,dk,ix,wi,_⟩:=z18 gd (J0 hn);generalize rs[sp.1]=r at sq g1 g2 ix wi;have sq5:=s5.seqT sq;rw [g1,g2] at sq5;refine ⟨b,_,rfl,SqT.of (s5 _ _ eb),rfl,_,_,rfl,_,_,rfl,rfl,?_⟩;refine ⟨_,rfl,_,rfl,.inl ⟨l,zs,sp.1,.ref p,rfl,rfl,SqL.of (s5 _ _ el),z04 hy,?_⟩⟩;have dgk:DGet H5 pk (.str dd.nm) (some (.str dd.k)):=by have:=DGet.k (k:=.inr dd.nm) k5;rw [z13 (zav ok.nd) (List.mem_map.mpr ⟨(dd.nm,dd.k),hm,rfl⟩)] at this;exact this
   obtain ⟨kv5,ed5,hl5,f5⟩:=st5;obtain ⟨so,v5,hv5,sz⟩:=f5 _ hm;have dgs:DGet H5 d (.str dd.nm) (some v5):=by have:=DGet.k (k:=.inr dd.nm) ed5;rw [hv5] at this;exact this
   have i63:i < 63:=by omega
   have T5:Tt (KX w.params) H H5:=.of s5;refine ⟨_,rfl,_,rfl,.inr (.inl ⟨p,_,1,.str dd.nm,rfl,rfl,sq5,z04 (j:=1) rfl,pk,.str dd.k,rfl,dgk,?_⟩)⟩;refine ⟨_,rfl,_,rfl,.inr (.inl ⟨p,_,1,.str dd.nm,rfl,rfl,sq5,z04 (j:=1) rfl,d,v5,rfl,dgs,?_⟩)⟩;refine ⟨_,rfl,.inr (.inl ⟨p,_,2,.str dd.vb,rfl,rfl,sq5,z04 (j:=2) rfl,?_⟩)⟩;refine ⟨_,rfl,.inr (.inl ⟨p,_,3,r.x,rfl,rfl,sq5,z04 (j:=3) rfl,?_⟩)⟩;refine do_can (w:=w) (E:=E0) so sz i63 dk (IsDt.mono' T5.t _ _ ix) (wi.tt T5) λ p6 v6 H6 s6 e6 sz6=>?_;have zok:=dz_ok dk so i63;have tk:st.take (i + 1)=st.take i++[sp]:=by rw [Y8,hsp];rfl
   have rn:runS ps (z0 ts) (st.take (i + 1))=setZ (runS ps (z0 ts) (st.take i)) dd.nm (dz dd.k dd.vb dd.dt (runS ps (z0 ts) (st.take i) dd.nm)).1:=by rw [tk];unfold runS;rw [G4,i5,List.foldl_nil,hdd]
   generalize hz:runS ps (z0 ts) (st.take i)=z at *;have dn':DoneS ps (z0 ts) (st.take (i + 1))↔(dz dd.k dd.vb dd.dt (z dd.nm)).2=sp.2:=by
    rw [tk,DoneS.app,hz];constructor
    ·rintro ⟨_,p',h1,h2,_⟩;rw [hdd] at h1;cases h1;exact h2
    ·exact λ h=>⟨dn,dd,hdd,h,trivial⟩
   refine g_name (t_nx (sq_if ?_));refine ⟨_,rfl,.inr (.inl ⟨p6,_,1,_,rfl,rfl,SqT.of e6,z04 (j:=1) rfl,_,rfl,IsA.scal (.inl zok.2.isA) (.inl ha),_,rfl,?_⟩)⟩;by_cases ea:(dz dd.k dd.vb dd.dt (z dd.nm)).2=sp.2;rotate_left
   ·refine iteP (by rw [decide_eq_false ea];rfl) (q _ _ (s5.trans s6) ⟨λ z=>(by cases z),λ dz'=>?_⟩);rw [<-j3i (i + 1) st] at dz';exact absurd (dn'.mp (DoneS.app.mp dz').1) ea
   refine iteN (by rw [decide_eq_true ea];decide) ?_;refine t_nx ?_;refine ⟨_,rfl,.inr (.inl ⟨p6,_,0,v6,rfl,rfl,SqT.of e6,z04 (j:=0) rfl,_,rfl,_,rfl,.inr (.inl ⟨p,_,1,.str dd.nm,rfl,rfl,s6.seqT sq5,z04 (j:=1) rfl,d,_,rfl,DPut.k (k:=.inr dd.nm) (s6 _ _ ed5) (C1 (m:=100) (by omega) (by decide)),?_⟩)⟩)⟩;refine ⟨Same.keep (s5.trans s6) fd,by rw [upd_ne npd];exact s6 _ _ k5,?_,dn'.mpr ea,_,_,_,_,rfl⟩;rw [rn];exact StD.put ok s6 ed5 hl5 f5 hm zok.1 sz6
  ·rintro σ H5 ⟨s5,k5,st5,dn,x5,x6,x7,x8,rfl⟩;rw [z03 al,j0d] at dn;exact q _ _ s5 ⟨λ _=>dn,λ _=>rfl⟩
theorem z2x :∀(n:Nat) (ns:List Nat),ns.Nodup->(∀x∈ns,x < n)->ns.length<=n
 | 0,ns,_,h=>by
  cases ns with
  | nil=>exact F0 _
  | cons x r=>exact absurd (h x B1) (n5 _)
 | n + 1,ns,nd,h=>by
  have:=z2x n (ns.erase n) (nd.erase n) λ x hx=>by have hx:=(List.Nodup.mem_erase_iff nd).mp hx;have:=h x hx.2;omega
  by_cases m:n∈ns
  ·rw [List.length_erase_of_mem m] at this;omega
  ·rw [List.erase_of_not_mem m] at this;omega
theorem e_andV {t u:TE} {σ:L2.St} {H:Hp} {Q:VK} (h:t σ H λ x H1=>∃c,x=.bl c/\if c=true then u σ H1 Q else Q (.bl false) H1):tAndV t u σ H Q:=h
theorem zjo {sp:Sp} {E:XK} {t1 t2:TE} {σ:L2.St} {H:Hp} {Q:VK} (h:t1 σ H λ x H1=>t2 σ H1 λ y H2=>sp [x,y] H2 Q E):tCall sp [] E (tCons t1 (tCons t2 tNil)) σ H Q:=h
def TaleAt (K:b0) (H:Hp) (t:Addr) (ts:List (Str×Str)) (es:List Ev):Prop:=∃pt te ys,H t=some (.tup [.ref pt,.ref te])/\ThAt H pt ts/\H te=some (.tup ys)/\All2 (EvAt K H) es ys
theorem TaleAt.tt {K:b0} {H H':Hp} {t:Addr} {ts:List (Str×Str)} {es:List Ev} (x:Tt K H H') (h:TaleAt K H t ts es):TaleAt K H' t ts es:=by obtain ⟨pt,te,ys,e1,e2,e3,e4⟩:=h;exact ⟨pt,te,ys,x.l _ _ e1,e2.tt x,x.l _ _ e3,z01 (λ _ _ z=>EvAt.tups x.t z) e4⟩
def ExpP (m:Nat) (ts:List (Str×Str)) (rs:List Rc) (ps:List DD) (ds:List PyData):Prop:=∃st,stepsO rs.length ds=some st/\(st.map (·.1)).Nodup/\(∀n r,rs[n]? = some r->r.e.isSome=true->(n,r.a)∈st)/\keepP (z1k m rs rs.length) (st.map (·.1))/\DoneS ps (z0 ts) st
def z4e (K:b0):Sp:=λ vs H Q _=>∃(t o:Addr) (xs:List V) (ts:List (Str×Str)) (es:List Ev) (ps:List DD) (ds:List PyData) (m:Nat),vs=[.ref t,.str (z0u m),.ref o]/\TaleAt K H t ts es/\ThW ts/\es.length<=63/\EWf [] es/\All2 (RcGd K H ts) (dAll 0 [] es) ps/\H o=some (.lst xs)/\All2 (HPd H) ds xs/\ds.length<=100/\
 ∀b H',Same H H'->(b=true↔ExpP m ts (dAll 0 [] es) ps ds)->Q (.bl b) H'
theorem zcs (T:TX (KX w.params) mg) (c_has_to:Cal P w (KX w.params) mg base "has_to" ["tale","strictness"] 2 (zbs (KX w.params))) (c_deeds:Cal P w (KX w.params) mg base "deeds" ["tale"] 1 (zb5 (KX w.params))) (c_is_order:Cal P w (KX w.params) mg base "is_order" ["told","order"] 3 (z6n (KX w.params))) (c_keeps_to:Cal P w (KX w.params) mg base "keeps_to" ["pairs","numbers"] 1 (z71 (KX w.params))) (c_is_done_so:Cal P w (KX w.params) mg base "is_done_so" ["things","told","order"] 6 (z4l (KX w.params))):FnOk P w (KX w.params) mg base CX0 7 217 fd_explains ["tale","strictness","order"] (z4e (KX w.params)):=by
 refine (z5u w.params).ok sc_explains (λ vs H Q E h=>?_) (λ cdv A outer s H vs Q E hr h=>?_)
 ·obtain ⟨t,o,xs,ts,es,ps,ds,m,rfl,_⟩:=h;rfl
 ·obtain ⟨t,o,xs,ts,es,ps,ds,m,rfl,⟨pt,te,ys,et,th,ete,al⟩,ok,e63,wf,gd,eo,ad,d100,q⟩:=h;refine ⟨_,(z02 (ps_set (i:=3) sc_explains.nd rfl (by first|exact Y0 rfl|exact X0 rfl) (pe_cal c_has_to (hr.mono (by first|decide|omega)) rfl (z00 (pv 0) (z00 (pv 1) pa_nil))))
   (z02 (ps_set (i:=4) sc_explains.nd rfl (by first|exact Y0 rfl|exact X0 rfl) (pe_cal c_deeds (hr.mono (by first|decide|omega)) rfl (z00 (pv 0) pa_nil)))
   (z02 (ps_if (pt_not (pt_val (pe_cal c_is_order (hr.mono (by first|decide|omega)) rfl (z00 (pv 4) (z00 (pv 2) pa_nil))) (λ _=>rfl)))
   (z05 (ps_ret pe_bl))
   z0d)
   (z05 (ps_ret (pe_and (pe_cal c_keeps_to (hr.mono (by first|decide|omega)) rfl (z00 (pv 3) (z00 (z0s (xs:=["step"]) (g:=gName 0) (fr:=[]) rfl (z25 (pv 2)) (λ _ z=>absurd z o0) (z1e rfl) (λ _ z=>absurd z o0) (by decide +kernel) rfl (by decide +kernel) (λ _ _ _ _ _=>(z0j (N:=["step"]) 0 (by decide +kernel) rfl rfl)) (λ _ _ _ _ _=>pf_nil) (λ _ _ _ _ _=>(pe_ix (z2p (K:=KX w.params) rfl) (pv 0) pe_int (λ _ _=>rfl)))) pa_nil))) (pe_one (pe_cal c_is_done_so (hr.mono (by first|decide|omega)) rfl (z00 (pe_ix ix_seq (pv 0) pe_int (λ _ _=>rfl)) (z00 (pv 4) (z00 (pv 2) pa_nil))))))))))),?_⟩
  obtain ⟨dw,os,I⟩:=DInv.all DInv.nil wf;refine ⟨_,rfl,_,rfl,t,te,.ref pt,ys,es,m,rfl,SqT.of et,SqT.of ete,al,by omega,dw,λ l zs H1 s1 hl el ap=>?_⟩;refine ⟨_,rfl,t,te,.ref pt,ys,es,rfl,s1.seqT (SqT.of et),s1.seqT (SqT.of ete),z01 (λ _ _ z=>EvAt.tups (.of s1) z) al,by omega,dw,λ l2 zs2 H2 s2 hl2 el2 ar=>?_⟩;have s12:=s1.trans s2;have rl:(dAll 0 [] es).length<=63:=by have:=z5a (i:=0) (rs:=[]) es;simp only [G2,K4] at this;omega
  generalize dAll 0 [] es=rs at *;have lz:zs2.length=rs.length:=z03 ar;have ra :∀r∈rs,r.e.isSome=true->IsA r.a:=λ r hr he=>by
   obtain ⟨n,hn⟩:=List.mem_iff_getElem?.mp hr;obtain ⟨p,_,_,_,_,_,_,_,g⟩:=z18 gd hn;rcases g with ⟨g,_⟩|⟨_,g⟩
   ·rw [g] at he;cases he
   ·exact g.isA
  refine ⟨_,rfl,_,rfl,l2,o,zs2,xs,rs,ds,rfl,el2,ar,by omega,ra,s12 _ _ eo,z01 (λ _ _ z=>z.same s12) ad,d100,λ b H3 s3 hb=>⟨_,rfl,?_⟩⟩;have s13:=s12.trans s3;cases b with
  | false=>refine iteT (q _ _ s13 ⟨λ z=>(by cases z),λ ⟨st,e1,e2,e3,_⟩=>?_⟩);exact absurd (hb.mpr ⟨st,e1,e2,e3⟩) U0
  | true=>
  refine iteF ?_;obtain ⟨st,est,nd,an⟩:=hb.mp rfl;have hall:ds.all (λ d=>(stepO rs.length d).isSome)=true:=by
   cases h:ds.all (λ d=>(stepO rs.length d).isSome) with
   | true=>rfl
   | false=>rw [z46 h] at est;cases est
  obtain ⟨st',est',als,gs⟩:=z4f ad hall;rw [est] at est';cases est';have iff :∀{b:Bool},(b=true↔keepP (z1k m rs rs.length) (st.map (·.1))/\DoneS ps (z0 ts) st)->(b=true↔ExpP m ts rs ps ds):=λ {b} h=>h.trans ⟨λ z=>⟨st,est,nd,an,z⟩,λ ⟨st',e',_,_,z⟩=>by rw [est] at e';cases e';exact z⟩;refine t_nx (sq_ret (e_andV (zjo ⟨_,rfl,?_⟩)));have eo3:=s13 _ _ eo;have lx:xs.length=ds.length:=z03 ad;refine z58 (K:=KX w.params) (a:=o) (xs:=xs) (H1:=H3) (λ _=>true) (λ i y _=>∃s',st[i]? = some s'/\y=.int (s'.1:Int)) (λ _ _ _ _ _ z=>z) (λ R h=>⟨_,rfl,h⟩) (SqL.of eo3) (G0 (m:=100) (by omega) (by decide)) ?_ ?_
  ·intro i hi v H4 s4 hv KT KF k1 k2;obtain ⟨s',hs',b,rfl,eb⟩:=z0g als hv;refine ⟨[some (.ref b)],rfl,rfl,iteT ?_⟩;exact ⟨_,rfl,.inr (.inl ⟨b,_,0,_,rfl,rfl,SqT.of ((s13.trans s4) _ _ eb),z04 (j:=0) rfl,k1 rfl _ _ (Same.refl _) ⟨s',hs',rfl⟩⟩)⟩
  intro l4 H4 ws s4 hl4 al4;rw [List.filter_eq_self.mpr (λ _ _=>rfl)] at al4;have ls:xs.length=st.length:=z03 als;have ew:ws=nsV (st.map (·.1)):=by
   have lw:=z03 al4;rw [x2,ls] at lw;apply J4;intro i;unfold nsV;rw [V0,V0];cases hw:ws[i]? with
   | none=>rw [y4 (by have:=List.getElem?_eq_none_iff.mp hw;omega)];rfl
   | some y=>obtain ⟨j,hj,s',h1,h2⟩:=z0g al4 hw;rw [O3 (by have:=(List.getElem?_eq_some_iff.mp hw).1;omega)] at hj;cases hj;rw [h1,h2];rfl
  subst ew;have s5:=s4.trans (Same.upd (o:=.lst (nsV (st.map (·.1)))) hl4);have e5:upd H4 l4 (.lst (nsV (st.map (·.1)))) l4=some (.lst (nsV (st.map (·.1)))):=upd_same;generalize upd H4 l4 (.lst (nsV (st.map (·.1))))=H5 at s5 e5⊢;have s15:=s13.trans s5;have t1:Same H1 H5:=(s2.trans s3).trans s5;have pl:=z4b (m:=m) (rs:=rs) rs.length;have pm:rs.length * rs.length<=63 * 63:=Nat.mul_le_mul rl rl;have st63:st.length<=63:=by
   have:=z2x rs.length (st.map (·.1)) nd λ x hx=>by obtain ⟨s',hs',rfl⟩:=List.mem_map.mp hx;exact (gs s' hs').1
   rw [D0] at this;omega
  refine ⟨l,l4,zs,_,st.map (·.1),rfl,t1 _ _ el,z01 (λ _ _ z=>PairAt.same t1 z) ap,by omega,e5,nd,by rw [D0];omega,λ b H6 s6 hb6=>⟨_,rfl,?_⟩⟩;have s16:=s15.trans s6;cases b with
  | false=>exact iteF (q _ _ s16 (iff ⟨λ z=>(by cases z),λ z=>hb6.mpr z.1⟩))
  | true=>
  refine iteT ?_;have u2:Same H2 H6:=(s3.trans s5).trans s6;refine ⟨_,rfl,.inr (.inl ⟨t,_,0,.ref pt,rfl,rfl,SqT.of (s16 _ _ et),z04 (j:=0) rfl,_,rfl,_,rfl,pt,l2,o,zs2,xs,ts,rs,ps,st,rfl,th.tt (.of (K:=KX w.params) s16),ok,u2 _ _ el2,z01 (λ _ _ z=>RcAt.tups (.of u2) z) ar,z01 (λ _ _ z=>RcGd.tt (.of s16) z) gd,s16 _ _ eo,z01 (λ _ _ z=>StpAt.same s16 z) als,gs,st63,λ b H7 s7 hb7=>?_⟩)⟩;exact q _ _ (s16.trans s7) (iff ⟨λ z=>⟨hb6.mp rfl,hb7.mp z⟩,λ z=>hb7.mpr z.2⟩)
end
section
theorem stepsO_iff {n:Nat} :∀{ds:List PyData} {st:List (Nat×V)},stepsO n ds=some st↔All2 (λ d s=>stepO n d=some s) ds st
 | [],st=>⟨λ h=>by cases h;exact .nil,λ h=>by cases h;rfl⟩
 | d :: ds,st=>by
  show (match stepO n d,stepsO n ds with|some s,some r=>some (s :: r)|_,_=>none)=some st↔_;constructor
  ·intro h;cases e:stepO n d with
   | none=>rw [e] at h;cases h
   | some s=>
    cases e2:stepsO n ds with
    | none=>rw [e,e2] at h;cases h
    | some r=>rw [e,e2] at h;cases h;exact .cons e (stepsO_iff.mp e2)
  ·intro h;cases h with
   | cons a r=>rw [a,stepsO_iff.mpr r]
def PwP (m:Nat) (rs:List Rc) (ns:List Nat):Prop:=ns.Pairwise λ a b=>z0x m rs b a=false
theorem zdf {m:Nat} {rs:List Rc} {ns:List Nat} (irr :∀n,z0x m rs n n=false) (lt :∀n∈ns,n < rs.length):keepP (z1k m rs rs.length) ns↔PwP m rs ns:=by
 unfold PwP;rw [List.pairwise_iff_getElem];constructor
 ·intro h i j hi hj ij;cases e:z0x m rs ns[j] ns[i] with
  | false=>rfl
  | true=>have:=h (ns[j],ns[i]) (mem_pairsTo.mpr ⟨lt _ (N4 _),lt _ (N4 _),e⟩) j i (J0 hj) (J0 hi);omega
 ·intro h p hp i j ei ej;have hp:=(mem_pairsTo.mp hp).2.2;obtain ⟨hi,ei⟩:=List.getElem?_eq_some_iff.mp ei;obtain ⟨hj,ej⟩:=List.getElem?_eq_some_iff.mp ej;rcases j08 i j with z|z|z
  ·exact z
  ·subst z;rw [<-ei,<-ej,irr] at hp;cases hp
  ·have:=h j i hj hi z;rw [ei,ej,hp] at this;cases this
structure GoodR (m:Nat) (ts:List (Str×Str)) (rs:List Rc) (ps:List DD) (st:List (Nat×V)):Prop where
 nd:(st.map (·.1)).Nodup
 an :∀s∈st,∀r,rs[s.1]? = some r->r.e.isSome=true->s.2=r.a
 pw:PwP m rs (st.map (·.1))
 dn:DoneS ps (z0 ts) st
structure InvR (m:Nat) (ts:List (Str×Str)) (rs:List Rc) (ps:List DD) (ds:List PyData) (i:Nat) (st:List (Nat×V)):Prop where
 so:All2 (λ d s=>stepO rs.length d=some s) (ds.take i) st
 gd:GoodR m ts rs ps st
theorem GoodR.nil {m:Nat} {ts:List (Str×Str)} {rs:List Rc} {ps:List DD}:GoodR m ts rs ps []:=⟨.nil,λ s h=>(by cases h),.nil,trivial⟩
theorem zgv {st:List (Nat×V)} (h:(st.map (·.1)).Nodup) {n:Nat} {a b:V} (ha:(n,a)∈st) (hb:(n,b)∈st):a=b:=by
 induction st with
 | nil=>cases ha
 | cons s st ih=>
  rw [v1,B6] at h;rcases List.mem_cons.mp ha with za|za
  ·rcases List.mem_cons.mp hb with zb|zb
   ·rw [<-za] at zb;cases zb;rfl
   ·exact absurd (List.mem_map.mpr ⟨_,zb,rfl⟩) (by rw [<-za] at h;exact h.1)
  ·rcases List.mem_cons.mp hb with zb|zb
   ·exact absurd (List.mem_map.mpr ⟨_,za,rfl⟩) (by rw [<-zb] at h;exact h.1)
   ·exact ih h.2 za zb
theorem GoodR.pre {m:Nat} {ts:List (Str×Str)} {rs:List Rc} {ps:List DD} {st su:List (Nat×V)} (h:GoodR m ts rs ps (st++su)):GoodR m ts rs ps st:=by obtain ⟨h1,h2,h3,h4⟩:=h;unfold PwP at h3;rw [L1] at h1 h3;exact ⟨(List.nodup_append.mp h1).1,λ s hs=>h2 s (P5 _ hs),(List.pairwise_append.mp h3).1,(DoneS.app.mp h4).1⟩
theorem ze8 {m:Nat} {ts:List (Str×Str)} {rs:List Rc} {ps:List DD} {ds:List PyData} (irr :∀n,z0x m rs n n=false) (h:ExpP m ts rs ps ds) :∃st,All2 (λ d s=>stepO rs.length d=some s) ds st/\GoodR m ts rs ps st/\∀n r,rs[n]? = some r->r.e.isSome=true->n∈st.map (·.1):=by
 obtain ⟨st,h1,h2,h3,h4,h5⟩:=h;have so:=stepsO_iff.mp h1;have lt :∀n∈st.map (·.1),n < rs.length:=λ n hn=>by obtain ⟨s,hs,rfl⟩:=List.mem_map.mp hn;obtain ⟨d,_,hd⟩:=z51 so hs;exact (z2h hd).elim λ b z=>z.2.1
 exact ⟨st,so,⟨h2,λ s hs r hr he=>zgv h2 (n:=s.1) hs (h3 s.1 r hr he),(zdf irr lt).mp h4,h5⟩,λ n r hn he=>List.mem_map.mpr ⟨_,h3 n r hn he,rfl⟩⟩
theorem zbj {α β:Type} {f:α->Option β} {xs:List α} {ys zs:List β} (h1:All2 (λ x y=>f x=some y) xs ys) (h2:All2 (λ x y=>f x=some y) xs zs):ys=zs:=by
 induction h1 generalizing zs with
 | nil=>cases h2;rfl
 | cons a r ih=>
  cases h2 with
  | cons b q=>rw [ih q];rw [a] at b;cases b;rfl
theorem zbx {α β:Type} {R:α->β->Prop} {xs:List α} {ys:List β} (h:All2 R xs ys) :∀i,All2 R (xs.take i) (ys.take i):=by
 induction h with
 | nil=>intro i;rw [List.take_nil,List.take_nil];exact .nil
 | cons a r ih=>
  intro i;cases i with
  | zero=>exact .nil
  | succ i=>exact .cons a (ih i)
theorem ziz {m:Nat} {ts:List (Str×Str)} {rs:List Rc} {ps:List DD} {ds:List PyData} {i:Nat} {st:List (Nat×V)} {d:PyData} (irr :∀n,z0x m rs n n=false) (I:InvR m ts rs ps ds i st) (hd:ds[i]? = some d) (h:ExpP m ts rs ps ds) :∃s,stepO rs.length d=some s/\GoodR m ts rs ps (st++[s]):=by
 obtain ⟨su,so,gd,_⟩:=ze8 irr h;obtain ⟨s,hs,e⟩:=z18 so hd;refine ⟨s,e,?_⟩;have e1:st=su.take i:=zbj I.so (zbx so i);have e2:su.take (i + 1)=st++[s]:=by rw [Y8,hs,e1];rfl
 rw [<-e2];rw [<-j3i (i + 1) su] at gd;exact gd.pre
theorem InvR.snoc {m:Nat} {ts:List (Str×Str)} {rs:List Rc} {ps:List DD} {ds:List PyData} {i:Nat} {st:List (Nat×V)} {d:PyData} {s:Nat×V} (I:InvR m ts rs ps ds i st) (hd:ds[i]? = some d) (hs:stepO rs.length d=some s) (g:GoodR m ts rs ps (st++[s])):InvR m ts rs ps ds (i + 1) (st++[s]):=by
 refine ⟨?_,g⟩;rw [Y8,hd];have app :∀{xs:List PyData} {ys:List (Nat×V)},All2 (λ d s=>stepO rs.length d=some s) xs ys->All2 (λ d s=>stepO rs.length d=some s) (xs++[d]) (ys++[s]):=λ {xs ys} h=>by
  induction h with
  | nil=>exact .cons hs .nil
  | cons a r ih=>exact .cons a ih
 exact app I.so
theorem zk7 {m:Nat} {ts:List (Str×Str)} {rs:List Rc} {ps:List DD} {ds:List PyData} {st:List (Nat×V)} (irr :∀n,z0x m rs n n=false) (I:InvR m ts rs ps ds ds.length st):ExpP m ts rs ps ds↔∀n r,rs[n]? = some r->r.e.isSome=true->n∈st.map (·.1):=by
 have so:=I.so;rw [j0d] at so;constructor
 ·intro h;obtain ⟨su,so2,_,f⟩:=ze8 irr h;rw [zbj so so2];exact f
 ·intro h;have lt :∀n∈st.map (·.1),n < rs.length:=λ n hn=>by obtain ⟨s,hs,rfl⟩:=List.mem_map.mp hn;obtain ⟨d,_,hd⟩:=z51 so hs;exact (z2h hd).elim λ b z=>z.2.1
  refine ⟨st,stepsO_iff.mpr so,I.gd.nd,λ n r hn he=>?_,(zdf irr lt).mpr I.gd.pw,I.gd.dn⟩;obtain ⟨s,hs,rfl⟩:=List.mem_map.mp (h n r hn he);rw [<-I.gd.an s hs r hn he];exact hs
end
section
variable {P:Program} {w:y1} {mg:Str->Option Value} {base:Heap}
def z2q:Sp:=λ vs H Q _=>∃(a b:V),vs=[a,b]/\(IsA a\/a=.non)/\IsA b/\Q (.bl (decide (a=b))) H
theorem z9k (T:TX (KX w.params) mg):FnOk P w (KX w.params) mg base CX0 1 317 fd__law_alike ["one","other"] z2q:=by
 refine (z3a w.params).ok z93 (λ vs H Q E h=>?_) (λ cdv A outer s H vs Q E hr h=>?_)
 ·obtain ⟨a,b,rfl,_⟩:=h;rfl
 ·obtain ⟨a,b,rfl,ha,hb,q⟩:=h;refine ⟨_,(z05 (ps_ret (pe_and (z0o opEq (z08 z0i rfl (T.no (z0e _)) Z1 (z00 (pv 0) (z00 (z15 (v:=.ty "str") rfl (T.no (n_str _)) W9 rfl) pa_nil))) (z08 z0i rfl (T.no (z0e _)) Z1 (z00 (pv 1) (z00 (z15 (v:=.ty "str") rfl (T.no (n_str _)) W9 rfl) pa_nil))) (nomark _)) (pe_and (pe_not (z08 z0i rfl (T.no (z0e _)) Z1 (z00 (pv 0) (z00 (z15 (v:=.ty "bool") rfl (T.no (n_bool _)) j21 rfl) pa_nil)))) (pe_one (z0o opEq (pv 0) (pv 1) (nomark _))))))),?_⟩;have sc:=IsA.scal ha (.inl hb);have ta :∃T,TagOf H a T/\instB T "bool" = false/\(instB T "str" = true↔∃z,a=.str z):=by
   rcases ha with (⟨i,rfl⟩|⟨z,rfl⟩)|rfl
   ·exact ⟨_,rfl,rfl,by simp [instB]⟩
   ·exact ⟨_,rfl,rfl,by simp [instB]⟩
   ·exact ⟨_,rfl,rfl,by simp [instB]⟩
  have tb :∃T,TagOf H b T/\(instB T "str" = true↔∃z,b=.str z):=by
   rcases hb with ⟨i,rfl⟩|⟨z,rfl⟩
   ·exact ⟨_,rfl,by simp [instB]⟩
   ·exact ⟨_,rfl,by simp [instB]⟩
  obtain ⟨Ta,h1,h2,h3⟩:=ta;obtain ⟨Tb,h4,h5⟩:=tb;refine ⟨_,rfl,a,"str",Ta,rfl,h1,by decide,_,rfl,b,"str",Tb,rfl,h4,by decide,rfl,_,rfl,?_⟩;by_cases z:instB Ta "str" = instB Tb "str"
  ·refine iteP (by rw [z];exact decide_eq_true rfl) ?_;refine ⟨_,rfl,a,"bool",Ta,rfl,h1,by decide,_,rfl,?_⟩;rw [h2];exact ⟨_,rfl,iteT ⟨_,rfl,_,rfl,sc,q⟩⟩
  ·refine iteN (λ y=>z (by have:=of_decide_eq_true y;injection this)) ?_;rw [decide_eq_false (λ e=>z (by
    subst e;cases h:instB Tb "str" with
    | true=>exact h3.mpr (h5.mp h)
    | false=>
     cases h':instB Ta "str" with
     | false=>rfl
     | true=>rw [h5.mpr (h3.mp h')] at h;cases h))] at q
   exact q
theorem inV_ns (i:Int) (ns:List Nat):inV (.int i) (nsV ns)=ns.any λ (n:Nat)=>decide ((n:Int)=i):=by unfold inV nsV;rw [j31];congr 1
theorem zew (ns:List Nat):(nsV ns).all flatV=true:=by unfold nsV;rw [j32];exact List.all_eq_true.mpr λ _ _=>rfl
def z4s (K:b0):Sp:=λ vs H Q _=>∃(t o:Addr) (xs:List V) (ts:List (Str×Str)) (es:List Ev) (ps:List DD) (ds:List PyData) (m:Nat),vs=[.ref t,.str (z0u m),.ref o]/\TaleAt K H t ts es/\ThW ts/\es.length<=63/\EWf [] es/\All2 (RcGd K H ts) (dAll 0 [] es) ps/\H o=some (.lst xs)/\All2 (HPd H) ds xs/\ds.length<=100/\
 ∀b H',Same H H'->(b=true↔ExpP m ts (dAll 0 [] es) ps ds)->Q (.bl b) H'
theorem z96 (T:TX (KX w.params) mg) (c__law_acts:Cal P w (KX w.params) mg base "_law_acts" ["tale"] 1 (z35 (KX w.params))) (c__law_begun:Cal P w (KX w.params) mg base "_law_begun" ["kind"] 1 (z1n (KX w.params))) (c__law_does:Cal P w (KX w.params) mg base "_law_does" ["kind","state","verb","worth"] 1 (z1g (KX w.params))) (c__law_alike:Cal P w (KX w.params) mg base "_law_alike" ["one","other"] 1 z2q) (c__law_must:Cal P w (KX w.params) mg base "_law_must" ["acts","strictness","one","other"] 1 z34):FnOk P w (KX w.params) mg base CX0 2 347 fd__law_right ["tale","strictness","order"] (z4s (KX w.params)):=by
 refine (z3b w.params).ok sc__law_right (λ vs H Q E h=>?_) (λ cdv A outer s H vs Q E hr h=>?_)
 ·obtain ⟨t,o,xs,ts,es,ps,ds,m,rfl,_⟩:=h;rfl
 ·obtain ⟨t,o,xs,ts,es,ps,ds,m,rfl,⟨pt,te,ys,et,th,ete,al⟩,ok,e63,wf,gd,eo,ad,d100,q⟩:=h;refine ⟨_,(z02 (ps_set (i:=3) sc__law_right.nd rfl (by first|exact Y0 rfl|exact X0 rfl) (pe_cal c__law_acts (hr.mono (by first|decide|omega)) rfl (z00 (pv 0) pa_nil)))
   (z02 (ps_set (i:=4) sc__law_right.nd rfl (by first|exact Y0 rfl|exact X0 rfl) (z0h (z10 rfl) rfl (T.no (n_dict _)) W6 (z00 (z0s (xs:=["name","kind"]) (g:=gTup (KX w.params) 2 (gCons (gName 0) (gCons (gName 1) gNil))) (fr:=[]) rfl (pi_tup (pe_ix ix_seq (pv 0) pe_int (λ _ _=>rfl))) (λ _ z=>absurd z o0) (z1e rfl) (λ _ z=>absurd z o0) (by decide +kernel) rfl (by decide +kernel) (λ _ _ _ _ _=>(pg_tup rfl (z0a (z0j (N:=["name","kind"]) 0 (by decide +kernel) rfl rfl) (z0a (z0j (N:=["name","kind"]) 1 (by decide +kernel) rfl rfl) z12)))) (λ _ _ _ _ _=>pf_nil) (λ _ _ _ _ _=>(pe_tup (z00 (pv 0) (z00 (pe_cal c__law_begun (hr.mono (by first|decide|omega)) rfl (z00 (pv 1) pa_nil)) pa_nil))))) pa_nil)))
   (z02 (ps_set (i:=5) sc__law_right.nd rfl (by first|exact Y0 rfl|exact X0 rfl) (pe_lst pa_nil))
   (z02 (ps_for D2 rfl (z25 (pv 2)) (z0l (i:=6) sc__law_right.nd rfl (by first|exact Y0 rfl|exact X0 rfl))
   (z02 (ps_if (PW.pt (pw_or (pt_not (pt_val (z08 z0i rfl (T.no (z0e _)) Z1 (z00 (pv 6) (z00 (z15 (v:=.ty "tuple") rfl (T.no (z26 _)) S4 rfl) pa_nil))) (λ _=>rfl))) (pw_or (z09 opNe (z08 z0w rfl (T.no (n_len _)) W2 (z00 (pv 6) pa_nil)) pe_int (nomark _)) (pw_or1 (pt_val (z08 zaz rfl (T.no (z0e _)) Z1 (z00 (pe_ix ix_seq (pv 6) pe_int (λ _ _=>rfl)) (z00 (pe_tup (z00 (z15 (v:=.ty "bool") rfl (T.no (n_bool _)) j21 rfl) (z00 (z15 (v:=.ty "list") rfl (T.no (n_list _)) boot_list rfl) (z00 (z15 (v:=.ty "tuple") rfl (T.no (z26 _)) S4 rfl) (z00 (z15 (v:=.ty "dict") rfl (T.no (n_dict _)) W6 rfl) pa_nil))))) pa_nil))) (λ _=>rfl))))))
   (z05 (ps_ret pe_bl))
   z0d)
   (z02 (ps_if (PW.pt (pw_or (pt_not (pt_val (z08 z0i rfl (T.no (z0e _)) Z1 (z00 (pe_ix ix_seq (pv 6) pe_int (λ _ _=>rfl)) (z00 (z15 (v:=.ty "int") rfl (T.no (n_int _)) X9 rfl) pa_nil))) (λ _=>rfl))) (pw_or (pt_val (z08 z0i rfl (T.no (z0e _)) Z1 (z00 (pe_ix ix_seq (pv 6) pe_int (λ _ _=>rfl)) (z00 (z15 (v:=.ty "bool") rfl (T.no (n_bool _)) j21 rfl) pa_nil))) (λ _=>rfl)) (pw_or1 (z09 z1z (pe_ix ix_seq (pv 6) pe_int (λ _ _=>rfl)) (pv 5) (by with_unfolding_all rfl))))))
   (z05 (ps_ret pe_bl))
   z0d)
   (z02 (ps_if (PW.pt (pw_or (z09 op_lt (pe_ix ix_seq (pv 6) pe_int (λ _ _=>rfl)) pe_int (nomark _)) (pw_or1 (z09 op_ge (pe_ix ix_seq (pv 6) pe_int (λ _ _=>rfl)) (z08 z0w rfl (T.no (n_len _)) W2 (z00 (pv 3) pa_nil)) (nomark _)))))
   (z05 (ps_ret pe_bl))
   z0d)
   (z02 (ps_set (i:=7) sc__law_right.nd rfl (by first|exact Y0 rfl|exact X0 rfl) (pe_ix ix_seq (pv 3) (pe_ix ix_seq (pv 6) pe_int (λ _ _=>rfl)) (λ _ _=>rfl)))
   (z02 (ps_set (i:=8) sc__law_right.nd rfl (by first|exact Y0 rfl|exact X0 rfl) (pe_ix ix_seq (pv 7) pe_int (λ _ _=>rfl)))
   (z02 (ps_asg (pe_cal c__law_does (hr.mono (by first|decide|omega)) rfl (z00 (z24 (hu_of hr) (z0h (z10 rfl) rfl (T.no (n_dict _)) W6 (z00 (pe_ix ix_seq (pv 0) pe_int (λ _ _=>rfl)) pa_nil)) (pv 8) (λ _ _=>rfl)) (z00 (z24 (hu_of hr) (pv 4) (pv 8) (λ _ _=>rfl)) (z00 (pe_ix ix_seq (pv 7) pe_int (λ _ _=>rfl)) (z00 (pe_ix ix_seq (pv 7) pe_int (λ _ _=>rfl)) pa_nil))))) (pg_tup rfl (z0a (pg_sub (pv 4) (pv 8) (zba (hu_of hr))) (z0a (z0l (i:=9) sc__law_right.nd rfl (by first|exact Y0 rfl|exact X0 rfl)) z12))))
   (z02 (ps_if (PW.pt (pw_or (pt_not (pt_val (pe_cal c__law_alike (hr.mono (by first|decide|omega)) rfl (z00 (pe_ix ix_seq (pv 6) pe_int (λ _ _=>rfl)) (z00 (pv 9) pa_nil))) (λ _=>rfl))) (pw_or1 (PW.pt (pw_and (z09 z8n (pe_ix ix_seq (pv 7) pe_int (λ _ _=>rfl)) pe_non (nomark _)) (z6o (pt_not (pt_val (pe_cal c__law_alike (hr.mono (by first|decide|omega)) rfl (z00 (pe_ix ix_seq (pv 6) pe_int (λ _ _=>rfl)) (z00 (pe_ix ix_seq (pv 7) pe_int (λ _ _=>rfl)) pa_nil))) (λ _=>rfl)))))))))
   (z05 (ps_ret pe_bl))
   z0d)
   (z02 (ps_for D2 rfl (z25 (pv 5)) (z0l (i:=10) sc__law_right.nd rfl (by first|exact Y0 rfl|exact X0 rfl))
   (z05 (ps_if (pt_val (pe_cal c__law_must (hr.mono (by first|decide|omega)) rfl (z00 (pv 3) (z00 (pv 1) (z00 (pe_ix ix_seq (pv 6) pe_int (λ _ _=>rfl)) (z00 (pv 10) pa_nil))))) (λ _=>rfl))
   (z05 (ps_ret pe_bl))
   z0d)))
   (z05 (z1c (z1d (pv 5) (z00 (pe_ix ix_seq (pv 6) pe_int (λ _ _=>rfl)) pa_nil)))))))))))))
   (z05 (ps_ret (z0o (zc5 hr) (z0s (xs:=["k"]) (g:=gName 0) (fr:=[(5,"seats"),(3,"acts")]) rfl (z2w rfl (T.no (z6y _)) (z00 (z08 z0w rfl (T.no (n_len _)) W2 (z00 (pv 3) pa_nil)) pa_nil)) (by intro p hp;simp only [T0,o0,or_false] at hp;rcases hp with rfl|rfl<;>first|exact ⟨rfl,.inl rfl⟩|exact ⟨rfl,.inr rfl⟩) (zep (ns:=["seats","acts"]) (by decide +kernel) (by intro n hn k;simp only [T0,o0,or_false] at hn;rcases hn with rfl|rfl<;>first|exact .inl rfl|exact .inr rfl)) (by intro p hp;simp only [T0,o0,or_false] at hp;rcases hp with rfl|rfl<;>exact ⟨by decide +kernel,by first|exact .inl rfl|exact .inr rfl⟩) (by decide +kernel) rfl (by decide +kernel) (λ _ _ _ _ _=>(z0j (N:=["k","seats","acts"]) 0 (by decide +kernel) rfl rfl)) (λ _ _ _ _ _=>(pf_one (PW.pt (pw_and (z09 z8n (pe_ix (z2p (K:=KX w.params) rfl) (pe_ix (z2p (K:=KX w.params) rfl) (pv 2) (pv 0) (λ _ _=>rfl)) pe_int (λ _ _=>rfl)) pe_non (nomark _)) (z6o (z09 (z4t (K:=KX w.params) rfl) (pv 0) (pv 1) (by with_unfolding_all rfl))))))) (λ _ _ _ _ _=>(pv 0))) (pe_lst pa_nil) (nomark _)))))))),?_⟩
  refine ⟨_,rfl,t,te,.ref pt,ys,es,rfl,SqT.of et,SqT.of ete,al,by omega,wf,λ l zs H1 s1 el aa=>?_⟩;refine g_name (t_nx ?_);obtain ⟨dw,os,DI⟩:=DInv.all DInv.nil wf;have irr :∀n,z0x m (dAll 0 [] es) n n=false:=λ n=>zge;have rl:(dAll 0 [] es).length<=63:=by have:=z5a (i:=0) (rs:=[]) es;simp only [G2,K4] at this;omega
  generalize dAll 0 [] es=rs at *;have lz:zs.length=rs.length:=z03 aa;have lx:xs.length=ds.length:=z03 ad;obtain ⟨yt,eyt,alt⟩:=th;refine z8r ?_;refine z1o (K:=KX w.params) (a:=pt) (xs:=yt) (H1:=H1) (λ _=>true) (λ i y H'=>∃t b v,ts[i]? = some t/\y=.ref b/\H' b=some (.tup [.str t.1,v])/\StZ (KX w.params) H' (zeroK t.2) v) (λ _ _ _ _ s ⟨t,b,v,h1,h2,h3,h4⟩=>⟨t,b,v,h1,h2,s _ _ h3,h4.tups (.of s)⟩) (λ R h=>⟨_,rfl,.inr (.inl ⟨t,_,0,.ref pt,rfl,rfl,SqT.of (s1 _ _ et),z04 (j:=0) rfl,h⟩)⟩) (s1.seqT (SqT.of eyt)) (G0 (m:=6) (by rw [z03 alt];exact ok.n6) (by decide)) ?_ ?_
  ·intro i hi v H2 s2 hv KT KF k1 k2;obtain ⟨t,ht,b,rfl,eb⟩:=z0g alt hv;have eb2:=(s1.trans s2) _ _ eb;refine ⟨b,_,rfl,SqT.of eb2,rfl,_,_,rfl,_,_,rfl,rfl,[some (.str t.1),some (.str t.2)],rfl,rfl,iteT ?_⟩;exact ⟨_,rfl,_,rfl,t.2,rfl,λ u H4 s4 sa=>⟨(show (2:Nat)<=sizeLine by decide),λ p hp=>k1 rfl _ _ (s4.trans (Same.upd hp)) ⟨t,p,u,ht,rfl,upd_same,sa.tups (.of (Same.upd hp))⟩⟩⟩
  intro l2 H2 ys2 s2 hl2 al2;rw [List.filter_eq_self.mpr (λ _ _=>rfl),z03 alt] at al2;have s3:=Same.upd (o:=.lst ys2) hl2;have e3:upd H2 l2 (.lst ys2) l2=some (.lst ys2):=upd_same;generalize upd H2 l2 (.lst ys2)=H3 at s3 e3⊢;obtain ⟨kvs,ek,al3,fk⟩ :∃kvs:List (Key×V),kvs.map (·.1)=ts.map (λ t=>(.inr t.1:Key))/\All2 (λ (p:Key×V) y=>∃b,y=.ref b/\SqT (KX w.params) H3 b [kV p.1,p.2]) kvs ys2/\∀t∈ts,∃v,((.inr t.1:Key),v)∈kvs/\StZ (KX w.params) H3 (zeroK t.2) v:=firsts s3 al2;refine ⟨l2,ys2,kvs,rfl,.inl e3,al3,λ d hd=>?_⟩;have s4:=Same.upd (o:=.dK (mergeK [] kvs)) hd;have e4:upd H3 d (.dK (mergeK [] kvs)) d=some (.dK (mergeK [] kvs)):=upd_same;have st4:StD (KX w.params) (upd H3 d (.dK (mergeK [] kvs))) d 0 ts (z0 ts):=by
   refine ⟨_,e4,?_,λ t ht=>?_⟩
   ·have h1:=z16 (more:=kvs) (acc:=[]);have h2:=congrArg S5 ek;rw [D0,D0] at h2;have:=ok.n6;rw [G2,K4] at h1;omega
   ·obtain ⟨v,hv,sa⟩:=fk t ht;rw [z0_of ok ht];refine ⟨z7a _,v,z13 ?_ hv,sa.tups (.of s4)⟩;rw [ek,show (ts.map λ t=>(Sum.inr t.1:Key))=(ts.map (·.1)).map Sum.inr by rw [S3];rfl];exact Q4 _ (λ a b h e=>h (B5 e)) ok.nd
  have fd1:H1 d=none:=(s2.trans s3).free hd;have fd:H d=none:=s1.free fd1;have t14:Same H1 (upd H3 d (.dK (mergeK [] kvs))):=(s2.trans s3).trans s4;generalize upd H3 d (.dK (mergeK [] kvs))=H4 at s4 st4 t14⊢;refine g_name ?_;refine ⟨(show (0:Nat)<=sizeLine by decide),λ le hle=>?_⟩;have nde:d≠le:=λ z=>by obtain ⟨kv,e,_⟩:=st4;rw [z,hle] at e;cases e
  have st5:=st4.tt (.of (Same.upd (o:=.lst []) hle)) (λ o e=>(Same.upd (o:=.lst []) hle) _ _ e);have t15:Same H1 (upd H4 le (.lst [])):=t14.trans (Same.upd hle);have fe1:H1 le=none:=t14.free hle;have fe:H le=none:=s1.free fe1;have e5:upd H4 le (.lst []) le=some (.lst []):=upd_same;generalize upd H4 le (.lst [])=H5 at st5 t15 e5⊢;refine g_name ?_;refine ⟨_,rfl,o,rfl,⟨xs,SqL.of (t15 _ _ (s1 _ _ eo))⟩,?_⟩;refine z48 (K:=KX w.params) (a:=o) (xs:=xs) (λ i σ H'=>∃st:List (Nat×V),Same H1 H'/\InvR m ts rs ps ds i st/\st.length=i/\H' le=some (.lst (nsV (st.map (·.1))))/\StD (KX w.params) H' d i ts (runS ps (z0 ts) st)/\∃x6 x7 x8 x9 x10,σ=[some (.ref t),some (.str (z0u m)),some (.ref o),some (.ref l),some (.ref d),some (.ref le),x6,x7,x8,x9,x10])
   ⟨[],t15,⟨by rw [X8];exact .nil,GoodR.nil⟩,rfl,e5,st5,_,_,_,_,_,rfl⟩ (λ i σ H' _ h=>SqL.of (h.choose_spec.1 _ _ (s1 _ _ eo))) ?_ ?_
  ·rintro i x σ H6 hx ⟨st,s6,IR,sl,e6,st6,x6,x7,x8,x9,x10,rfl⟩;obtain ⟨dd,hdd,hp⟩:=z0g ad hx;have h6:=hp.same (s1.trans s6);have bad :∀H',Same H1 H'->(∀s,stepO rs.length dd=some s->¬ GoodR m ts rs ps (st++[s]))->Q (.bl false) H':=λ H' s' hb=>q _ _ (s1.trans s') ⟨λ z=>(by cases z),λ z=>by obtain ⟨s,h1,h2⟩:=ziz irr IR hdd z;exact absurd h2 (hb s h1)⟩;have bad0 :∀H',Same H1 H'->stepO rs.length dd=none->Q (.bl false) H':=λ H' s' hb=>bad H' s' λ s e=>by rw [hb] at e;cases e
   refine sq_if (t_or ?_);rcases tup_D h6 with ⟨e1,e2⟩|⟨dl,zl,rfl,e2,hal⟩
   ·have e:stepO rs.length dd=none:=by cases dd<;>first|rfl|cases e1
    refine ⟨_,rfl,x,"tuple",_,rfl,z2b h6,by decide,_,rfl,?_⟩;refine iteP (show (!instB (tagD dd) "tuple")=true by cases dd<;>first|rfl|cases e1) (iteT (bad0 _ s6 e))
   obtain ⟨p,zl',rfl,ep,_⟩:=h6;have ez:zl'=zl:=by unfold tupOf at e2;dsimp only at e2;rw [ep] at e2;cases e2;rfl
   subst ez;refine ⟨_,rfl,_,"tuple",_,rfl,.inr (.inl ⟨⟨_,ep⟩,rfl⟩),by decide,_,rfl,?_⟩;refine iteN (by decide) (t_or ?_);refine ⟨_,rfl,.inl ⟨p,_,rfl,.inr (SqT.of ep),?_⟩⟩;refine ⟨rfl,_,rfl,?_⟩;by_cases ht:((zl'.length:Nat):Int)=2;rotate_left
   ·exact iteP (show (!decide (V.int (zl'.length:Nat)=V.int 2))=true by rw [decide_eq_false (λ z=>ht (V.int.inj z))];rfl) (iteT (bad0 _ s6 (zhy (by rw [z03 hal] at ht;exact ht))))
   obtain ⟨a,b,u,v,rfl,rfl,hu,hv⟩:=two_of hal ht;refine iteN (by show ¬ (!decide (V.int 2=V.int 2))=true;decide) ?_;refine ⟨_,rfl,.inr (.inl ⟨p,_,1,v,rfl,rfl,SqT.of ep,z04 (j:=1) rfl,?_⟩)⟩;refine ⟨(show (4:Nat)<=sizeLine by decide),λ pq hpq=>?_⟩;have s67:=Same.upd (o:=.tup [.ty "bool",.ty "list",.ty "tuple",.ty "dict"]) hpq;have e67:upd H6 pq (.tup [.ty "bool",.ty "list",.ty "tuple",.ty "dict"]) pq=_:=upd_same;refine ⟨v,pq,_,rfl,upd_same,(z2b hv).same s67,_,rfl,?_⟩;have st7:=st6.tt (.of s67) (λ o e=>s67 _ _ e);have e7:=s67 _ _ e6;have ep7:=s67 _ _ ep;have hu7:=hu.same s67;have hv7:=hv.same s67;have s7:=s6.trans s67;clear st6 e6 ep hal hp hu hv e67 e2;generalize upd H6 pq (.tup [.ty "bool",.ty "list",.ty "tuple",.ty "dict"])=H7 at *;cases n4:is4B (tagD b) with
   | true=>exact iteP rfl (bad0 _ s7 (zg4 (λ z=>by rw [z] at n4;cases n4) (λ z=>by rw [z] at n4;cases n4)))
   | false=>
   refine iteN (by decide) ?_;refine t_nx (sq_if (t_or ?_));refine ⟨_,rfl,.inr (.inl ⟨p,_,0,u,rfl,rfl,SqT.of ep7,z04 (j:=0) rfl,u,"int",_,rfl,z2b hu7,by decide,_,rfl,?_⟩)⟩;have ka:(∃i,a=.int i)\/(∃z,a=.bool z)\/instB (tagD a) "int" = false:=by cases a<;>first|exact .inl ⟨_,rfl⟩|exact .inr (.inl ⟨_,rfl⟩)|exact .inr (.inr rfl)
   rcases ka with ⟨i,rfl⟩|⟨z,rfl⟩|ka;rotate_left
   ·refine iteN (show ¬ (!instB "bool" "int")=true by decide) (t_or ?_);refine ⟨_,rfl,.inr (.inl ⟨p,_,0,u,rfl,rfl,SqT.of ep7,z04 (j:=0) rfl,u,"bool",_,rfl,z2b hu7,by decide,_,rfl,?_⟩)⟩;exact iteP rfl (iteT (bad0 _ s7 (z81 λ i e=>by cases e)))
   ·exact iteP (show (!instB (tagD a) "int")=true by rw [ka];rfl) (iteT (bad0 _ s7 (z81 λ i e=>by rw [e] at ka;cases ka)))
   cases (show u=.int i from hu7);refine iteN (show ¬ (!instB "int" "int")=true by decide) (t_or ?_);refine ⟨_,rfl,.inr (.inl ⟨p,_,0,.int i,rfl,rfl,SqT.of ep7,z04 (j:=0) rfl,.int i,"bool",_,rfl,z2b hu7,by decide,_,rfl,?_⟩)⟩;refine iteN (show ¬ instB "int" "bool" = true by decide) ?_;refine ⟨_,rfl,.inr (.inl ⟨p,_,0,.int i,rfl,rfl,SqT.of ep7,z04 (j:=0) rfl,?_⟩)⟩;refine ⟨_,rfl,le,_,rfl,.inl (SqL.of e7),rfl,zew _,_,rfl,?_⟩;rw [inV_ns];have form :∀s,stepO rs.length (.tuple [.int i,b])=some s->(s.1:Int)=i/\s.1 < rs.length/\s.2=v:=λ s hs=>by
    obtain ⟨b',h1,h2,h3⟩:=z2h hs;injection h1 with h1;injection h1 with h4 h5;injection h4 with h4;injection h5 with h5;refine ⟨h4.symm,h2,?_⟩;rcases h3 with ⟨j,rfl,e⟩|⟨j,rfl,e⟩
    ·rw [h5] at hv7;rw [e];exact (show v=.int j from hv7).symm
    ·rw [h5] at hv7;rw [e];exact (show v=.str j from hv7).symm
   by_cases hin:((st.map (·.1)).any λ (n:Nat)=>decide ((n:Int)=i))=true
   ·refine iteP hin (bad _ s7 λ s hs g=>?_);obtain ⟨n,hn,e⟩:=List.any_eq_true.mp hin;have e:=of_decide_eq_true e;have nd:=g.nd;rw [L1,N6] at nd;exact nd.2.2 n hn s.1 (by simp) (by have:=(form s hs).1;omega)
   refine iteN hin ?_;refine t_nx (sq_if (t_or ?_));refine ⟨_,rfl,.inr (.inl ⟨p,_,0,.int i,rfl,rfl,SqT.of ep7,z04 (j:=0) rfl,?_⟩)⟩;refine ⟨i,0,rfl,rfl,_,rfl,?_⟩;by_cases hi:0<=i/\i < rs.length;rotate_left
   ·by_cases h0:i < 0
    ·exact iteP (decide_eq_true h0) (iteT (bad0 _ s7 (z7w hi)))
    ·refine iteN (λ z=>h0 (of_decide_eq_true z)) ?_;refine ⟨_,rfl,.inr (.inl ⟨p,_,0,.int i,rfl,rfl,SqT.of ep7,z04 (j:=0) rfl,?_⟩)⟩;refine ⟨_,rfl,.inl ⟨l,zs,rfl,.inl (SqL.of (s7 _ _ el)),i,_,rfl,rfl,_,rfl,?_⟩⟩;exact iteP (decide_eq_true (by omega)) (bad0 _ s7 (z7w hi))
   refine iteN (λ z=>by have:=of_decide_eq_true z;omega) ?_;refine ⟨_,rfl,.inr (.inl ⟨p,_,0,.int i,rfl,rfl,SqT.of ep7,z04 (j:=0) rfl,?_⟩)⟩;refine ⟨_,rfl,.inl ⟨l,zs,rfl,.inl (SqL.of (s7 _ _ el)),i,_,rfl,rfl,_,rfl,?_⟩⟩;refine iteN (λ z=>by have:=of_decide_eq_true z;omega) ?_;obtain ⟨n,rfl⟩:=Int.eq_ofNat_of_zero_le hi.1;have hn:n < rs.length:=by omega
   obtain ⟨y,hy,pa,rfl,ea⟩:=z18 aa (J0 hn);obtain ⟨dd,hdd2,g1,g2,hm,dk,ix,wi,ga⟩:=z18 gd (J0 hn);have hr2:rs[n]? = some rs[n]:=J0 hn;generalize rs[n]=r at *;rw [g1,g2] at ea;have ea7:=s7 _ _ ea;refine t_nx ?_;refine ⟨_,rfl,_,rfl,.inr (.inl ⟨p,_,0,.int n,rfl,rfl,SqT.of ep7,z04 (j:=0) rfl,?_⟩)⟩;refine .inl ⟨l,zs,n,.ref pa,rfl,rfl,SqL.of (s7 _ _ el),z04 hy,?_⟩;refine g_name (t_nx ?_);refine ⟨_,rfl,.inl ⟨pa,_,1,.str dd.nm,rfl,rfl,SqL.of ea7,z04 (j:=1) rfl,?_⟩⟩;refine g_name (t_nx ?_);have s17:=s1.trans s7;have T7:Tt (KX w.params) H H7:=.of s17;refine ⟨_,rfl,.inr (.inl ⟨t,_,0,.ref pt,rfl,rfl,SqT.of (s17 _ _ et),z04 (j:=0) rfl,pt,yt,thK ts,rfl,.inr (s17 _ _ eyt),zf3 (z01 (λ _ _ z=>z.elim λ b y=>⟨b,y.1,s17 _ _ y.2⟩) alt),λ pd hpd=>?_⟩)⟩;have s8:=Same.upd (o:=.dK (mergeK [] (thK ts))) hpd;have dg:DGet (upd H7 pd (.dK (mergeK [] (thK ts)))) pd (.str dd.nm) (some (.str dd.k)):=by have:=DGet.k (k:=.inr dd.nm) (upd_same (H:=H7) (a:=pd) (o:=.dK (mergeK [] (thK ts))));rw [z13 (zav ok.nd) (List.mem_map.mpr ⟨(dd.nm,dd.k),hm,rfl⟩)] at this;exact this
   refine ⟨_,rfl,pd,.str dd.k,rfl,dg,?_⟩;have st8:=st7.tt (.of s8) (λ o e=>s8 _ _ e);generalize upd H7 pd (.dK (mergeK [] (thK ts)))=H8 at s8 st8⊢;obtain ⟨kv8,ed8,hl8,f8⟩:=st8;obtain ⟨so,v8,hv8,sz⟩:=f8 _ hm;have dgs:DGet H8 d (.str dd.nm) (some v8):=by have:=DGet.k (k:=.inr dd.nm) ed8;rw [hv8] at this;exact this
   have nin:n∉st.map (·.1):=λ z=>hin (List.any_eq_true.mpr ⟨n,z,decide_eq_true rfl⟩);have i63:i < 63:=by
    have:=z2x rs.length (n :: st.map (·.1)) (List.nodup_cons.mpr ⟨nin,IR.gd.nd⟩) λ x hx=>by
     rcases List.mem_cons.mp hx with z|z
     ·omega
     ·obtain ⟨s',hs',rfl⟩:=List.mem_map.mp z;obtain ⟨d',_,hd'⟩:=z51 IR.so hs';exact (z2h hd').elim λ b z=>z.2.1
    rw [W0,D0] at this;omega
   have T8:Tt (KX w.params) H H8:=.of (s17.trans s8);refine ⟨_,rfl,_,rfl,d,v8,rfl,dgs,?_⟩;refine ⟨_,rfl,.inl ⟨pa,_,2,.str dd.vb,rfl,rfl,SqL.of (s8 _ _ ea7),z04 (j:=2) rfl,?_⟩⟩;refine ⟨_,rfl,.inl ⟨pa,_,3,r.x,rfl,rfl,SqL.of (s8 _ _ ea7),z04 (j:=3) rfl,?_⟩⟩;refine ⟨dd.k,dd.vb,v8,r.x,dd.dt,i,_,rfl,so,sz,i63,dk,IsDt.mono' T8.t _ _ ix,wi.tt T8,λ p9 v9 H9 s9 e9 sz9=>?_⟩;have zok:=dz_ok dk so i63;refine ⟨p9,_,rfl,SqT.of e9,rfl,v9,_,rfl,_,rfl,_,rfl,d,_,rfl,DPut.k (k:=.inr dd.nm) (s9 _ _ ed8) (C1 (m:=100) (by omega) (by decide)),_,_,rfl,rfl,?_⟩;have st10:=StD.put ok s9 ed8 hl8 f8 hm zok.1 sz9;have s10:Same H1 (upd H9 d (.dK (putK kv8 (.inr dd.nm) v9))):=Same.keep (s7.trans (s8.trans s9)) fd1;have ndp:p≠d:=λ z=>by have:=s8 _ _ ep7;rw [z,ed8] at this;cases this
   have ep10:upd H9 d (.dK (putK kv8 (.inr dd.nm) v9)) p=some (.tup [.int n,v]):=by rw [upd_ne ndp];exact (s8.trans s9) _ _ ep7
   have ela:upd H9 d (.dK (putK kv8 (.inr dd.nm) v9)) le=some (.lst (nsV (st.map (·.1)))):=by rw [upd_ne (λ z=>nde z.symm)];exact (s8.trans s9) _ _ e7
   generalize upd H9 d (.dK (putK kv8 (.inr dd.nm) v9))=H10 at st10 s10 ep10 ela⊢;have kv:IsA v\/v=.non:=by cases b<;>first|exact .inr hv7|exact .inl (.inl ⟨_,hv7⟩)|exact .inl (.inr ⟨_,hv7⟩)|cases n4
   have badv :∀H',Same H1 H'->((dz dd.k dd.vb dd.dt (runS ps (z0 ts) st dd.nm)).2=v->(r.e.isSome=true->v=r.a)->PwP m rs (st.map (·.1)++[n])->False)->Q (.bl false) H':=λ H' s' hb=>bad H' s' λ s hs g=>by
    obtain ⟨f1,f2,f3⟩:=form s hs;have f1:s.1=n:=by omega
    obtain ⟨_,pp,h1,h2,_⟩:=DoneS.app.mp g.dn;rw [f1,hdd2] at h1;cases h1;have pw:=g.pw;rw [L1] at pw;refine hb (h2.trans f3) (λ he=>?_) (by rw [<-f1];exact pw);rw [<-f3];exact g.an s (by simp) r (by rw [f1];exact hr2) he
   have ea10:=s10 _ _ ea;refine t_nx (z1t (λ σ1 H11=>H11=H10/\(dz dd.k dd.vb dd.dt (runS ps (z0 ts) st dd.nm)).2=v/\(r.e.isSome=true->v=r.a)/\σ1=[some (.ref t),some (.str (z0u m)),some (.ref o),some (.ref l),some (.ref d),some (.ref le),some (.ref p),some (.ref pa),some (.str dd.nm),some (dz dd.k dd.vb dd.dt (runS ps (z0 ts) st dd.nm)).2,x10]) ?_ λ tl=>?_);rotate_left
   ·refine t_or ?_;refine ⟨_,rfl,.inr (.inl ⟨p,_,1,v,rfl,rfl,SqT.of ep10,z04 (j:=1) rfl,_,rfl,v,_,rfl,kv,zok.2.isA,_,rfl,?_⟩)⟩;by_cases hv1:v=(dz dd.k dd.vb dd.dt (runS ps (z0 ts) st dd.nm)).2;rotate_left
    ·exact iteP (by rw [decide_eq_false hv1];rfl) (iteT (badv _ s10 λ z _ _=>hv1 z.symm))
    refine iteN (by rw [decide_eq_true hv1];decide) ?_;refine ⟨_,rfl,.inl ⟨pa,_,6,endV r.e,rfl,rfl,SqL.of ea10,z04 (j:=6) rfl,rfl,_,rfl,?_⟩⟩;cases re:r.e with
    | none=>exact iteN (by show ¬ (!decide (V.non=V.non))=true;decide) (iteF (tl _ _ ⟨rfl,hv1.symm,λ z=>(by rw [re] at z;cases z),rfl⟩))
    | some e=>
    refine iteP rfl ?_;have rA:IsA r.a:=by
     rcases ga with ⟨g,_⟩|⟨_,g⟩
     ·rw [re] at g;cases g
     ·exact g.isA
    refine ⟨_,rfl,.inr (.inl ⟨p,_,1,v,rfl,rfl,SqT.of ep10,z04 (j:=1) rfl,?_⟩)⟩;refine ⟨_,rfl,.inl ⟨pa,_,4,r.a,rfl,rfl,SqL.of ea10,z04 (j:=4) rfl,v,r.a,rfl,kv,rA,_,rfl,?_⟩⟩;by_cases hv2:v=r.a
    ·exact iteN (by rw [decide_eq_true hv2];decide) (tl _ _ ⟨rfl,hv1.symm,λ _=>hv2,rfl⟩)
    ·exact iteP (by rw [decide_eq_false hv2];rfl) (badv _ s10 λ _ z _=>hv2 (z (by rw [re];rfl)))
   rintro σ1 H11 ⟨rfl,hv1,hv2,rfl⟩;refine ⟨_,rfl,le,rfl,⟨_,SqL.of ela⟩,?_⟩;refine z48 (K:=KX w.params) (a:=le) (xs:=nsV (st.map (·.1))) (λ j σ H'=>H'=H11/\(∀k a,k < j->(st.map (·.1))[k]? = some a->z0x m rs n a=false)/\∃x10,σ=[some (.ref t),some (.str (z0u m)),some (.ref o),some (.ref l),some (.ref d),some (.ref le),some (.ref p),some (.ref pa),some (.str dd.nm),some (dz dd.k dd.vb dd.dt (runS ps (z0 ts) st dd.nm)).2,x10])
    ⟨rfl,λ k a hk=>absurd hk (n5 _),_,rfl⟩ (λ _ σ H' _ h=>by rw [h.1];exact SqL.of ela) ?_ ?_
   ·rintro j y σ H12 hy ⟨rfl,fj,x10,rfl⟩;obtain ⟨a,ha,rfl⟩ :∃a,(st.map (·.1))[j]? = some a/\y=.int (a:Nat):=by unfold nsV at hy;rw [V0] at hy;obtain ⟨a,h1,h2⟩:=Option.map_eq_some_iff.mp hy;exact ⟨a,h1,h2.symm⟩
    have am:=R0 ha;have al9:a < rs.length:=by obtain ⟨s',hs',rfl⟩:=List.mem_map.mp am;obtain ⟨d',_,hd'⟩:=z51 IR.so hs';exact (z2h hd').elim λ b z=>z.2.1
    refine g_name ?_;refine ⟨_,rfl,_,rfl,_,rfl,.inr (.inl ⟨p,_,0,.int n,rfl,rfl,SqT.of ep10,z04 (j:=0) rfl,_,rfl,l,zs,rs,_,m,n,a,os,rfl,s10 _ _ el,z01 (λ _ _ z=>ActAt.same s10 z) aa,DI,hn,al9,_,rfl,?_⟩)⟩;cases hah:z0x m rs n a with
    | true=>refine iteT (badv _ s10 λ _ _ pw=>?_);have:=(List.pairwise_append.mp pw).2.2 a am n (List.mem_singleton.mpr rfl);rw [hah] at this;cases this
    | false=>
     refine iteF ⟨rfl,λ k a' hk hk'=>?_,_,rfl⟩;by_cases z:k=j
     ·subst z;rw [ha] at hk';cases hk';exact hah
     ·exact fj k a' (by omega) hk'
   ·rintro σ H12 ⟨rfl,fj,x10,rfl⟩;have fa :∀a∈st.map (·.1),z0x m rs n a=false:=λ a ha=>by obtain ⟨k,hk⟩:=List.mem_iff_getElem?.mp ha;exact fj k a (by unfold nsV;rw [D0];exact (List.getElem?_eq_some_iff.mp hk).1) hk
    have hs:stepO rs.length (.tuple [.int (n:Nat),b])=some (n,v):=by
     rcases kv with k|k
     ·cases b with
      | int j=>rw [zc6,if_pos ⟨by omega,by omega⟩,show v=.int j from hv7];rfl
      | str j=>rw [zbe,if_pos ⟨by omega,by omega⟩,show v=.str j from hv7];rfl
      | none=>cases (show v=.non from hv7);rcases k with ⟨_,k⟩|⟨_,k⟩<;>cases k
      | bool j=>cases n4
      | list j=>cases n4
      | tuple j=>cases n4
      | dict j=>cases n4
     ·rw [<-hv1] at k;rcases zok.2.isA with ⟨_,z⟩|⟨_,z⟩<;>(rw [z] at k;cases k)
    have g:GoodR m ts rs ps (st++[(n,v)]):=by
     refine ⟨?_,?_,?_,?_⟩
     ·rw [L1,N6];exact ⟨IR.gd.nd,by simp,λ a ha b hb e=>nin (by have hb:=(show b=n from List.mem_singleton.mp hb);rw [<-hb,<-e];exact ha)⟩
     ·intro s hs' r' hr' he;rcases List.mem_append.mp hs' with z|z
      ·exact IR.gd.an s z r' hr' he
      ·rw [List.mem_singleton.mp z] at hr'⊢;have hr':rs[n]? = some r':=hr';rw [hr2] at hr';cases hr';exact hv2 he
     ·unfold PwP;rw [L1];refine List.pairwise_append.mpr ⟨IR.gd.pw,by simp,λ a ha b hb=>?_⟩;rw [show b=n from List.mem_singleton.mp hb];exact fa a ha
     ·exact DoneS.app.mpr ⟨IR.gd.dn,dd,hdd2,hv1,trivial⟩
    refine ⟨_,rfl,.inl ⟨rfl,_,SqL.of ela⟩,?_⟩;refine ⟨_,rfl,.inr (.inl ⟨p,_,0,.int n,rfl,rfl,SqT.of ep10,z04 (j:=0) rfl,?_⟩)⟩;refine ⟨le,_,_,rfl,rfl,ela,C1 (m:=100) (by unfold nsV;rw [D0,D0];omega) (by decide),?_⟩;refine ⟨st++[(n,v)],Same.keep s10 fe1,IR.snoc hdd hs g,by rw [K0];show st.length + 1=_;omega,?_,?_,_,_,_,_,_,rfl⟩
    ·rw [upd_same,L1];unfold nsV;rw [L1];rfl
    ·have rn:runS ps (z0 ts) (st++[(n,v)])=setZ (runS ps (z0 ts) st) dd.nm (dz dd.k dd.vb dd.dt (runS ps (z0 ts) st dd.nm)).1:=by unfold runS;rw [G4,i5,List.foldl_nil,hdd2]
     rw [rn];exact st10.tt (Tups.lst ela) λ o e=>by rw [upd_ne nde];exact e
  ·rintro σ H6 ⟨st,s6,IR,sl,e6,st6,x6,x7,x8,x9,x10,rfl⟩;rw [lx] at IR;have iff:=zk7 irr IR;refine t_nx (sq_ret ?_);refine z56 (S:=Same) (n:=zs.length) (λ k=>((rs[k]?.map λ r=>r.e.isSome).getD false) && !((st.map (·.1)).any λ (n:Nat)=>decide ((n:Int)=(k:Nat)))) (λ k y _=>y=.int (k:Nat)) (Same.refl _) (λ _ _ _ a b=>a.trans b) (λ _ _=>Same.refl _) (λ _ _ _ _ _ z=>z) (λ R h=>⟨_,rfl,.inl ⟨l,zs,rfl,.inl (SqL.of (s6 _ _ el)),h⟩⟩) (G0 (m:=63) (by omega) (by decide)) (λ k hk H7 s7 KT KF h1 h2=>?_) λ l7 H7 us s7 hl7 fa=>?_
   ·have hk':k < rs.length:=by omega
    obtain ⟨y,hy,pk,rfl,ek⟩:=z18 aa (J0 hk');have hrk:rs[k]? = some rs[k]:=J0 hk';generalize rs[k]=r at *;rw [hrk] at h1 h2;have s17:=s6.trans s7;refine ⟨[some (.int (k:Nat))],rfl,rfl,?_⟩;refine ⟨_,rfl,_,rfl,.inl ⟨l,zs,k,.ref pk,rfl,rfl,SqL.of (s17 _ _ el),z04 hy,.inl ⟨pk,_,6,endV r.e,rfl,rfl,SqL.of (s17 _ _ ek),z04 (j:=6) rfl,rfl,_,rfl,?_⟩⟩⟩;cases re:r.e with
    | none=>refine iteN (by show ¬ (!decide (V.non=V.non))=true;decide) (iteF (h2 ?_ _ (Same.refl _)));show (r.e.isSome && _)=false;rw [re];rfl
    | some e=>
     refine iteP rfl ?_;refine ⟨_,rfl,_,rfl,le,_,rfl,.inl (SqL.of (s7 _ _ e6)),rfl,zew _,_,rfl,?_⟩;rw [inV_ns];have h1:=λ z=>h1 (show (r.e.isSome && _)=true from z);have h2:=λ z=>h2 (show (r.e.isSome && _)=false from z);rw [re] at h1 h2;cases hb:(st.map (·.1)).any λ (n:Nat)=>decide ((n:Int)=(k:Nat)) with
     | true=>exact iteF (h2 (by rw [hb];rfl) _ (Same.refl _))
     | false=>exact iteT ⟨_,rfl,h1 (by rw [hb];rfl) _ _ (Same.refl _) rfl⟩
   ·refine ⟨(show (0:Nat)<=sizeLine by decide),λ l8 hl8=>?_⟩;refine ⟨l7,l8,us,rfl,rfl,SqL.of ((Same.upd hl8) _ _ upd_same),SqL.of upd_same,?_⟩;refine q _ _ (((s1.trans s6).trans s7).trans ((Same.upd hl7).trans (Same.upd hl8))) ?_;rw [iff,decide_eq_true_iff];have lu:=z03 fa;constructor
    ·intro e n r hn he;rw [e] at lu;have lf:=List.eq_nil_of_length_eq_zero lu.symm;have hn':=(List.getElem?_eq_some_iff.mp hn).1;have:=List.filter_eq_nil_iff.mp lf n (List.mem_range.mpr (by omega));rw [hn] at this;have this:¬ (r.e.isSome && _)=true:=this;rw [he,Y7] at this;have this:((st.map (·.1)).any λ (a:Nat)=>decide ((a:Int)=(n:Nat)))=true:=by
      cases hb:(st.map (·.1)).any λ (a:Nat)=>decide ((a:Int)=(n:Nat)) with
      | true=>rfl
      | false=>rw [hb] at this;exact absurd rfl this
     obtain ⟨a,ha,e'⟩:=List.any_eq_true.mp this;have e':=of_decide_eq_true e';rw [show n=a by omega];exact ha
    ·intro f;refine List.eq_nil_of_length_eq_zero (lu.trans ?_);rw [List.length_eq_zero_iff,List.filter_eq_nil_iff];intro k hk z;rw [j3] at z;have hk:=List.mem_range.mp hk;have hrk:rs[k]? = some rs[k]:=J0 (by omega);rw [hrk] at z;have:=f k _ hrk z.1;have z2:=z.2;rw [List.any_eq_true.mpr ⟨k,this,decide_eq_true rfl⟩] at z2;cases z2
def MusA (H0 H:Hp) (N:Nat) (y:V):Prop:=∃q ns,y=.ref q/\H q=some (.lst (nsV ns))/\ns.length<=N/\H0 q=none
def MustAt (H0 H:Hp) (N:Nat) (l:Addr):Prop:=∃ms,H l=some (.lst ms)/\ms.length=N/\H0 l=none/\∀y∈ms,MusA H0 H N y
theorem MusA.kept {H0 H H':Hp} {N:Nat} {y:V} (s :∀a o,H0 a=none->H a=some o->H' a=some o) (h:MusA H0 H N y):MusA H0 H' N y:=by obtain ⟨q,ns,h1,h2,h3,h4⟩:=h;exact ⟨q,ns,h1,s _ _ h4 h2,h3,h4⟩
theorem MusA.put {H0 H:Hp} {N:Nat} {y:V} {l:Addr} {o:HO} (n:y≠.ref l) (h:MusA H0 H N y):MusA H0 (upd H l o) N y:=by obtain ⟨q,ns,rfl,h2,h3,h4⟩:=h;exact ⟨q,ns,rfl,by rw [upd_ne (λ z=>n (by rw [z]))];exact h2,h3,h4⟩
theorem MustAt.kept {H0 H H':Hp} {N:Nat} {l:Addr} (s :∀a o,H0 a=none->H a=some o->H' a=some o) (h:MustAt H0 H N l):MustAt H0 H' N l:=by obtain ⟨ms,h1,h2,h3,h4⟩:=h;exact ⟨ms,s _ _ h3 h1,h2,h3,λ y hy=>(h4 y hy).kept s⟩
theorem zid {ns:List Nat} {us:List V} (h:All2 (λ (a:Nat) y=>y=V.int (a:Nat)) ns us):us=nsV ns:=by
 induction h with
 | nil=>rfl
 | cons a r ih=>subst a;rw [ih];rfl
theorem if_any {tc:TT} {ta tb:TS} {D:Ends} {σ:L2.St} {H:Hp} (R:Hp->Prop) (k :∀H',R H'->ta D σ H') (h:(∀H',R H'->ta D σ H')->tIfS tc ta tb D σ H):tIfS tc ta tb D σ H:=h k
def z4j:Sp:=λ vs H Q _=>∃(l:Addr) (zs:List V) (rs:List Rc) (i m:Nat) (os:List Int),vs=[.ref l,.str (z0u m)]/\H l=some (.lst zs)/\All2 (ActAt H) rs zs/\DInv i rs os/\rs.length<=63/\∀lm H',Same H H'->MustAt H H' rs.length lm->Q (.ref lm) H'
theorem z9g (T:TX (KX w.params) mg) (c__law_must:Cal P w (KX w.params) mg base "_law_must" ["acts","strictness","one","other"] 1 z34):FnOk P w (KX w.params) mg base CX0 2 327 fd__law_musts ["acts","strictness"] z4j:=by
 refine (z33 w.params).ok sc__law_musts (λ vs H Q E h=>?_) (λ cdv A outer s H vs Q E hr h=>?_)
 ·obtain ⟨l,zs,rs,i,m,os,rfl,_⟩:=h;rfl
 ·obtain ⟨l,zs,rs,i,m,os,rfl,el,al,DI,rl,q⟩:=h;refine ⟨_,(z02 (ps_set (i:=2) sc__law_musts.nd rfl (by first|exact Y0 rfl|exact X0 rfl) (pe_lst pa_nil))
   (z02 (ps_for D2 rfl (z2w rfl (T.no (z6y _)) (z00 (z08 z0w rfl (T.no (n_len _)) W2 (z00 (pv 0) pa_nil)) pa_nil)) (z0l (i:=3) sc__law_musts.nd rfl (by first|exact Y0 rfl|exact X0 rfl))
   (z05 (z1c (z1d (pv 2) (z00 (z0s (xs:=["one"]) (g:=gName 0) (fr:=[(0,"acts"),(1,"strictness"),(3,"number")]) rfl (z2w rfl (T.no (z6y _)) (z00 (z08 z0w rfl (T.no (n_len _)) W2 (z00 (pv 0) pa_nil)) pa_nil)) (by intro p hp;simp only [T0,o0,or_false] at hp;rcases hp with rfl|rfl|rfl<;>first|exact ⟨rfl,.inl rfl⟩|exact ⟨rfl,.inr rfl⟩) (zep (ns:=["acts","strictness","number"]) (by decide +kernel) (by intro n hn k;simp only [T0,o0,or_false] at hn;rcases hn with rfl|rfl|rfl<;>first|exact .inl rfl|exact .inr rfl)) (by intro p hp;simp only [T0,o0,or_false] at hp;rcases hp with rfl|rfl|rfl<;>exact ⟨by decide +kernel,by first|exact .inl rfl|exact .inr rfl⟩) (by decide +kernel) rfl (by decide +kernel) (λ _ _ _ _ _=>(z0j (N:=["one","acts","strictness","number"]) 0 (by decide +kernel) rfl rfl)) (λ _ _ _ _ _=>(pf_one (pt_val (pe_cal c__law_must (hr.mono (by first|decide|omega)) rfl (z00 (pv 1) (z00 (pv 2) (z00 (pv 0) (z00 (pv 3) pa_nil))))) (λ _=>rfl)))) (λ _ _ _ _ _=>(pv 0))) pa_nil)))))
   (z05 (ps_ret (pv 2))))),?_⟩
  have lz:zs.length=rs.length:=z03 al;refine ⟨(show (0:Nat)<=sizeLine by decide),λ lm hlm=>?_⟩;have s1:=Same.upd (o:=.lst []) hlm;have e1:upd H lm (.lst []) lm=some (.lst []):=upd_same;generalize upd H lm (.lst [])=H1 at s1 e1⊢;refine g_name (t_nx ?_);refine ⟨_,rfl,.inl ⟨l,zs,rfl,.inl (SqL.of (s1 _ _ el)),zs.length,rfl,by omega,by omega,?_⟩⟩;refine z7y (lo:=0) (n:=zs.length) (λ i σ H'=>∃ms,Same H H'/\H' lm=some (.lst ms)/\ms.length=i/\(∀y∈ms,MusA H H' rs.length y/\y≠.ref lm)/\∃x3,σ=[some (.ref l),some (.str (z0u m)),some (.ref lm),x3])
   ⟨[],s1,e1,rfl,λ y hy=>absurd hy o0,_,rfl⟩ ?_ ?_
  ·rintro j σ H2 hj ⟨ms,s2,e2,lj,fm,x3,rfl⟩;rw [j0a];refine g_name ?_;refine ⟨_,rfl,.inl ⟨rfl,_,SqL.of e2⟩,?_⟩;refine z56 (S:=Same) (n:=zs.length) (λ a=>z0x m rs a j) (λ a y _=>y=.int (a:Nat)) (Same.refl _) (λ _ _ _ a b=>a.trans b) (λ _ _=>Same.refl _) (λ _ _ _ _ _ z=>z) (λ R h=>⟨_,rfl,.inl ⟨l,zs,rfl,.inl (SqL.of (s2 _ _ el)),h⟩⟩) (G0 (m:=63) (by omega) (by decide)) (λ a ha H3 s3 KT KF h1 h2=>?_) λ l3 H3 us s3 hl3 fa=>?_
   ·refine ⟨[some (.int (a:Nat))],rfl,rfl,?_⟩;have k3:=s2.trans s3;refine ⟨_,rfl,_,rfl,_,rfl,_,rfl,l,zs,rs,_,m,a,j,os,rfl,k3 _ _ el,z01 (λ _ _ z=>ActAt.same k3 z) al,DI,by omega,by omega,_,rfl,?_⟩;by_cases z:z0x m rs a j=true
    ·exact iteP z ⟨_,rfl,h1 z _ _ (Same.refl _) rfl⟩
    ·exact iteN z (h2 (by simpa using z) _ (Same.refl _))
   ·have s4:=s3.trans (Same.upd (o:=.lst us) hl3);have e4:upd H3 l3 (.lst us) l3=some (.lst us):=upd_same;have n3:l3≠lm:=λ z=>by rw [z,s3 _ _ e2] at hl3;cases hl3
    generalize upd H3 l3 (.lst us)=H4 at s4 e4⊢;rw [zid fa] at e4;refine ⟨lm,ms,_,rfl,rfl,s4 _ _ e2,C1 (m:=100) (by omega) (by decide),?_⟩;refine ⟨ms++[.ref l3],Same.keep (s2.trans s4) hlm,upd_same,by rw [K0];show ms.length + 1=_;omega,λ y hy=>?_,_,rfl⟩;rcases List.mem_append.mp hy with z|z
    ·exact ⟨((fm y z).1.kept λ a o _ e=>s4 _ _ e).put (fm y z).2,(fm y z).2⟩
    ·rw [List.mem_singleton.mp z];refine ⟨MusA.put (λ e=>n3 (V.ref.inj e)) ⟨l3,_,rfl,e4,?_,(s2.trans s3).free hl3⟩,λ e=>n3 (V.ref.inj e)⟩;refine G0 (U2 _ _) ?_;rw [x2];omega
  ·rintro σ H2 ⟨ms,s2,e2,lj,fm,x3,rfl⟩;exact ⟨_,rfl,q _ _ s2 ⟨ms,e2,by omega,hlm,λ y hy=>(fm y hy).1⟩⟩
def z32 (K:b0):Sp:=λ vs H Q _=>∃(l p pa:Addr) (zs:List V) (rs:List Rc) (ns:List Nat) (x:V),vs=[.ref l,.ref p]/\H l=some (.lst zs)/\All2 (ActAt H) rs zs/\rs.length<=63/\SqT K H p [.ref pa,x]/\SqT K H pa (nsV ns)/\∀b H',Same H H'->Q (.bl b) H'
theorem z6h (T:TX (KX w.params) mg):FnOk P w (KX w.params) mg base CX0 1 337 fd__law_is_full ["acts","place"] (z32 (KX w.params)):=by
 refine (z20 w.params).ok z6f (λ vs H Q E h=>?_) (λ cdv A outer s H vs Q E hr h=>?_)
 ·obtain ⟨l,p,pa,zs,rs,ns,x,rfl,_⟩:=h;rfl
 ·obtain ⟨l,p,pa,zs,rs,ns,x,rfl,el,aa,rl,sp,sa,q⟩:=h;refine ⟨_,(z05 (ps_ret (z0o (zc5 hr) (z0s (xs:=["k"]) (g:=gName 0) (fr:=[(1,"place"),(0,"acts")]) rfl (z2w rfl (T.no (z6y _)) (z00 (z08 z0w rfl (T.no (n_len _)) W2 (z00 (pv 0) pa_nil)) pa_nil)) (by intro p hp;simp only [T0,o0,or_false] at hp;rcases hp with rfl|rfl<;>first|exact ⟨rfl,.inl rfl⟩|exact ⟨rfl,.inr rfl⟩) (zep (ns:=["place","acts"]) (by decide +kernel) (by intro n hn k;simp only [T0,o0,or_false] at hn;rcases hn with rfl|rfl<;>first|exact .inl rfl|exact .inr rfl)) (by intro p hp;simp only [T0,o0,or_false] at hp;rcases hp with rfl|rfl<;>exact ⟨by decide +kernel,by first|exact .inl rfl|exact .inr rfl⟩) (by decide +kernel) rfl (by decide +kernel) (λ _ _ _ _ _=>(z0j (N:=["k","place","acts"]) 0 (by decide +kernel) rfl rfl)) (λ _ _ _ _ _=>(pf_one (PW.pt (pw_and (z09 z8n (pe_ix (z2p (K:=KX w.params) rfl) (pe_ix (z2p (K:=KX w.params) rfl) (pv 2) (pv 0) (λ _ _=>rfl)) pe_int (λ _ _=>rfl)) pe_non (nomark _)) (z6o (z09 (z4t (K:=KX w.params) rfl) (pv 0) (pe_ix (z2p (K:=KX w.params) rfl) (pv 1) pe_int (λ _ _=>rfl)) (by with_unfolding_all rfl))))))) (λ _ _ _ _ _=>(pv 0))) (pe_lst pa_nil) (nomark _)))),?_⟩;have lz:zs.length=rs.length:=z03 aa;refine sq_ret ?_;refine z56 (S:=Same) (n:=zs.length) (λ k=>((rs[k]?.map λ r=>r.e.isSome).getD false) && !(ns.any λ (n:Nat)=>decide ((n:Int)=(k:Nat)))) (λ k y _=>True) (Same.refl _) (λ _ _ _ a b=>a.trans b) (λ _ _=>Same.refl _) (λ _ _ _ _ _ z=>z) (λ R h=>⟨_,rfl,.inl ⟨l,zs,rfl,.inl (SqL.of el),h⟩⟩) (G0 (m:=63) (by omega) (by decide)) (λ k hk H7 s7 KT KF h1 h2=>?_) λ l7 H7 us s7 hl7 fa=>?_
  ·have hk':k < rs.length:=by omega
   obtain ⟨y,hy,pk,rfl,ek⟩:=z18 aa (J0 hk');have hrk:rs[k]? = some rs[k]:=J0 hk';generalize rs[k]=r at *;rw [hrk] at h1 h2;refine ⟨[some (.int (k:Nat))],rfl,rfl,?_⟩;refine ⟨_,rfl,_,rfl,.inl ⟨l,zs,k,.ref pk,rfl,rfl,SqL.of (s7 _ _ el),z04 hy,.inl ⟨pk,_,6,endV r.e,rfl,rfl,SqL.of (s7 _ _ ek),z04 (j:=6) rfl,rfl,_,rfl,?_⟩⟩⟩;cases re:r.e with
   | none=>refine iteN (by show ¬ (!decide (V.non=V.non))=true;decide) (iteF (h2 ?_ _ (Same.refl _)));show (r.e.isSome && _)=false;rw [re];rfl
   | some e=>
    refine iteP rfl ?_;refine ⟨_,rfl,_,rfl,.inr (.inl ⟨p,_,0,.ref pa,rfl,rfl,s7.seqT sp,z04 (j:=0) rfl,pa,_,rfl,.inr (s7.seqT sa),rfl,zew _,_,rfl,?_⟩)⟩;rw [inV_ns];have h1:=λ z=>h1 (show (r.e.isSome && _)=true from z);have h2:=λ z=>h2 (show (r.e.isSome && _)=false from z);rw [re] at h1 h2;cases hb:ns.any λ (n:Nat)=>decide ((n:Int)=(k:Nat)) with
    | true=>exact iteF (h2 (by rw [hb];rfl) _ (Same.refl _))
    | false=>exact iteT ⟨_,rfl,h1 (by rw [hb];rfl) _ _ (Same.refl _) trivial⟩
  ·refine ⟨(show (0:Nat)<=sizeLine by decide),λ l8 hl8=>?_⟩;exact ⟨l7,l8,us,rfl,rfl,SqL.of ((Same.upd hl8) _ _ upd_same),SqL.of upd_same,q _ _ (s7.trans ((Same.upd hl7).trans (Same.upd hl8)))⟩
def PlAt (K:b0) (H:Hp) (ts:List (Str×Str)) (N n:Nat) (p:Addr):Prop:=∃pa pb ns vs,SqT K H p [.ref pa,.ref pb]/\SqT K H pa (nsV ns)/\ns.Nodup/\(∀x∈ns,x < N)/\ns.length=n/\SqT K H pb vs/\All2 (λ (t:Str×Str) v=>StAt K H n t.2 v) ts vs
theorem PlAt.tups {K:b0} {H H':Hp} {ts:List (Str×Str)} {N n:Nat} {p:Addr} (t:Tups K H H') (h:PlAt K H ts N n p):PlAt K H' ts N n p:=by obtain ⟨pa,pb,ns,vs,h1,h2,h3,h4,h5,h6,h7⟩:=h;exact ⟨pa,pb,ns,vs,t _ _ h1,t _ _ h2,h3,h4,h5,t _ _ h6,z01 (λ _ _ z=>StAt.tups t z) h7⟩
def ToldAt (K:b0) (H:Hp) (ts:List (Str×Str)) (N n:Nat) (y:V):Prop:=∃(b p:Addr) (x:Nat) (a:V),y=.ref b/\H b=some (.tup [.int (x:Nat),a,.ref p])/\x < N/\AnsV a/\PlAt K H ts N (n + 1) p
theorem ToldAt.tt {K:b0} {H H':Hp} {ts:List (Str×Str)} {N n:Nat} {y:V} (t:Tt K H H') (h:ToldAt K H ts N n y):ToldAt K H' ts N n y:=by obtain ⟨b,p,x,a,h1,h2,h3,h4,h5⟩:=h;exact ⟨b,p,x,a,h1,t.l _ _ h2,h3,h4,h5.tups t.t⟩
noncomputable def gnK (ns:List Nat):List (Key×V):=ns.map λ (n:Nat)=>(.inl (n:Int),.bl true)
theorem gnK_in {ns:List Nat} {n:Nat}:(valV (mergeK [] (gnK ns)) (.inl (n:Int))).isSome=true↔n∈ns:=by
 rw [valV_isSome,mergeK_keys];unfold gnK;rw [S3];constructor
 ·rintro (h|h)
  ·cases h
  ·obtain ⟨m,hm,e⟩:=List.mem_map.mp h;have:=M3 e;rw [show n=m by omega];exact hm
 ·exact λ h=>.inr (List.mem_map.mpr ⟨n,h,rfl⟩)
theorem zgk {ts:List (Str×Str)} {us:List V} (h:All2 (λ (i:Nat) y=>∃t,ts[i]? = some t/\y=V.str t.1) (W1 ts.length) us):us=(ts.map (·.1)).map V.str:=by
 have lu:=z03 h;rw [x2] at lu;apply J4;intro i;rw [V0,V0];cases hu:us[i]? with
 | none=>rw [y4 (by have:=List.getElem?_eq_none_iff.mp hu;omega)];rfl
 | some y=>obtain ⟨j,hj,t,h1,h2⟩:=z0g h hu;rw [O3 (by have:=(List.getElem?_eq_some_iff.mp hu).1;omega)] at hj;cases hj;rw [h1,h2];rfl
theorem zgw {K:b0} {H:Hp} {ns:List Nat} {us:List V} (h:All2 (λ (i:Nat) y=>∃n b,ns[i]? = some n/\y=.ref b/\H b=some (.tup [.int (n:Nat),.bl true])) (W1 ns.length) us):All2 (λ (p:Key×V) y=>∃b,y=.ref b/\SqT K H b [kV p.1,p.2]) (gnK ns) us:=by have lu:=z03 h;rw [x2] at lu;refine z14 (by unfold gnK;rw [D0,lu]) λ i p y hp hy=>?_;unfold gnK at hp;rw [V0] at hp;obtain ⟨n,hn,rfl⟩:=Option.map_eq_some_iff.mp hp;obtain ⟨j,hj,n',b,h1,h2,h3⟩:=z0g h hy;rw [O3 (by have:=(List.getElem?_eq_some_iff.mp hy).1;omega)] at hj;cases hj;rw [hn] at h1;cases h1;exact ⟨b,h2,SqT.of h3⟩
theorem zj7 {ns':List Int} {xs:List Nat} (p:ns'.Perm (xs.map λ (n:Nat)=>(n:Int))) :∃ms:List Nat,ns'.map V.int=nsV ms/\ms.Perm xs:=by
 refine ⟨ns'.map C9,?_,?_⟩
 ·unfold nsV;rw [S3];refine List.map_congr_left λ a ha=>?_;obtain ⟨n,_,e⟩:=List.mem_map.mp (p.mem_iff.mp ha);show V.int a=V.int ((a.toNat:Nat):Int);rw [<-e,y3]
 ·have:=p.map C9;rw [S3,show (C9 ∘ λ (n:Nat)=>(n:Int))=id from funext λ n=>y3 n,List.map_id] at this;exact this
def z8e (K:b0):Sp:=λ vs H Q _=>∃(t la lm p pt te:Addr) (zs:List V) (ts:List (Str×Str)) (rs:List Rc) (ps:List DD) (n:Nat) (H0:Hp),vs=[.ref t,.ref la,.ref lm,.ref p]/\H t=some (.tup [.ref pt,.ref te])/\ThAt H pt ts/\ThW ts/\H la=some (.lst zs)/\All2 (ActAt H) rs zs/\All2 (RcGd K H ts) rs ps/\rs.length<=63/\MustAt H0 H rs.length lm/\PlAt K H ts rs.length n p/\
 ∀l ys H',Same H H'->H' l=some (.lst ys)->ys.length<=63->(∀y∈ys,ToldAt K H' ts rs.length n y)->Q (.ref l) H'
theorem zdw (T:TX (KX w.params) mg) (c__law_does:Cal P w (KX w.params) mg base "_law_does" ["kind","state","verb","worth"] 1 (z1g (KX w.params))) (c__law_alike:Cal P w (KX w.params) mg base "_law_alike" ["one","other"] 1 z2q):FnOk P w (KX w.params) mg base CX0 2 322 fd__law_on ["tale","acts","must","place"] (z8e (KX w.params)):=by
 refine (z7x w.params).ok sc__law_on (λ vs H Q E h=>?_) (λ cdv A outer s H vs Q E hr h=>?_)
 ·obtain ⟨t,la,lm,p,pt,te,zs,ts,rs,ps,n,H0,rfl,_⟩:=h;rfl
 ·obtain ⟨t,la,lm,p,pt,te,zs,ts,rs,ps,n,H0,rfl,et,th,ok,el,aa,gd,rl,mu,⟨pa,pb,ns,vs,sp,sa,nd,nlt,nl,sb,sts⟩,q⟩:=h;refine ⟨_,(z02 (ps_set (i:=4) sc__law_on.nd rfl (by first|exact Y0 rfl|exact X0 rfl) (pe_lst pa_nil))
   (z02 (zhr (i:=5) sc__law_on.nd rfl (by first|exact Y0 rfl|exact X0 rfl) (xs:=["name","kind"]) (g:=gTup (KX w.params) 2 (gCons (gName 0) (gCons (gName 1) gNil))) (fr:=[]) rfl (pi_tup (pe_ix ix_seq (pv 0) pe_int (λ _ _=>rfl))) (λ _ z=>absurd z o0) (z1e rfl) (λ _ z=>absurd z o0) (by decide +kernel) rfl (by decide +kernel) (λ _ _ _ _ _=>(pg_tup rfl (z0a (z0j (N:=["name","kind"]) 0 (by decide +kernel) rfl rfl) (z0a (z0j (N:=["name","kind"]) 1 (by decide +kernel) rfl rfl) z12)))) (λ _ _ _ _ _=>pf_nil) (λ _ _ _ _ _=>(pv 0)))
   (z02 (ps_set (i:=6) sc__law_on.nd rfl (by first|exact Y0 rfl|exact X0 rfl) (z0h (z10 rfl) rfl (T.no (n_dict _)) W6 (z00 (z0s (xs:=["number"]) (g:=gName 0) (fr:=[]) rfl (pi_tup (pe_ix ix_seq (pv 3) pe_int (λ _ _=>rfl))) (λ _ z=>absurd z o0) (z1e rfl) (λ _ z=>absurd z o0) (by decide +kernel) rfl (by decide +kernel) (λ _ _ _ _ _=>(z0j (N:=["number"]) 0 (by decide +kernel) rfl rfl)) (λ _ _ _ _ _=>pf_nil) (λ _ _ _ _ _=>(pe_tup (z00 (pv 0) (z00 pe_bl pa_nil))))) pa_nil)))
   (z02 (ps_for D2 rfl (z2w rfl (T.no (z6y _)) (z00 (z08 z0w rfl (T.no (n_len _)) W2 (z00 (pv 1) pa_nil)) pa_nil)) (z0l (i:=7) sc__law_on.nd rfl (by first|exact Y0 rfl|exact X0 rfl))
   (z02 (ps_if (PW.pt (pw_or (pt_cmp (pc_din (hu_of hr) (pv 7) (pv 6)) (by with_unfolding_all rfl)) (pw_or1 (z09 (zjq hr) (z0s (xs:=["one"]) (g:=gName 0) (fr:=[(6,"gone")]) rfl (z25 (pe_ix ix_seq (pv 2) (pv 7) (λ _ _=>rfl))) (by intro p hp;obtain rfl:=List.mem_singleton.mp hp;first|exact ⟨rfl,.inl rfl⟩|exact ⟨rfl,.inr rfl⟩) (z2i (n:="gone") (by decide +kernel) (λ _=>by first|exact .inl rfl|exact .inr rfl)) (by intro p hp;obtain rfl:=List.mem_singleton.mp hp;exact ⟨by decide +kernel,by first|exact .inl rfl|exact .inr rfl⟩) (by decide +kernel) rfl (by decide +kernel) (λ _ _ _ _ _=>(z0j (N:=["one","gone"]) 0 (by decide +kernel) rfl rfl)) (λ _ _ _ _ _=>(pf_one (pt_cmp (zg1 (hu_of hr) (pv 0) (pv 1)) (by with_unfolding_all rfl)))) (λ _ _ _ _ _=>(pv 0))) (pe_lst pa_nil) (nomark _)))))
   (z05 zcw)
   z0d)
   (z02 (ps_set (i:=8) sc__law_on.nd rfl (by first|exact Y0 rfl|exact X0 rfl) (pe_ix ix_seq (pv 1) (pv 7) (λ _ _=>rfl)))
   (z02 (ps_set (i:=9) sc__law_on.nd rfl (by first|exact Y0 rfl|exact X0 rfl) (zja (pv 5) (z00 (pe_ix ix_seq (pv 8) pe_int (λ _ _=>rfl)) pa_nil)))
   (z02 (ps_asg (pe_cal c__law_does (hr.mono (by first|decide|omega)) rfl (z00 (pe_ix ix_seq (pe_ix ix_seq (pe_ix ix_seq (pv 0) pe_int (λ _ _=>rfl)) (pv 9) (λ _ _=>rfl)) pe_int (λ _ _=>rfl)) (z00 (pe_ix ix_seq (pe_ix ix_seq (pv 3) pe_int (λ _ _=>rfl)) (pv 9) (λ _ _=>rfl)) (z00 (pe_ix ix_seq (pv 8) pe_int (λ _ _=>rfl)) (z00 (pe_ix ix_seq (pv 8) pe_int (λ _ _=>rfl)) pa_nil))))) (pg_tup rfl (z0a (z0l (i:=10) sc__law_on.nd rfl (by first|exact Y0 rfl|exact X0 rfl)) (z0a (z0l (i:=11) sc__law_on.nd rfl (by first|exact Y0 rfl|exact X0 rfl)) z12))))
   (z05 (ps_if (PW.pt (pw_or (z09 op_isN (pe_ix ix_seq (pv 8) pe_int (λ _ _=>rfl)) pe_non (nomark _)) (pw_or1 (pt_val (pe_cal c__law_alike (hr.mono (by first|decide|omega)) rfl (z00 (pv 11) (z00 (pe_ix ix_seq (pv 8) pe_int (λ _ _=>rfl)) pa_nil))) (λ _=>rfl)))))
   (z02 (ps_set (i:=12) sc__law_on.nd rfl (by first|exact Y0 rfl|exact X0 rfl) (pe_op (op_catS.or zc7) (pe_op (op_catS.or zc7) (z27 slSeq (pe_ix ix_seq (pv 3) pe_int (λ _ _=>rfl)) z62 (z2t (pv 9))) (pe_tup (z00 (pv 10) pa_nil))) (z27 slSeq (pe_ix ix_seq (pv 3) pe_int (λ _ _=>rfl)) (z2t (pe_op opAdd (pv 9) pe_int)) z62)))
   (z02 (ps_set (i:=13) sc__law_on.nd rfl (by first|exact Y0 rfl|exact X0 rfl) (pe_tup (z00 (z0h z0p rfl (T.no (z26 _)) S4 (z00 (z08 z69 rfl (T.no (z89 _)) j29 (z00 (pe_op op_catS (pe_ix ix_seq (pv 3) pe_int (λ _ _=>rfl)) (pe_tup (z00 (pv 7) pa_nil))) pa_nil)) pa_nil)) (z00 (pv 12) pa_nil))))
   (z05 (z1c (z1d (pv 4) (z00 (pe_tup (z00 (pv 7) (z00 (pv 11) (z00 (pv 13) pa_nil)))) pa_nil))))))
   z0d)))))))
   (z05 (ps_ret (pv 4))))))),?_⟩
  have lz:zs.length=rs.length:=z03 aa;obtain ⟨yt,eyt,alt⟩:=th;refine ⟨(show (0:Nat)<=sizeLine by decide),λ lt hlt=>?_⟩;have s1:=Same.upd (o:=.lst []) hlt;have e1:upd H lt (.lst []) lt=some (.lst []):=upd_same;generalize upd H lt (.lst [])=H1 at s1 e1⊢;refine g_name (t_nx ?_);refine z1b ?_;refine z1o (K:=KX w.params) (a:=pt) (xs:=yt) (H1:=H1) (λ _=>true) (λ i y H'=>∃t,ts[i]? = some t/\y=.str t.1) (λ _ _ _ _ s z=>z) (λ R h=>⟨_,rfl,.inr (.inl ⟨t,_,0,.ref pt,rfl,rfl,SqT.of (s1 _ _ et),z04 (j:=0) rfl,h⟩)⟩) (s1.seqT (SqT.of eyt)) (G0 (m:=6) (by rw [z03 alt];exact ok.n6) (by decide)) ?_ ?_
  ·intro i hi v H2 s2 hv KT KF k1 k2;obtain ⟨t,ht,b,rfl,eb⟩:=z0g alt hv;have eb2:=(s1.trans s2) _ _ eb;refine ⟨b,_,rfl,SqT.of eb2,rfl,_,_,rfl,_,_,rfl,rfl,[some (.str t.1),some (.str t.2)],rfl,rfl,iteT ?_⟩;exact ⟨_,rfl,k1 rfl _ _ (Same.refl _) ⟨t,ht,rfl⟩⟩
  intro ln H2 us s2 hln al2;rw [List.filter_eq_self.mpr (λ _ _=>rfl),z03 alt] at al2;rw [zgk al2];have s3:=s2.trans (Same.upd (o:=.lst ((ts.map (·.1)).map V.str)) hln);have e3:upd H2 ln (.lst ((ts.map (·.1)).map V.str)) ln=some (.lst ((ts.map (·.1)).map V.str)):=upd_same;generalize upd H2 ln (.lst ((ts.map (·.1)).map V.str))=H3 at s3 e3⊢;refine g_name ?_;have s13:=s1.trans s3;have lnv:(nsV ns).length=ns.length:=by unfold nsV;rw [D0]
  refine z8r ?_;have nl63:ns.length<=63:=G0 (z2x _ _ nd nlt) rl;refine z1o (K:=KX w.params) (a:=pa) (xs:=nsV ns) (H1:=H3) (λ _=>true) (λ i y H'=>∃n b,ns[i]? = some n/\y=.ref b/\H' b=some (.tup [.int (n:Nat),.bl true])) (λ _ _ _ _ s ⟨n,b,h1,h2,h3⟩=>⟨n,b,h1,h2,s _ _ h3⟩) (λ R h=>⟨_,rfl,.inr (.inl ⟨p,_,0,.ref pa,rfl,rfl,s13.seqT sp,z04 (j:=0) rfl,h⟩)⟩) (s13.seqT sa) (G0 (m:=63) (by omega) (by decide)) ?_ ?_
  ·intro i hi v H4 s4 hv KT KF k1 k2;unfold nsV at hv;rw [V0] at hv;obtain ⟨n',hn',rfl⟩:=Option.map_eq_some_iff.mp hv;refine ⟨[some (.int (n':Nat))],rfl,rfl,iteT ?_⟩;exact ⟨_,rfl,(show (2:Nat)<=sizeLine by decide),λ b hb=>k1 rfl _ _ (Same.upd hb) ⟨n',b,hn',rfl,upd_same⟩⟩
  intro lg H4 us2 s4 hlg al4;rw [List.filter_eq_self.mpr (λ _ _=>rfl),lnv] at al4;have s5:=s4.trans (Same.upd (o:=.lst us2) hlg);have s45:=Same.upd (o:=.lst us2) hlg;have e5:upd H4 lg (.lst us2) lg=some (.lst us2):=upd_same;generalize upd H4 lg (.lst us2)=H5 at s5 s45 e5⊢;refine ⟨lg,us2,gnK ns,rfl,.inl e5,z01 (λ _ _ z=>z.elim λ b y=>⟨b,y.1,s45.seqT y.2⟩) (zgw al4),λ g hg=>?_⟩;have s6:=s5.trans (Same.upd (o:=.dK (mergeK [] (gnK ns))) hg);have e6:upd H5 g (.dK (mergeK [] (gnK ns))) g=some (.dK (mergeK [] (gnK ns))):=upd_same;generalize upd H5 g (.dK (mergeK [] (gnK ns)))=H6 at s6 e6⊢;refine g_name ?_;have ltn:lt≠ln:=λ z=>by rw [<-z,s2 _ _ e1] at hln;cases hln
  have s06:Same H H6:=s13.trans s6;have flt:H lt=none:=hlt;have e6l:H6 lt=some (.lst []):=(s3.trans s6) _ _ e1;have e6n:H6 ln=some (.lst ((ts.map (·.1)).map V.str)):=s6 _ _ e3;have ngl:g≠lt:=λ z=>by rw [z,(s3.trans s5) _ _ e1] at hg;cases hg
  refine ⟨_,rfl,.inl ⟨la,zs,rfl,.inl (SqL.of (s06 _ _ el)),zs.length,rfl,by omega,by omega,?_⟩⟩;refine z7y (lo:=0) (n:=zs.length) (λ i σ H'=>∃ys,Same H H'/\H' lt=some (.lst ys)/\H' ln=some (.lst ((ts.map (·.1)).map V.str))/\H' g=some (.dK (mergeK [] (gnK ns)))/\ys.length<=i/\(∀y∈ys,ToldAt (KX w.params) H' ts rs.length n y)/\∃x7 x8 x9 x10 x11 x12 x13,σ=[some (.ref t),some (.ref la),some (.ref lm),some (.ref p),some (.ref lt),some (.ref ln),some (.ref g),x7,x8,x9,x10,x11,x12,x13])
   ⟨[],s06,e6l,e6n,e6,F0 _,λ y hy=>absurd hy o0,_,_,_,_,_,_,_,rfl⟩ ?_ ?_
  ·rintro j σ H7 hj ⟨ys,s7,e7,n7,g7,yl,fy,x7,x8,x9,x10,x11,x12,x13,rfl⟩;rw [j0a];refine g_name ?_;have go :∀{y7 y8 y9 y10 y11 y12 y13:Option V} {H':Hp},Same H7 H'->∃ys,Same H H'/\H' lt=some (.lst ys)/\H' ln=some (.lst ((ts.map (·.1)).map V.str))/\H' g=some (.dK (mergeK [] (gnK ns)))/\ys.length<=j + 1/\(∀y∈ys,ToldAt (KX w.params) H' ts rs.length n y)/\∃x7 x8 x9 x10 x11 x12 x13,[some (.ref t),some (.ref la),some (.ref lm),some (.ref p),some (.ref lt),some (.ref ln),some (.ref g),y7,y8,y9,y10,y11,y12,y13]=[some (.ref t),some (.ref la),some (.ref lm),some (.ref p),some (.ref lt),some (.ref ln),some (.ref g),x7,x8,x9,x10,x11,x12,x13]:=λ s'=>⟨ys,s7.trans s',s' _ _ e7,s' _ _ n7,s' _ _ g7,by omega,λ y hy=>(fy y hy).tt (.of s'),_,_,_,_,_,_,_,rfl⟩
   refine z1t (λ σ1 H8=>Same H7 H8/\j∉ns/\σ1=[some (.ref t),some (.ref la),some (.ref lm),some (.ref p),some (.ref lt),some (.ref ln),some (.ref g),some (.int (j:Nat)),x8,x9,x10,x11,x12,x13]) ?_ λ tl=>?_;rotate_left
   ·refine t_or ?_;refine ⟨_,rfl,_,rfl,g,_,rfl,DGet.k (k:=.inl (j:Int)) g7,_,rfl,?_⟩;by_cases hin:(valV (mergeK [] (gnK ns)) (.inl (j:Int))).isSome=true
    ·exact iteP hin (iteT (go (Same.refl _)))
    refine iteN hin ?_;obtain ⟨ms,em,ml,_,fm⟩:=mu;have hjm:j < ms.length:=by omega
    obtain ⟨qa,mn,hq,eq,ql,_⟩:=fm ms[j] (N4 _);have lmn:(nsV mn).length=mn.length:=by unfold nsV;rw [D0]
    refine t_test ?_;refine z58 (K:=KX w.params) (a:=qa) (xs:=nsV mn) (H1:=H7) (λ i=>((mn[i]?.map λ (x:Nat)=>!(valV (mergeK [] (gnK ns)) (.inl (x:Int))).isSome).getD false)) (λ _ _ _=>True) (λ _ _ _ _ _ z=>z) (λ R h=>⟨_,rfl,_,rfl,.inl ⟨lm,ms,j,.ref qa,rfl,rfl,SqL.of (s7 _ _ em),z04 (by rw [<-hq];exact J0 hjm),h⟩⟩) (SqL.of (s7 _ _ eq)) (G0 (m:=63) (by omega) (by decide)) ?_ ?_
    ·intro i hi v H8 s8 hv KT KF k1 k2;unfold nsV at hv;rw [V0] at hv;obtain ⟨x,hx,rfl⟩:=Option.map_eq_some_iff.mp hv;rw [hx] at k1 k2;refine ⟨[some (.int (x:Nat))],rfl,rfl,?_⟩;refine ⟨_,rfl,_,rfl,g,_,rfl,DGet.k (k:=.inl (x:Int)) (s8 _ _ g7),_,rfl,?_⟩;by_cases hb:(!(valV (mergeK [] (gnK ns)) (.inl (x:Int))).isSome)=true
     ·exact iteP hb ⟨_,rfl,k1 hb _ _ (Same.refl _) trivial⟩
     ·exact iteN hb (k2 (by cases h:(!(valV (mergeK [] (gnK ns)) (.inl (x:Int))).isSome) with|true=>exact absurd h hb|false=>exact h) _ (Same.refl _))
    intro l8 H8 us s8 hl8 _;refine ⟨(show (0:Nat)<=sizeLine by decide),λ l9 hl9=>?_⟩;have s9:=s8.trans ((Same.upd (o:=.lst us) hl8).trans (Same.upd (o:=.lst []) hl9));refine ⟨l8,l9,us,rfl,rfl,SqL.of ((Same.upd hl9) _ _ upd_same),SqL.of upd_same,_,rfl,?_⟩;refine ite2 (λ _=>go s9) λ _=>tl _ _ ⟨s9,λ z=>hin (gnK_in.mpr z),rfl⟩
   rintro σ1 H8 ⟨s8,nin,rfl⟩;have hjr:j < rs.length:=by omega
   obtain ⟨y,hy,pk,rfl,ek⟩:=z18 aa (J0 hjr);obtain ⟨dd,hdd2,g1,g2,hm,dk,ix,wi,ga⟩:=z18 gd (J0 hjr);generalize rs[j]=r at *;rw [g1,g2] at ek;have s18:=s7.trans s8;have T8:Tt (KX w.params) H H8:=.of s18;have ek8:=s18 _ _ ek;refine ⟨_,rfl,_,rfl,.inl ⟨la,zs,j,.ref pk,rfl,rfl,SqL.of (s18 _ _ el),z04 hy,?_⟩⟩;refine g_name (t_nx ?_);obtain ⟨at',hat⟩:=List.mem_iff_getElem?.mp hm;have hat2:(ts.map (·.1))[at']? = some dd.nm:=by rw [V0,hat];rfl
   have first :∀m',m' < at'->(ts.map (·.1))[m']?≠some dd.nm:=λ m' hm' e=>by have:=(List.getElem?_inj (by have:=(List.getElem?_eq_some_iff.mp e).1;exact this) ok.nd).mp (e.trans hat2.symm);omega
   have at6:at' < ts.length:=(List.getElem?_eq_some_iff.mp hat).1;refine ⟨_,rfl,.inl ⟨rfl,_,SqL.of (s8 _ _ n7)⟩,_,rfl,.inl ⟨pk,_,1,.str dd.nm,rfl,rfl,SqL.of ek8,z04 (j:=1) rfl,ln,ts.map (·.1),dd.nm,at',rfl,rfl,s8 _ _ n7,G0 (m:=6) (by rw [D0];exact ok.n6) (by decide),hat2,first,?_⟩⟩;refine g_name (t_nx ?_);obtain ⟨v,hv,sv,so,sz⟩:=z18 sts hat;obtain ⟨yb,hyb,tb,rfl,etb⟩:=z18 alt hat;have n63:n < 63:=by
    have:=z2x rs.length (j :: ns) (List.nodup_cons.mpr ⟨nin,nd⟩) λ x hx=>by
     rcases List.mem_cons.mp hx with z|z
     ·omega
     ·exact nlt x z
    rw [W0] at this;omega
   refine ⟨_,rfl,.inr (.inl ⟨t,_,0,.ref pt,rfl,rfl,SqT.of (s18 _ _ et),z04 (j:=0) rfl,?_⟩)⟩;refine ⟨_,rfl,.inr (.inl ⟨pt,yt,at',.ref tb,rfl,rfl,SqT.of (s18 _ _ eyt),z04 hyb,?_⟩)⟩;refine .inr (.inl ⟨tb,_,1,.str dd.k,rfl,rfl,SqT.of (s18 _ _ etb),z04 (j:=1) rfl,?_⟩);refine ⟨_,rfl,.inr (.inl ⟨p,_,1,.ref pb,rfl,rfl,s18.seqT sp,z04 (j:=1) rfl,?_⟩)⟩;refine ⟨_,rfl,.inr (.inl ⟨pb,vs,at',v,rfl,rfl,s18.seqT sb,z04 hv,?_⟩)⟩;refine ⟨_,rfl,.inl ⟨pk,_,2,.str dd.vb,rfl,rfl,SqL.of ek8,z04 (j:=2) rfl,?_⟩⟩;refine ⟨_,rfl,.inl ⟨pk,_,3,r.x,rfl,rfl,SqL.of ek8,z04 (j:=3) rfl,?_⟩⟩;refine ⟨dd.k,dd.vb,v,r.x,dd.dt,n,sv,rfl,so,sz.tups T8.t,n63,dk,IsDt.mono' T8.t _ _ ix,wi.tt T8,λ p9 v9 H9 s9 e9 sz9=>?_⟩;have zok:=dz_ok dk so n63;refine ⟨p9,_,rfl,SqT.of e9,rfl,v9,_,rfl,_,_,rfl,rfl,?_⟩;have s19:=s18.trans s9;have r9:Same H7 H9:=s8.trans s9;refine t_nx (if_any (λ H'=>H9=H') ?_ λ told=>?_);rotate_left
   ·refine t_or ?_;refine ⟨_,rfl,.inl ⟨pk,_,6,endV r.e,rfl,rfl,SqL.of (s9 _ _ ek8),z04 (j:=6) rfl,rfl,_,rfl,?_⟩⟩;cases re:r.e with
    | none=>exact iteP rfl (iteT (told _ rfl))
    | some e=>
    refine iteN (by simp [endV]) ?_;have rA:IsA r.a:=by
     rcases ga with ⟨g,_⟩|⟨_,g⟩
     ·rw [re] at g;cases g
     ·exact g.isA
    refine ⟨_,rfl,_,rfl,.inl ⟨pk,_,4,r.a,rfl,rfl,SqL.of (s9 _ _ ek8),z04 (j:=4) rfl,_,r.a,rfl,.inl zok.2.isA,rA,_,rfl,?_⟩⟩;exact ite2 (λ _=>told _ rfl) λ _=>go r9
   rintro H' rfl;have vl:vs.length=ts.length:=z03 sts;refine z1t (λ σ1 H14=>Same H9 H14/\∃p5,SqT (KX w.params) H14 p5 (vs.set at' v9)/\σ1=[some (.ref t),some (.ref la),some (.ref lm),some (.ref p),some (.ref lt),some (.ref ln),some (.ref g),some (.int (j:Nat)),some (.ref pk),some (.int (at':Nat)),some v9,some (dz dd.k dd.vb dd.dt sv).2,some (.ref p5),x13]) ?_ λ tl=>?_;rotate_left
   ·skip;refine ⟨_,rfl,.inr (.inl ⟨p,_,1,.ref pb,rfl,rfl,s19.seqT sp,z04 (j:=1) rfl,?_⟩)⟩;refine ⟨_,rfl,at',rfl,?_⟩;refine .inr (.inl ⟨pb,vs,rfl,s19.seqT sb,λ z=>?_,λ a1 ha1=>?_⟩)
    ·have:=z.2;rw [HT.sIx_nat] at this;omega
    have c1:cutV vs none (some (at':Int))=vs.take at':=by unfold cutV;rw [HT.sIx_none,HT.sIx_nat,P4,Nat.sub_zero,Nat.min_eq_left (by omega)]
    have r10:=Same.upd (o:=.tup (cutV vs none (some (at':Int)))) ha1;have e10:upd H9 a1 (.tup (cutV vs none (some (at':Int)))) a1=some (.tup (vs.take at')):=by rw [upd_same,c1]
    generalize upd H9 a1 (.tup (cutV vs none (some (at':Int))))=H10 at r10 e10⊢;refine ⟨_,rfl,(show (1:Nat)<=sizeLine by decide),λ a2 ha2=>?_⟩;have r11:=Same.upd (o:=.tup [v9]) ha2;have e11:upd H10 a2 (.tup [v9]) a2=some (.tup [v9]):=upd_same;generalize upd H10 a2 (.tup [v9])=H11 at r11 e11⊢;refine .inl ⟨a1,a2,vs.take at',[v9],rfl,rfl,SqT.of (r11 _ _ e10),SqT.of e11,by simp,G0 (m:=100) (by rw [R3];show _ + 1<=100;have:=ok.n6;omega) (by decide),λ a3 H12 r12 q12=>?_⟩;have r9':Same H9 H12:=(r10.trans r11).trans r12;have s112:=s19.trans r9';refine ⟨_,rfl,.inr (.inl ⟨p,_,1,.ref pb,rfl,rfl,s112.seqT sp,z04 (j:=1) rfl,?_⟩)⟩;refine ⟨_,rfl,.inl ⟨at',1,rfl,rfl,_,rfl,?_⟩⟩;refine .inr (.inl ⟨pb,vs,rfl,s112.seqT sb,λ z=>?_,λ a4 ha4=>?_⟩)
    ·have:=z.1;rw [show (at':Int) + 1=((at' + 1:Nat):Int) from rfl,HT.sIx_nat] at this;omega
    have c2:cutV vs (some ((at':Int) + 1)) none=vs.drop (at' + 1):=by unfold cutV;rw [show (at':Int) + 1=((at' + 1:Nat):Int) from rfl,HT.sIx_none,HT.sIx_nat,Nat.min_eq_left (by omega)];exact M6 (by rw [i4];exact F0 _)
    have r13:=Same.upd (o:=.tup (cutV vs (some ((at':Int) + 1)) none)) ha4;have e13:upd H12 a4 (.tup (cutV vs (some ((at':Int) + 1)) none)) a4=some (.tup (vs.drop (at' + 1))):=by rw [upd_same,c2]
    generalize upd H12 a4 (.tup (cutV vs (some ((at':Int) + 1)) none))=H13 at r13 e13⊢;have es:vs.take at'++[v9]++vs.drop (at' + 1)=vs.set at' v9:=by rw [List.set_eq_take_append_cons_drop,if_pos (by omega),C5];rfl
    have q13:=r13.seqT q12;have sz13:(vs.take at'++[v9]).length + (vs.drop (at' + 1)).length<=sizeLine:=G0 (m:=100) (by rw [<-K0,es,D4];have:=ok.n6;omega) (by decide);by_cases hd:vs.drop (at' + 1)=[]
    ·refine .inr ⟨a3,a4,_,_,rfl,rfl,q13,SqT.of e13,by simp,sz13,λ _=>?_,λ z=>absurd hd z⟩;rw [hd,C3] at es;rw [es] at q13;exact tl _ _ ⟨r9'.trans r13,a3,q13,rfl⟩
    ·refine .inl ⟨a3,a4,_,_,rfl,rfl,q13,SqT.of e13,hd,sz13,λ p5 H14 r14 q14=>?_⟩;rw [es] at q14;exact tl _ _ ⟨(r9'.trans r13).trans r14,p5,q14,rfl⟩
   rintro σ1 H14 ⟨r14,p5,q5,rfl⟩;have s114:=s19.trans r14;refine z1b ?_;refine ⟨_,rfl,.inr (.inl ⟨p,_,0,.ref pa,rfl,rfl,s114.seqT sp,z04 (j:=0) rfl,?_⟩)⟩;refine ⟨_,rfl,(show (1:Nat)<=sizeLine by decide),λ b1 hb1=>?_⟩;have r15:=Same.upd (o:=.tup [.int (j:Nat)]) hb1;have e15:upd H14 b1 (.tup [.int (j:Nat)]) b1=some (.tup [.int (j:Nat)]):=upd_same;generalize upd H14 b1 (.tup [.int (j:Nat)])=H15 at r15 e15⊢;have lnn:(nsV ns).length=ns.length:=by unfold nsV;rw [D0]
   refine ⟨pa,b1,nsV ns,[.int (j:Nat)],rfl,rfl,(s114.trans r15).seqT sa,SqT.of e15,by simp,G0 (m:=100) (by rw [lnn];show _ + 1<=100;omega) (by decide),λ b2 H16 r16 q16=>?_⟩;rw [show nsV ns++[.int (j:Nat)]=((ns++[j]).map λ (n:Nat)=>(n:Int)).map V.int by unfold nsV;rw [S3,L1];rfl] at q16;refine ⟨b2,_,rfl,.inr q16,by rw [D0,K0];show _ + 1 < 64;omega,λ l3 ns' hl3 pm pw=>?_⟩;obtain ⟨ms,em,pms⟩:=zj7 pm;rw [em];have r17:=Same.upd (o:=.lst (nsV ms)) hl3;have e17:upd H16 l3 (.lst (nsV ms)) l3=some (.lst (nsV ms)):=upd_same;generalize upd H16 l3 (.lst (nsV ms))=H17 at r17 e17⊢;refine ⟨l3,nsV ms,rfl,.inl ⟨SqL.of e17,λ b4 hb4=>?_⟩⟩;have r18:=Same.upd (o:=.tup (nsV ms)) hb4;have e18:upd H17 b4 (.tup (nsV ms)) b4=some (.tup (nsV ms)):=upd_same;generalize upd H17 b4 (.tup (nsV ms))=H18 at r18 e18⊢;refine ⟨_,rfl,(show (2:Nat)<=sizeLine by decide),λ b5 hb5=>?_⟩;have r19:=Same.upd (o:=.tup [.ref b4,.ref p5]) hb5;have e19:upd H18 b5 (.tup [.ref b4,.ref p5]) b5=some (.tup [.ref b4,.ref p5]):=upd_same;generalize upd H18 b5 (.tup [.ref b4,.ref p5])=H19 at r19 e19⊢;refine g_name ?_;have r1419:Same H14 H19:=((((r15.trans r16).trans r17).trans r18).trans r19)
   have r719:Same H7 H19:=(r9.trans r14).trans r1419;refine ⟨_,rfl,.inl ⟨rfl,_,SqL.of (r719 _ _ e7)⟩,_,rfl,_,rfl,_,rfl,(show (3:Nat)<=sizeLine by decide),λ b6 hb6=>?_⟩;have r20:=Same.upd (o:=.tup [.int (j:Nat),(dz dd.k dd.vb dd.dt sv).2,.ref b5]) hb6;have e20:upd H19 b6 (.tup [.int (j:Nat),(dz dd.k dd.vb dd.dt sv).2,.ref b5]) b6=some (.tup [.int (j:Nat),(dz dd.k dd.vb dd.dt sv).2,.ref b5]):=upd_same;generalize upd H19 b6 (.tup [.int (j:Nat),(dz dd.k dd.vb dd.dt sv).2,.ref b5])=H20 at r20 e20⊢;have r720:=r719.trans r20;have e720:=r720 _ _ e7;refine ⟨lt,ys,_,rfl,rfl,e720,C1 (m:=100) (by omega) (by decide),?_⟩;have tt:Tt (KX w.params) H20 (upd H20 lt (.lst (ys++[.ref b6]))):=⟨Tups.lst e720,λ a xs h=>by rw [upd_ne (λ z=>by rw [z,e720] at h;cases h)];exact h⟩
   refine ⟨ys++[.ref b6],Same.keep (s7.trans r720) hlt,upd_same,by rw [upd_ne ltn.symm];exact r720 _ _ n7,by rw [upd_ne ngl];exact r720 _ _ g7,by rw [K0];show ys.length + 1<=_;omega,λ y hy=>?_,_,_,_,_,_,_,_,rfl⟩;rcases List.mem_append.mp hy with z|z
   ·exact ((fy y z).tt (.of r720)).tt tt
   rw [List.mem_singleton.mp z];refine ToldAt.tt tt ⟨b6,b5,j,_,rfl,e20,hjr,zok.2,b4,p5,ms,vs.set at' v9,SqT.of (r20 _ _ e19),SqT.of ((r19.trans r20) _ _ e18),pms.nodup_iff.mpr ?_,λ x hx=>?_,?_,(r1419.trans r20).seqT q5,?_⟩
   ·rw [N6];exact ⟨nd,by simp,λ a ha b hb e=>nin (by rw [<-List.mem_singleton.mp hb,<-e];exact ha)⟩
   ·rcases List.mem_append.mp (pms.mem_iff.mp hx) with z|z
    ·exact nlt x z
    ·rw [List.mem_singleton.mp z];exact hjr
   ·rw [pms.length_eq,K0];show ns.length + 1=_;omega
   ·have t20:Tups (KX w.params) H H20:=.of (s7.trans r720);refine z14 (by rw [D4,vl]) λ i t' v' ht' hv'=>?_;rw [List.getElem?_set] at hv';by_cases z:at'=i
    ·subst z;rw [if_pos rfl,if_pos (by omega)] at hv';cases hv';rw [hat] at ht';cases ht';exact ⟨_,zok.1,sz9.tups (.of ((r14.trans r1419).trans r20))⟩
    ·rw [if_neg z] at hv';obtain ⟨t2,ht2,h2⟩:=z0g sts hv';rw [ht'] at ht2;cases ht2;exact (h2.tups t20).le (F2 _)
  ·rintro σ H7 ⟨ys,s7,e7,n7,g7,yl,fy,x7,x8,x9,x10,x11,x12,x13,rfl⟩;exact ⟨_,rfl,q _ _ _ s7 e7 (by omega) fy⟩
def AnsD (b:PyData):Prop:=b=.str "ok"\/b=.str "none"\/∃i:Int,b=.int i/\-100000000000<=i/\i<=100000000000
noncomputable def SD1:PyData->Prop
 | .none=>True
 | .bool _=>True
 | .int i=>-100000000000<=i/\i<=100000000000
 | .str _=>True
 | .list [x]=>AnsD x
 | .tuple [x]=>AnsD x
 | _=>False
noncomputable def SD:Nat->PyData->Prop
 | 0,b=>AnsD b
 | 1,b=>SD1 b
 | _,b=>b.depth<=5
def ItS (k:Nat) (d:PyData):Prop:=d.depth<=10/\∀a b,d=.tuple [a,b]->a.depth<=4/\SD k b
theorem dep2 (a b:PyData):(V4 [a,b]).depth<=a.depth + b.depth + 1:=by simp only [B4,O1];omega
theorem AnsD.dep {b:PyData} (h:AnsD b):b.depth=0:=by rcases h with rfl|rfl|⟨i,rfl,_⟩<;>rfl
theorem ItS.tup {k:Nat} {a b:PyData} (ha:a.depth<=4) (hb:b.depth<=5) (h:SD k b):ItS k (.tuple [a,b]):=by refine ⟨G0 (dep2 a b) (by omega),λ a' b' e=>?_⟩;injection e with e;injection e with e1 e;injection e with e2 _;subst e1 e2;exact ⟨by omega,h⟩
noncomputable def hide (r:Addr) (H:Hp):Hp:=λ p=>if p=r then none else H p
theorem z1h {r p:Addr} {H:Hp} {o:HO} (n:p≠r) (e:H p=some o):hide r H p=some o:=by unfold hide;rw [if_neg n];exact e
theorem z0m {r:Addr} {H:Hp}:Same (hide r H) H:=λ p o e=>by
 unfold hide at e;by_cases z:p=r
 ·rw [if_pos z] at e;cases e
 ·rw [if_neg z] at e;exact e
theorem zbp {r p:Addr} {H:Hp} {o:HO} (e:hide r H p=some o):p≠r:=λ z=>by unfold hide at e;rw [if_pos z] at e;cases e
theorem z0z {r:Addr} {H H':Hp} (k:Kept r H H'):Same (hide r H) (hide r H'):=λ p o e=>z1h (zbp e) (k _ _ (zbp e) (z0m _ _ e))
theorem z0c {r:Addr} {H H':Hp} (s:Same H H'):Same (hide r H) (hide r H'):=λ p o e=>z1h (zbp e) (s _ _ (z0m _ _ e))
theorem z2f {r l:Addr} {H:Hp} {o:HO}:hide l (hide r (upd H l o))=hide l (hide r H):=by
 funext q;unfold hide;by_cases z:q=l
 ·rw [if_pos z,if_pos z]
 ·rw [if_neg z,if_neg z];by_cases z2:q=r
  ·rw [if_pos z2,if_pos z2]
  ·rw [if_neg z2,if_neg z2,upd_ne z]
theorem z84 {α β:Type} {R:α->β->Prop} {xs xs':List α} {ys ys':List β} (h:All2 R xs ys) (h':All2 R xs' ys'):All2 R (xs++xs') (ys++ys'):=by
 induction h with
 | nil=>exact h'
 | cons a r ih=>exact .cons a ih
theorem AnsV.data {H:Hp} {a:V} (h:AnsV a) :∃b,AnsD b/\HPd H b a:=by
 rcases h with rfl|rfl|⟨i,rfl,h⟩
 ·exact ⟨_,.inl rfl,rfl⟩
 ·exact ⟨_,.inr (.inl rfl),rfl⟩
 ·exact ⟨_,.inr (.inr ⟨i,rfl,h⟩),rfl⟩
theorem zft {c:TT} {tb:TS} {D:Ends} {σ:L2.St} {H:Hp} (W B:Nat->L2.St->Hp->Prop) (m0:Nat) (w0:W m0 σ H)
  (body :∀m σ H1,B m σ H1->tb { D with nx:=λ σ' H'=>∃m',m' < m/\W m' σ' H',ct:=λ σ' H'=>∃m',m' < m/\W m' σ' H',bk:=D.nx } σ H1)
  (cond :∀m σ H,W m σ H->(∀H1,B m σ H1->∃N:L2.St->Hp->Prop,(∀σ' H',N σ' H'->∃m',m' < m/\W m' σ' H')/\tb { D with nx:=N,ct:=N,bk:=D.nx } σ H1)->c σ H λ b H1=>if b=true then∃N:L2.St->Hp->Prop,(∀σ' H',N σ' H'->∃m',m' < m/\W m' σ' H')/\tb { D with nx:=N,ct:=N,bk:=D.nx } σ H1 else D.nx σ H1):tWhile c tb D σ H:=
 ⟨W,⟨m0,w0⟩,λ m σ H h=>cond m σ H h λ H1 b=>⟨_,λ _ _ z=>z,body m σ H1 b⟩⟩
def z3x (K:b0):Sp:=λ vs H Q _=>∃(r t:Addr) (ts:List (Str×Str)) (es:List Ev) (ps:List DD) (m:Nat),vs=[.ref r,.ref t,.str (z0u m)]/\HandAt H r/\TaleAt K H t ts es/\ThW ts/\es.length<=63/\EWf [] es/\All2 (RcGd K H ts) (dAll 0 [] es) ps/\
 ∀l xs ds H',Hw r H H'->H l=none->H' l=some (.lst xs)->All2 (HPd (hide r H')) ds xs->ds.length<=63->(∀d∈ds,ItS 0 d)->Q (.ref l) H'
theorem z76 (T:TX (KX w.params) mg) (c__law_acts:Cal P w (KX w.params) mg base "_law_acts" ["tale"] 1 (z35 (KX w.params))) (c__law_musts:Cal P w (KX w.params) mg base "_law_musts" ["acts","strictness"] 2 z4j) (c__law_begun:Cal P w (KX w.params) mg base "_law_begun" ["kind"] 1 (z1n (KX w.params))) (c__law_is_full:Cal P w (KX w.params) mg base "_law_is_full" ["acts","place"] 1 (z32 (KX w.params))) (c__law_draw:Cal P w (KX w.params) mg base "_law_draw" ["hand","limit"] 1 z0q) (c__law_on:Cal P w (KX w.params) mg base "_law_on" ["tale","acts","must","place"] 2 (z8e (KX w.params))):FnOk P w (KX w.params) mg base CX0 3 342 fd__law_walked ["hand","tale","strictness"] (z3x (KX w.params)):=by
 refine (z2o w.params).ok sc__law_walked (λ vs H Q E h=>?_) (λ cdv A outer s H vs Q E hr h=>?_)
 ·obtain ⟨r,t,ts,es,ps,m,rfl,_⟩:=h;rfl
 ·obtain ⟨r,t,ts,es,ps,m,rfl,R,⟨pt,te,ys,et,th,ete,al⟩,ok,e63,wf,gd,q⟩:=h;refine ⟨_,(z02 (ps_set (i:=3) sc__law_walked.nd rfl (by first|exact Y0 rfl|exact X0 rfl) (pe_cal c__law_acts (hr.mono (by first|decide|omega)) rfl (z00 (pv 1) pa_nil)))
   (z02 (ps_set (i:=4) sc__law_walked.nd rfl (by first|exact Y0 rfl|exact X0 rfl) (pe_cal c__law_musts (hr.mono (by first|decide|omega)) rfl (z00 (pv 3) (z00 (pv 2) pa_nil))))
   (z02 (ps_set (i:=5) sc__law_walked.nd rfl (by first|exact Y0 rfl|exact X0 rfl) (pe_tup (z00 (pe_tup pa_nil) (z00 (z0h z0p rfl (T.no (z26 _)) S4 (z00 (z0s (xs:=["name","kind"]) (g:=gTup (KX w.params) 2 (gCons (gName 0) (gCons (gName 1) gNil))) (fr:=[]) rfl (pi_tup (pe_ix ix_seq (pv 1) pe_int (λ _ _=>rfl))) (λ _ z=>absurd z o0) (z1e rfl) (λ _ z=>absurd z o0) (by decide +kernel) rfl (by decide +kernel) (λ _ _ _ _ _=>(pg_tup rfl (z0a (z0j (N:=["name","kind"]) 0 (by decide +kernel) rfl rfl) (z0a (z0j (N:=["name","kind"]) 1 (by decide +kernel) rfl rfl) z12)))) (λ _ _ _ _ _=>pf_nil) (λ _ _ _ _ _=>(pe_cal c__law_begun (hr.mono (by first|decide|omega)) rfl (z00 (pv 1) pa_nil)))) pa_nil)) pa_nil))))
   (z02 (ps_set (i:=6) sc__law_walked.nd rfl (by first|exact Y0 rfl|exact X0 rfl) (pe_lst pa_nil))
   (z02 (zfm D2 (PW.pt (pw_or (pt_not (pt_val (pe_cal c__law_is_full (hr.mono (by first|decide|omega)) rfl (z00 (pv 3) (z00 (pv 5) pa_nil))) (λ _=>rfl))) (pw_or1 (z09 opEq (pe_cal c__law_draw (hr.mono (by first|decide|omega)) rfl (z00 (pv 0) (z00 pe_int pa_nil))) pe_int (nomark _)))))
   (z02 (ps_set (i:=7) sc__law_walked.nd rfl (by first|exact Y0 rfl|exact X0 rfl) (pe_cal c__law_on (hr.mono (by first|decide|omega)) rfl (z00 (pv 1) (z00 (pv 3) (z00 (pv 4) (z00 (pv 5) pa_nil))))))
   (z02 (ps_if (z09 (zc5 hr) (pv 7) (pe_lst pa_nil) (nomark _))
   (z05 (ps_ret (pv 6)))
   z0d)
   (z02 (ps_asg (pe_ix ix_seq (pv 7) (pe_op op_mul (pe_cal c__law_draw (hr.mono (by first|decide|omega)) rfl (z00 (pv 0) (z00 (z08 z0w rfl (T.no (n_len _)) W2 (z00 (pv 7) pa_nil)) pa_nil))) (z0h z5q rfl (T.no (n_int _)) X9 (z00 (z0o opEq (pe_cal c__law_draw (hr.mono (by first|decide|omega)) rfl (z00 (pv 0) (z00 pe_int pa_nil))) pe_int (nomark _)) pa_nil))) (λ _ _=>rfl)) (pg_tup rfl (z0a (z0l (i:=8) sc__law_walked.nd rfl (by first|exact Y0 rfl|exact X0 rfl)) (z0a (z0l (i:=9) sc__law_walked.nd rfl (by first|exact Y0 rfl|exact X0 rfl)) (z0a (z0l (i:=5) sc__law_walked.nd rfl (by first|exact Y0 rfl|exact X0 rfl)) z12)))))
   (z05 (z1c (z1d (pv 6) (z00 (pe_tup (z00 (pv 8) (z00 (pv 9) pa_nil))) pa_nil))))))))
   (z05 (ps_ret (pv 6)))))))),?_⟩
  refine ⟨_,rfl,t,te,.ref pt,ys,es,rfl,SqT.of et,SqT.of ete,al,by omega,wf,λ la zs H1 s1 el aa=>?_⟩;refine g_name (t_nx ?_);obtain ⟨dw,os,DI⟩:=DInv.all DInv.nil wf;have rl:(dAll 0 [] es).length<=63:=by have:=z5a (i:=0) (rs:=[]) es;simp only [G2,K4] at this;omega
  generalize dAll 0 [] es=rs at *;have lz:zs.length=rs.length:=z03 aa;refine ⟨_,rfl,_,rfl,la,zs,rs,_,m,os,rfl,el,aa,DI,rl,λ lm H2 s2 mu=>?_⟩;refine g_name (t_nx ?_);have s12:=s1.trans s2;have el2:=s2 _ _ el;have aa2:=z01 (λ _ _ z=>ActAt.same s2 z) aa;obtain ⟨yt,eyt,alt⟩:=th;refine z1b ?_;refine ⟨(show (0:Nat)<=sizeLine by decide),λ a0 ha0=>?_⟩;have s3:=Same.upd (o:=.tup []) ha0;have e3:upd H2 a0 (.tup []) a0=some (.tup []):=upd_same;generalize upd H2 a0 (.tup [])=H3 at s3 e3⊢;have s13:=s12.trans s3;refine zj1 (e_cb1 ?_);refine z1o (K:=KX w.params) (a:=pt) (xs:=yt) (H1:=H3) (λ _=>true) (λ i y H'=>∃t,ts[i]? = some t/\StZ (KX w.params) H' (zeroK t.2) y) (λ _ _ _ _ s ⟨t,h1,h2⟩=>⟨t,h1,h2.tups (.of s)⟩) (λ R h=>⟨_,rfl,.inr (.inl ⟨t,_,0,.ref pt,rfl,rfl,SqT.of (s13 _ _ et),z04 (j:=0) rfl,h⟩)⟩) (s13.seqT (SqT.of eyt)) (G0 (m:=6) (by rw [z03 alt];exact ok.n6) (by decide)) ?_ ?_
  ·intro i hi v H4 s4 hv KT KF k1 k2;obtain ⟨t,ht,b,rfl,eb⟩:=z0g alt hv;have eb2:=(s13.trans s4) _ _ eb;refine ⟨b,_,rfl,SqT.of eb2,rfl,_,_,rfl,_,_,rfl,rfl,[some (.str t.1),some (.str t.2)],rfl,rfl,iteT ?_⟩;exact ⟨_,rfl,t.2,rfl,λ u H5 s5 sa=>k1 rfl _ _ s5 ⟨t,ht,sa⟩⟩
  intro l4 H4 vs s4 hl4 al4;rw [List.filter_eq_self.mpr (λ _ _=>rfl),z03 alt] at al4;have s45:=Same.upd (o:=.lst vs) hl4;have e5:upd H4 l4 (.lst vs) l4=some (.lst vs):=upd_same;generalize upd H4 l4 (.lst vs)=H5 at s45 e5⊢;refine ⟨l4,vs,rfl,.inl ⟨SqL.of e5,λ a5 ha5=>?_⟩⟩;have s56:=Same.upd (o:=.tup vs) ha5;have e6:upd H5 a5 (.tup vs) a5=some (.tup vs):=upd_same;generalize upd H5 a5 (.tup vs)=H6 at s56 e6⊢;refine ⟨(show (2:Nat)<=sizeLine by decide),λ p0 hp0=>?_⟩;have s67:=Same.upd (o:=.tup [.ref a0,.ref a5]) hp0;have e7:upd H6 p0 (.tup [.ref a0,.ref a5]) p0=some (.tup [.ref a0,.ref a5]):=upd_same;generalize upd H6 p0 (.tup [.ref a0,.ref a5])=H7 at s67 e7⊢;have s47:Same H4 H7:=(s45.trans s56).trans s67;have pl7:PlAt (KX w.params) H7 ts rs.length 0 p0:=by refine ⟨a0,a5,[],vs,SqT.of e7,SqT.of ((s4.trans s47) _ _ e3),.nil,λ x hx=>absurd hx o0,rfl,SqT.of (s67 _ _ e6),?_⟩;have lv:=z03 al4;rw [x2] at lv;refine z14 lv λ i t' v' ht' hv'=>?_;obtain ⟨j,hj,t2,h1,h2⟩:=z0g al4 hv';rw [O3 (List.getElem?_eq_some_iff.mp ht').1] at hj;cases hj;rw [ht'] at h1;cases h1;exact ⟨_,z7a _,h2.tups (.of s47)⟩
  refine g_name ?_;refine z1b ?_;refine ⟨(show (0:Nat)<=sizeLine by decide),λ lo hlo=>?_⟩;have s78:=Same.upd (o:=.lst []) hlo;have e8:upd H7 lo (.lst []) lo=some (.lst []):=upd_same;have s28:Same H2 (upd H7 lo (.lst [])):=((s3.trans s4).trans s47).trans s78;have pl8:=pl7.tups (.of s78);generalize upd H7 lo (.lst [])=H8 at s78 e8 s28 pl8⊢;refine g_name ?_;have s18:=s12.trans s28;have R8:HandAt H8 r:=R.same s18;have f2:H2 lo=none:=((s3.trans s4).trans s47).free hlo;have f1:H1 lo=none:=s2.free f2;have f0:H lo=none:=s1.free f1;have nlr:lo≠r:=R.fresh f0;have lar:la≠r:=λ z=>by
   obtain ⟨a,b,c,e,_⟩:=R.same s1;rw [<-z,el] at e;injection e with e;injection e with e;rw [e] at aa;cases aa with
   | cons h _=>obtain ⟨p,hp,_⟩:=h;cases hp
  have m8 :∀a∈[r,lo],MutAt H8 a:=λ a ha=>by
   rcases List.mem_cons.mp ha with z|z
   ·rw [z];exact R8.mutAt
   ·rw [List.mem_singleton.mp z];exact .inl ⟨_,e8⟩
  have fin :∀H' xs ds,KeptL [r,lo] H8 H'->HandAt H' r->H' lo=some (.lst xs)->All2 (HPd (hide lo (hide r H'))) ds xs->ds.length<=63->(∀d∈ds,ItS 0 d)->Q (.ref lo) H':=λ H' xs ds k R' e ad dl lv=>q _ _ _ _ ⟨λ b o nb e=>k b o (λ z=>by
   rcases List.mem_cons.mp z with z|z
   ·exact nb z
   ·rw [List.mem_singleton.mp z,f0] at e;cases e) (s18 _ _ e),R'⟩ f0 e (z01 (λ _ _ z=>z.same z0m) ad) dl lv
  have facts :∀H',KeptL [r,lo] H8 H'->HandAt H' r->Tt (KX w.params) H8 H'/\H' la=some (.lst zs)/\All2 (ActAt H') rs zs/\MustAt H1 H' rs.length lm:=λ H' k R'=>by
   have nr :∀a o,H2 a=some o->a≠r->a∉[r,lo]:=λ a o e n z=>by
    rcases List.mem_cons.mp z with z|z
    ·exact n z
    ·rw [List.mem_singleton.mp z,f2] at e;cases e
   refine ⟨KeptL.tt k m8,k _ _ (nr _ _ el2 lar) (s28 _ _ el2),z01 (λ x y z=>?_) aa2,mu.kept λ a o h1 e=>k _ _ (nr _ _ e λ z=>?_) (s28 _ _ e)⟩
   ·obtain ⟨pp,e1,e2⟩:=z;refine ⟨pp,e1,k _ _ (nr _ _ e2 λ z=>?_) (s28 _ _ e2)⟩;obtain ⟨a,b,c,e,_⟩:=R.same s12;rw [<-z,e2] at e;injection e with e;injection e with e;exact absurd (congrArg S5 e) (by simp)
   ·obtain ⟨a,b,c,e,_⟩:=R.same s1;rw [<-z,h1] at e;cases e
  refine z1t (λ σ1 H'=>∃p xs ds x7 x8 x9,KeptL [r,lo] H8 H'/\HandAt H' r/\H' lo=some (.lst xs)/\All2 (HPd (hide lo (hide r H'))) ds xs/\ds.length<=63/\(∀d∈ds,ItS 0 d)/\σ1=[some (.ref r),some (.ref t),some (.str (z0u m)),some (.ref la),some (.ref lm),some (.ref p),some (.ref lo),x7,x8,x9]) ?_ (λ tl=>?_)
  ·rintro σ1 H' ⟨p,xs,ds,x7,x8,x9,k,R',e,ad,dl,lv,rfl⟩;exact ⟨_,rfl,fin _ _ _ k R' e ad dl lv⟩
  refine zft (λ k σ1 H'=>∃n p xs ds x7 x8 x9,k=rs.length - n/\n<=rs.length/\PlAt (KX w.params) H' ts rs.length n p/\KeptL [r,lo] H8 H'/\HandAt H' r/\H' lo=some (.lst xs)/\All2 (HPd (hide lo (hide r H'))) ds xs/\ds.length=n/\(∀d∈ds,ItS 0 d)/\σ1=[some (.ref r),some (.ref t),some (.str (z0u m)),some (.ref la),some (.ref lm),some (.ref p),some (.ref lo),x7,x8,x9])
   (λ k σ1 H'=>∃n p xs ds x7 x8 x9,k=rs.length - n/\n<=rs.length/\PlAt (KX w.params) H' ts rs.length n p/\KeptL [r,lo] H8 H'/\HandAt H' r/\H' lo=some (.lst xs)/\All2 (HPd (hide lo (hide r H'))) ds xs/\ds.length=n/\(∀d∈ds,ItS 0 d)/\σ1=[some (.ref r),some (.ref t),some (.str (z0u m)),some (.ref la),some (.ref lm),some (.ref p),some (.ref lo),x7,x8,x9])
   rs.length ⟨0,p0,[],[],_,_,_,rfl,Q1 _,pl8,KeptL.refl,R8,e8,.nil,rfl,λ d hd=>absurd hd o0,rfl⟩ ?_ ?_
  rotate_left
  ·rintro k σ1 H9 ⟨n,p,xs,ds,x7,x8,x9,rfl,nN,pl,k9,R9,e9,ad,dl,lv,rfl⟩ tb;obtain ⟨tt9,el9,aa9,mu9⟩:=facts _ k9 R9;have mv :∀H',Hw r H9 H'->PlAt (KX w.params) H' ts rs.length n p/\KeptL [r,lo] H8 H'/\H' lo=some (.lst xs)/\All2 (HPd (hide lo (hide r H'))) ds xs:=λ H' w'=>⟨pl.tups (w'.tt R9).t,k9.trans (w'.keptL (by simp)),w'.k _ _ nlr e9,z01 (λ _ _ z=>z.same (z0c (z0z w'.k))) ad⟩
   have go :∀H',Hw r H9 H'->∃n' p' xs ds x7' x8' x9',rs.length - n=rs.length - n'/\n'<=rs.length/\PlAt (KX w.params) H' ts rs.length n' p'/\KeptL [r,lo] H8 H'/\HandAt H' r/\H' lo=some (.lst xs)/\All2 (HPd (hide lo (hide r H'))) ds xs/\ds.length=n'/\(∀d∈ds,ItS 0 d)/\([some (.ref r),some (.ref t),some (.str (z0u m)),some (.ref la),some (.ref lm),some (.ref p),some (.ref lo),x7,x8,x9]:List (Option V))=[some (.ref r),some (.ref t),some (.str (z0u m)),some (.ref la),some (.ref lm),some (.ref p'),some (.ref lo),x7',x8',x9']:=λ H' w'=>by obtain ⟨h1,h2,h3,h4⟩:=mv H' w';exact ⟨n,p,xs,ds,x7,x8,x9,rfl,nN,h1,h2,w'.r,h3,h4,dl,lv,rfl⟩
   obtain ⟨pa,pb,ns,vs9,sp,sa,nd,nlt,nl,sb,sts⟩:=pl;refine t_or ?_;refine ⟨_,rfl,_,rfl,la,p,pa,zs,rs,ns,.ref pb,rfl,el9,aa9,rl,sp,sa,λ b H10 s10=>⟨_,rfl,?_⟩⟩;have w10:Hw r H9 H10:=R9.hw.same s10;cases b with
   | false=>exact iteP rfl (iteT (tb _ (go _ w10)))
   | true=>
   refine iteN (by decide) ?_;refine ⟨_,rfl,r,2,rfl,w10.r,by decide,by decide,λ t' H11 w11 _ _=>⟨rfl,_,rfl,?_⟩⟩;have w11:=w10.trans w11;refine ite2 (λ _=>tb _ (go _ w11)) λ _=>?_;obtain ⟨h1,h2,h3,h4⟩:=mv _ w11;exact tl _ _ ⟨p,xs,ds,_,_,_,h2,w11.r,h3,h4,by omega,lv,rfl⟩
  ·rintro k σ1 H9 ⟨n,p,xs,ds,x7,x8,x9,rfl,nN,pl,k9,R9,e9,ad,dl,lv,rfl⟩;obtain ⟨tt9,el9,aa9,mu9⟩:=facts _ k9 R9;have tt09:Tt (KX w.params) H H9:=(Tt.of s18).trans tt9;refine ⟨_,rfl,_,rfl,_,rfl,_,rfl,t,la,lm,p,pt,te,zs,ts,rs,ps,n,H1,rfl,tt09.l _ _ et,ThAt.tt tt09 ⟨yt,eyt,alt⟩,ok,el9,aa9,z01 (λ _ _ z=>RcGd.tt tt09 z) gd,rl,mu9,pl,λ lt ys H10 s10 e10 yl fy=>?_⟩;refine g_name (t_nx ?_);have w10:Hw r H9 H10:=R9.hw.same s10;have k10:KeptL [r,lo] H8 H10:=k9.trans s10.keptL;have e10o:=s10 _ _ e9;have ad10:=z01 (λ _ _ z=>HPd.same z (z0c (z0c s10))) ad;refine ⟨_,rfl,(show (0:Nat)<=sizeLine by decide),λ l0 hl0=>?_⟩;have s11:=Same.upd (o:=.lst []) hl0;have e11:upd H10 l0 (.lst []) l0=some (.lst []):=upd_same;generalize upd H10 l0 (.lst [])=H11 at s11 e11⊢;refine ⟨lt,l0,ys,rfl,rfl,SqL.of (s11 _ _ e10),SqL.of e11,_,rfl,?_⟩;have w11:=w10.same s11;have k11:=k10.trans s11.keptL;have e11o:=s11 _ _ e10o;have ad11:=z01 (λ _ _ z=>HPd.same z (z0c (z0c s11))) ad10;by_cases y0:ys=[]
   ·exact iteP (decide_eq_true y0) ⟨_,rfl,fin _ _ _ k11 w11.r e11o ad11 (by omega) lv⟩
   refine iteN (by rw [decide_eq_false y0];decide) ?_;have yp:0 < ys.length:=List.length_pos_iff.mpr y0;refine t_nx ?_;refine ⟨_,rfl,_,rfl,_,rfl,.inl ⟨lt,ys,rfl,.inl (SqL.of (s11 _ _ e10)),?_⟩⟩;refine ⟨r,_,rfl,w11.r,by omega,by omega,λ t1 H12 w12 h0 h1=>?_⟩;refine ⟨_,rfl,r,2,rfl,w12.r,by decide,by decide,λ t2 H13 w13 g0 g1=>⟨rfl,.inl (.inr ⟨_,rfl,?_⟩)⟩⟩;have ltr:lt≠r:=λ z=>by obtain ⟨a,b,c,e,_⟩:=w10.r;rw [<-z,e10] at e;injection e with e;injection e with e;obtain ⟨b',p',x',a',h,_⟩:=fy (.int a) (by rw [e];exact B1);cases h
   have w1113:Hw r H11 H13:=w12.trans w13;have w913:Hw r H9 H13:=w11.trans w1113;generalize hc:(if decide (V.int t2=V.int 1)=true then (1:Int) else 0)=c;have hc':c=0\/c=1:=by
    rw [<-hc];by_cases z:decide (V.int t2=V.int 1)=true
    ·rw [if_pos z];exact .inr rfl
    ·rw [if_neg z];exact .inl rfl
   have i0:0<=t1 * c:=by rcases hc' with z|z<;>rw [z]<;>omega
   have i1:t1 * c < ys.length:=by rcases hc' with z|z<;>rw [z]<;>omega
   refine ⟨t1,c,rfl,rfl,.inr (by rcases hc' with z|z<;>rw [z]<;>exact ⟨by decide,by decide⟩),?_⟩;obtain ⟨y,hy,hm⟩:=atI_of (xs:=ys) i0 i1;refine .inl ⟨lt,ys,_,y,rfl,rfl,SqL.of (w1113.k _ _ ltr (s11 _ _ e10)),hy,?_⟩;obtain ⟨b,p',x,a,rfl,eb,xN,aA,pl'⟩:=(fy y hm).tt ((Tt.of s11).trans (w1113.tt w11.r));refine ⟨b,_,rfl,SqT.of eb,rfl,_,_,rfl,_,_,rfl,_,_,rfl,rfl,?_⟩;refine t_nx ?_;have e13o:=w1113.k _ _ nlr e11o;have ad13:=z01 (λ _ _ z=>HPd.same z (z0c (z0z w1113.k))) ad11;have k13:KeptL [r,lo] H8 H13:=k11.trans (w1113.keptL (by simp));refine ⟨_,rfl,.inl ⟨rfl,_,SqL.of e13o⟩,_,rfl,_,rfl,(show (2:Nat)<=sizeLine by decide),λ b6 hb6=>?_⟩;have s14:=Same.upd (o:=.tup [.int (x:Nat),a]) hb6;have e14:upd H13 b6 (.tup [.int (x:Nat),a]) b6=some (.tup [.int (x:Nat),a]):=upd_same;have nb1:b6≠r:=w1113.r.fresh hb6;have nb2:b6≠lo:=λ z=>by rw [z,e13o] at hb6;cases hb6
   generalize upd H13 b6 (.tup [.int (x:Nat),a])=H14 at s14 e14⊢;have e14o:=s14 _ _ e13o;have xl:xs.length=ds.length:=z03 ad;refine ⟨lo,xs,_,rfl,rfl,e14o,C1 (m:=100) (by omega) (by decide),?_⟩;have nN':n + 1<=rs.length:=by obtain ⟨pa,pb,ns,vs9,sp,sa,nd,nlt,nl,_⟩:=pl';rw [<-nl];exact z2x _ _ nd nlt
   obtain ⟨bd,hbd,hpd⟩:=aA.data (H:=hide lo (hide r H14));have tt14:Tt (KX w.params) H14 (upd H14 lo (.lst (xs++[.ref b6]))):=⟨Tups.lst e14o,λ a xs h=>by rw [upd_ne (λ z=>by rw [z,e14o] at h;cases h)];exact h⟩
   refine ⟨rs.length - (n + 1),by omega,n + 1,p',xs++[.ref b6],ds++[.tuple [.int (x:Nat),bd]],_,_,_,rfl,nN',(pl'.tups (.of s14)).tups tt14.t,(k13.trans s14.keptL).trans (KeptL.set (by simp)),?_,upd_same,?_,by rw [K0,dl];rfl,λ d hd=>?_,rfl⟩
   ·obtain ⟨a1,b1,c1,e1,z1⟩:=w1113.r.same s14;exact ⟨a1,b1,c1,by rw [upd_ne nlr.symm];exact e1,z1⟩
   ·rw [z2f];refine z84 (z01 (λ _ _ z=>HPd.same z (z0c (z0c s14))) ad13) (.cons ⟨b6,[.int (x:Nat),a],rfl,z1h nb2 (z1h nb1 e14),.int (x:Nat),[a],rfl,rfl,a,[],rfl,hpd,rfl⟩ .nil)
   ·rcases List.mem_append.mp hd with z|z
    ·exact lv d z
    ·rw [List.mem_singleton.mp z];exact .tup (Q1 _) (by rw [hbd.dep];exact Q1 _) hbd
theorem sd_dep {k:Nat} {b:PyData} (h:SD k b):b.depth<=5:=by
 match k,h with
 | 0,h=>rw [AnsD.dep h];exact Q1 _
 | 1,h=>
  have h:SD1 b:=h;unfold SD1 at h;split at h
  ·exact Q1 _
  ·exact Q1 _
  ·exact Q1 _
  ·exact Q1 _
  ·have:=h.dep;simp only [B4,O1];omega
  ·have:=h.dep;simp only [B4,O1];omega
  ·exact h.elim
 | k + 2,h=>exact h
theorem zi2 {b:PyData} (h:AnsD b):SD1 b:=by
 rcases h with rfl|rfl|⟨i,rfl,h⟩
 ·exact trivial
 ·exact trivial
 ·exact h
theorem sd_up {k:Nat} {b:PyData} (h:SD k b):SD (k + 1) b:=by
 match k,h with
 | 0,h=>exact zi2 h
 | 1,h=>exact sd_dep (k:=1) h
 | k + 2,h=>exact h
theorem sd_any {k:Nat} {b:PyData} (h:SD1 b):SD (k + 1) b:=by
 match k with
 | 0=>exact h
 | k + 1=>exact sd_dep (k:=1) h
theorem ItS.up {k:Nat} {d:PyData} (h:ItS k d):ItS (k + 1) d:=⟨h.1,λ a b e=>⟨(h.2 a b e).1,sd_up (h.2 a b e).2⟩⟩
theorem zho {i:Int} (h0:-100000000000<=i) (h1:i<=100000000000):i.natAbs.log2 < 1920:=by
 have:i.natAbs<=100000000000:=by omega
 have h:i.natAbs < 2 ^ 1920:=C1 this (J1 (show 100000000000 < 2 ^ 37 by decide) (Nat.pow_le_pow_right (by decide) (by decide)));by_cases z:i.natAbs=0
 ·rw [z];decide
 ·exact (Nat.log2_lt z).mpr h
theorem zdu {b:PyData} (h:AnsD b):b.showable=true:=by
 rcases h with rfl|rfl|⟨i,rfl,h0,h1⟩
 ·rfl
 ·rfl
 ·rw [PyData.showable.eq_4];exact decide_eq_true (zho h0 h1)
theorem zkl {b:PyData} (h:AnsD b):(N7 [b]).hasDict=false:=by rcases h with rfl|rfl|⟨i,rfl,h0,h1⟩<;>rfl
theorem zj4 {b:PyData} (h:AnsD b):(V4 [b]).hasDict=false:=by rcases h with rfl|rfl|⟨i,rfl,h0,h1⟩<;>rfl
theorem zhe {b:PyData} (h:AnsD b):b.shown.length<=20:=by
 rcases h with rfl|rfl|⟨i,rfl,h0,h1⟩
 ·decide +kernel
 ·decide +kernel
 ·rw [PyData.shown_int];have:=(zgy (i:=i) (by omega)).1;exact G0 this (by decide)
theorem zfu {α β:Type} {R:α->β->Prop} {xs:List α} {ys:List β} (h:All2 R xs ys) :∀i,All2 R (xs.drop i) (ys.drop i):=by
 induction h with
 | nil=>intro i;rw [List.drop_nil,List.drop_nil];exact .nil
 | cons a r ih=>
  intro i;cases i with
  | zero=>exact .cons a r
  | succ i=>exact ih i
theorem sd_str {b:PyData} (h:SD1 b):StrOk b:=by
 unfold SD1 at h;split at h
 ·exact trivial
 ·exact trivial
 ·exact zho h.1 h.2
 ·exact trivial
 ·exact ⟨by rw [PyData.showable.eq_5,PyData.showableAll.eq_2,zdu h];rfl,zkl h,by have:=h.dep;simp only [B4,O1];omega,by rw [shownLen_list1];have:=zhe h;exact G0 (m:=100) (by omega) (by decide)⟩
 ·exact ⟨by rw [PyData.showable.eq_6,PyData.showableAll.eq_2,zdu h];rfl,zj4 h,by have:=h.dep;simp only [B4,O1];omega,by rw [shownLen_tuple1];have:=zhe h;exact G0 (m:=100) (by omega) (by decide)⟩
 ·exact h.elim
theorem zk1 {b:PyData} (h:SD1 b):b.depth<=1:=by
 unfold SD1 at h;split at h
 ·exact Q1 _
 ·exact Q1 _
 ·exact Q1 _
 ·exact Q1 _
 ·have:=h.dep;simp only [B4,O1];omega
 ·have:=h.dep;simp only [B4,O1];omega
 ·exact h.elim
theorem sd_1 {k:Nat} {b:PyData} (h1:k<=1) (h:SD k b):SD1 b:=by
 match k,h1,h with
 | 0,_,h=>exact zi2 h
 | 1,_,h=>exact h
 | k + 2,h1,_=>omega
theorem zhn {k:Nat} {b:PyData} (h1:k<=1) (h:SD k b):SD (k + 1) (.list [b])/\SD (k + 1) (.tuple [b]):=by
 match k,h1,h with
 | 0,_,h=>exact ⟨h,h⟩
 | 1,_,h=>
  have:=zk1 h;constructor
  ·show (N7 [b]).depth<=5;simp only [B4,O1];omega
  ·show (V4 [b]).depth<=5;simp only [B4,O1];omega
 | k + 2,h1,_=>omega
theorem hp_is {K:b0} {H:Hp} {b:PyData} {v:V} (h:SD1 b) (hp:HPd H b v):IsPd K H b v:=by
 unfold SD1 at h;have one :∀{x:PyData} {u:V},AnsD x->HPd H x u->IsPd K H x u:=λ {x u} h hp=>by rcases h with rfl|rfl|⟨i,rfl,_⟩<;>exact hp
 split at h
 ·exact hp
 ·exact hp
 ·exact hp
 ·exact hp
 ·obtain ⟨a,xs,rfl,e,x,r,rfl,hx,hr⟩:=hp;exact ⟨a,_,rfl,SqL.of e,x,r,rfl,one h hx,hr⟩
 ·obtain ⟨a,xs,rfl,e,x,r,rfl,hx,hr⟩:=hp;exact ⟨a,_,rfl,SqT.of e,x,r,rfl,one h hx,hr⟩
 ·exact h.elim
noncomputable def badL:List PyData:=[.none,.int 0,.tuple [],.tuple [.int 0],.list [.int 0,.str "ok"],.tuple [.int 0,.str "ok",.int 1],.tuple [.str "0",.str "ok"],.tuple [.bool true,.str "ok"],.tuple [.int (-1),.int 0]]
noncomputable def badM:List PyData:=[.tuple [.int 24,.int 0],.tuple [.int 0,.none],.str "a",.tuple [.list [.int 0],.str "ok"],.tuple [.tuple [.int 0],.int 0],.tuple [.none,.int 0],.tuple [.dict [],.int 0],.tuple [.int 0,.str "1"]]
theorem ItS.no {k:Nat} {d:PyData} (h:d.depth<=10) (n :∀a b,d≠.tuple [a,b]):ItS k d:=⟨h,λ a b e=>absurd e (n a b)⟩
theorem it2 {k:Nat} {a b:PyData} (ha:a.depth<=4) (h:SD1 b):ItS (k + 1) (.tuple [a,b]):=.tup ha (sd_dep (k:=1) h) (sd_any h)
theorem zjp {k:Nat} :∀d∈badL++badM,ItS (k + 1) d:=by
 intro d hd;have i0:SD1 (.int 0):=⟨by decide,by decide⟩
 simp only [badL,badM,List.cons_append,List.nil_append,T0,o0,or_false] at hd;rcases hd with rfl|rfl|rfl|rfl|rfl|rfl|rfl|rfl|rfl|rfl|rfl|rfl|rfl|rfl|rfl|rfl|rfl
 ·exact .no (by decide) (λ a b e=>by cases e)
 ·exact .no (by decide) (λ a b e=>by cases e)
 ·exact .no (by decide) (λ a b e=>by cases e)
 ·exact .no (by decide) (λ a b e=>by cases e)
 ·exact .no (by decide) (λ a b e=>by cases e)
 ·exact .no (by decide) (λ a b e=>by cases e)
 ·exact it2 (by decide) trivial
 ·exact it2 (by decide) trivial
 ·exact it2 (by decide) i0
 ·exact it2 (by decide) i0
 ·exact it2 (by decide) trivial
 ·exact .no (by decide) (λ a b e=>by cases e)
 ·exact it2 (by decide) trivial
 ·exact it2 (by decide) i0
 ·exact it2 (by decide) i0
 ·exact it2 (by decide) i0
 ·exact it2 (by decide) trivial
noncomputable def ansL:List PyData:=[.str "ok",.str "none",.int 0,.int 1,.int (-1),.none,.bool true,.bool false,.list [.int 0],.tuple [.int 0],.str "1",.str "0",.str ""]
theorem zjx :∀d∈ansL,SD1 d:=by intro d hd;simp only [ansL,T0,o0,or_false] at hd;rcases hd with rfl|rfl|rfl|rfl|rfl|rfl|rfl|rfl|rfl|rfl|rfl|rfl|rfl<;>first|exact trivial|exact ⟨by decide,by decide⟩|exact .inr (.inr ⟨0,rfl,by decide,by decide⟩)
theorem zf7 {r l:Addr} {H:Hp} {o:HO} (hl:H l=none):Same (hide r H) (hide l (hide r (upd H l o))):=λ p u e=>by
 have h1:=zbp e;have e:=z0m _ _ e;have n:p≠l:=λ z=>by rw [z,hl] at e;cases e
 exact z1h n (z1h h1 (by rw [upd_ne n];exact e))
theorem zf6 {α β:Type} {R:α->β->Prop} {xs:List α} {ys:List β} (h:All2 R xs ys):All2 R xs.reverse ys.reverse:=by
 induction h with
 | nil=>exact .nil
 | cons a r ih=>rw [W7,W7];exact z84 ih (.cons a .nil)
theorem zat {α β:Type} {R:α->β->Prop} {xs:List α} {ys:List β} {x:α} {y:β} (h:All2 R xs ys) (n:Nat) (hx:R x y):All2 R (xs.take n++x :: xs.drop n) (ys.take n++y :: ys.drop n):=z84 (zbx h n) (.cons hx (zfu h n))
theorem z8x {α β:Type} {R:α->β->Prop} {xs:List α} {ys:List β} (h:All2 R xs ys) :∀i,All2 R (xs.eraseIdx i) (ys.eraseIdx i):=by
 induction h with
 | nil=>intro i;exact .nil
 | cons a r ih=>
  intro i;cases i with
  | zero=>exact r
  | succ i=>exact .cons a (ih i)
theorem zj6 {α β:Type} {R:α->β->Prop} {xs:List α} {ys:List β} {x:α} {y:β} (h:All2 R xs ys) (hx:R x y) :∀i,All2 R (xs.set i x) (ys.set i y):=by
 induction h with
 | nil=>intro i;exact .nil
 | cons a r ih=>
  intro i;cases i with
  | zero=>exact .cons hx r
  | succ i=>exact .cons a (ih i)
structure Sm (r ls:Addr) (H H':Hp) (ys:List V) (ds:List PyData):Prop where
 k:KeptL [r,ls] H H'
 h:HandAt H' r
 n:ls≠r
 e:H' ls=some (.lst ys)
 d:All2 (HPd (hide ls (hide r H'))) ds ys
theorem Sm.draw {r ls:Addr} {H H' H2:Hp} {ys:List V} {ds:List PyData} (h:Sm r ls H H' ys ds) (w:Hw r H' H2):Sm r ls H H2 ys ds:=⟨h.k.trans (w.keptL (by simp)),w.r,h.n,w.k _ _ h.n h.e,z01 (λ _ _ z=>HPd.same z (z0c (z0z w.k))) h.d⟩
theorem Sm.same {r ls:Addr} {H H' H2:Hp} {ys:List V} {ds:List PyData} (h:Sm r ls H H' ys ds) (s:Same H' H2):Sm r ls H H2 ys ds:=h.draw (h.h.hw.same s)
theorem Sm.put {r ls:Addr} {H H':Hp} {ys ys':List V} {ds ds':List PyData} (h:Sm r ls H H' ys ds) (a:All2 (HPd (hide ls (hide r H'))) ds' ys'):Sm r ls H (upd H' ls (.lst ys')) ys' ds':=by refine ⟨h.k.trans (KeptL.set (by simp)),?_,h.n,upd_same,by rw [z2f];exact a⟩;obtain ⟨a1,b1,c1,e1,z1⟩:=h.h;exact ⟨a1,b1,c1,by rw [upd_ne h.n.symm];exact e1,z1⟩
theorem Sm.len {r ls:Addr} {H H':Hp} {ys:List V} {ds:List PyData} (h:Sm r ls H H' ys ds):ys.length=ds.length:=z03 h.d
theorem z86 {r l:Addr} {B H:Hp} (n:B r≠none) (m:B l≠none):Same (dif B H) (hide l (hide r H)):=λ p o e=>z1h (λ z=>m (z ▸ z5i e)) (z1h (λ z=>n (z ▸ z5i e)) (z3j _ _ e))
theorem Sm.hn {r ls:Addr} {H H':Hp} {ys:List V} {ds:List PyData} (h:Sm r ls H H' ys ds):H' r≠none/\H' ls≠none:=by obtain ⟨a1,b1,c1,e1,z1⟩:=h.h;exact ⟨λ z=>(by rw [e1] at z;cases z),λ z=>(by rw [h.e] at z;cases z)⟩
theorem Sm.free {r ls:Addr} {H H':Hp} {ys:List V} {ds:List PyData} (h:Sm r ls H H' ys ds) {p:Addr} (e:H' p=none):H p=none:=by
 cases z:H p with
 | none=>rfl
 | some o=>have n1:p≠r:=λ y=>h.hn.1 (y ▸ e);have n2:p≠ls:=λ y=>h.hn.2 (y ▸ e);rw [h.k p o (by simp [n1,n2]) z] at e;cases e
def z3w:Sp:=λ vs H Q _=>∃(r o:Addr) (xs:List V) (ds:List PyData) (k:Nat),vs=[.ref r,.ref o]/\HandAt H r/\H o=some (.lst xs)/\All2 (HPd (hide r H)) ds xs/\ds.length<=70/\(∀d∈ds,ItS k d)/\k<=1/\
 ∀l ys ds' H',Hw r H H'->H l=none->H' l=some (.lst ys)->All2 (HPd (hide r H')) ds' ys->ds'.length<=ds.length + 1->(∀d∈ds',ItS (k + 1) d)->Q (.ref l) H'
theorem z7b (T:TX (KX w.params) mg) (c__law_draw:Cal P w (KX w.params) mg base "_law_draw" ["hand","limit"] 1 z0q):FnOk P w (KX w.params) mg base CX0 2 354 fd__law_spoilt ["hand","order"] z3w:=by
 refine (z2e w.params).ok sc__law_spoilt (λ vs H Q E h=>?_) (λ cdv A outer s H vs Q E hr h=>?_)
 ·obtain ⟨r,o,xs,ds,k,rfl,_⟩:=h;rfl
 ·obtain ⟨r,o,xs,ds,k,rfl,R,eo,ad,d70,it,k1,q⟩:=h;refine q_of (z0n (QS.mk (ps_set (i:=2) sc__law_spoilt.nd rfl (by first|exact Y0 rfl|exact X0 rfl) (z0h z5c rfl (T.no (n_list _)) boot_list (z00 (pv 1) pa_nil))))
   (z0n (QS.mk (ps_set (i:=3) sc__law_spoilt.nd rfl (by first|exact Y0 rfl|exact X0 rfl) (pe_cal c__law_draw (hr.mono (by first|decide|omega)) rfl (z00 (pv 0) (z00 pe_int pa_nil)))))
   (z0n (qs_if (PW.pt (pw_or (z09 (zc5 hr) (pv 2) (pe_lst pa_nil) (nomark _)) (pw_or1 (z09 opEq (pv 3) pe_int (nomark _)))))
   (z0n (qs_set (i:=4) sc__law_spoilt.nd rfl (by first|exact Y0 rfl|exact X0 rfl) (qe_dat (λ _=>True) (qd_lst (z06 qd_non (z06 qd_int (z06 (qd_tup z11) (z06 (qd_tup (z06 qd_int z11)) (z06 (qd_lst (z06 qd_int (z06 qd_str z11))) (z06 (qd_tup (z06 qd_int (z06 qd_str (z06 qd_int z11)))) (z06 (qd_tup (z06 qd_str (z06 qd_str z11))) (z06 (qd_tup (z06 qd_bl (z06 qd_str z11))) (z06 (qd_tup (z06 (qd_neg qd_int) (z06 qd_int z11))) z11))))))))))))
   (z0n (qs_set (i:=4) sc__law_spoilt.nd rfl (by first|exact Y0 rfl|exact X0 rfl) (qe_op opAdd (QE.mk (pv 4)) (qe_dat (λ _=>True) (qd_lst (z06 (qd_tup (z06 qd_int (z06 qd_int z11))) (z06 (qd_tup (z06 qd_int (z06 qd_non z11))) (z06 qd_str (z06 (qd_tup (z06 (qd_lst (z06 qd_int z11)) (z06 qd_str z11))) (z06 (qd_tup (z06 (qd_tup (z06 qd_int z11)) (z06 qd_int z11))) (z06 (qd_tup (z06 qd_non (z06 qd_int z11))) (z06 (qd_tup (z06 qd_dct (z06 qd_int z11))) (z06 (qd_tup (z06 qd_int (z06 qd_str z11))) z11))))))))))))
   (z0n (QS.mk (z1c (z7i (pv 2) (z00 (pe_cal c__law_draw (hr.mono (by first|decide|omega)) rfl (z00 (pv 0) (z00 (pe_op opAdd (z08 z0w rfl (T.no (n_len _)) W2 (z00 (pv 2) pa_nil)) pe_int) pa_nil))) (z00 (pe_ix ix_seq (pv 4) (pe_cal c__law_draw (hr.mono (by first|decide|omega)) rfl (z00 (pv 0) (z00 pe_int pa_nil))) (λ _ _=>rfl)) pa_nil)))))
   (z23 (QS.mk (ps_ret (pv 2)))))))
   (QSs.mk z0d))
   (z0n (QS.mk (ps_set (i:=5) sc__law_spoilt.nd rfl (by first|exact Y0 rfl|exact X0 rfl) (pe_cal c__law_draw (hr.mono (by first|decide|omega)) rfl (z00 (pv 0) (z00 (z08 z0w rfl (T.no (n_len _)) W2 (z00 (pv 2) pa_nil)) pa_nil)))))
   (z0n (QS.mk (ps_set (i:=6) sc__law_spoilt.nd rfl (by first|exact Y0 rfl|exact X0 rfl) (pe_ix ix_seq (pv 2) (pv 5) (λ _ _=>rfl))))
   (z0n (QS.mk (ps_if (PW.pt (pw_and (z09 z1z (pv 3) ((qe_dat (λ _=>True) (qd_tup (z06 qd_int (z06 qd_int z11))))).run (by with_unfolding_all rfl)) (z6o (PW.pt (pw_or (pt_not (pt_val (z08 z0i rfl (T.no (z0e _)) Z1 (z00 (pv 6) (z00 (z15 (v:=.ty "tuple") rfl (T.no (z26 _)) S4 rfl) pa_nil))) (λ _=>rfl))) (pw_or1 (z09 opNe (z08 z0w rfl (T.no (n_len _)) W2 (z00 (pv 6) pa_nil)) pe_int (nomark _))))))))
   (z05 (ps_set (i:=3) sc__law_spoilt.nd rfl (by first|exact Y0 rfl|exact X0 rfl) pe_int))
   z0d))
   (z0n (qs_if (z09 opEq (pv 3) pe_int (nomark _))
   (z0n (QS.mk (z1c (zf4 (pv 2) (z00 (pv 5) pa_nil))))
   (z23 (QS.mk (z1c (z7i (pv 2) (z00 (pe_cal c__law_draw (hr.mono (by first|decide|omega)) rfl (z00 (pv 0) (z00 (pe_op opAdd (z08 z0w rfl (T.no (n_len _)) W2 (z00 (pv 2) pa_nil)) pe_int) pa_nil))) (z00 (pv 6) pa_nil)))))))
   (z23 (qs_if (z09 opEq (pv 3) pe_int (nomark _))
   (z23 (QS.mk (z1c (zf4 (pv 2) (z00 (pv 5) pa_nil)))))
   (z23 (qs_if (z09 opEq (pv 3) pe_int (nomark _))
   (z23 (QS.mk (z1c (z7i (pv 2) (z00 (pe_cal c__law_draw (hr.mono (by first|decide|omega)) rfl (z00 (pv 0) (z00 (pe_op opAdd (z08 z0w rfl (T.no (n_len _)) W2 (z00 (pv 2) pa_nil)) pe_int) pa_nil))) (z00 (pv 6) pa_nil))))))
   (z23 (qs_if (z09 opEq (pv 3) pe_int (nomark _))
   (z0n (qs_set (i:=7) sc__law_spoilt.nd rfl (by first|exact Y0 rfl|exact X0 rfl) (qe_dat (λ _=>True) (qd_lst (z06 qd_str (z06 qd_str (z06 qd_int (z06 qd_int (z06 (qd_neg qd_int) (z06 qd_non (z06 qd_bl (z06 qd_bl (z06 (qd_lst (z06 qd_int z11)) (z06 (qd_tup (z06 qd_int z11)) (z06 qd_str (z06 qd_str (z06 qd_str z11))))))))))))))))
   (z0n (QS.mk (ps_asg (pe_tup (z00 (pe_ix ix_seq (pv 6) pe_int (λ _ _=>rfl)) (z00 (pe_ix ix_seq (pv 7) (pe_cal c__law_draw (hr.mono (by first|decide|omega)) rfl (z00 (pv 0) (z00 pe_int pa_nil))) (λ _ _=>rfl)) pa_nil))) (pg_sub (pv 2) (pv 5) z2a)))
   (z23 (QS.mk (ps_if (z09 opEq (pe_cal c__law_draw (hr.mono (by first|decide|omega)) rfl (z00 (pv 0) (z00 pe_int pa_nil))) pe_int (nomark _))
   (z05 (ps_asg (pe_tup (z00 (pe_ix ix_seq (pv 6) pe_int (λ _ _=>rfl)) (z00 (pe_ix ix_seq (pe_lst (z00 (z0h (zg3 hr) rfl (T.no (n_str _)) W9 (z00 (pe_ix ix_seq (pv 6) pe_int (λ _ _=>rfl)) pa_nil)) (z00 (pe_lst (z00 (pe_ix ix_seq (pv 6) pe_int (λ _ _=>rfl)) pa_nil)) (z00 (pe_tup (z00 (pe_ix ix_seq (pv 6) pe_int (λ _ _=>rfl)) pa_nil)) pa_nil)))) (pe_cal c__law_draw (hr.mono (by first|decide|omega)) rfl (z00 (pv 0) (z00 pe_int pa_nil))) (λ _ _=>rfl)) pa_nil))) (pg_sub (pv 2) (pv 5) z2a)))
   z0d)))))
   (z23 (QS.mk (ps_if (z09 opEq (pv 3) pe_int (nomark _))
   (z05 (ps_asg (pe_tup (z00 (pe_op op_sub (pe_cal c__law_draw (hr.mono (by first|decide|omega)) rfl (z00 (pv 0) (z00 pe_int pa_nil))) pe_int) (z00 (pe_ix ix_seq (pv 6) pe_int (λ _ _=>rfl)) pa_nil))) (pg_sub (pv 2) (pv 5) z2a)))
   (z05 (ps_set (i:=2) sc__law_spoilt.nd rfl (by first|exact Y0 rfl|exact X0 rfl) (zfp (pv 2) (z2t (pe_un un_neg pe_int)))))))))))))))
   (z23 (QS.mk (ps_ret (pv 2))))))))))) ?_
  refine z1b ?_;refine ⟨_,rfl,o,xs,rfl,.inl (SqL.of eo),λ ls hls=>?_⟩;have nls:ls≠r:=R.fresh hls;have m1:Sm r ls H (upd H ls (.lst xs)) xs ds:=by refine ⟨KeptL.set (by simp),R.same (Same.upd hls),nls,upd_same,z01 (λ _ _ z=>HPd.same z (zf7 hls)) ad⟩
  generalize upd H ls (.lst xs)=H1 at m1⊢;refine g_name ?_;have fin :∀l,H l=none->∀H' ys ds',Sm r l H H' ys ds'->ds'.length<=ds.length + 1->(∀d∈ds',ItS (k + 1) d)->Q (.ref l) H':=λ l hl H' ys ds' m dl di=>q _ _ _ _ ⟨λ b u nb e=>m.k b u (λ z=>by
   rcases List.mem_cons.mp z with z|z
   ·exact nb z
   ·rw [List.mem_singleton.mp z,hl] at e;cases e) e,m.h⟩ hl m.e (z01 (λ _ _ z=>HPd.same z z0m) m.d) dl di
  refine ⟨_,rfl,r,7,rfl,m1.h,by decide,by decide,λ kd H2 w2 k0 k7=>?_⟩;refine g_name (t_nx ?_);have m2:=m1.draw w2;have up :∀d∈ds,ItS (k + 1) d:=λ d hd=>(it d hd).up;refine z1t (λ σ1 H'=>Sm r ls H H' xs ds/\xs≠[]/\σ1=[some (.ref r),some (.ref o),some (.ref ls),some (.int kd),none,none,none,none]) ?_ λ tl=>?_;rotate_left
  ·refine if_any (λ H'=>Sm r ls H H' xs ds) ?_ λ go=>?_;rotate_left
   ·refine t_or (t_test ?_);refine ⟨_,rfl,(show (0:Nat)<=sizeLine by decide),λ l0 hl0=>?_⟩;have m3:=m2.same (Same.upd (o:=.lst []) hl0);have e3:upd H2 l0 (.lst []) l0=some (.lst []):=upd_same;generalize upd H2 l0 (.lst [])=H3 at m3 e3⊢;refine ⟨ls,l0,xs,rfl,rfl,SqL.of m3.e,SqL.of e3,_,rfl,?_⟩;by_cases x0:xs=[]
    ·exact iteP (decide_eq_true x0) (iteT (go _ m3))
    refine iteN (by rw [decide_eq_false x0];decide) ?_;exact ⟨_,rfl,rfl,_,rfl,ite2 (λ _=>go _ m3) λ _=>tl _ _ ⟨m3,x0,rfl⟩⟩
   ·intro H3 m3;refine z1b (t_dat λ v4 H4 s4 hv4=>?_);have m4:=m3.same s4;obtain ⟨b4,x4,rfl,e4,h4⟩:=hv4;refine g_name ?_;refine z1b ?_;refine ⟨_,rfl,t_dat λ v5 H5 s5 hv5=>?_⟩;have m5:=m4.same s5;obtain ⟨b5,x5,rfl,e5,h5⟩:=hv5;have l4:=z03 h4.all;have l5:=z03 h5.all;have e4':=s5 _ _ (z3j _ _ e4);refine .inr (.inr (.inl ⟨b4,b5,x4,x5,rfl,rfl,e4',z3j _ _ e5,G0 (m:=100) (by rw [l4,l5];decide) (by decide),λ p6 hp6=>?_⟩));have s6:=Same.upd (o:=.lst (x4++x5)) hp6;have e6:upd H5 p6 (.lst (x4++x5)) p6=some (.lst (x4++x5)):=upd_same;have np6:p6≠r:=m5.h.fresh hp6;have m6:=m5.same s6;generalize upd H5 p6 (.lst (x4++x5))=H6 at s6 e6 m6⊢;refine g_name ?_;have i6:All2 (HPd (hide ls (hide r H6))) (badL++badM) (x4++x5):=z84 (z01 (λ _ _ z=>(HPd.same z (z86 m3.hn.1 m3.hn.2)).same (z0c (z0c (s5.trans s6)))) h4.all) (z01 (λ _ _ z=>(HPd.same z (z86 m4.hn.1 m4.hn.2)).same (z0c (z0c s6))) h5.all);have xl:=m6.len;refine ⟨_,rfl,.inl ⟨rfl,_,SqL.of m6.e⟩,_,rfl,_,rfl,.inl ⟨ls,xs,rfl,.inl (SqL.of m6.e),.inl ⟨_,1,rfl,rfl,r,_,rfl,m6.h,by omega,by omega,λ i H7 w7 i0 i1=>?_⟩⟩⟩;have m7:=m6.draw w7;refine ⟨_,rfl,_,rfl,r,17,rfl,m7.h,by decide,by decide,λ j H8 w8 j0 j1=>?_⟩;have m8:=m7.draw w8;have w68:=w7.trans w8;obtain ⟨y,hy,_⟩:=atI_of (xs:=x4++x5) j0 (by rw [K0,l4,l5];exact j1);obtain ⟨j,rfl⟩:=Int.eq_ofNat_of_zero_le j0;obtain ⟨j',_,hy',_⟩:=z9b hy;obtain ⟨dy,hdy,hpy⟩:=z0g i6 hy';refine .inl ⟨p6,_,_,y,rfl,rfl,SqL.of (w68.k _ _ np6 e6),hy,?_⟩;obtain ⟨i,rfl⟩:=Int.eq_ofNat_of_zero_le i0;refine ⟨ls,xs,i,y,rfl,rfl,m8.e,by omega,by omega,?_⟩;have m9:=m8.put (zat m8.d i (hpy.same (z0c (z0z w68.k))));refine ⟨_,rfl,fin ls hls _ _ _ m9 (by rw [K0,W0,R3,i4];omega) λ d hd=>?_⟩;rcases List.mem_append.mp hd with z|z
    ·exact up d (Z8 z)
    ·rcases List.mem_cons.mp z with z|z
     ·rw [z];exact zjp dy (R0 hdy)
     ·exact up d (a9 z)
  rintro σ1 H3 ⟨m3,x0,rfl⟩;have xl:=m3.len;have xp:0 < xs.length:=List.length_pos_iff.mpr x0;refine ⟨_,rfl,_,rfl,.inl ⟨ls,xs,rfl,.inl (SqL.of m3.e),r,_,rfl,m3.h,by omega,by omega,λ at1 H4 w4 a0 a1=>?_⟩⟩;refine g_name (t_nx ?_);have m4:=m3.draw w4;obtain ⟨a,rfl⟩:=Int.eq_ofNat_of_zero_le a0;have ha:a < xs.length:=by omega
  obtain ⟨dy,hdy,hpy⟩:=z0g m4.d (J0 ha);have hxa:xs[a]? = some xs[a]:=J0 ha;generalize xs[a]=y at hpy hxa;refine ⟨_,rfl,_,rfl,.inl ⟨ls,xs,a,y,rfl,rfl,SqL.of m4.e,z04 hxa,?_⟩⟩;refine g_name (t_nx ?_);have hpy4:HPd H4 dy y:=(hpy.same z0m).same z0m;have idy:=it dy (R0 hdy);refine z1t (λ σ1 H'=>Sm r ls H H' xs ds/\HPd (hide ls (hide r H')) dy y/\∃kd':Int,((kd'=3\/kd'=4)->∃a' b',dy=.tuple [a',b'])/\σ1=[some (.ref r),some (.ref o),some (.ref ls),some (.int kd'),none,some (.int (a:Nat)),some y,none]) ?_ λ tl=>?_;rotate_left
  ·refine if_any (λ H'=>Sm r ls H H' xs ds/\HPd (hide ls (hide r H')) dy y) ?_ λ go=>?_
   ·rintro H' ⟨m',h'⟩;exact g_name (tl _ _ ⟨m',h',1,λ z=>by omega,rfl⟩)
   refine ⟨_,rfl,t_dat λ v5 H5 s5 hv5=>?_⟩;have m5:=m4.same s5;have hy5:=hpy.same (z0c (z0c s5));have hy5':=hpy4.same s5;obtain ⟨b5,x5,rfl,e5,v,r5,rfl,hv,v',r6,rfl,hv',hr6⟩:=hv5;cases (show v=.int 3 from hv);cases (show v'=.int 4 from hv');cases (show r6=[] from hr6);refine ⟨b5,_,rfl,.inr (SqT.of (z3j _ _ e5)),rfl,rfl,_,rfl,?_⟩;have hin:inV (.int kd) [.int 3,.int 4]=true↔kd=3\/kd=4:=by
    show (decide ((3:Int)=kd) || (decide ((4:Int)=kd) || false))=true↔_;rw [j2f,Bool.or_eq_true,decide_eq_true_iff,decide_eq_true_iff];constructor
    ·rintro (h|h)
     ·exact .inl h.symm
     ·exact .inr h.symm
    ·rintro (h|h)
     ·exact .inl h.symm
     ·exact .inr h.symm
   refine ite2 (λ _=>?_) λ z=>iteF (tl _ _ ⟨m5,hy5,kd,λ h=>absurd (hin.mpr h) z,rfl⟩);refine t_or ?_;rcases tup_D hy5' with ⟨e1,e2⟩|⟨dl,zl,rfl,e2,hal⟩
   ·refine ⟨_,rfl,y,"tuple",_,rfl,z2b hy5',by decide,_,rfl,?_⟩;exact iteP (show (!instB (tagD dy) "tuple")=true by cases dy<;>first|rfl|cases e1) (iteT (go _ ⟨m5,hy5⟩))
   ·obtain ⟨p,zl',rfl,ep,_⟩:=hy5';have ez:zl'=zl:=by unfold tupOf at e2;dsimp only at e2;rw [ep] at e2;cases e2;rfl
    subst ez;refine ⟨_,rfl,_,"tuple",_,rfl,.inr (.inl ⟨⟨_,ep⟩,rfl⟩),by decide,_,rfl,?_⟩;refine iteN (by decide) ?_;refine ⟨_,rfl,.inl ⟨p,_,rfl,.inr (SqT.of ep),rfl,_,rfl,?_⟩⟩;by_cases ht:((zl'.length:Nat):Int)=2
    ·obtain ⟨a',b',u,v,rfl,rfl,hu,hv⟩:=two_of hal ht;exact iteN (by show ¬ (!decide (V.int 2=V.int 2))=true;decide) (tl _ _ ⟨m5,hy5,kd,λ _=>⟨a',b',rfl⟩,rfl⟩)
    ·exact iteP (show (!decide (V.int (zl'.length:Nat)=V.int 2))=true by rw [decide_eq_false (λ z=>ht (V.int.inj z))];rfl) (go _ ⟨m5,hy5⟩)
  rintro σ1 H5 ⟨m5,hy5,kd',hkd,rfl⟩;refine z1t (λ σ1 H'=>∃ls' ys ds' x3 x4 x5 x6 x7,Sm r ls' H H' ys ds'/\ds'.length<=ds.length + 1/\(∀d∈ds',ItS (k + 1) d)/\H ls'=none/\σ1=[some (.ref r),some (.ref o),some (.ref ls'),x3,x4,x5,x6,x7]) ?_ λ tl=>?_
  ·rintro σ1 H' ⟨ls',ys,ds',x3,x4,x5,x6,x7,m,dl,di,hl,rfl⟩;exact ⟨_,rfl,fin ls' hl _ _ _ m dl di⟩
  have da:a < ds.length:=by omega
  have uy:ItS (k + 1) dy:=idy.up;have ers :∀d∈ds.eraseIdx a,ItS (k + 1) d:=λ d hd=>up d ((j3j ds a).mem hd);have lx:(xs.eraseIdx a).length=xs.length - 1:=by rw [Q5,if_pos ha]
  have ld:(ds.eraseIdx a).length=ds.length - 1:=by rw [Q5,if_pos da]
  have ins :∀{es:List PyData} {i:Nat},(∀d∈es,ItS (k + 1) d)->∀d∈es.take i++dy :: es.drop i,ItS (k + 1) d:=λ {es i} he d hd=>by
   rcases List.mem_append.mp hd with z|z
   ·exact he d (Z8 z)
   ·rcases List.mem_cons.mp z with z|z
    ·rw [z];exact uy
    ·exact he d (a9 z)
  refine ⟨_,rfl,rfl,_,rfl,ite2 (λ _=>?_) λ _=>?_⟩
  ·refine ⟨_,rfl,.inl ⟨rfl,_,SqL.of m5.e⟩,_,rfl,ls,xs,_,a,y,rfl,rfl,m5.e,by omega,by omega,z7u ha,hxa,?_⟩;have m6:=m5.put (z8x m5.d a);have hy6:HPd (hide ls (hide r (upd H5 ls (.lst (xs.eraseIdx a))))) dy y:=by rw [z2f];exact hy5
   generalize upd H5 ls (.lst (xs.eraseIdx a))=H6 at m6 hy6⊢;refine ⟨_,rfl,.inl ⟨rfl,_,SqL.of m6.e⟩,_,rfl,_,rfl,.inl ⟨ls,_,rfl,.inl (SqL.of m6.e),.inl ⟨_,1,rfl,rfl,r,_,rfl,m6.h,by omega,by omega,λ i H7 w7 i0 i1=>?_⟩⟩⟩;have m7:=m6.draw w7;obtain ⟨i,rfl⟩:=Int.eq_ofNat_of_zero_le i0;refine ⟨_,rfl,ls,_,i,y,rfl,rfl,m7.e,by omega,by omega,?_⟩;have m8:=m7.put (zat m7.d i (hy6.same (z0c (z0z w7.k))));exact tl _ _ ⟨ls,_,_,_,_,_,_,_,m8,by rw [K0,W0,R3,i4];omega,ins ers,hls,rfl⟩
  refine ⟨_,rfl,rfl,_,rfl,ite2 (λ _=>?_) λ _=>?_⟩
  ·refine ⟨_,rfl,.inl ⟨rfl,_,SqL.of m5.e⟩,_,rfl,ls,xs,_,a,y,rfl,rfl,m5.e,by omega,by omega,z7u ha,hxa,?_⟩;exact tl _ _ ⟨ls,_,_,_,_,_,_,_,m5.put (z8x m5.d a),by omega,ers,hls,rfl⟩
  refine ⟨_,rfl,rfl,_,rfl,ite2 (λ _=>?_) λ _=>?_⟩
  ·refine ⟨_,rfl,.inl ⟨rfl,_,SqL.of m5.e⟩,_,rfl,_,rfl,.inl ⟨ls,_,rfl,.inl (SqL.of m5.e),.inl ⟨_,1,rfl,rfl,r,_,rfl,m5.h,by omega,by omega,λ i H7 w7 i0 i1=>?_⟩⟩⟩;have m7:=m5.draw w7;obtain ⟨i,rfl⟩:=Int.eq_ofNat_of_zero_le i0;refine ⟨_,rfl,ls,_,i,y,rfl,rfl,m7.e,by omega,by omega,?_⟩;have m8:=m7.put (zat m7.d i (hy5.same (z0c (z0z w7.k))));exact tl _ _ ⟨ls,_,_,_,_,_,_,_,m8,by rw [K0,W0,R3,i4];omega,ins up,hls,rfl⟩
  have tup :∀H',HPd (hide ls (hide r H')) dy y->(kd'=3\/kd'=4)->∃a' b' p u v,dy=.tuple [a',b']/\y=.ref p/\hide ls (hide r H') p=some (.tup [u,v])/\HPd (hide ls (hide r H')) a' u/\HPd (hide ls (hide r H')) b' v:=λ H' h z=>by obtain ⟨a',b',rfl⟩:=hkd z;obtain ⟨p,_,rfl,ep,u,_,rfl,hu,v,_,rfl,hv,e⟩:=h;cases (show _=[] from e);exact ⟨a',b',p,u,v,rfl,rfl,ep,hu,hv⟩
  have set2 :∀{H':Hp} {b:Addr} {u v:V} {a' b':PyData} {ys:List V} {es:List PyData},Sm r ls H H' ys es->H' b=none->HPd (hide ls (hide r H')) a' u->HPd (hide ls (hide r H')) b' v->Sm r ls H (upd (upd H' b (.tup [u,v])) ls (.lst (ys.set a (.ref b)))) (ys.set a (.ref b)) (es.set a (.tuple [a',b'])):=λ {H' b u v a' b' ys es} m hb hu hv=>by
   have s:=Same.upd (o:=.tup [u,v]) hb;have nb1:b≠r:=m.h.fresh hb;have nb2:b≠ls:=λ z=>by rw [z,m.e] at hb;cases hb
   have m':=m.same s;have hs:=z0c (r:=ls) (z0c (r:=r) s);have hp:HPd (hide ls (hide r (upd H' b (.tup [u,v])))) (.tuple [a',b']) (.ref b):=⟨b,[u,v],rfl,z1h nb2 (z1h nb1 upd_same),u,[v],rfl,hu.same hs,v,[],rfl,hv.same hs,rfl⟩
   exact m'.put (zj6 m'.d hp a)
  have setI :∀{d':PyData},ItS (k + 1) d'->∀d∈ds.set a d',ItS (k + 1) d:=λ {d'} h d hd=>by
   rcases j24 hd with z|z
   ·exact up d z
   ·rw [z];exact h
  refine ⟨_,rfl,rfl,_,rfl,ite2 (λ z3=>?_) λ _=>?_⟩
  ·have z3:kd'=3\/kd'=4:=.inl (V.int.inj (of_decide_eq_true z3));obtain ⟨a',b',p,u,v,rfl,rfl,ep,hu,hv⟩:=tup H5 hy5 z3;obtain ⟨ia,ib⟩:=idy.2 a' b' rfl;refine z1b (t_dat λ v6 H6 s6 hv6=>?_);have m6:=m5.same s6;have h6:=z0c (r:=ls) (z0c (r:=r) s6);obtain ⟨b6,x6,rfl,e6,i6⟩:=hv6;have l6:=z03 i6.all;refine g_name ?_;have nb6:b6≠r:=λ z=>m5.hn.1 (z ▸ z5i e6);have ep6:H6 p=some (.tup [u,v]):=z0m _ _ (z0m _ _ (h6 _ _ ep));refine z1b ?_;refine ⟨_,rfl,.inr (.inl ⟨p,_,0,u,rfl,rfl,SqT.of ep6,z04 (j:=0) rfl,?_⟩)⟩;refine ⟨_,rfl,_,rfl,r,13,rfl,m6.h,by decide,by decide,λ j H7 w7 j0 j1=>?_⟩;have m7:=m6.draw w7;have h7:=z0c (r:=ls) (z0z w7.k);obtain ⟨y,hy,_⟩:=atI_of (xs:=x6) j0 (by rw [l6];exact j1);obtain ⟨j',_,hy',_⟩:=z9b hy;obtain ⟨dj,hdj,hpj⟩:=z0g i6.all hy';have hpj7:HPd (hide ls (hide r H7)) dj y:=(HPd.same hpj (z86 m5.hn.1 m5.hn.2)).same h7;refine .inl ⟨b6,_,_,y,rfl,rfl,SqL.of (w7.k _ _ nb6 (z3j _ _ e6)),hy,?_⟩;have sdj:SD1 dj:=zjx dj (R0 hdj);refine ⟨(show (2:Nat)<=sizeLine by decide),λ b hb=>?_⟩;refine ⟨_,rfl,_,rfl,ls,xs,_,a,rfl,rfl,(Same.upd hb) _ _ m7.e,zc2 ha,?_⟩;have m8:=set2 m7 hb ((hu.same h6).same h7) hpj7;have h8:Same (hide ls (hide r H7)) (hide ls (hide r (upd (upd H7 b (.tup [u,y])) ls (.lst (xs.set a (.ref b)))))):=by rw [z2f];exact z0c (z0c (Same.upd hb))
   generalize upd (upd H7 b (.tup [u,y])) ls (.lst (xs.set a (.ref b)))=H8 at m8 h8⊢;have h58:=(h6.trans h7).trans h8;have lset :∀{d' d'':PyData},((ds.set a d').set a d'').length<=ds.length + 1:=by intro d' d'';rw [D4,D4];omega
   refine ⟨_,rfl,r,3,rfl,m8.h,by decide,by decide,λ t9 H9 w9 _ _=>⟨rfl,_,rfl,?_⟩⟩;have m9:=m8.draw w9;have h9:=h58.trans (z0c (r:=ls) (z0z w9.k));refine ite2 (λ _=>?_) λ _=>tl _ _ ⟨ls,_,_,_,_,_,_,_,m9,by rw [D4];omega,setI (it2 ia sdj),hls,rfl⟩;have ep9:H9 p=some (.tup [u,v]):=z0m _ _ (z0m _ _ (h9 _ _ ep));have hu9:=hu.same h9;have hv9:=hv.same h9;refine ⟨_,rfl,.inr (.inl ⟨p,_,0,u,rfl,rfl,SqT.of ep9,z04 (j:=0) rfl,?_⟩)⟩;refine ⟨_,rfl,.inr (.inl ⟨p,_,1,v,rfl,rfl,SqT.of ep9,z04 (j:=1) rfl,v,b',rfl,hp_is (sd_1 k1 ib) ((hv9.same z0m).same z0m),sd_str (sd_1 k1 ib),λ z=>?_⟩)⟩;refine ⟨_,rfl,.inr (.inl ⟨p,_,1,v,rfl,rfl,SqT.of ep9,z04 (j:=1) rfl,(show (1:Nat)<=sizeLine by decide),λ l1 hl1=>?_⟩)⟩;have s10:=Same.upd (o:=.lst [v]) hl1;have e10:upd H9 l1 (.lst [v]) l1=some (.lst [v]):=upd_same;have nl1:l1≠r/\l1≠ls:=⟨m9.h.fresh hl1,λ z=>by rw [z,m9.e] at hl1;cases hl1⟩
   have m10:=m9.same s10;generalize upd H9 l1 (.lst [v])=H10 at s10 e10 m10⊢;refine ⟨_,rfl,.inr (.inl ⟨p,_,1,v,rfl,rfl,SqT.of (s10 _ _ ep9),z04 (j:=1) rfl,(show (1:Nat)<=sizeLine by decide),λ q1 hq1=>?_⟩)⟩;have s11:=Same.upd (o:=.tup [v]) hq1;have e11:upd H10 q1 (.tup [v]) q1=some (.tup [v]):=upd_same;have nq1:q1≠r/\q1≠ls:=⟨m10.h.fresh hq1,λ z=>by rw [z,m10.e] at hq1;cases hq1⟩
   have m11:=m10.same s11;generalize upd H10 q1 (.tup [v])=H11 at s11 e11 m11⊢;refine ⟨(show (3:Nat)<=sizeLine by decide),λ l3 hl3=>?_⟩;have s12:=Same.upd (o:=.lst [.str z,.ref l1,.ref q1]) hl3;have e12:upd H11 l3 (.lst [.str z,.ref l1,.ref q1]) l3=some (.lst [.str z,.ref l1,.ref q1]):=upd_same;have nl3:l3≠r:=m11.h.fresh hl3;have m12:=m11.same s12;generalize upd H11 l3 (.lst [.str z,.ref l1,.ref q1])=H12 at s12 e12 m12⊢;refine ⟨_,rfl,r,3,rfl,m12.h,by decide,by decide,λ t H13 w13 t0 t1=>?_⟩;have m13:=m12.draw w13;have h13:=(z0c (r:=ls) (z0c (r:=r) ((s10.trans s11).trans s12))).trans (z0c (r:=ls) (z0z w13.k));obtain ⟨y2,hy2,my2⟩:=atI_of (xs:=[V.str z,.ref l1,.ref q1]) t0 t1;refine .inl ⟨l3,_,_,y2,rfl,rfl,SqL.of (w13.k _ _ nl3 e12),hy2,?_⟩;have hv13:=hv9.same h13;have el1:hide ls (hide r H13) l1=some (.lst [v]):=z1h nl1.2 (z1h nl1.1 (w13.k _ _ nl1.1 ((s11.trans s12) _ _ e10)));have eq1:hide ls (hide r H13) q1=some (.tup [v]):=z1h nq1.2 (z1h nq1.1 (w13.k _ _ nq1.1 (s12 _ _ e11)));obtain ⟨d2,hd2,sd2⟩ :∃d2,HPd (hide ls (hide r H13)) d2 y2/\SD (k + 1) d2:=by
    simp only [T0,o0,or_false] at my2;rcases my2 with rfl|rfl|rfl
    ·exact ⟨.str z,rfl,sd_any trivial⟩
    ·exact ⟨.list [b'],⟨l1,_,rfl,el1,v,[],rfl,hv13,rfl⟩,(zhn k1 ib).1⟩
    ·exact ⟨.tuple [b'],⟨q1,_,rfl,eq1,v,[],rfl,hv13,rfl⟩,(zhn k1 ib).2⟩
   refine ⟨(show (2:Nat)<=sizeLine by decide),λ b2 hb2=>?_⟩;refine ⟨_,rfl,_,rfl,ls,_,_,a,rfl,rfl,(Same.upd hb2) _ _ m13.e,zc2 (by rw [D4];exact ha),?_⟩;have m14:=set2 m13 hb2 (hu9.same h13) hd2;refine tl _ _ ⟨ls,_,_,_,_,_,_,_,m14,lset,λ d hd=>?_,hls,rfl⟩;rcases j24 hd with z|z
   ·exact setI (it2 ia sdj) d z
   ·rw [z];exact .tup ia (sd_dep sd2) sd2
  refine ⟨_,rfl,rfl,_,rfl,ite2 (λ z4=>?_) λ _=>?_⟩
  ·have z4:kd'=3\/kd'=4:=.inr (V.int.inj (of_decide_eq_true z4));obtain ⟨a',b',p,u,v,rfl,rfl,ep,hu,hv⟩:=tup H5 hy5 z4;obtain ⟨ia,ib⟩:=idy.2 a' b' rfl;refine ⟨_,rfl,r,26,rfl,m5.h,by decide,by decide,λ t H6 w6 t0 t1=>⟨t,1,rfl,rfl,?_⟩⟩;have m6:=m5.draw w6;have h6:=z0c (r:=ls) (z0z w6.k);have ep6:H6 p=some (.tup [u,v]):=z0m _ _ (z0m _ _ (h6 _ _ ep));refine ⟨_,rfl,.inr (.inl ⟨p,_,1,v,rfl,rfl,SqT.of ep6,z04 (j:=1) rfl,(show (2:Nat)<=sizeLine by decide),λ b hb=>?_⟩)⟩;have nb2:b≠ls:=λ z=>by rw [z,m6.e] at hb;cases hb
   refine ⟨_,rfl,_,rfl,ls,xs,_,a,rfl,rfl,(Same.upd hb) _ _ m6.e,zc2 ha,?_⟩;have m7:=set2 m6 hb (show HPd _ (.int (t - 1)) (.int (t - 1)) from rfl) (hv.same h6);exact tl _ _ ⟨ls,_,_,_,_,_,_,_,m7,by rw [D4];omega,setI (.tup (Q1 _) (sd_dep ib) (sd_up ib)),hls,rfl⟩
  refine ⟨_,rfl,1,rfl,-1,rfl,rfl,ls,xs,rfl,SqL.of m5.e,λ l2 hl2=>?_⟩;have n2:l2≠ls:=λ z=>by rw [z,m5.e] at hl2;cases hl2
  have f2:H l2=none:=m5.free hl2;refine g_name (tl _ _ ⟨l2,xs.reverse,ds.reverse,_,_,_,_,_,⟨λ b u nb e=>?_,m5.h.same (Same.upd hl2),m5.h.fresh hl2,upd_same,?_⟩,by rw [z7];omega,λ d hd=>up d (List.mem_reverse.mp hd),f2,rfl⟩)
  ·have nb1:b≠r:=λ z=>nb (by simp [z]);have nb2:b≠l2:=λ z=>nb (by simp [z]);have nb3:b≠ls:=λ z=>by rw [z,hls] at e;cases e
   rw [upd_ne nb2];exact m5.k b u (by simp [nb1,nb3]) e
  ·rw [z2f];refine z01 (λ _ _ z=>HPd.same z λ p o e=>?_) (zf6 m5.d);have e:=z0m _ _ e;exact z1h (λ z=>by rw [z] at e;have:=z0m _ _ e;rw [hl2] at this;cases this) e
section
variable {X:Cx}
noncomputable def rEqS:R2:=λ x y H Q=>∃ds,HPd H (.list ds) x/\HPd H (.list ds) y/\O1 ds<=49/\Q (.bl true) H
theorem op_eqS {k:Nat} (hr:Room k X.A):OpR X (v2 .Eq) rEqS:=by
 intro pins s σ H x y u v Q I rx ry h;obtain ⟨ds,hx,hy,dp,q⟩:=h;have hru:=hr.units;obtain ⟨a,xs,rfl,ea,hxs⟩:=hx;obtain ⟨b,ys,rfl,eb,hys⟩:=hy;cases (show u=.ref a from rx);cases (show v=.ref b from ry);obtain ⟨its,rv,pl,_⟩:=I.list (SqL.of ea);obtain ⟨its',rv',pl',_⟩:=I.list (SqL.of eb);have l1:=rv.length;have l2:=rv'.length;have l3:=hxs.length;have l4:=hys.length;have key:SeqAt.RcAt X.A s (.ref a) (.ref b) true:=by
  have:=B9 (A:=X.A) (e:=λ _=>true) pl.isList pl'.isList (by simp;omega) (by omega) (λ j j1 j2=>?_)
  ·rwa [zdi] at this
  ·have:=z7d I ds X.A.in1 xs ys its its' hxs hys rv rv' (show X.A.units + 1 + O1 ds + 1 < cLine by omega) j (by simpa using j1) (by simpa using j2);simpa using this
 exact key X.prog X.w _ _ ⟨.bl _,H,I,rfl,q⟩
end
theorem zhs {n:Nat} :∀{ds:List PyData},(∀d∈ds,d.depth<=n)->O1 ds<=n
 | [],_=>Q1 _
 | d :: ds,h=>by have h1:=h d B1;have h2:=zhs (ds:=ds) λ x hx=>h x (G1 _ hx);show max d.depth (O1 ds)<=n;omega
def z5s (K:b0):Sp:=λ vs H Q _=>∃(t o:Addr) (xs:List V) (ts:List (Str×Str)) (es:List Ev) (ps:List DD) (ds:List PyData) (m:Nat),vs=[.ref t,.str (z0u m),.ref o]/\TaleAt K H t ts es/\ThW ts/\es.length<=63/\EWf [] es/\All2 (RcGd K H ts) (dAll 0 [] es) ps/\H o=some (.lst xs)/\All2 (HPd H) ds xs/\ds.length<=100/\(∀d∈ds,d.depth<=40)/\
 ∀H',Same H H'->Q (.bl true) H'
theorem zb0 (T:TX (KX w.params) mg) (c_explains:Cal P w (KX w.params) mg base "explains" ["tale","strictness","order"] 7 (z4e (KX w.params))) (c__law_right:Cal P w (KX w.params) mg base "_law_right" ["tale","strictness","order"] 2 (z4s (KX w.params))):FnOk P w (KX w.params) mg base CX0 8 361 fd__law_told ["tale","strictness","order"] (z5s (KX w.params)):=by
 refine (z47 w.params).ok sc__law_told (λ vs H Q E h=>?_) (λ cdv A outer s H vs Q E hr h=>?_)
 ·obtain ⟨t,o,xs,ts,es,ps,ds,m,rfl,_⟩:=h;rfl
 ·obtain ⟨t,o,xs,ts,es,ps,ds,m,rfl,ta,ok,e63,wf,gd,eo,ad,d100,dp,q⟩:=h;refine ⟨_,(z02 (ps_set (i:=3) sc__law_told.nd rfl (by first|exact Y0 rfl|exact X0 rfl) (z0h z5c rfl (T.no (n_list _)) boot_list (z00 (pv 2) pa_nil)))
   (z02 (ps_set (i:=4) sc__law_told.nd rfl (by first|exact Y0 rfl|exact X0 rfl) (pe_cal c_explains (hr.mono (by first|decide|omega)) rfl (z00 (pv 0) (z00 (pv 1) (z00 (pv 3) pa_nil)))))
   (z05 (ps_ret (pe_and (z08 z0i rfl (T.no (z0e _)) Z1 (z00 (pv 4) (z00 (z15 (v:=.ty "bool") rfl (T.no (n_bool _)) j21 rfl) pa_nil))) (pe_and (z0o opEq (pv 4) (pe_cal c__law_right (hr.mono (by first|decide|omega)) rfl (z00 (pv 0) (z00 (pv 1) (z00 (pv 2) pa_nil)))) (nomark _)) (pe_one (z0o (op_eqS hr) (pv 3) (pv 2) (nomark _))))))))),?_⟩
  refine ⟨_,rfl,o,xs,rfl,.inl (SqL.of eo),λ l hl=>?_⟩;have s1:=Same.upd (o:=.lst xs) hl;have e1:upd H l (.lst xs) l=some (.lst xs):=upd_same;generalize upd H l (.lst xs)=H1 at s1 e1⊢;refine g_name (t_nx ?_);have T1:Tt (KX w.params) H H1:=.of s1;refine ⟨_,rfl,_,rfl,_,rfl,t,l,xs,ts,es,ps,ds,m,rfl,ta.tt T1,ok,e63,wf,z01 (λ _ _ z=>RcGd.tt T1 z) gd,e1,z01 (λ _ _ z=>HPd.same z s1) ad,d100,λ b H2 s2 hb=>?_⟩;refine g_name (t_nx ?_);have s12:=s1.trans s2;have T2:Tt (KX w.params) H H2:=.of s12;refine sq_ret (e_andV ?_);refine ⟨_,rfl,.bl b,"bool",_,rfl,rfl,by decide,_,rfl,iteP rfl (e_andV ?_)⟩;refine ⟨_,rfl,_,rfl,_,rfl,_,rfl,t,o,xs,ts,es,ps,ds,m,rfl,ta.tt T2,ok,e63,wf,z01 (λ _ _ z=>RcGd.tt T2 z) gd,s12 _ _ eo,z01 (λ _ _ z=>HPd.same z s12) ad,d100,λ b2 H3 s3 hb2=>⟨rfl,_,rfl,?_⟩⟩;have eb:b=b2:=Bool.eq_iff_iff.mpr (hb.trans hb2.symm);subst eb;refine iteP (decide_eq_true rfl) ?_;have s13:=s12.trans s3;have hp:=zki (z01 (λ _ _ z=>HPd.same z s13) ad);exact ⟨_,rfl,_,rfl,ds,⟨l,xs,rfl,(s2.trans s3) _ _ e1,hp⟩,⟨o,xs,rfl,s13 _ _ eo,hp⟩,G0 (zhs dp) (by decide),q _ s13⟩
theorem zhz {m:Nat} {ts:List (Str×Str)}:ExpP m ts [] [] []:=⟨[],rfl,.nil,λ n r h=>(by cases h),λ p hp=>(by cases (show p∈[] from hp)),trivial⟩
def OrdL (H:Hp) (y:V):Prop:=∃p xs ds,y=.ref p/\H p=some (.lst xs)/\All2 (HPd H) ds xs/\ds.length<=100/\∀d∈ds,d.depth<=40
theorem OrdL.same {H H':Hp} {y:V} (h:OrdL H y) (s:Same H H'):OrdL H' y:=by obtain ⟨p,xs,ds,h1,h2,h3,h4⟩:=h;exact ⟨p,xs,ds,h1,s _ _ h2,z01 (λ _ _ z=>HPd.same z s) h3,h4⟩
def sp_law (K:b0):Sp:=λ vs H Q _=>∃(sc:Addr) (ns:List Int),vs=[.ref sc]/\SqL K H sc (ns.map V.int)/\ns.length<=63/\∀H',Q (.bl true) H'
theorem ok_law (T:TX (KX w.params) mg) (c__law_hand:Cal P w (KX w.params) mg base "_law_hand" ["script","cell","k"] 1 (z37 (KX w.params))) (c__law_draw:Cal P w (KX w.params) mg base "_law_draw" ["hand","limit"] 1 z0q) (c__law_tale:Cal P w (KX w.params) mg base "_law_tale" ["script","first","hands","most"] 4 (z53 (KX w.params))) (c__law_walked:Cal P w (KX w.params) mg base "_law_walked" ["hand","tale","strictness"] 3 (z3x (KX w.params))) (c__law_spoilt:Cal P w (KX w.params) mg base "_law_spoilt" ["hand","order"] 2 z3w) (c__law_told:Cal P w (KX w.params) mg base "_law_told" ["tale","strictness","order"] 8 (z5s (KX w.params))) (c_explains:Cal P w (KX w.params) mg base "explains" ["tale","strictness","order"] 7 (z4e (KX w.params))):FnOk P w (KX w.params) mg base CX0 9 368 fd_law ["script"] (sp_law (KX w.params)):=by
 refine (F_law w.params).ok sc_law (λ vs H Q E h=>?_) (λ cdv A outer s H vs Q E hr h=>?_)
 ·obtain ⟨sc,ns,rfl,_⟩:=h;rfl
 ·obtain ⟨sc,ns,rfl,sq,hn,q⟩:=h;refine ⟨_,(z02 (ps_set (i:=1) sc_law.nd rfl (by first|exact Y0 rfl|exact X0 rfl) (pe_cal c__law_hand (hr.mono (by first|decide|omega)) rfl (z00 (pv 0) (z00 (pe_ix ix_seq (pe_op zfn (pv 0) (pe_lst (z00 pe_int pa_nil))) pe_int (λ _ _=>rfl)) (z00 pe_int pa_nil)))))
   (z02 (ps_set (i:=2) sc_law.nd rfl (by first|exact Y0 rfl|exact X0 rfl) (pe_cal c__law_tale (hr.mono (by first|decide|omega)) rfl (z00 (pv 0) (z00 pe_int (z00 (pe_op opAdd pe_int (pe_cal c__law_draw (hr.mono (by first|decide|omega)) rfl (z00 (pv 1) (z00 pe_int pa_nil)))) (z00 pe_int pa_nil))))))
   (z02 (ps_for D2 rfl (z25 (z27 slSeq (pe_op zfn (pv 0) (pe_lst (z00 pe_int (z00 pe_int (z00 pe_int (z00 pe_int (z00 pe_int pa_nil))))))) z62 (z2t pe_int))) (z0l (i:=3) sc_law.nd rfl (by first|exact Y0 rfl|exact X0 rfl))
   (z02 (ps_set (i:=4) sc_law.nd rfl (by first|exact Y0 rfl|exact X0 rfl) (pe_cal c__law_hand (hr.mono (by first|decide|omega)) rfl (z00 (pv 0) (z00 (pv 3) (z00 pe_int pa_nil)))))
   (z02 (ps_set (i:=5) sc_law.nd rfl (by first|exact Y0 rfl|exact X0 rfl) (pe_ix ix_seq (pe_lst (z00 pe_str (z00 pe_str (z00 pe_str pa_nil)))) (pe_cal c__law_draw (hr.mono (by first|decide|omega)) rfl (z00 (pv 4) (z00 pe_int pa_nil))) (λ _ _=>rfl)))
   (z02 (ps_set (i:=6) sc_law.nd rfl (by first|exact Y0 rfl|exact X0 rfl) (pe_cal c__law_walked (hr.mono (by first|decide|omega)) rfl (z00 (pv 4) (z00 (pv 2) (z00 (pv 5) pa_nil)))))
   (z02 (ps_set (i:=7) sc_law.nd rfl (by first|exact Y0 rfl|exact X0 rfl) (pe_cal c__law_spoilt (hr.mono (by first|decide|omega)) rfl (z00 (pv 4) (z00 (pv 6) pa_nil))))
   (z05 (ps_for D2 rfl (z25 (pe_lst (z00 (pv 6) (z00 (pv 7) (z00 (pe_cal c__law_spoilt (hr.mono (by first|decide|omega)) rfl (z00 (pv 4) (z00 (pv 7) pa_nil))) (z00 (zfp (pv 6) (z2t (pe_un un_neg pe_int))) (z00 (pe_lst pa_nil) pa_nil))))))) (z0l (i:=8) sc_law.nd rfl (by first|exact Y0 rfl|exact X0 rfl))
   (z05 (ps_for D2 rfl (z25 (pe_lst (z00 pe_str (z00 pe_str (z00 pe_str pa_nil))))) (z0l (i:=9) sc_law.nd rfl (by first|exact Y0 rfl|exact X0 rfl))
   (z05 (ps_if (pt_not (pt_val (pe_cal c__law_told (hr.mono (by first|decide|omega)) rfl (z00 (pv 2) (z00 (pv 9) (z00 (pv 8) pa_nil)))) (λ _=>rfl)))
   (z05 (ps_ret pe_bl))
   z0d)))))))))))
   (z05 (ps_ret (pe_and (z0o op_isB (pe_cal c_explains (hr.mono (by first|decide|omega)) rfl (z00 (pe_tup (z00 (pe_tup pa_nil) (z00 (pe_tup pa_nil) pa_nil))) (z00 pe_str (z00 (pe_lst pa_nil) pa_nil)))) pe_bl (nomark _)) (pe_one (z0o op_isB (pe_cal c_explains (hr.mono (by first|decide|omega)) rfl (z00 (pe_tup (z00 (pe_ix ix_seq (pv 2) pe_int (λ _ _=>rfl)) (z00 (pe_tup pa_nil) pa_nil))) (z00 pe_str (z00 (pe_lst pa_nil) pa_nil)))) pe_bl (nomark _))))))))),?_⟩
  have hc :∃c:Int,atI (ns.map V.int++[V.int 0]) 0=some (.int c):=by
   match ns with
   | []=>exact ⟨0,rfl⟩
   | a :: r=>exact ⟨a,z04 (j:=0) rfl⟩
  obtain ⟨c,hc⟩:=hc;refine ⟨_,rfl,_,rfl,(show (1:Nat)<=sizeLine by decide),λ l0 hl0=>?_⟩;have sA:=Same.upd (o:=.lst [V.int 0]) hl0;refine ⟨sc,l0,ns.map V.int,[.int 0],rfl,rfl,sA.seq sq,SqL.of upd_same,by rw [D0];exact G0 (m:=65) (by show ns.length + 1<=65;omega) (by decide),λ l1 hl1=>?_⟩;have sB:=sA.trans (Same.upd (o:=.lst (ns.map V.int++[V.int 0])) hl1);refine .inl ⟨l1,_,0,.int c,rfl,rfl,SqL.of upd_same,hc,sc,ns,c,0,rfl,sB.seq sq,by decide,by decide,λ r H1 s1 R1 hr1=>?_⟩;have s1:=sB.trans s1;have fr:H r=none:=sB.free hr1;refine g_name (t_nx ?_);refine ⟨_,rfl,_,rfl,r,6,rfl,R1,by decide,by decide,λ t2 H2 w2 h20 h21=>.inl ⟨1,t2,rfl,rfl,?_⟩⟩;have s2:Same H H2:=z1p s1 (w2.keptL (L:=[r]) (by simp)) (λ l hl=>by rw [List.mem_singleton.mp hl];exact fr);refine ⟨sc,ns,1 + t2,24,rfl,s2.seq sq,hn,by omega,by omega,λ t pt te ys es ts H3 s3 et ete th tok al3 le3 wf eg=>?_⟩;refine g_name (t_nx ?_);have ta3:TaleAt (KX w.params) H3 t ts es:=⟨pt,te,ys,et,th,ete,al3⟩
  obtain ⟨ps,gd3⟩:=rc_gd (i:=0) (rs:=[]) (ps:=[]) eg .nil;have ok:=tok.thw;have s03:=s2.trans s3;refine ⟨_,rfl,(show (5:Nat)<=sizeLine by decide),λ l5 hl5=>?_⟩;have s5:=s03.trans (Same.upd (o:=.lst [V.int 0,.int 0,.int 0,.int 0,.int 0]) hl5);refine ⟨sc,l5,ns.map V.int,[.int 0,.int 0,.int 0,.int 0,.int 0],rfl,rfl,s5.seq sq,SqL.of upd_same,by rw [D0];exact G0 (m:=68) (by show ns.length + 5<=68;omega) (by decide),λ l6 hl6=>?_⟩;have s36:=(Same.upd (o:=.lst [V.int 0,.int 0,.int 0,.int 0,.int 0]) hl5).trans (Same.upd (o:=.lst (ns.map V.int++[.int 0,.int 0,.int 0,.int 0,.int 0])) hl6);have e6:upd (upd H3 l5 (.lst [V.int 0,.int 0,.int 0,.int 0,.int 0])) l6 (.lst (ns.map V.int++[.int 0,.int 0,.int 0,.int 0,.int 0])) l6=some (.lst (ns.map V.int++[.int 0,.int 0,.int 0,.int 0,.int 0])):=upd_same;generalize upd (upd H3 l5 (.lst [V.int 0,.int 0,.int 0,.int 0,.int 0])) l6 (.lst (ns.map V.int++[.int 0,.int 0,.int 0,.int 0,.int 0]))=H6 at s36 e6⊢;refine ⟨5,rfl,.inl ⟨l6,_,rfl,SqL.of e6,λ l7 hl7=>?_⟩⟩;have ci :∀y∈cutV (ns.map V.int++[.int 0,.int 0,.int 0,.int 0,.int 0]) none (some 5),∃i,y=V.int i:=λ y hy=>by
   have hy:=a9 (Z8 hy);rcases List.mem_append.mp hy with z|z
   ·obtain ⟨i,_,e⟩:=List.mem_map.mp z;exact ⟨i,e.symm⟩
   ·simp only [T0,o0,or_false] at z;rcases z with rfl|rfl|rfl|rfl|rfl<;>exact ⟨0,rfl⟩
  generalize cutV (ns.map V.int++[.int 0,.int 0,.int 0,.int 0,.int 0]) none (some 5)=cs at ci⊢;have s37:=s36.trans (Same.upd (o:=.lst cs) hl7);have e7:upd H6 l7 (.lst cs) l7=some (.lst cs):=upd_same;generalize upd H6 l7 (.lst cs)=H7 at s37 e7⊢;have T7:Tt (KX w.params) H3 H7:=.of s37;have ta7:=ta3.tt T7;have gd7:=z01 (λ _ _ z=>RcGd.tt T7 z) gd3;have s07:=s03.trans s37;refine ⟨l7,rfl,⟨cs,SqL.of e7⟩,?_⟩;refine z48 (K:=KX w.params) (a:=l7) (xs:=cs) (λ i σ H'=>Same H7 H'/\∃x3 x4 x5 x6 x7 x8 x9,σ=[some (.ref sc),some (.ref r),some (.ref t),x3,x4,x5,x6,x7,x8,x9])
   ⟨Same.refl _,_,_,_,_,_,_,_,rfl⟩ (λ i σ H' _ h=>SqL.of (h.1 _ _ e7)) ?_ ?_
  ·rintro i y σ H8 hy ⟨s8,x3,x4,x5,x6,x7,x8,x9,rfl⟩;obtain ⟨c2,rfl⟩:=ci y (R0 hy);refine g_name ?_;refine ⟨_,rfl,_,rfl,sc,ns,c2,99,rfl,(s07.trans s8).seq sq,by decide,by decide,λ r2 H9 s9 R9 hr9=>?_⟩;refine g_name (t_nx ?_);refine z1b ?_;refine ⟨(show (3:Nat)<=sizeLine by decide),λ l9 hl9=>⟨_,rfl,r2,3,rfl,R9.same (Same.upd hl9),by decide,by decide,λ t3 H10 w10 t30 t31=>?_⟩⟩;have w910:=(R9.hw.same (Same.upd (o:=.lst [V.str "strict",.str "hands",.str "bare"]) hl9)).trans w10;obtain ⟨sv,hsv,msv⟩:=atI_of (xs:=[V.str "strict",.str "hands",.str "bare"]) t30 t31;refine .inl ⟨l9,_,t3,sv,rfl,rfl,SqL.of (w10.k _ _ (R9.fresh hl9) upd_same),hsv,?_⟩;refine g_name ?_;obtain ⟨m,rfl⟩ :∃m,sv=.str (z0u m):=by
    simp only [T0,o0,or_false] at msv;rcases msv with rfl|rfl|rfl
    ·exact ⟨0,rfl⟩
    ·exact ⟨1,rfl⟩
    ·exact ⟨2,rfl⟩
   have tt :∀{H'},Hw r2 H9 H'->Same H7 H':=λ {H'} w'=>z1p (s8.trans s9) (w'.keptL (L:=[r2]) (by simp)) (λ l hl=>by rw [List.mem_singleton.mp hl];exact s8.free hr9);have ta10:=ta7.tt (.of (tt w910));have gd10:=z01 (λ _ _ z=>RcGd.tt (.of (tt w910)) z) gd7;refine ⟨_,rfl,_,rfl,_,rfl,r2,t,ts,es,ps,m,rfl,w910.r,ta10,ok,le3,wf,gd10,λ lo xs ds H11 w11 fo eo ad dl it=>?_⟩;refine g_name (t_nx ?_);have w911:=w910.trans w11;refine ⟨_,rfl,_,rfl,r2,lo,xs,ds,0,rfl,w11.r,eo,ad,by omega,it,by decide,λ lb xb db H12 w12 fb eb adb dlb itb=>?_⟩;refine g_name (t_nx ?_);have w912:=w911.trans w12;have nlo:lo≠r2:=w910.r.fresh fo;have nlb:lb≠r2:=w11.r.fresh fb;have eo12:=w12.k _ _ nlo eo;refine ⟨_,rfl,_,rfl,_,rfl,_,rfl,r2,lb,xb,db,1,rfl,w12.r,eb,adb,by omega,itb,by decide,λ lc xc dc H13 w13 fc ec adc dlc itc=>?_⟩;have w913:=w912.trans w13;have eo13:=w13.k _ _ nlo eo12;have dep :∀{k:Nat} {es:List PyData},(∀d∈es,ItS k d)->∀d∈es,d.depth<=40:=λ h d hd=>G0 (h d hd).1 (by decide);have o1:OrdL H13 (.ref lo):=⟨lo,xs,ds,rfl,eo13,z01 (λ _ _ z=>(HPd.same z (z0z (w12.trans w13).k)).same z0m) ad,by omega,dep it⟩
   have o2:OrdL H13 (.ref lb):=⟨lb,xb,db,rfl,w13.k _ _ nlb eb,z01 (λ _ _ z=>(HPd.same z (z0z w13.k)).same z0m) adb,by omega,dep itb⟩
   have o3:OrdL H13 (.ref lc):=⟨lc,xc,dc,rfl,ec,z01 (λ _ _ z=>HPd.same z z0m) adc,by omega,dep itc⟩
   refine ⟨_,rfl,1,rfl,-1,rfl,rfl,lo,xs,rfl,SqL.of eo13,λ lr hlr=>?_⟩;have s14:=Same.upd (o:=.lst xs.reverse) hlr;have o4:OrdL (upd H13 lr (.lst xs.reverse)) (.ref lr):=⟨lr,_,ds.reverse,rfl,upd_same,zf6 (z01 (λ _ _ z=>((HPd.same z (z0z (w12.trans w13).k)).same z0m).same s14) ad),by rw [z7];omega,λ d hd=>dep it d (List.mem_reverse.mp hd)⟩
   generalize upd H13 lr (.lst xs.reverse)=H14 at s14 o4⊢;refine ⟨(show (0:Nat)<=sizeLine by decide),λ le hle=>?_⟩;have s15:=Same.upd (o:=.lst []) hle;have o5:OrdL (upd H14 le (.lst [])) (.ref le):=⟨le,[],[],rfl,upd_same,.nil,by decide,λ d hd=>absurd hd o0⟩
   generalize upd H14 le (.lst [])=H15 at s15 o5⊢;refine ⟨(show (5:Nat)<=sizeLine by decide),λ lf hlf=>?_⟩;have s16:=Same.upd (o:=.lst [.ref lo,.ref lb,.ref lc,.ref lr,.ref le]) hlf;have e16:upd H15 lf (.lst [.ref lo,.ref lb,.ref lc,.ref lr,.ref le]) lf=some (.lst [.ref lo,.ref lb,.ref lc,.ref lr,.ref le]):=upd_same;generalize upd H15 lf (.lst [.ref lo,.ref lb,.ref lc,.ref lr,.ref le])=H16 at s16 e16⊢;have s136:Same H13 H16:=(s14.trans s15).trans s16;have its :∀y∈[V.ref lo,.ref lb,.ref lc,.ref lr,.ref le],OrdL H16 y:=λ y hy=>by
    simp only [T0,o0,or_false] at hy;rcases hy with rfl|rfl|rfl|rfl|rfl
    ·exact o1.same s136
    ·exact o2.same s136
    ·exact o3.same s136
    ·exact o4.same (s15.trans s16)
    ·exact o5.same s16
   have s716:Same H7 H16:=(tt w913).trans s136;have ta16:=ta7.tt (.of s716);have gd16:=z01 (λ _ _ z=>RcGd.tt (.of s716) z) gd7;refine ⟨lf,rfl,⟨_,SqL.of e16⟩,?_⟩;refine z48 (K:=KX w.params) (a:=lf) (xs:=[V.ref lo,.ref lb,.ref lc,.ref lr,.ref le]) (λ i σ H'=>Same H16 H'/\∃x8 x9,σ=[some (.ref sc),some (.ref r),some (.ref t),some (.int c2),some (.ref r2),some (.str (z0u m)),some (.ref lo),some (.ref lb),x8,x9])
    ⟨Same.refl _,_,_,rfl⟩ (λ i σ H' _ h=>SqL.of (h.1 _ _ e16)) ?_ ?_
   ·rintro j y σ H17 hy ⟨s17,x8,x9,rfl⟩;have oy:=its y (R0 hy);refine g_name ?_;refine ⟨(show (3:Nat)<=sizeLine by decide),λ l18 hl18=>?_⟩;have s18:=s17.trans (Same.upd (o:=.lst [V.str "strict",.str "hands",.str "bare"]) hl18);have e18:upd H17 l18 (.lst [V.str "strict",.str "hands",.str "bare"]) l18=some (.lst [V.str "strict",.str "hands",.str "bare"]):=upd_same;generalize upd H17 l18 (.lst [V.str "strict",.str "hands",.str "bare"])=H18 at s18 e18⊢;refine ⟨l18,rfl,⟨_,SqL.of e18⟩,?_⟩;refine z48 (K:=KX w.params) (a:=l18) (xs:=[V.str "strict",.str "hands",.str "bare"]) (λ i σ H'=>Same H18 H'/\∃x9,σ=[some (.ref sc),some (.ref r),some (.ref t),some (.int c2),some (.ref r2),some (.str (z0u m)),some (.ref lo),some (.ref lb),some y,x9])
     ⟨Same.refl _,_,rfl⟩ (λ i σ H' _ h=>SqL.of (h.1 _ _ e18)) ?_ ?_
    ·rintro j' y' σ H19 hy' ⟨s19,x9,rfl⟩;obtain ⟨m',rfl⟩ :∃m',y'=.str (z0u m'):=by
      have:=R0 hy';simp only [T0,o0,or_false] at this;rcases this with rfl|rfl|rfl
      ·exact ⟨0,rfl⟩
      ·exact ⟨1,rfl⟩
      ·exact ⟨2,rfl⟩
     refine g_name ?_;have s169:=s18.trans s19;obtain ⟨p',xs',ds',rfl,ep',ad',dl',dp'⟩:=oy.same s169;refine ⟨_,rfl,_,rfl,_,rfl,t,p',xs',ts,es,ps,ds',m',rfl,ta16.tt (.of s169),ok,le3,wf,z01 (λ _ _ z=>RcGd.tt (.of s169) z) gd16,ep',ad',dl',dp',λ H20 s20=>⟨_,rfl,?_⟩⟩;exact iteN (by decide) ⟨s19.trans s20,_,rfl⟩
    ·rintro σ H19 ⟨s19,x9,rfl⟩;exact ⟨s18.trans s19,_,_,rfl⟩
   ·rintro σ H17 ⟨s17,x8,x9,rfl⟩;exact ⟨s716.trans s17,_,_,_,_,_,_,_,rfl⟩
  ·rintro σ H8 ⟨s8,x3,x4,x5,x6,x7,x8,x9,rfl⟩;refine t_nx (sq_ret (e_andV ?_));refine ⟨(show (0:Nat)<=sizeLine by decide),λ a1 ha1=>⟨(show (0:Nat)<=sizeLine by decide),λ a2 ha2=>⟨(show (2:Nat)<=sizeLine by decide),λ a3 ha3=>⟨(show (0:Nat)<=sizeLine by decide),λ a4 ha4=>?_⟩⟩⟩⟩;have s9:=((Same.upd (o:=.tup []) ha1).trans (Same.upd (o:=.tup []) ha2)).trans ((Same.upd (o:=.tup [.ref a1,.ref a2]) ha3).trans (Same.upd (o:=.lst []) ha4));have e1:=((Same.upd (o:=.tup []) ha2).trans ((Same.upd (o:=.tup [.ref a1,.ref a2]) ha3).trans (Same.upd (o:=.lst []) ha4))) a1 _ upd_same;have e2:=((Same.upd (o:=.tup [.ref a1,.ref a2]) ha3).trans (Same.upd (o:=.lst []) ha4)) a2 _ upd_same;have e3:=(Same.upd (o:=.lst []) ha4) a3 _ upd_same;have e4:=upd_same (H:=upd (upd (upd H8 a1 (.tup [])) a2 (.tup [])) a3 (.tup [.ref a1,.ref a2])) (a:=a4) (o:=.lst []);generalize upd (upd (upd (upd H8 a1 (.tup [])) a2 (.tup [])) a3 (.tup [.ref a1,.ref a2])) a4 (.lst [])=H9 at s9 e1 e2 e3 e4⊢;refine ⟨a3,a4,[],[],[],[],[],2,rfl,⟨a1,a2,[],e3,⟨[],e1,.nil⟩,e2,.nil⟩,⟨by decide,.nil,λ t ht=>absurd ht o0⟩,by decide,trivial,.nil,e4,.nil,by decide,λ b H10 s10 hb=>?_⟩;have hb:b=true:=hb.mpr zhz;subst hb;refine ⟨true,true,rfl,rfl,_,rfl,iteP rfl ?_⟩;have s710:Same H7 H10:=(s8.trans s9).trans s10;obtain ⟨pt',te',ys',et',th',_⟩:=ta7.tt (.of s710);refine ⟨_,rfl,.inr (.inl ⟨t,_,0,.ref pt',rfl,rfl,SqT.of et',z04 (j:=0) rfl,?_⟩)⟩;refine ⟨(show (0:Nat)<=sizeLine by decide),λ b2 hb2=>⟨(show (2:Nat)<=sizeLine by decide),λ b3 hb3=>⟨(show (0:Nat)<=sizeLine by decide),λ b4 hb4=>?_⟩⟩⟩;have s11:=(Same.upd (o:=.tup []) hb2).trans ((Same.upd (o:=.tup [.ref pt',.ref b2]) hb3).trans (Same.upd (o:=.lst []) hb4));have f2:=((Same.upd (o:=.tup [.ref pt',.ref b2]) hb3).trans (Same.upd (o:=.lst []) hb4)) b2 _ upd_same;have f3:=(Same.upd (o:=.lst []) hb4) b3 _ upd_same;have f4:=upd_same (H:=upd (upd H10 b2 (.tup [])) b3 (.tup [.ref pt',.ref b2])) (a:=b4) (o:=.lst []);generalize upd (upd (upd H10 b2 (.tup [])) b3 (.tup [.ref pt',.ref b2])) b4 (.lst [])=H11 at s11 f2 f3 f4⊢;refine ⟨b3,b4,[],ts,[],[],[],0,rfl,⟨pt',b2,[],f3,th'.tt (.of (K:=KX w.params) s11),f2,.nil⟩,ok,by decide,trivial,.nil,f4,.nil,by decide,λ b H12 s12 hb=>?_⟩;have hb:b=true:=hb.mpr zhz;subst hb;exact ⟨true,true,rfl,rfl,q _⟩
end
theorem all_law {P:Program} {w:y1} {mg:Str->Option Value} {base:Heap} (T:TX (KX w.params) mg):FnOk P w (KX w.params) mg base CX0 9 368 fd_law ["script"] (sp_law (KX w.params)):=by have m:=@cal_mk P w (KX w.params) mg base;have c_is_whole:=m T (z63 _) (zdr _) (ze2 _) (zcm T );have c_is_within:=m T (z4d _) (zcy _) (zck _) (zap T c_is_whole);have c_is_worth:=m T (z6a _) (zeh _) (zee _) (zd7 T c_is_within);have c_is_tuple_of:=m T (z2s _) (z9l _) (z90 _) (z7t T );have c_is_kind:=m T (z75 _) (zgs _) (zfv _) (zdg T );have c_is_deed:=m T (z7j _) (zfz _) (zgu _) (zel T c_is_kind c_is_worth c_is_tuple_of);have c_read_state:=m T (z36 _) (z5z _) (zau _) (z98 T );have c_write_state:=m T (z2r _) (z4r _) (z8k _) (z7c T );have c_add_to_number:=m T (z1q _) (z2z _) (z6k _) (z57 T );have c_swap_state:=m T (z3l _) (z5d _) (zal _) (z9h T );have c_put_behind:=m T (z38 _) (z5k _) (za4 _) (z9p T );have c_take_first:=m T (z3d _) (z59 _) (zaw _) (z8f T );have c_put_into_set:=m T (z1u _) (z3v _) (z83 _) (z6d T );have c_cut_from_set:=m T (z1x _) (z3q _) (z88 _) (z6b T );have c_has_in_set:=m T (z3e _) (z5h _) (za7 _) (z9j T );have c_do:=m T (F_do _) (g_do _) (b_do _) (ok_do T c_is_deed c_read_state c_write_state c_add_to_number c_put_behind c_take_first c_put_into_set c_cut_from_set c_has_in_set c_swap_state);have c_first_state:=m T (z2k _) (z8d _) (z9d _) (z87 T c_is_kind);have c_deeds:=m T (zev _) (zke _) (zjw _) (zix T );have c_goes_ahead:=m T (z3i _) (zb7 _) (zb9 _) (z91 T );have c_check_strictness:=m T (z19 _) (z4h _) (z4c _) (z3s T );have c_has_to:=m T (za9 _) (ziy _) (zi4 _) (zh1 T c_deeds c_check_strictness c_goes_ahead);have c__law_hand:=m T (z44 _) (zcx _) (zcz _) (zb4 T );have c__law_draw:=m T (z4a _) (zde _) (zd5 _) (zax T );have c__law_worth:=m T (z3h _) (zbb _) (z9y _) (z9a T c__law_draw);have c__law_act:=m T (z5g _) (zfi _) (zf1 _) (zci T c__law_draw c__law_worth);have c__law_begun:=m T (z39 _) (zai _) (zay _) (z8g T );have c__law_does:=m T (z42 _) (zdb _) (zcr _) (zaf T );have c__law_things:=m T (z2n _) (z8w _) (z9v _) (z7z T c__law_draw);have c__law_ended:=m T (z3f _) (za1 _) (zak _) (z8m T c__law_draw c__law_does);have c__law_tale:=m T (z4i _) (zd4 _) (zd3 _) (zb3 T c__law_hand c__law_draw c__law_things c__law_begun c__law_ended c__law_act c__law_does);have c__law_must:=m T (z45 _) (zd8 _) (zda _) (z9x T );have c__law_acts:=m T (z4g _) (zd1 _) (zcq _) (zb6 T );have c_is_step:=m T (z7l _) (zh0 _) (zgg _) (zfe T c_is_tuple_of c_is_whole);have c_is_order:=m T (z67 _) (zef _) (zej _) (zct T c_is_step);have c_keeps_to:=m T (z5b _) (zfk _) (zdq _) (zcv T );have c_is_done_so:=m T (z3c _) (zb8 _) (zb2 _) (z8s T c_first_state c_do);have c_explains:=m T (z5u _) (zex _) (zfb _) (zcs T c_has_to c_deeds c_is_order c_keeps_to c_is_done_so);have c__law_alike:=m T (z3a _) (zac _) (zaa _) (z9k T );have c__law_right:=m T (z3b _) (z9z _) (zan _) (z96 T c__law_acts c__law_begun c__law_does c__law_alike c__law_must);have c__law_musts:=m T (z33 _) (zar _) (zaj _) (z9g T c__law_must);have c__law_is_full:=m T (z20 _) (z7g _) (z82 _) (z6h T );have c__law_on:=m T (z7x _) (zgj _) (zg9 _) (zdw T c__law_does c__law_alike);have c__law_walked:=m T (z2o _) (z99 _) (z8o _) (z76 T c__law_acts c__law_musts c__law_begun c__law_is_full c__law_draw c__law_on);have c__law_spoilt:=m T (z2e _) (z8b _) (z8h _) (z7b T c__law_draw);have c__law_told:=m T (z47 _) (zcn _) (zdd _) (zb0 T c_explains c__law_right);exact ok_law T c__law_hand c__law_draw c__law_tale c__law_walked c__law_spoilt c__law_told c_explains
end K51
open PySem PySem.W PyProof.Rows
set_option maxRecDepth 100000 in
set_option maxHeartbeats 0 in
theorem PySem.Challenge.cw_talejudge_k51_orders_explain_holds : PySem.Challenge.rw_talejudge_k51_orders_explain.Holds := by
 w_on;o_law
 refine holds_open (q:=K51.viewX) (loose:=K51.looseX) (Xt:=K51.XtX) (XP:=XL K51.viewX []) (Yf:=Hook.obs K51.HX) (Ya:=Hook.val K51.HX) (YP:=Hook.says K51.HX) (N:=200000) K51.leftX (Hook.of K51.HX) (Hook.keeps K51.HX) (λ s e=>xl_of s (Bool.and_eq_true_iff.mp e).1) XL.keeps (by rfl) (by rfl) (by rfl) (λ s e=>recFacts_of (Bool.and_eq_true_iff.mp e).2) (by rfl) (by assumption) (by decide +kernel) ⟨rfl,rfl,rfl,rfl,rfl,by decide +kernel⟩ ?hw ?hc
 case hw=>w_witness2
 case hc=>
  refine L2.walk_of (l:=PySem.Challenge.rw_talejudge_k51_orders_explain) (n:=63) (k:=9) (x:="script") (K:=K51.KX) (CX:=λ _=>L2.CX0) (sp:=λ w=>K51.sp_law (K51.KX w.params)) rfl (by decide) rfl ⟨rfl,by decide,by decide,rfl⟩ (λ w h Y=>PySem.W.kIn_of Y) ?F ?S ?C
  case F=>intro w mg fa h KX G hmg;have T:=L2.TX.mk' KX G;have e0:=hmg.symm.trans (T.of (K51.g_law _));cases e0;exact ⟨K51.fd_law,λ s u=>.of_eq rfl,λ base kb nb=>K51.all_law T⟩
  case S=>exact λ w H a ns hl hO hS=>⟨a,ns,rfl,hS,hl,λ _=>rfl⟩
  case C=>exact λ _ _ _ _ _ z=>z
